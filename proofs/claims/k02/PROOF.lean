import PyProof.Rows.All
import Wide.All
import OpenK.AllK
import Wide.FinOn
import HandS.ForMost
import HandS.Codes
import HandS.IsInst
import HandS.Wide
import HandS.DictTup
import PyProof.DictMoreH
import HandS.TupLen
import HandS.Nested
import HandS.ExcInit
import HandS.FStr
import HandS.ExcOwn
import HandS.ExcIs
import HandS.ExcField
import KE.KExcIs
import HandS.WordsExc
import HandS.Rev
import HandS.Style
import HandS.Zip
import HandS.Walk
import HandS.TryOnly
import KE.KExcSuper
import KE.KExcMake
import PySem.Challenge.RW_lentpages_k02_cover
set_option Elab.async false
set_option linter.all false
set_option maxRecDepth 100000
set_option maxHeartbeats 4000000
namespace Lw
open PySem PySem.Spec PyProof.Rows L2 NdefX
open C8 (Def Cal cal0 pe_c)
def topS (i : Nat) : Stmt := PySem.Challenge.pw_lentpages_k02_cover.main.body.getD i (.Pass ⟨0, 0, 0, 0⟩)

/-! ### data in the heap, tracked -/
mutual
def Dh (H : Hp) : PyData → V → Prop
  | .none, x => x = .non
  | .bool b, x => x = .bl b
  | .int i, x => x = .int i
  | .str s, x => x = .str s
  | .list ds, x => ∃ a xs, x = .ref a ∧ H a = some (.lst xs) ∧ DhAll H ds xs
  | .tuple ds, x => ∃ a xs, x = .ref a ∧ H a = some (.tup xs) ∧ DhAll H ds xs
  | .dict _, _ => False
def DhAll (H : Hp) : List PyData → List V → Prop
  | [], xs => xs = []
  | d :: ds, xs => ∃ v vs, xs = v :: vs ∧ Dh H d v ∧ DhAll H ds vs
end
mutual
theorem Dh.mono {H H' : Hp} (s : Same H H') : ∀ (d : PyData) (x : V), Dh H d x → Dh H' d x
  | .none, x, h => h
  | .bool b, x, h => h
  | .int i, x, h => h
  | .str i, x, h => h
  | .list ds, x, h => by
    obtain ⟨a, xs, e, g, r⟩ := h
    exact ⟨a, xs, e, s _ _ g, DhAll.mono s ds xs r⟩
  | .tuple ds, x, h => by
    obtain ⟨a, xs, e, g, r⟩ := h
    exact ⟨a, xs, e, s _ _ g, DhAll.mono s ds xs r⟩
  | .dict _, x, h => False.elim h
theorem DhAll.mono {H H' : Hp} (s : Same H H') : ∀ (ds : List PyData) (xs : List V), DhAll H ds xs → DhAll H' ds xs
  | [], xs, h => h
  | d :: ds, xs, h => by
    obtain ⟨v, vs, e, g, r⟩ := h
    exact ⟨v, vs, e, Dh.mono s d v g, DhAll.mono s ds vs r⟩
end
theorem DhAll.len {H : Hp} : ∀ {ds : List PyData} {xs : List V}, DhAll H ds xs → xs.length = ds.length
  | [], xs, h => by
    cases (show xs = [] from h)
    rfl
  | d :: ds, xs, h => by
    obtain ⟨v, vs, e, g, r⟩ := h
    rw [e, List.length_cons, List.length_cons, DhAll.len r]
theorem DhAll.get {H : Hp} : ∀ {ds : List PyData} {xs : List V} {i : Nat} {d : PyData}, DhAll H ds xs → ds[i]? = some d → ∃ x, xs[i]? = some x ∧ Dh H d x
  | [], xs, i, d, h, e => by simp at e
  | d' :: ds, xs, 0, d, h, e => by
    obtain ⟨v, vs, e', g, r⟩ := h
    simp at e
    subst e
    exact ⟨v, by rw [e']; rfl, g⟩
  | d' :: ds, xs, i + 1, d, h, e => by
    obtain ⟨v, vs, e', g, r⟩ := h
    obtain ⟨x, h1, h2⟩ := DhAll.get (i := i) (d := d) r (by simpa using e)
    exact ⟨x, by rw [e']; simpa using h1, h2⟩
mutual
theorem Dh.dp {K : PySem.W.Frag} {H : Hp} : ∀ (d : PyData) (x : V), Dh H d x → Dp K H x d
  | .none, x, h => by
    cases (show x = .non from h)
    exact .non
  | .bool b, x, h => by
    cases (show x = .bl b from h)
    exact .bl b
  | .int i, x, h => by
    cases (show x = .int i from h)
    exact .int i
  | .str i, x, h => by
    cases (show x = .str i from h)
    exact .str i
  | .list ds, x, h => by
    obtain ⟨a, xs, e, g, r⟩ := h
    rw [e]
    exact .lst (SqL.of g) (DhAll.dp ds xs r)
  | .tuple ds, x, h => by
    obtain ⟨a, xs, e, g, r⟩ := h
    rw [e]
    exact .tup (SqT.of g) (DhAll.dp ds xs r)
  | .dict _, x, h => False.elim h
theorem DhAll.dp {K : PySem.W.Frag} {H : Hp} : ∀ (ds : List PyData) (xs : List V), DhAll H ds xs → DpAll K H xs ds
  | [], xs, h => by
    cases (show xs = [] from h)
    exact .nil
  | d :: ds, xs, h => by
    obtain ⟨v, vs, e, g, r⟩ := h
    rw [e]
    exact .cons (Dh.dp d v g) (DhAll.dp ds vs r)
end
/-- a datum's type -/
def tyN : PyData → String
  | .none => "NoneType"
  | .bool _ => "bool"
  | .int _ => "int"
  | .str _ => "str"
  | .list _ => "list"
  | .tuple _ => "tuple"
  | .dict _ => "dict"
theorem Dh.ty {K : PySem.W.Frag} {H : Hp} : ∀ {d : PyData} {x : V}, Dh H d x → TyX K H x (.type (tyN d))
  | .none, x, h => by
    cases (show x = .non from h)
    exact .base .non
  | .bool b, x, h => by
    cases (show x = .bl b from h)
    exact .base (.bl b)
  | .int i, x, h => by
    cases (show x = .int i from h)
    exact .base (.int i)
  | .str i, x, h => by
    cases (show x = .str i from h)
    exact .base (.str i)
  | .list ds, x, h => by
    obtain ⟨a, xs, e, g, r⟩ := h
    rw [e]
    exact .base (.lst g)
  | .tuple ds, x, h => by
    obtain ⟨a, xs, e, g, r⟩ := h
    rw [e]
    exact .base (.tup g)
  | .dict _, x, h => False.elim h
/-- at most n lists and tuples in one another, none of them long -/
def Dle : Nat → PyData → Prop
  | 0, _ => False
  | n + 1, .list ds => ds.length ≤ 100000 ∧ ∀ d ∈ ds, Dle n d
  | n + 1, .tuple ds => ds.length ≤ 100000 ∧ ∀ d ∈ ds, Dle n d
  | _, .dict _ => False
  | _, _ => True
theorem same_upd {H : Hp} {p : Addr} {o : HO} (h : H p = none) : Same H (upd H p o) := fun b x e => by
  rw [upd_ne (ne_of_none e h)]
  exact e
theorem same_rfl {H : Hp} : Same H H := fun _ _ e => e
/-- what is asked of the top's names -/
structure Txt (mg : Str → Option Value) : Prop where
  len : mg "len" = none
  abs : mg "abs" = none
  int : mg "int" = none
  range : mg "range" = none
  isinstance : mg "isinstance" = none
  bool : mg "bool" = none
  str : mg "str" = none
  list : mg "list" = none
  tuple : mg "tuple" = none
abbrev sI (i : Int) : Option V := some (.int i)
abbrev sR (a : Addr) : Option V := some (.ref a)
abbrev sS (x : Str) : Option V := some (.str x)
abbrev sB (b : Bool) : Option V := some (.bl b)

/-! ### steps of a reading -/
theorem ifD {p : Prop} [Decidable p] {A B : Prop} (a : p → A) (b : ¬ p → B) : if decide p = true then A else B := by
  by_cases h : p
  · rw [if_pos (decide_eq_true h)]
    exact a h
  · rw [if_neg (fun z => h (of_decide_eq_true z))]
    exact b h
theorem ifEq {x y : Int} {A B : Prop} (a : x = y → A) (b : x ≠ y → B) : if decide (V.int x = V.int y) = true then A else B :=
  ifD (fun h => a (V.int.inj h)) (fun h => b (fun z => h (congrArg V.int z)))
theorem ifT {p : Prop} [Decidable p] {A B : Prop} (h : p) (a : A) : if decide p = true then A else B := by
  rw [if_pos (decide_eq_true h)]
  exact a
theorem ifF {p : Prop} [Decidable p] {A B : Prop} (h : ¬ p) (b : B) : if decide p = true then A else B := by
  rw [if_neg (fun z => h (of_decide_eq_true z))]
  exact b
theorem ifEqT {x y : Int} {A B : Prop} (h : x = y) (a : A) : if decide (V.int x = V.int y) = true then A else B := ifT (congrArg V.int h) a
theorem ifEqF {x y : Int} {A B : Prop} (h : x ≠ y) (b : B) : if decide (V.int x = V.int y) = true then A else B := ifF (fun z => h (V.int.inj z)) b
theorem cmul_l {i j : Int} (h : -(2 ^ 64) < i ∧ i < 2 ^ 64) : CMul i j := .inl h
theorem cmul_r {i j : Int} (h : -(2 ^ 64) < j ∧ j < 2 ^ 64) : CMul i j := .inr h
/-- a statement that the steps stop at -/
@[irreducible] def tMk (t : TS) : TS := t
theorem tMk_eq (t : TS) : tMk t = t := by
  unfold tMk
  rfl
theorem ps_mk {X : Cx} {s : Stmt} {t : TS} (h : PS X s t) : PS X s (tMk t) := by
  rw [tMk_eq]
  exact h
theorem un {t : TS} {D : Ends} {σ : L2.St} {H : Hp} (h : t D σ H) : tMk t D σ H := by
  rw [tMk_eq]
  exact h
/-- what follows, said once -/
theorem jn {t : TS} {D : Ends} {σ : L2.St} {H : Hp} (M : L2.St → Hp → Prop) (h2 : ∀ σ H, M σ H → D.nx σ H) (h1 : ∀ N : L2.St → Hp → Prop, (∀ σ H, M σ H → N σ H) → t { D with nx := N } σ H) : tMk t D σ H := by
  rw [tMk_eq]
  exact h1 D.nx h2
/-- a wish that the steps stop at -/
@[irreducible] def Ob (p : Prop) : Prop := p
theorem ob {p : Prop} (h : p) : Ob p := by
  unfold Ob
  exact h
theorem unob {p : Prop} (h : Ob p) : p := by
  unfold Ob at h
  exact h
theorem atI_getD {ns : List Int} {j : Int} (h0 : 0 ≤ j) (h1 : j < (ns.length : Int)) : atI (ns.map V.int) j = some (.int (ns.getD j.toNat 0)) := by
  have e : j = ((j.toNat : Nat) : Int) := by omega
  have hj : j.toNat < ns.length := by omega
  have q : atI (ns.map V.int) ((j.toNat : Nat) : Int) = some (.int (ns.getD j.toNat 0)) := atI_nat (by
    rw [List.getElem?_map, List.getElem?_eq_getElem hj, List.getD_eq_getElem?_getD, List.getElem?_eq_getElem hj]
    rfl)
  rw [← e] at q
  exact q
theorem sz {n : Nat} (h : n ≤ 1000 := by first | decide | simp) : n ≤ sizeLine := Nat.le_of_lt (small1000 h)
theorem sz5 {n : Nat} (h : n ≤ 1000000) : n < sizeLine := by
  rw [sizeLine_eq]
  omega
theorem take_succ_eq {α : Type} {xs ys : List α} {i : Nat} {x y : α} (hx : xs[i]? = some x) (hy : ys[i]? = some y) : xs.take (i + 1) = ys.take (i + 1) ↔ xs.take i = ys.take i ∧ x = y := by
  rw [List.take_add_one, List.take_add_one, hx, hy]
  constructor
  · intro h
    have h1 := List.append_inj' h rfl
    refine ⟨h1.1, ?_⟩
    have h2 := h1.2
    simpa using h2
  · rintro ⟨h1, rfl⟩
    rw [h1]
-- size2
theorem ifN {b : Bool} {A B : Prop} (h : if b = true then B else A) : if (!b) = true then A else B := by
  cases b
  · exact h
  · exact h
theorem ifNe {x y : Int} {A B : Prop} (a : x ≠ y → A) (b : x = y → B) : if (!decide (V.int x = V.int y)) = true then A else B := ifN (ifEq b a)
theorem ixAny {K : PySem.W.Frag} {H : Hp} {a : Addr} {xs : List V} {i : Int} {v : V} {Q : VK} (h : SqL K H a xs ∨ SqT K H a xs) (e : atI xs i = some v) (q : Q v H) : rIx K (.ref a) (.int i) H Q := by
  rcases h with h | h
  · exact .inl ⟨a, xs, i, v, rfl, rfl, h, e, q⟩
  · exact .inr (.inl ⟨a, xs, i, v, rfl, rfl, h, e, q⟩)
theorem sameT {K : PySem.W.Frag} {H H' : Hp} {a : Addr} {xs : List V} (s : Same H H') (h : SqT K H a xs) : SqT K H' a xs := by
  rcases h with (g | ⟨o, g⟩) | g
  · exact .inl (.inl (s _ _ g))
  · exact .inl (.inr ⟨o, s _ _ g⟩)
  · exact .inr g
theorem sqAny {K : PySem.W.Frag} {H H' : Hp} {a : Addr} {xs : List V} (s : Same H H') (h : SqL K H a xs ∨ SqT K H a xs) : SqL K H' a xs ∨ SqT K H' a xs := h.imp (fun z => s.seq z) (fun z => sameT s z)
theorem same_put {H H1 : Hp} {D : Addr} {o : HO} (s : Same H H1) (h : H D = none) : Same H (upd H1 D o) := fun b x e => by
  rw [upd_ne (ne_of_none e h)]
  exact s b x e

/-! ### rules that say the written part by a letter -/
theorem ixL {X : Cx} (K : PySem.W.Frag) (h : X.K = K) : IxR X (rIxL K) := by
  subst h
  exact ix_list
theorem ixT {X : Cx} (K : PySem.W.Frag) (h : X.K = K) : IxR X (rIxT K) := by
  subst h
  exact ix_tup
theorem ixA {X : Cx} (K : PySem.W.Frag) (h : X.K = K) : IxR X (rIx K) := by
  subst h
  exact ix_seq
def rLen (K : PySem.W.Frag) : List V → Hp → VK → Prop := fun xs H Q => ∃ p ys, xs = [.ref p] ∧ (SqL K H p ys ∨ SqT K H p ys) ∧ Q (.int ys.length) H
theorem lenQ {X : Cx} (K : PySem.W.Frag) (h : X.K = K) : CallR X (.builtin "len") (rLen K) := by
  subst h
  exact call_len_seq
def isB : PyData → Bool
  | .bool _ => true
  | _ => false
def isI : PyData → Bool
  | .int _ => true
  | _ => false
def isS : PyData → Bool
  | .str _ => true
  | _ => false
def isL : PyData → Bool
  | .list _ => true
  | _ => false
def isT : PyData → Bool
  | .tuple _ => true
  | _ => false
theorem kit_B {K : PySem.W.Frag} : ∀ (d : PyData), PySem.W.kitOne K (.type (tyN d)) (.type "bool") = some (isB d)
  | .none => kit_ty (show kitB "NoneType" "bool" = some false by decide +kernel)
  | .bool _ => kit_ty (show kitB "bool" "bool" = some true by decide +kernel)
  | .int _ => kit_ty (show kitB "int" "bool" = some false by decide +kernel)
  | .str _ => kit_ty (show kitB "str" "bool" = some false by decide +kernel)
  | .list _ => kit_ty (show kitB "list" "bool" = some false by decide +kernel)
  | .tuple _ => kit_ty (show kitB "tuple" "bool" = some false by decide +kernel)
  | .dict _ => kit_ty (show kitB "dict" "bool" = some false by decide +kernel)
theorem kit_I {K : PySem.W.Frag} : ∀ (d : PyData), PySem.W.kitOne K (.type (tyN d)) (.type "int") = some (isI d || isB d)
  | .none => kit_ty (show kitB "NoneType" "int" = some false by decide +kernel)
  | .bool _ => kit_ty (show kitB "bool" "int" = some true by decide +kernel)
  | .int _ => kit_ty (show kitB "int" "int" = some true by decide +kernel)
  | .str _ => kit_ty (show kitB "str" "int" = some false by decide +kernel)
  | .list _ => kit_ty (show kitB "list" "int" = some false by decide +kernel)
  | .tuple _ => kit_ty (show kitB "tuple" "int" = some false by decide +kernel)
  | .dict _ => kit_ty (show kitB "dict" "int" = some false by decide +kernel)
theorem kit_S {K : PySem.W.Frag} : ∀ (d : PyData), PySem.W.kitOne K (.type (tyN d)) (.type "str") = some (isS d)
  | .none => kit_ty (show kitB "NoneType" "str" = some false by decide +kernel)
  | .bool _ => kit_ty (show kitB "bool" "str" = some false by decide +kernel)
  | .int _ => kit_ty (show kitB "int" "str" = some false by decide +kernel)
  | .str _ => kit_ty (show kitB "str" "str" = some true by decide +kernel)
  | .list _ => kit_ty (show kitB "list" "str" = some false by decide +kernel)
  | .tuple _ => kit_ty (show kitB "tuple" "str" = some false by decide +kernel)
  | .dict _ => kit_ty (show kitB "dict" "str" = some false by decide +kernel)
theorem kit_L {K : PySem.W.Frag} : ∀ (d : PyData), PySem.W.kitOne K (.type (tyN d)) (.type "list") = some (isL d)
  | .none => kit_ty (show kitB "NoneType" "list" = some false by decide +kernel)
  | .bool _ => kit_ty (show kitB "bool" "list" = some false by decide +kernel)
  | .int _ => kit_ty (show kitB "int" "list" = some false by decide +kernel)
  | .str _ => kit_ty (show kitB "str" "list" = some false by decide +kernel)
  | .list _ => kit_ty (show kitB "list" "list" = some true by decide +kernel)
  | .tuple _ => kit_ty (show kitB "tuple" "list" = some false by decide +kernel)
  | .dict _ => kit_ty (show kitB "dict" "list" = some false by decide +kernel)
theorem kit_T {K : PySem.W.Frag} : ∀ (d : PyData), PySem.W.kitOne K (.type (tyN d)) (.type "tuple") = some (isT d)
  | .none => kit_ty (show kitB "NoneType" "tuple" = some false by decide +kernel)
  | .bool _ => kit_ty (show kitB "bool" "tuple" = some false by decide +kernel)
  | .int _ => kit_ty (show kitB "int" "tuple" = some false by decide +kernel)
  | .str _ => kit_ty (show kitB "str" "tuple" = some false by decide +kernel)
  | .list _ => kit_ty (show kitB "list" "tuple" = some false by decide +kernel)
  | .tuple _ => kit_ty (show kitB "tuple" "tuple" = some true by decide +kernel)
  | .dict _ => kit_ty (show kitB "dict" "tuple" = some false by decide +kernel)
theorem kit_LT {K : PySem.W.Frag} (d : PyData) : PySem.W.kitAny K (.type (tyN d)) [.type "list", .type "tuple"] = some (isL d || isT d) := by
  refine kitAny_cons (kit_L d) (fun h => ?_) (fun h => by rw [h]; rfl)
  rw [h]
  refine kitAny_cons (kit_T d) (fun h => by rw [h]; rfl) (fun h => by rw [h]; rfl)
/-- isinstance of a datum -/
def rIsD (T : String) (g : PyData → Bool) : List V → Hp → VK → Prop := fun xs H Q => ∃ x d, xs = [x, .ty T] ∧ Dh H d x ∧ Q (.bl (g d)) H
theorem isOf {X : Cx} {T : String} {g : PyData → Bool} (h : ∀ d, PySem.W.kitOne X.K (.type (tyN d)) (.type T) = some (g d)) : CallR X (.builtin "isinstance") (rIsD T g) := by
  intro pins s σ H xs us Q I r z
  obtain ⟨x, d, rfl, hx, q⟩ := z
  exact call_isi pins s σ H _ us Q I r ⟨_, _, _, _, _, rfl, .ty T, hx.ty, h d, q⟩
theorem is_bool {X : Cx} : CallR X (.builtin "isinstance") (rIsD "bool" isB) := isOf kit_B
theorem is_int {X : Cx} : CallR X (.builtin "isinstance") (rIsD "int" fun d => isI d || isB d) := isOf kit_I
theorem is_str {X : Cx} : CallR X (.builtin "isinstance") (rIsD "str" isS) := isOf kit_S
theorem is_list {X : Cx} : CallR X (.builtin "isinstance") (rIsD "list" isL) := isOf kit_L
theorem is_tuple {X : Cx} : CallR X (.builtin "isinstance") (rIsD "tuple" isT) := isOf kit_T
/-- isinstance(x, (list, tuple)) of a datum -/
def rIsLT : List V → Hp → VK → Prop := fun xs H Q => ∃ x d p, xs = [x, .ref p] ∧ H p = some (.tup [.ty "list", .ty "tuple"]) ∧ Dh H d x ∧ Q (.bl (isL d || isT d)) H
theorem is_lt {X : Cx} : CallR X (.builtin "isinstance") rIsLT := by
  intro pins s σ H xs us Q I r z
  obtain ⟨x, d, p, rfl, hp, hx, q⟩ := z
  exact call_isiT pins s σ H _ us Q I r ⟨_, _, _, _, _, _, rfl, hp, .cons (.ty "list") (.cons (.ty "tuple") .nil), hx.ty, kit_LT d, q⟩
theorem ifBT {b : Bool} {A B : Prop} (h : b = true) (a : A) : if b = true then A else B := by
  rw [if_pos h]
  exact a
theorem ifBF {b : Bool} {A B : Prop} (h : b = false) (q : B) : if b = true then A else B := by
  rw [h, if_neg Bool.false_ne_true]
  exact q
theorem inQ {X : Cx} (K : PySem.W.Frag) (h : X.K = K) : OpR X (compareOp .In) (rIn K false) := by
  subst h
  exact op_in_seq
theorem notInQ {X : Cx} (K : PySem.W.Frag) (h : X.K = K) : OpR X (compareOp .NotIn) (rIn K true) := by
  subst h
  exact op_notIn_seq
theorem eqQ {X : Cx} (K : PySem.W.Frag) (h : X.K = K) (hu : X.A.units + 64 < cLine) : OpR X (compareOp .Eq) (rEqD K) := by
  subst h
  exact op_eqD hu
theorem neQ {X : Cx} (K : PySem.W.Frag) (h : X.K = K) (hu : X.A.units + 64 < cLine) : OpR X (compareOp .NotEq) (rNeD K) := by
  subst h
  exact op_neD hu
def rLst (K : PySem.W.Frag) : List V → Hp → VK → Prop := fun xs H Q => ∃ p ys, xs = [.ref p] ∧ (SqL K H p ys ∨ SqT K H p ys) ∧ ∀ l, H l = none → Q (.ref l) (upd H l (.lst ys))
theorem listQ {X : Cx} (K : PySem.W.Frag) (h : X.K = K) : CallR X (.type "list") (rLst K) := by
  subst h
  exact call_list_of

/-! ### an own error (over ValueError, by any own classes) whose __init__ begins with super().__init__(text) -/
section
variable {prog : Program} {w : World} {A : Around} {E : Value → Shared → Prop} {h : Heap} {g : Array GenState} {d : Drawn} {t : Nat} {os : OsState}
theorem mw_call {u a C N t1 : Addr} {dv : Option Addr} {ws : List Value} {Q : Value → Shared → Prop} {nm q : Str} {bs bm : List Value} {hdct : Bool} {sn : List Str} {sub : List Value} {ab : Bool} {col : Option Bool} {dd : Option Addr} {k0 k1 k2 k3 k5 : Option Value}
    (hC : h.get? C = some (excClassObj nm q C N bs bm hdct sn sub ab col dd k0 k1 k2 k3 k5 "ValueError.__new__")) (he : h.get? a = some (PySem.W.excObj C t1 dv .none)) (hu : h.get? u = some (PySem.W.kxs_mw "ValueError.__init__" a)) (hl : ws.length ≤ sizeLine)
    (hq : ∀ h' t2, (∀ b o, b ≠ a → h.get? b = some o → h'.get? b = some o) → h'.get? a = some (PySem.W.excObj C t2 dv .none) → Q .none ⟨h', g, d, t, os⟩) : wpAny (model prog w) A (call (.ref u) ws) Q E ⟨h, g, d, t, os⟩ := by
  have FB := F.excBase_ValueError
  refine (wpAny_call (codeAny_of_tree ?_)); show wpAny _ A.in1 (callAny (.ref u) ⟨ws, []⟩) _ _ _; simp only [callAny]
  refine (wpAny_bind (wpAny_load hu ?_)); simp only [PySem.W.kxs_mw]; refine (PySem.W.KFB.if_so (by decide) (wpAny_bind (PySem.W.check_bound_init FB.toExcCallFacts hC he rfl (wpAny_bind (wpAny_pure (wpAny_pure ⟨plainId_quiet FB.init.plain _, codeAny_builtin FB.initEntry ?_⟩))))))
  exact PySem.W.exc_init_tree (cls := .ref C) (t0 := t1) (dv := dv) (c2 := .none) (c3 := .none) (b4 := .bool false) he hl fun h' k e _ => hq h' _ k e
end
/-- what the written part and the text say of the def F at f, an __init__ of the class at D -/
structure SupAt (P : Program) (K : PySem.W.Frag) (mg : Str → Option Value) (F : NF) (f D cc : Addr) (me : Str) (dV kV doc pm ctv : Value) (an : Option Addr) : Prop where
  fn : ∃ oc od osl, K.lookup f = some ⟨oc, od, .func (PySem.W.fnX F.name F.qual F.params F.body F.scope F.cl dV kV doc pm an (.ref F.c) ctv), osl⟩
  cl : F.cl = [(("__class__" : Str), cc)]
  code : PySem.W.codeIn K (.ref F.c) F.qual = true
  file : ∃ ccl cdd vs ccs file tf, K.lookup F.c = some ⟨ccl, cdd, .fields vs, ccs⟩ ∧ vs[2]? = some (.str file tf) ∧ ((P.main.file : Str) == file) = true
  top : (P.main.scope.names.lookup ("super" : Str)).isSome = false
  cell : ∃ cl cld csl, K.lookup cc = some ⟨cl, cld, .cell (some (.ref D)), csl⟩
  sup : mg "super" = none
  par : ∃ ar : Arg, (F.params.posonlyargs ++ F.params.args).head? = some ar ∧ ar.arg = me
  sk : F.scope.names.lookup ("super" : Str) = some .globalImplicit
  exc : OexC K D
  mro : PySem.W.mroIn K D (.ref D) = some true
  ini : PySem.W.ks_superIn K D D "__init__" = some (some (.builtin "ValueError.__init__"))
  ve : PySem.W.subIn K (.ref D) (.type "ValueError") = some true
  any : PySem.W.nsIn K cStatics "thirdparty.any" = some none
section
variable {CX : CXT} {P : Program} {w : World} {K : PySem.W.Frag} {mg : Str → Option Value} {base : Heap} {N ps : List Str} {F : NF} {f D cc : Addr} {k : Nat} {sp : Sp} {me : Str} {dV kV doc pm ctv : Value} {an : Option Addr} {msg : Expr} {rest : List Stmt} {p0 p1 p2 p3 p4 : Pos}
theorem fn_sup (S : NScope N ps ["__class__"] F.scope) (U : SupAt P K mg F f D cc me dV kV doc pm ctv an) (hps : ps[0]? = some me) (hF : F.body = .Expr (.Call (.Attribute (.Call (.Name "super" p0) [] [] p1) "__init__" p2) [msg] [] p3) p4 :: rest)
    (len : ∀ vs H Q E, sp vs H Q E → vs.length = ps.length)
    (hbody : ∀ (A : Around) (outer : List Env) (s : Shared) (H : Hp) (vs : List V) (Q : VK) (E : XK), Room k (A.deeper (envF F f s.heap.objs.size)) → sp vs H Q E →
      ∃ ta t, PA (ncx CX P w K mg base N F f A outer s H E) [msg] ta ∧ PSs (ncx CX P w K mg base N F f A outer s H E) rest t ∧
        ∃ a, vs[0]? = some (.ref a) ∧ H a = some (exo a D none) ∧ ta (startF N vs [none]) H fun xs H1 => xs.length ≤ 1000 ∧ H1 a = some (exo a D none) ∧ t { nx := fun _ H' => Q .non H', rt := Q } (startF N vs [none]) H1)
    {pl : Env → Sem Bool} (he : ∀ env : Env, eval (.Call (.Attribute (.Call (.Name "super" p0) [] [] p1) "__init__" p2) [msg] [] p3) env = (do
      let ov ← attributeBase (.Call (.Name "super" p0) [] [] p1) "__init__" env (eval (.Call (.Name "super" p0) [] [] p1) env)
      standAt p2.atName
      let (f, first) ← holding [ov] (getMethod ov "__init__" (pl env))
      callWith p3 f first (backTo p3 (starEach [msg] env)) []) := by intro _; rfl)
    (hm : ∀ env : Env, starEach [msg] env = [(false, eval msg env)] := by intro _; rfl) (hs : ∀ env : Env, swapsWith (.Call (.Attribute (.Call (.Name "super" p0) [] [] p1) "__init__" p2) [msg] [] p3) none p4.line env = pure false := by intro _; rfl) :
    FnOk P w K mg base CX (k + 1) f (PySem.W.fnX F.name F.qual F.params F.body F.scope F.cl dV kV doc pm an (.ref F.c) ctv) ps sp := by
  refine ⟨len, fun A outer s H args us vs Q E hr e0 hb r hsp => ?_⟩
  have hl := len _ _ _ _ hsp
  have KX : K.In s.heap := e0.mod.kin.keeps fun b o e => (e0.bs b o e).1
  have lim : s.heap.NoLimit := e0.mod.nolimit.keeps fun b o e => (e0.bs b o e).1
  obtain ⟨oc, od, osl, lk⟩ := U.fn
  obtain ⟨cl, cld, csl, hcc⟩ := U.cell
  have CA : CellsAt F.cl ["__class__"] [none] s.heap H := by
    rw [U.cl]
    have one : ∀ {y : Str} {c : Addr}, ([("__class__", cc)] : List (Str × Addr)).lookup y = some c → y = "__class__" ∧ c = cc := fun {y c} e => by
      have m := PySem.mem_of_lookup e
      rcases List.mem_singleton.mp m with z
      cases z
      exact ⟨rfl, rfl⟩
    refine ⟨rfl, fun y c e => ?_, fun x y c e1 e2 => ?_, fun i y e => ?_⟩
    · obtain ⟨rfl, rfl⟩ := one e
      exact ⟨(e0.bs _ _ (e0.mod.kin _ _ hcc)).2, _, _, KX _ _ hcc, rfl⟩
    · rw [(one e1).1, (one e2).1]
    · have hy : y = "__class__" := by
        have m := List.mem_of_getElem? e
        exact List.mem_singleton.mp m
      rw [hy]
      refine ⟨cc, by simp [List.lookup], fun v hv => ?_⟩
      cases i with
      | zero => simp at hv
      | succ i => simp at hv
  refine ks_codeAny_call_defAt (binds := ps.zip us) hr.depth (KX _ _ lk) rfl lim (PySem.W.codeRec_of KX U.code) rfl hb S.nocell (fun ⟨n, _⟩ hy => S.par n (List.of_mem_zip hy).1) (fun h₁ hns kp => ?_) S.co S.gen S.kind
  obtain ⟨ta, t, hta, ht, a, ha0, ha, q⟩ := hbody A outer s H vs Q E (hr.deeper _) hsp
  have I : Inv (ncx CX P w K mg base N F f A outer s H E) [] (startF N vs [none]) H { s with heap := h₁, toks := s.toks + (ps.zip us).length } := inv_startN S hr.hd e0 hl r CA hns kp
  show PySem.wpAt _ (A.deeper (envF F f s.heap.objs.size)) (.func F.body (envF F f s.heap.objs.size)) (execs F.body (envF F f s.heap.objs.size)) _ _ _
  rw [hF]
  refine ks_wpAt_execs_cons (ks_wpAt_mono (Q := fun fl s' => fl = .next ∧ ∃ H1, Inv (ncx CX P w K mg base N F f A outer s H E) [] (startF N vs [none]) H1 s' ∧ t { nx := fun _ H' => Q .non H', rt := Q } (startF N vs [none]) H1) ?one ?two fun _ _ z => z)
  case two =>
    rintro fl s' ⟨rfl, H1, J, q1⟩
    refine wpAt_of_wpAny (wpAny_mono (ht.run [] s' (startF N vs [none]) H1 _ J q1) (fun fl s2 hs => ?_) fun e s2 hs => hs)
    have fin : ∀ {σ' : L2.St} {H' : Hp} {v : V} {u : Value}, Inv (ncx CX P w K mg base N F f A outer s H E) [] σ' H' s2 → RelV v u → Q v H' → CE outer P w H s Q u s2 := fun {σ' H' v u} J2 rv q2 => ⟨v, H', J2.os, J2.bare, J2.base, J2.hok, rv, q2⟩
    cases fl with
    | ret u =>
      obtain ⟨v, σ', H', J2, rv, q2⟩ := hs
      exact fin J2 rv q2
    | next =>
      obtain ⟨σ', H', J2, q2⟩ := hs
      exact fin (v := V.non) (u := Value.none) J2 rfl q2
    | brk =>
      obtain ⟨_, _, _, q2⟩ := hs
      exact q2.elim
    | cont =>
      obtain ⟨_, _, _, q2⟩ := hs
      exact q2.elim
  case one =>
    have IX := I
    obtain ⟨oD, cdD, hD0, hD1, hD2⟩ : ∃ oD cdD, PySem.W.clsIn K D = some cdD ∧ K.lookup D = some oD ∧ oD.data = .cls cdD := by
      obtain ⟨nm, qq, NN, bs, bm, sn, sub, ab, col, dd, k0, k1, k2, k3, k5, hC, _⟩ := U.exc.cls
      exact ⟨_, _, by unfold PySem.W.clsIn; rw [hC] <;> rfl, hC, rfl⟩
    obtain ⟨ccl, cdd, vsc, ccs, file, tf, hfc, hv2, hfile⟩ := U.file
    obtain ⟨ar, har, harm⟩ := U.par
    obtain ⟨t1, ho⟩ := exo_at I.hok ha
    have K1 := I.kIn
    have hN0 : N[0]? = some me := by
      have z : (N.take (ps.length + [("__class__" : Str)].length))[0]? = (ps ++ [("__class__" : Str)])[0]? := by rw [S.pre]
      rw [List.getElem?_take_of_lt (by simp)] at z
      rw [z, List.getElem?_append_left (List.getElem?_eq_some_iff.mp hps).1, hps]
    have hme : F.scope.names.lookup me = some .local := S.par _ (List.mem_of_getElem? hps)
    have hs0 : (startF N vs [none])[0]? = some (some (.ref a)) := by
      have hlt : 0 < vs.length := (List.getElem?_eq_some_iff.mp ha0).1
      unfold startF
      rw [List.getElem?_append_left (by rw [List.length_map]; exact hlt), List.getElem?_map, ha0]
      rfl
    refine ks_wpAt_Expr_any (ks_wpAt_MethodCall ?_ (he _)) (hi := I.quiet) (hs := hs _)
    refine ks_wpAt_super_base (env := envF F f s.heap.objs.size) U.sk (S.frk _ (List.mem_singleton.mpr rfl)) (by decide) rfl (K1 _ _ lk) rfl har rfl (K1 _ _ hfc) rfl hv2 hfile U.top ?_
    obtain ⟨mb, hb1, hb2⟩ := I.mod.blt
    refine PySem.W.ks_loadName_global S.kind U.sk (Calls.loadGlobal_builtin (I.mod.glob.keeps I.bk) U.sup (hb1.keeps I.bk) ((hb2 "super" (by decide)).trans (show bootBuiltins "super" = some (.type "super") from by first | rfl | kernel_rfl)) ⟨rfl, ?_⟩)
    refine wpAny_loadName_free (c := cc) (v := .ref D) S.kind (S.frk _ (List.mem_singleton.mpr rfl)) (by show F.cl.lookup _ = _; rw [U.cl]; simp [List.lookup]) ⟨_, K1 _ _ hcc, rfl⟩ ?_
    obtain ⟨m, hns1, hlook⟩ := I.loc
    obtain ⟨u, hu, hL⟩ := hlook 0 me (.ref a) hN0 hs0 (.inl hme)
    obtain rfl : u = Value.ref a := hu
    have hmu : m me = some (.ref a) := by
      rcases hL with ⟨_, z⟩ | ⟨z, _⟩
      · exact z
      · have z2 : F.scope.names.lookup me = some .cell ∨ F.scope.names.lookup me = some .free := z
        rw [hme] at z2
        rcases z2 with z2 | z2 <;> cases z2
    rw [harm]
    refine wpAny_loadName_local S.kind hme hns1 hmu ?_
    refine ks_wpAny_isType_cls (K1 _ _ hD1) hD2 ⟨rfl, ?_⟩
    refine ks_wpAny_call_super (K1 _ _ hD1) hD2 ho rfl (fun c z => by cases z) (PySem.W.looks_mroIn K1 U.mro) (fun h2 e2 kk2 => ?_)
    have I2 := I.kept (t' := s.toks + (ps.zip us).length) kk2
    have K2 := I2.kIn
    have ia : PySem.W.InstAt h2 a (PySem.W.excObj D t1 none .none) D none := ⟨kk2 _ _ ho, rfl, rfl, trivial⟩
    have aD : a ≠ D := fun z => by
      have z2 := K1 _ _ hD1
      rw [← z, ho] at z2
      have z3 := Option.some.inj z2
      rw [← z3] at hD2
      cases hD2
    have ini := U.ini
    unfold PySem.W.ks_superIn at ini
    rw [hD0] at ini
    refine PySem.W.kxs_getMethod PySem.W.kxs_ValueError e2 (PySem.W.looks_opaque K2 U.any) (l₀ := cdD.mro) (fun A' Q' E' s' k' q' => wpAny_bind ((PySem.W.looks_clsIn K2 hD0) A' _ E' s' k' (wpAny_pure q'))) rfl K2 ini (ia.type.andThen (PySem.W.looks_subIn K2 U.ve)) aD (by decide) ?_
    have I3 := I2.kept (t' := s.toks + (ps.zip us).length + 1) (h' := h2.push (PySem.W.kxs_mw "ValueError.__init__" a)) (fun b o e => Heap.get?_push_of_some _ e)
    have I4 : Inv (ncx CX P w K mg base N F f A outer s H E) ([] ++ [(h2.objs.size, PySem.W.kxs_mw "ValueError.__init__" a)]) (startF N vs [none]) H _ := I3.pins_of (fun p hp => by
      obtain rfl := List.mem_singleton.mp hp
      exact ⟨Heap.get?_push_at rfl rfl, I2.hok.fresh (Nat.le_refl _), Nat.ne_of_gt I2.lt, I2.nofs (Nat.le_refl _), fun v z => by cases z⟩)
    show wpAny _ _ (callWith p3 (.ref h2.objs.size) [] (backTo p3 (starEach [msg] (envF F f s.heap.objs.size))) []) _ _ _
    have hsp2 := hta.run p3 _ _ _ _ _ I4 q
    have hst : starEach [msg] (ncx CX P w K mg base N F f A outer s H E).env = [(false, eval msg (envF F f s.heap.objs.size))] := hm _
    rw [hst] at hsp2
    rw [hm]
    refine PySem.W.kxs_callWith (i := "ValueError.__init__") (x := a) rfl (Calls.evalArgs_plain (thn hsp2 fun us2 s7 ⟨xs, H1, I8, r8, hl8, ea, q8⟩ => ?_))
    obtain ⟨nm, qq, NN, bs, bm, sn, sub, ab, col, dd, k0, k1, k2, k3, k5, hC, _⟩ := U.exc.cls
    obtain ⟨h7, g7, d7, t7, os7⟩ := s7
    have pn := (I8.pin (h2.objs.size, PySem.W.kxs_mw "ValueError.__init__" a) (List.mem_append_right _ (List.mem_append_right _ (List.mem_singleton.mpr rfl)))).1
    obtain ⟨t8, ho8⟩ := exo_at I8.hok ea
    refine ⟨pn, mw_call (I8.kIn _ _ hC) ho8 pn (by show us2.length ≤ sizeLine; rw [← r8.length, sizeLine_eq]; omega) fun h9 t9 k9 e9 => ⟨rfl, H1, ?_, q8⟩⟩
    have J := I8.write (t' := t7) (x := a) (e := a) (o := exo a D none) (by rw [ea]; exact True.intro) (.inl rfl) k9 ⟨_, e9⟩ (exo_ok e9)
    have eu : upd H1 a (exo a D none) = H1 := by
      funext b
      by_cases hb : b = a
      · rw [hb, upd_same, ea]
      · rw [upd_ne hb]
    rw [eu] at J
    exact J.unpinned
end

/-! ### a chain of three comparisons -/
section
variable {X : Cx} {a b c d : Expr} {ta tb tc td : TE} {r r2 r3 : R2} {op op2 op3 : CmpOp} {pos : Pos}
def tChain3 (r r2 r3 : R2) (ta tb tc td : TE) : TE := fun σ H Q => ta σ H fun x H1 => tb σ H1 fun y H2 => r x y H2 fun z H3 => ∃ k, z = .bl k ∧
  (if k = true then tc σ H3 fun u H4 => r2 y u H4 fun z2 H5 => ∃ k2, z2 = .bl k2 ∧ (if k2 = true then td σ H5 fun v H6 => r3 u v H6 Q else Q (.bl false) H5) else Q (.bl false) H3)
theorem if_ff {A B : Prop} (h : B) : if (false : Bool) = true then A else B := by
  rw [if_neg (by decide)]
  exact h
theorem if_tt {A B : Prop} (h : A) : if (true : Bool) = true then A else B := by
  rw [if_pos rfl]
  exact h
theorem pt_chain3 (h1 : OpR X (compareOp op) r) (h2 : OpR X (compareOp op2) r2) (h3 : OpR X (compareOp op3) r3) (ha : PE X a ta) (hb : PE X b tb) (hc : PE X c tc) (hd : PE X d td)
    (hm : lastMarks [op, op2, op3] [b, c, d] = false := by with_unfolding_all rfl) : PT X (.Compare a [op, op2, op3] [b, c, d] pos) (tTest (tChain3 r r2 r3 ta tb tc td)) := by
  refine ⟨fun pins s σ H Q I h => ?_⟩
  refine isTrue_chain (thn (ha.run pins s σ H _ I h) fun v s1 ⟨x, H1, I1, e1, q1⟩ => test_link (thn (hb.run pins s1 σ H1 _ I1 q1) fun u s2 ⟨y, H2, I2, e2, q2⟩ => thn (h1 pins s2 σ H2 x y v u _ I2 e1 e2 q2) fun dv s3 ⟨z, H3, I3, e3, k, ek, q3⟩ => ?_)) hm
  subst ek
  cases e3
  refine wpAny_truthy_bool ?_
  cases k with
  | false =>
    obtain ⟨k', e', q'⟩ := q3
    cases e'
    exact if_ff ⟨H3, I3, q'⟩
  | true =>
    refine if_tt (test_link (thn (hc.run pins s3 σ H3 _ I3 (if_pos rfl ▸ q3)) fun w4 s4 ⟨z4, H4, I4, e4, q4⟩ => thn (h2 pins s4 σ H4 y z4 u w4 _ I4 e2 e4 q4) fun d5 s5 ⟨z5, H5, I5, e5, k2, ek2, q5⟩ => ?_))
    subst ek2
    cases e5
    refine wpAny_truthy_bool ?_
    cases k2 with
    | false =>
      obtain ⟨k', e', q'⟩ := q5
      cases e'
      exact if_ff ⟨H5, I5, q'⟩
    | true =>
      refine if_tt (test_last (thn (hd.run pins s5 σ H5 _ I5 q5) fun w6 s6 ⟨z6, H6, I6, e6, q6⟩ => thn (h3 pins s6 σ H6 z4 z6 w4 w6 _ I6 e4 e6 q6) fun d7 s7 ⟨z7, H7, I7, e7, k3, ek3, q7⟩ => ?_))
      subst ek3
      cases e7
      exact wpAny_truthy_bool ⟨H7, I7, q7⟩
end

/-! ### defs that may raise, called -/
/-- the def under its name, which may let out what sp says -/
structure CalE (P : Program) (w : World) (K : PySem.W.Frag) (mg : Str → Option Value) (base : Heap) (k : Nat) (x : Str) (sp : Sp) : Prop where
  ex : ∃ (f : Addr) (fd : FuncData) (ps : List Str), FnOk P w K mg base (L2.CX P w) k f fd ps sp ∧ mg x = some (.ref f) ∧ PySem.W.keepIn K (.ref f) = true ∧ Binds K fd ps []
section
variable {P : Program} {w : World} {K : PySem.W.Frag} {mg : Str → Option Value} {base : Heap}
theorem fnE {x qual : Str} {st : Stmt} {f : Addr} {fd : FuncData} {N ps : List Str} {k : Nat} {sp : Sp} (F : C8.Fun K x qual st f fd) (S : FnScope N ps (C8.fnScope st)) (len : ∀ vs H Q E, sp vs H Q E → vs.length = ps.length)
    (hb : ∀ (cdv : Value) (A : Around) (outer : List Env) (s : Shared) (H : Hp) (vs : List V) (Q : VK) (E : XK), Room k (A.deeper (envOfC qual (C8.fnScope st) s.heap.objs.size f cdv)) → sp vs H Q E →
      ∃ t, PSs (cxOf (L2.CX P w) P w K mg base N qual (C8.fnScope st) f cdv A outer s H E) (C8.fnBody st) t ∧ t { nx := fun _ H' => Q .non H', rt := Q } (start N vs) H) : FnOk P w K mg base (L2.CX P w) (k + 1) f fd ps sp := by
  obtain ⟨oc, od, dV, kV, doc, pm, an, cdv, ct, osl, rfl, lk, hcd⟩ := F.ex
  exact fn_of lk hcd S len fun A outer s H vs Q E hr hs => hb cdv A outer s H vs Q E hr hs
theorem calE {x : Str} {st : Stmt} {f : Addr} {fd : FuncData} {N ps : List Str} {k : Nat} {sp : Sp} (D : Def K mg x st f fd) (b : Binds K fd ps []) (S : FnScope N ps (C8.fnScope st)) (len : ∀ vs H Q E, sp vs H Q E → vs.length = ps.length)
    (hb : ∀ (cdv : Value) (A : Around) (outer : List Env) (s : Shared) (H : Hp) (vs : List V) (Q : VK) (E : XK), Room k (A.deeper (envOfC x (C8.fnScope st) s.heap.objs.size f cdv)) → sp vs H Q E →
      ∃ t, PSs (cxOf (L2.CX P w) P w K mg base N x (C8.fnScope st) f cdv A outer s H E) (C8.fnBody st) t ∧ t { nx := fun _ H' => Q .non H', rt := Q } (start N vs) H) : CalE P w K mg base (k + 1) x sp :=
  ⟨f, fd, ps, fnE D.fn S len hb, D.mgf, D.kp, b⟩
end
section
variable {X : Cx} {x : Str} {p pos : Pos} {e : Expr} {es : List Expr} {ta : TA} {sp : Sp} {k j : Nat}
/-- its call where exceptions go to W -/
theorem pe_cE (c : CalE X.prog X.w X.K X.mg X.base k x sp) {W : WX} (tk : Takes X W) (hr : Room j X.A) (hk : k ≤ j) (hg : Gl X x) (ha : PA X (e :: es) ta) (hdb : (x == ("__debug__" : Str)) = false := by decide)
    (he : starEach (e :: es) X.env = (false, eval e X.env) :: starEach es X.env := by rfl) (hpl : (backTo pos (starEach es X.env)).any (·.1) = false := by rfl) : PE X (.Call (.Name x p) (e :: es) [] pos) (tCallS sp (WE W) ta) := by
  obtain ⟨f, fd, ps, F, m, kp, b⟩ := c.ex
  exact pe_callS (F.mono hk) hr hg m kp b (passAt tk) ha hdb he hpl
end
/-- a method that may raise -/
structure MetE (P : Program) (w : World) (K : PySem.W.Frag) (mg : Str → Option Value) (base : Heap) (k : Nat) (C : Addr) (m : Str) (sp : Sp) : Prop where
  ex : ∃ (f : Addr) (fd : FuncData) (ps : List Str), Cls K C ∧ Meth K C m f ∧ FnOk P w K mg base (L2.CX P w) k f fd ps sp ∧ Binds K fd ps []
def tMtE (C : Addr) (m : Str) (sp : Sp) (E : L2.St → XK) (ta : TE) (t : TA) : TE := fun σ H Q => ta σ H fun x H1 => ∃ a dx fs, x = .ref a ∧ H1 a = some (.ins C dx fs) ∧ fs.lookup m = none ∧ t σ H1 fun vs H2 => sp (x :: vs) H2 Q (E σ)
section
variable {P : Program} {w : World} {K : PySem.W.Frag} {mg : Str → Option Value} {base : Heap}
theorem metE {m qual : Str} {C : Addr} {st : Stmt} {f : Addr} {fd : FuncData} {N ps : List Str} {k : Nat} {sp : Sp} (c : Cls K C) (me : Meth K C m f) (F : C8.Fun K m qual st f fd) (b : Binds K fd ps []) (S : FnScope N ps (C8.fnScope st)) (len : ∀ vs H Q E, sp vs H Q E → vs.length = ps.length)
    (hb : ∀ (cdv : Value) (A : Around) (outer : List Env) (s : Shared) (H : Hp) (vs : List V) (Q : VK) (E : XK), Room k (A.deeper (envOfC qual (C8.fnScope st) s.heap.objs.size f cdv)) → sp vs H Q E →
      ∃ t, PSs (cxOf (L2.CX P w) P w K mg base N qual (C8.fnScope st) f cdv A outer s H E) (C8.fnBody st) t ∧ t { nx := fun _ H' => Q .non H', rt := Q } (start N vs) H) : MetE P w K mg base (k + 1) C m sp :=
  ⟨f, fd, ps, c, me, fnE F S len hb, b⟩
end
section
variable {X : Cx} {m : Str} {C : Addr} {pos apos : Pos} {e o : Expr} {es : List Expr} {ta : TE} {t : TA} {sp : Sp} {k j : Nat}
theorem pe_mE {pl : Sem Bool} (c : MetE X.prog X.w X.K X.mg X.base k C m sp) {W : WX} (tk : Takes X W) (hr : Room j X.A) (hk : k ≤ j) (he : PE X o ta) (ha : PA X (e :: es) t)
    (hst : starEach (e :: es) X.env = (false, eval e X.env) :: starEach es X.env := by rfl) (hpl : (backTo pos (starEach es X.env)).any (·.1) = false := by rfl)
    (ht : eval (.Call (.Attribute o m apos) (e :: es) [] pos) X.env = (do
      let ov ← eval o X.env
      standAt apos.atName
      let (f, first) ← holding [ov] (getMethod ov m pl)
      callWith pos f first (backTo pos (starEach (e :: es) X.env)) (backToKw pos (keywordEach [] X.env))) := by rfl) : PE X (.Call (.Attribute o m apos) (e :: es) [] pos) (tMtE C m sp (WE W) ta t) := by
  obtain ⟨f, fd, ps, hc, hm, F, b⟩ := c.ex
  refine ⟨fun pins s σ H Q I h => PySem.W.methodCall_KW (pl := pl) (thn (he.run pins s σ H _ I h) fun u s1 ⟨x, H1, I1, rx, a, dx, fs, ex, ea, l, q⟩ => ?_) ht⟩
  subst ex
  cases (show u = Value.ref a from rx)
  exact getmeth_ok I1 ea hc hm l (PySem.W.callWith_K (first := [.ref a]) (h₀ := X.base) I.ok.mod.kin hm.kp (thn (ha.run pos pins s1 σ H1 _ I1 q) fun us s2 ⟨vs, H2, I2, r, q2⟩ => ⟨I2.kIn, run_fnS (us := .ref a :: us) (vs := .ref a :: vs) (F.mono hk) hr b (passAt tk σ) I2 (.cons rfl r) q2⟩) hst hpl)
end

/-! ### isinstance of the exception that a suite holds, with its fields -/
def rIsX (K : PySem.W.Frag) (D a : Addr) (cls : Value) (d0 : Option Addr) : List V → Hp → VK → Prop := fun xs H Q => cls = .ref D ∧ ∃ (d : Addr) (c : V) (u : Value) (b : Bool) (fs : List (Str × V)), d0 = some d ∧ xs = [.ref a, c] ∧ ClsV c u ∧ H d = some (.xd fs) ∧ PySem.W.kitOne K (.ref D) u = some b ∧ Q (.bl b) H
def rIsXT (K : PySem.W.Frag) (D a : Addr) (cls : Value) (d0 : Option Addr) : List V → Hp → VK → Prop := fun xs H Q => cls = .ref D ∧ ∃ (d tp : Addr) (cs : List V) (us : List Value) (b : Bool) (fs : List (Str × V)), d0 = some d ∧ xs = [.ref a, .ref tp] ∧ H tp = some (.tup cs) ∧ Paired ClsV cs us ∧ H d = some (.xd fs) ∧ PySem.W.kitAny K (.ref D) us = some b ∧ Q (.bl b) H
section
variable {X : Cx} {a D : Addr} {cls : Value} {d0 : Option Addr} {oe : Obj} {pn : List (Addr × Obj)}
theorem exx_at {d : Addr} {pins : List (Addr × Obj)} {σ : L2.St} {H : Hp} {s : Shared} {fs : List (Str × V)} (hz : Zc (.ref D) (some d) oe) (hf : ∃ vs, oe.data = .fields vs) (I : Inv (X.suite a ((a, oe) :: pn)) pins σ H s) (hd : H d = some (.xd fs)) : ∃ od, PySem.W.InstAt s.heap a oe D (some od) := by
  obtain ⟨hget, _⟩ := I.pin (a, oe) (List.mem_append.mpr (.inl List.mem_cons_self))
  obtain ⟨mA, hns, _⟩ := (show ObjOk X.prog X.w H s.heap d (.xd fs) from I.hok d _ hd)
  obtain ⟨od, _, _, hod, _⟩ := hns
  obtain ⟨vs, hv⟩ := hf
  refine ⟨od, hget, hz.1, ?_, ?_⟩
  · obtain ⟨oc, od2, oda, osl⟩ := oe
    dsimp only at hv
    subst hv
    rfl
  · rw [hz.2]
    exact hod
theorem call_isX (K : PySem.W.Frag) (hK : X.K = K) (C : ExcC K D) (hz : Zc cls d0 oe) (hf : ∃ vs, oe.data = .fields vs) : CallR (X.suite a ((a, oe) :: pn)) (.builtin "isinstance") (rIsX K D a cls d0) := by
  intro pins s σ H xs us Q I r h
  obtain ⟨rfl, d, c, u, b, fs, rfl, rfl, hc, hd, e, q⟩ := h
  subst hK
  obtain ⟨u1, u2, rfl, r1, r2⟩ := vals2 r
  cases (show u1 = Value.ref a from r1)
  obtain rfl := hc.eq r2
  obtain ⟨od, J⟩ := exx_at hz hf I hd
  have hcl : (PySem.W.clsIn X.K D).isSome = true := by
    obtain ⟨cd, hcd, _⟩ := PySem.W.any_some C.hd
    rw [hcd]
    rfl
  exact PySem.W.kia_one (PySem.W.kitx_exc hcl C.hg C.hk C.hs C.ha C.hn C.ht C.hm) I.kIn J e (fun z => nomatch z) fun tk => ⟨.bl b, H, I.tok tk, rfl, q⟩
theorem call_isXT (K : PySem.W.Frag) (hK : X.K = K) (C : ExcC K D) (hz : Zc cls d0 oe) (hf : ∃ vs, oe.data = .fields vs) : CallR (X.suite a ((a, oe) :: pn)) (.builtin "isinstance") (rIsXT K D a cls d0) := by
  intro pins s σ H xs us Q I r h
  obtain ⟨rfl, d, tp, cs, ws, b, fs, rfl, rfl, hT, hk, hd, e, q⟩ := h
  subst hK
  obtain ⟨u1, u2, rfl, r1, r2⟩ := vals2 r
  cases (show u1 = Value.ref a from r1)
  cases (show u2 = Value.ref tp from r2)
  obtain ⟨od, J⟩ := exx_at hz hf I hd
  obtain ⟨_, its, rv, o, g1, g2, n, g3⟩ := (show ObjOk X.prog X.w H s.heap tp (.tup cs) from I.hok tp _ hT)
  obtain rfl := ClsV.all hk rv
  obtain ⟨oc, od2, dt, sl⟩ := o
  simp only at g2 g3
  subst g2 g3
  have hcl : (PySem.W.clsIn X.K D).isSome = true := by
    obtain ⟨cd, hcd, _⟩ := PySem.W.any_some C.hd
    rw [hcd]
    rfl
  exact PySem.W.kia_tup (PySem.W.kitx_exc hcl C.hg C.hk C.hs C.ha C.hn C.ht C.hm) I.kIn J g1 e (fun z => nomatch z) fun tk => ⟨.bl b, H, I.tok tk, rfl, q⟩
end

section

-- a condition of an operator
local macro_rules | `(tactic| walk_at "cond") => `(tactic| first
  | (show (0 : Int) < _; omega)
  | (show CDiv _ _; constructor <;> (first | decide | omega))
  | (show CMul _ _; first | (refine cmul_l ?_; constructor <;> (first | decide | omega)) | (refine cmul_r ?_; constructor <;> (first | decide | omega)))
  | (show CPow _ _; exact (by refine ⟨by decide, by decide, by decide⟩))
  | (show CDivW _ _; exact ⟨by decide, by decide +kernel⟩))
local macro_rules | `(tactic| walk_at "sq") => `(tactic| first | assumption | exact Dh.mono (same_upd (by assumption)) _ _ (by assumption) | exact .inl (.inl (.inl (by assumption))) | exact .inr (.inl (.inl (by assumption))) | exact SqL.of (by assumption) | exact .inl (by assumption) | exact .inl (SqL.of (by assumption)) | exact SqT.of (by assumption) | exact .inr (SqT.of (by assumption)))
local macro_rules | `(tactic| walk_at "st") => `(tactic| first
  | refine ⟨_, rfl, ?_⟩
  | refine ⟨_, _, rfl, rfl, ?_⟩
  | refine .inl ⟨_, rfl, ?_⟩
  | refine ⟨rfl, ?_⟩
  | refine ⟨_, _, rfl, by walk_at "sq", ?_⟩
  | refine ⟨.inl ⟨rfl, _, SqL.of (by assumption)⟩, ?_⟩
  | refine ⟨by walk_at "cond", ?_⟩
  | (refine' ifBT ?hh ?_; (case hh => first | rfl | assumption))
  | (refine' ifBF ?hh ?_; (case hh => first | rfl | assumption)))
local macro_rules | `(tactic| walk_at "go") => `(tactic| repeat walk_at "st")
local macro_rules | `(tactic| walk_at "yes") => `(tactic| (refine' ifT ?hh ?_; (case hh => first | rfl | decide +kernel)))
local macro_rules | `(tactic| walk_at "no") => `(tactic| (refine' ifF ?hh ?_; (case hh => first | decide +kernel | (intro z; cases z; done))))

/-! ### BadRange, check_range -/
abbrev s_BadRange_init : Stmt := inClass (topS 8) 0
theorem sn_BadRange_init : NScope ["self", "start", "end", "__class__"] ["self", "start", "end"] ["__class__"] (C8.fnScope s_BadRange_init) := nscope_by (by decide +kernel)
abbrev s_check_range : Stmt := topS 13
theorem sc_check_range : FnScope ["start", "end", "limit"] ["start", "end", "limit"] (C8.fnScope s_check_range) := C8.fnScope_by (by decide +kernel)
theorem no_fly {P : Program} {w : World} {l : List Env} {H : Hp} {s s' : Shared} {e : Value} {p : Prop} (c : L2.CX P w l H s (fun _ _ _ => False) e s') : p := by
  obtain ⟨_, _, _, _, _, _, _, _, _, _, _, _, z⟩ := c
  exact z.elim
def brF (i j : Int) : List (Str × V) := [("end", .int j), ("start", .int i)]
def spBR (D : Addr) : Sp := fun vs H Q _ => ∃ (a : Addr) (i j : Int), vs = [.ref a, .int i, .int j] ∧ H a = some (exo a D none) ∧ i.natAbs.log2 < 1920 ∧ j.natAbs.log2 < 1920 ∧
  ∀ dx, H dx = none → dx ≠ a → Q .non (upd (upd (upd H dx (exd dx [("start", .int i)])) a (exo a D (some dx))) dx (exd dx (brF i j)))
def spCheck (D : Addr) : Sp := fun vs H Q E => ∃ i j n : Int, vs = [.int i, .int j, .int n] ∧ i.natAbs.log2 < 1920 ∧ j.natAbs.log2 < 1920 ∧ ((0 ≤ i ∧ i < j ∧ j ≤ n) → Q .non H) ∧
  (¬ (0 ≤ i ∧ i < j ∧ j ≤ n) → ∀ d, H d = none → E (.ref D) (some d) (upd H d (.xd (brF i j))))
theorem sz3 {n : Nat} (h : n ≤ 10000) : n ≤ sizeLine := by
  rw [sizeLine_eq]
  omega
theorem len_ap {a b : Str} {m n : Nat} (ha : a.length ≤ m) (hb : b.length ≤ n) : (a ++ b).length ≤ m + n := by
  rw [Str.length_append]
  omega
section
variable {P : Program} {w : World} {K : PySem.W.Frag} {mg : Str → Option Value} {base : Heap}
theorem ok_BadRange {F : NF} {f D cc : Addr} {dV kV doc pm ctv : Value} {an : Option Addr} {q : Str} {cl : List (Str × Addr)} {c : Addr} (U : SupAt P K mg (NF.of s_BadRange_init "__init__" q cl c) f D cc "self" dV kV doc pm ctv an)
    (nS : PySem.W.findIn K (.ref D) "start" = some none) (nE : PySem.W.findIn K (.ref D) "end" = some none) :
    FnOk P w K mg base (L2.CX P w) 1 f (PySem.W.fnX "__init__" q (C8.fnArgs s_BadRange_init) (C8.fnBody s_BadRange_init) (C8.fnScope s_BadRange_init) cl dV kV doc pm an (.ref c) ctv) ["self", "start", "end"] (spBR D) := by
  refine fn_sup (F := NF.of s_BadRange_init "__init__" q cl c) (N := ["self", "start", "end", "__class__"]) sn_BadRange_init U rfl (by rfl) (fun vs H Q E h => ?_) (fun A outer s H vs Q E hr h => ?_)
  · obtain ⟨a, i, j, rfl, _⟩ := h
    rfl
  obtain ⟨a, i, j, rfl, ha, hi, hj, q⟩ := h
  refine ⟨_, _, pa_cons (pe_joined (.cons pe_str (.cons (pe_fmt (pv 1)) (.cons pe_str (.cons (pe_fmt (pv 2)) (.cons pe_str .nil)))))) pa_nil, pss_cons (ps_ost (pv 0) (pv 1)) (pss_one (ps_ost (pv 0) (pv 2))), a, rfl, ha, ?_⟩
  have l1 := len_ap (show Str.empty.length ≤ 0 by decide +kernel) (show ("the range (" : Str).length ≤ 50 by decide +kernel)
  have l2 := len_ap l1 (int_text_len_1921 hi)
  have l3 := len_ap l2 (show (", " : Str).length ≤ 50 by decide +kernel)
  have l4 := len_ap l3 (int_text_len_1921 hj)
  have l5 := len_ap l4 (show (") is empty, reversed or outside" : Str).length ≤ 50 by decide +kernel)
  refine ⟨_, rfl, sz3 (Nat.le_trans l1 (by decide)), ?_⟩
  refine ⟨_, rfl, .inr ⟨i, rfl, hi, _, rfl, sz3 (Nat.le_trans l2 (by decide)), ?_⟩⟩
  refine ⟨_, rfl, sz3 (Nat.le_trans l3 (by decide)), ?_⟩
  refine ⟨_, rfl, .inr ⟨j, rfl, hj, _, rfl, sz3 (Nat.le_trans l4 (by decide)), ?_⟩⟩
  refine ⟨_, rfl, sz3 (Nat.le_trans l5 (by decide)), ?_⟩
  refine ⟨(by show 1 ≤ 1000; decide), ha, _, rfl, _, rfl, a, D, rfl, U.exc, nS, .inl ⟨ha, fun dx nd ne => ?_⟩⟩
  refine ⟨_, rfl, _, rfl, a, D, rfl, U.exc, nE, .inr ⟨dx, _, upd_same, ?_, (by show 1 ≤ 900; decide), q dx nd ne⟩⟩
  rw [upd_ne ne]
  exact upd_same
theorem ok_check {D f2 : Addr} {fd2 : FuncData} (B : FnOk P w K mg base (L2.CX P w) 1 f2 fd2 ["self", "start", "end"] (spBR D)) (O : OexC K D) (iC : PySem.W.findIn K (.ref D) "__init__" = some (some (.ref f2))) (tI : PySem.W.typeIn K (.ref f2) = some (.type "function"))
    (hb : Binds K fd2 ["self", "start", "end"] []) (mD : mg "BadRange" = some (.ref D)) {f : Addr} {fd : FuncData} (Df : Def K mg "check_range" s_check_range f fd) (b : Binds K fd ["start", "end", "limit"] []) : CalE P w K mg base 3 "check_range" (spCheck D) := by
  refine calE Df b sc_check_range (fun vs H Q E h => ?_) (fun cdv A outer s H vs Q E hr h => ?_)
  · obtain ⟨i, j, n, rfl, _⟩ := h
    rfl
  obtain ⟨i, j, n, rfl, hi, hj, q1, q2⟩ := h
  refine ⟨_, pss_one (ps_mk (ps_if (pt_not (pt_chain3 op_le op_lt op_le pe_int (pv 0) (pv 1) (pv 2))) (pss_one (ps_raise rfl (takes_of rfl rfl rfl rfl) (pmk_oex O iC tI B hr hb .nil (fun _ _ _ _ e s' _ c => no_fly c) rfl mD (pa_cons (pv 0) (pa_cons (pv 1) pa_nil))))) pss_nil)), ?_⟩
  have bad : ¬ (0 ≤ i ∧ i < j ∧ j ≤ n) → ([V.int i, V.int j] : List V).length ≤ 1000 ∧ ∀ a, H a = none → spBR D (V.ref a :: ([V.int i, V.int j] ++ [])) (upd H a (exo a D none))
      (fun v H2 => v = .non ∧ ∃ d fs, H2 a = some (exo a D (some d)) ∧ H2 d = some (exd d fs) ∧ H d = none ∧ E (.ref D) (some d) (upd (del H2 a) d (.xd fs))) (fun _ _ _ => False) := fun z => by
    refine ⟨(by show 2 ≤ 1000; decide), fun a na => ⟨a, i, j, rfl, upd_same, hi, hj, fun dx nd ne => ⟨rfl, dx, brF i j, ?_, upd_same, ?_, ?_⟩⟩⟩
    · rw [upd_ne ne.symm]
      exact upd_same
    · rw [upd_ne ne] at nd
      exact nd
    · rw [upd_ne ne] at nd
      have e : upd (del (upd (upd (upd (upd H a (exo a D none)) dx (exd dx [("start", .int i)])) a (exo a D (some dx))) dx (exd dx (brF i j))) a) dx (.xd (brF i j)) = upd H dx (.xd (brF i j)) := by
        funext c
        by_cases h1 : c = dx
        · rw [h1, upd_same, upd_same]
        · rw [upd_ne h1, upd_ne h1]
          by_cases h2 : c = a
          · rw [h2, del_same, na]
          · rw [del_ne h2, upd_ne h1, upd_ne h2, upd_ne h1, upd_ne h2]
      rw [e]
      exact q2 z dx nd
  refine un ?_
  walk_at "go"
  refine ifD (fun c1 => ?_) (fun c1 => ?_)
  · walk_at "go"
    refine ifD (fun c2 => ?_) (fun c2 => ?_)
    · walk_at "go"
      by_cases c3 : j ≤ n
      · refine ifBF (by rw [decide_eq_true c3]; rfl) ?_
        exact q1 ⟨c1, c2, c3⟩
      · refine ifBT (by rw [decide_eq_false c3]; rfl) ?_
        walk_at "go"
        exact bad fun z => c3 z.2.2
    · walk_at "go"
      exact bad fun z => c2 z.2.1
  · walk_at "go"
    exact bad fun z => c1 z.1
end

end

open RT
open RZ

def spLaw (K : PySem.W.Frag) : Sp := fun vs H Q _ => ∃ (a : Addr) (ns : List Int), vs = [.ref a] ∧ SqL K H a (ns.map V.int) ∧ ns.length ≤ 63 ∧ ∀ H', Q (.bl true) H'
/-- what the written part says, asked one by one -/
theorem err_mk {P : Program} {K : PySem.W.Frag} {h : Heap} {mg : Str → Option Value} (X : K.In h) (G : h.Ns mainGlobals mg) {D f cc c N : Addr} {oc ccl cl dV kV doc pm ctv : Value} {od an cdd cld dd : Option Addr} {osl ccs csl : Array (Option Value)} {vs : Array Value} {file : Str} {tf : Tok}
    {nm q : Str} {bs bm : List Value} {sn : List Str} {sub : List Value} {ab : Bool} {col : Option Bool} {k0 k1 k2 k3 k5 : Option Value} {ar : Arg}
    (aD : PySem.W.nsIn K mainGlobals "BadRange" = some (some (.ref D)))
    (iC : PySem.W.findIn K (.ref D) "__init__" = some (some (.ref f))) (tI : PySem.W.typeIn K (.ref f) = some (.type "function"))
    (lF : K.lookup f = some ⟨oc, od, .func (PySem.W.fnX "__init__" "BadRange.__init__" (C8.fnArgs s_BadRange_init) (C8.fnBody s_BadRange_init) (C8.fnScope s_BadRange_init) [("__class__", cc)] dV kV doc pm an (.ref c) ctv), osl⟩)
    (cF : PySem.W.codeIn K (.ref c) "BadRange.__init__" = true) (lc : K.lookup c = some ⟨ccl, cdd, .fields vs, ccs⟩) (hv : vs[2]? = some (.str file tf)) (hf : ((P.main.file : Str) == file) = true) (tp : (P.main.scope.names.lookup ("super" : Str)).isSome = false)
    (lcc : K.lookup cc = some ⟨cl, cld, .cell (some (.ref D)), csl⟩) (zs : PySem.W.nsIn K mainGlobals "super" = some none) (hp : ((C8.fnArgs s_BadRange_init).posonlyargs ++ (C8.fnArgs s_BadRange_init).args).head? = some ar) (ha : ar.arg = "self")
    (sk : (C8.fnScope s_BadRange_init).names.lookup ("super" : Str) = some .globalImplicit)
    (lD : K.lookup D = some (excClassObj nm q D N bs bm true sn sub ab col dd k0 k1 k2 k3 k5 "ValueError.__new__")) (rb : PySem.HandSPX.refsVE bm = true)
    (sa : PySem.W.findIn K (.ref D) "__setattr__" = some (some (.builtin "object.__setattr__"))) (ex : PySem.W.subIn K (.ref D) (.type "BaseException") = some true) (ty : PySem.W.typeIn K (.ref D) = some (.type "type")) (kC : PySem.W.keepIn K (.ref D) = true)
    (mr : PySem.W.mroIn K D (.ref D) = some true) (ini : PySem.W.ks_superIn K D D "__init__" = some (some (.builtin "ValueError.__init__"))) (ve : PySem.W.subIn K (.ref D) (.type "ValueError") = some true) (any : PySem.W.nsIn K cStatics "thirdparty.any" = some none)
    (nS : PySem.W.findIn K (.ref D) "start" = some none) (nE : PySem.W.findIn K (.ref D) "end" = some none) :
    SupAt P K mg (NF.of s_BadRange_init "__init__" "BadRange.__init__" [("__class__", cc)] c) f D cc "self" dV kV doc pm ctv an ∧ OexC K D := by
  have O : OexC K D := ⟨⟨nm, q, N, bs, bm, sn, sub, ab, col, dd, k0, k1, k2, k3, k5, lD, rb⟩, sa, ex, ty, kC⟩
  exact ⟨⟨⟨_, _, _, lF⟩, rfl, cF, ⟨_, _, _, _, _, _, lc, hv, hf⟩, tp, ⟨_, _, _, lcc⟩, PySem.W.mg_none_of X G zs, ⟨ar, hp, ha⟩, sk, O, mr, ini, ve, any⟩, O⟩

section

-- a condition of an operator
local macro_rules | `(tactic| walk_at "cond") => `(tactic| first
  | (show (0 : Int) < _; omega)
  | (show CDiv _ _; constructor <;> (first | decide | omega))
  | (show CMul _ _; first | (refine cmul_l ?_; constructor <;> (first | decide | omega)) | (refine cmul_r ?_; constructor <;> (first | decide | omega)))
  | (show CPow _ _; exact (by refine ⟨by decide, by decide, by decide⟩))
  | (show CDivW _ _; exact ⟨by decide, by decide +kernel⟩))
local macro_rules | `(tactic| walk_at "sq") => `(tactic| first | assumption | exact Dh.mono (same_upd (by assumption)) _ _ (by assumption) | exact .inl (.inl (.inl (by assumption))) | exact .inr (.inl (.inl (by assumption))) | exact SqL.of (by assumption) | exact .inl (by assumption) | exact .inl (SqL.of (by assumption)) | exact SqT.of (by assumption) | exact .inr (SqT.of (by assumption)))
local macro_rules | `(tactic| walk_at "st") => `(tactic| first
  | refine ⟨_, rfl, ?_⟩
  | refine ⟨_, _, rfl, rfl, ?_⟩
  | refine .inl ⟨_, rfl, ?_⟩
  | refine ⟨rfl, ?_⟩
  | refine ⟨_, _, rfl, by walk_at "sq", ?_⟩
  | refine ⟨.inl ⟨rfl, _, SqL.of (by assumption)⟩, ?_⟩
  | refine ⟨by walk_at "cond", ?_⟩
  | (refine' ifBT ?hh ?_; (case hh => first | rfl | assumption))
  | (refine' ifBF ?hh ?_; (case hh => first | rfl | assumption)))
local macro_rules | `(tactic| walk_at "go") => `(tactic| repeat walk_at "st")
local macro_rules | `(tactic| walk_at "yes") => `(tactic| (refine' ifT ?hh ?_; (case hh => first | rfl | decide +kernel)))
local macro_rules | `(tactic| walk_at "no") => `(tactic| (refine' ifF ?hh ?_; (case hh => first | decide +kernel | (intro z; cases z; done))))

/-! ### a try whose wish the body sees as a letter -/
def tTry (K : PySem.W.Frag) (c : Value) (i : Nat) (tb : WX → TS) (ts : Addr → Value → Option Addr → TS) (Wout : WX) : TS := fun D σ H => ∀ W : WX, (∀ cls d σ2 H2, wAs K c i ts Wout D cls d σ2 H2 → W cls d σ2 H2) → tb W D σ H
theorem ps_try_m {X : Cx} {x n : Str} {c : Value} {i : Nat} {body suite : List Stmt} {b0 : Stmt} {np pos pos2 : Pos} {tb : WX → TS} {ts : Addr → Value → Option Addr → TS} {Wout : WX} (hs : X.stack = X.env :: X.outer) (hf : X.env.frame = some X.env.locals) (hN : X.N.Nodup) (hi : X.N[i]? = some n) (hln : X.env.kindOf n = some .local) (hc : Names X x c) (tk : Takes X Wout)
    (hb : ∀ (W : WX) (pn : List (Addr × Obj)) (xe : Value → Shared → Prop), Takes (X.tr pn xe) W → PassesOwn (model X.prog X.w) X.A X.env xe → PSs (X.tr pn xe) body (tb W))
    (hu : ∀ (a : Addr) (oe : Obj) (cls : Value) (d : Option Addr) (pn : List (Addr × Obj)), Zc cls d oe → (∃ vs, oe.data = .fields vs) → PSs (X.suite a ((a, oe) :: pn)) (b0 :: suite) (ts a cls d)) :
    PS X (.Try body [.ExceptHandler (some (.Name x np)) (some n) (b0 :: suite) pos2] [] [] pos) (tTry X.K c i tb ts Wout) :=
  ⟨fun pins s σ H D I h => (ps_try_as hs hf hN hi hln hc tk hb hu).run pins s σ H D I (h _ fun _ _ _ _ z => z)⟩
/-- what follows a wrapped statement, said once -/
theorem jnS {a b : TS} {D : Ends} {σ : L2.St} {H : Hp} (M : L2.St → Hp → Prop) (h2 : ∀ σ H, M σ H → b D σ H) (h1 : ∀ N : L2.St → Hp → Prop, (∀ σ H, M σ H → N σ H) → a { D with nx := N } σ H) : tSeq (tMk a) b D σ H := by
  rw [tMk_eq]
  exact h1 (b D) h2
/-- the catch takes it -/
theorem catch_yes {K : PySem.W.Frag} {c : Value} {i : Nat} {ts : Addr → Value → Option Addr → TS} {Wout : WX} {D : Ends} {cls : Value} {d : Option Addr} {σ : L2.St} {H : Hp} (e : PySem.W.exmOne K cls c = some true)
    (h : ∀ a, H a = none → ts a cls d { nx := fun σ' H' => D.nx (σ'.set i none) H', rt := D.rt, bk := fun σ' H' => D.bk (σ'.set i none) H', ct := fun σ' H' => D.ct (σ'.set i none) H' } (σ.set i (some (.ref a))) H) : wAs K c i ts Wout D cls d σ H :=
  ⟨true, e, fun _ => h, fun z => by cases z⟩

/-! ### _spans_of -/
abbrev s_spans_of : Stmt := topS 18
theorem sc_spans_of : FnScope ["widths", "spans", "width"] ["widths"] (C8.fnScope s_spans_of) := C8.fnScope_by (by decide +kernel)
structure Txt1 (mg : Str → Option Value) : Prop where
  len : mg "len" = none
  reversed : mg "reversed" = none
  tuple : mg "tuple" = none
  zip : mg "zip" = none
  sum : mg "sum" = none
def prodI : List Int → Int
  | [] => 1
  | w :: ws => w * prodI ws
def spansOf : List Int → List Int
  | [] => []
  | _ :: ws => prodI ws :: spansOf ws
def Small (ws : List Int) : Prop := ws ≠ [] ∧ ws.length ≤ 6 ∧ ∀ w ∈ ws, 2 ≤ w ∧ w ≤ 8
theorem spans_last (w : Int) : spansOf [w] = [1] := rfl
theorem spans_drop {ws : List Int} {k : Nat} (h : k + 1 < ws.length) : spansOf (ws.drop k) = (prodI (ws.drop (k + 1))) :: spansOf (ws.drop (k + 1)) := by
  rw [List.drop_eq_getElem_cons (by omega)]
  rfl
theorem prod_drop {ws : List Int} {k : Nat} (h : k < ws.length) : prodI (ws.drop k) = ws[k] * prodI (ws.drop (k + 1)) := by
  rw [List.drop_eq_getElem_cons h]
  rfl
theorem six1 {n d : Nat} (h : 1 ≤ n) : HT.sIx n d (some 1) = 1 := by
  rw [show (1 : Int) = ((1 : Nat) : Int) from rfl, HT.sIx_nat]
  omega
theorem cut_tail (x : V) (xs : List V) : cutV (x :: xs) (some 1) none = xs := by
  unfold cutV
  rw [six1 (by simp), HT.sIx_none]
  simp
def spSpans (K : PySem.W.Frag) : Sp := fun vs H Q _ => ∃ (p : Addr) (ws : List Int), vs = [.ref p] ∧ SqT K H p (ws.map V.int) ∧ Small ws ∧ ∀ r H', Same H H' → H r = none → H' r = some (.tup ((spansOf ws).map V.int)) → Q (.ref r) H'
section
variable {P : Program} {w : World} {K : PySem.W.Frag} {mg : Str → Option Value} {base : Heap}
theorem ok_spans {f : Addr} {fd : FuncData} (D : Def K mg "_spans_of" s_spans_of f fd) (b : Binds K fd ["widths"] []) (T : Txt1 mg) : Cal P w K mg base 1 "_spans_of" (spSpans K) [] := by
  refine cal0 D b .nil sc_spans_of (fun vs H Q E h => ?_) (fun cdv A outer s H vs Q E hr h => ?_)
  · obtain ⟨p, ws, rfl, _⟩ := h
    rfl
  obtain ⟨p, ws, rfl, hp, sm, q⟩ := h
  refine ⟨_, (pss_cons (ps_set (i := 1) sc_spans_of.nd rfl (.inl rfl) (pe_lst (pa_cons pe_int pa_nil)))
      (pss_cons (ps_mk (ps_for PassesOwn.never rfl (pi_revA (by rfl) T.reversed (pe_slice sl_tup (pv 0) (po_some pe_int) po_none)) (pg_name (i := 2) sc_spans_of.nd rfl (.inl rfl))
      (pss_one (ps_expr (pe_bm PySem.F.plainAttrs_list PySem.F.slot_list_append PySem.F.type_list_append mt_append (pv 1) (pa_cons (pe_op op_mul (pe_ix (ixL K rfl) (pv 1) (pe_un un_neg pe_int) (fun _ _ => rfl)) (pv 2)) pa_nil))))))
      (pss_one (ps_ret (pe_callTy call_tuple_of (by rfl) T.tuple (by decide +kernel) (pa_cons (pe_revL (pv 1)) pa_nil)))))), ?_⟩
  walk_at "go"
  refine ⟨sz, fun L nL => ?_⟩
  have s1 := same_upd (o := HO.lst [V.int 1]) nL
  have gL := upd_same (H := H) (a := L) (o := HO.lst [V.int 1])
  have hp1 := sameT s1 hp
  generalize upd H L (HO.lst [V.int 1]) = H1 at *
  obtain ⟨ne, l6, sm⟩ := sm
  obtain ⟨w0, w1, rfl⟩ : ∃ w0 w1, ws = w0 :: w1 := by
    cases ws with
    | nil => exact absurd rfl ne
    | cons a b => exact ⟨a, b, rfl⟩
  walk_at "go"
  refine jnS (M := fun σ H' => Same H H' ∧ ∃ y, H' L = some (.lst ((spansOf (w0 :: w1)).reverse.map V.int)) ∧ σ = [sR p, sR L, y]) ?_ (fun N kk => ?_)
  · rintro σ H2 ⟨s2, y, g2, rfl⟩
    walk_at "go"
    intro r nr
    walk_at "go"
    refine ⟨r, _, rfl, .inl ⟨SqL.of upd_same, fun t nt => ?_⟩⟩
    have s3 := s2.trans (same_upd (o := HO.lst ((spansOf (w0 :: w1)).reverse.map V.int).reverse) nr)
    refine q t _ (s3.trans (same_upd nt)) (s3.free nt) ?_
    rw [upd_same, ← List.map_reverse, List.reverse_reverse]
  walk_at "go"
  have n7 : 1 ≤ ((w0 :: w1).map V.int).length := by simp
  refine ⟨fun z => absurd z.1 (by rw [six1 n7]; decide), fun t nt => ?_⟩
  have s2 := same_upd (o := HO.tup (cutV ((w0 :: w1).map V.int) (some 1) none)) nt
  have gt := upd_same (H := H1) (a := t) (o := HO.tup (cutV ((w0 :: w1).map V.int) (some 1) none))
  rw [show cutV ((w0 :: w1).map V.int) (some 1) none = w1.map V.int from cut_tail _ _] at s2 gt ⊢
  have gL2 := s2 _ _ gL
  have s02 := s1.trans s2
  have hLt : L ≠ t := ne_of_none gL nt
  generalize upd H1 t (HO.tup (w1.map V.int)) = H2 at *
  have nw : w1.length + 1 ≤ 6 := l6
  refine ⟨t, _, rfl, .inr ⟨SqT.of gt, for_ItvT (fun i σ H' => Ob (Same H H' ∧ H' t = some (.tup (w1.map V.int)) ∧ ∃ y, H' L = some (.lst ((spansOf ((w0 :: w1).drop (w1.length - i))).reverse.map V.int)) ∧ σ = [sR p, sR L, y])) (ob ⟨s02, gt, none, ?_, rfl⟩) (fun i σ H' h => SqT.of (unob h).2.1) ?_ ?_⟩⟩
  · have e : (w0 :: w1).drop w1.length = [(w0 :: w1)[w1.length]] := by
      rw [List.drop_eq_getElem_cons (by simp), List.drop_of_length_le (by simp)]
    rw [Nat.sub_zero, e]
    exact gL2
  · intro i x σ H' hi hx h
    obtain ⟨s3, gt3, y, gL3, rfl⟩ := unob h
    rw [List.length_map] at hi hx
    obtain ⟨k, hk⟩ : ∃ k, w1.length - i = k + 1 := ⟨w1.length - i - 1, by omega⟩
    have hk1 : k + 1 < (w0 :: w1).length := by simp; omega
    have ex : x = .int ((w0 :: w1)[k + 1]) := by
      have e1 : w1.length - 1 - i = k := by omega
      rw [e1, List.getElem?_map, List.getElem?_eq_getElem (by omega)] at hx
      exact (Option.some.inj hx).symm
    subst ex
    have hw := sm _ (List.getElem_mem hk1)
    have pd := prod_drop hk1
    generalize (w0 :: w1)[k + 1] = wv at *
    have el : spansOf ((w0 :: w1).drop (k + 1)) = prodI ((w0 :: w1).drop (k + 2)) :: (spansOf ((w0 :: w1).drop (k + 1))).tail := by
      rw [List.drop_eq_getElem_cons hk1]
      rfl
    have ln : (spansOf ((w0 :: w1).drop (k + 1))).length ≤ 1000 := by
      have gen : ∀ l : List Int, (spansOf l).length = l.length := fun l => by
        induction l with
        | nil => rfl
        | cons a l ih => exact congrArg (· + 1) ih
      rw [gen, List.length_drop]
      simp
      omega
    rw [hk] at gL3
    have sd := spans_drop (ws := w0 :: w1) (k := k) hk1
    have lastv : atI ((spansOf ((w0 :: w1).drop (k + 1))).reverse.map V.int) (-1) = some (.int (prodI ((w0 :: w1).drop (k + 2)))) := by
      rw [el, List.reverse_cons, List.map_append]
      exact atI_last _ _
    walk_at "go"
    refine ⟨L, _, -1, _, rfl, rfl, SqL.of gL3, lastv, ?_⟩
    walk_at "go"
    refine ⟨L, _, _, rfl, rfl, gL3, sz5 (by rw [List.length_map, List.length_reverse]; omega), ?_⟩
    walk_at "go"
    have nL0 := nL
    refine ob ⟨same_put s3 nL, ?_, _, ?_, rfl⟩
    · rw [upd_ne hLt.symm]
      exact gt3
    · rw [upd_same, show w1.length - (i + 1) = k by omega, sd, List.reverse_cons, List.map_append, pd, Int.mul_comm]
      rfl
  · intro σ H' h
    obtain ⟨s3, gt3, y, gL3, rfl⟩ := unob h
    rw [List.length_map, Nat.sub_self, List.drop_zero] at gL3
    exact kk _ _ ⟨s3, y, gL3, rfl⟩
end

end

section

-- a condition of an operator
local macro_rules | `(tactic| walk_at "cond") => `(tactic| first
  | (show (0 : Int) < _; omega)
  | (show CDiv _ _; constructor <;> (first | decide | omega))
  | (show CMul _ _; first | (refine cmul_l ?_; constructor <;> (first | decide | omega)) | (refine cmul_r ?_; constructor <;> (first | decide | omega)))
  | (show CPow _ _; exact (by refine ⟨by decide, by decide, by decide⟩))
  | (show CDivW _ _; exact ⟨by decide, by decide +kernel⟩))
local macro_rules | `(tactic| walk_at "sq") => `(tactic| first | assumption | exact Dh.mono (same_upd (by assumption)) _ _ (by assumption) | exact .inl (.inl (.inl (by assumption))) | exact .inr (.inl (.inl (by assumption))) | exact SqL.of (by assumption) | exact .inl (by assumption) | exact .inl (SqL.of (by assumption)) | exact SqT.of (by assumption) | exact .inr (SqT.of (by assumption)))
local macro_rules | `(tactic| walk_at "st") => `(tactic| first
  | refine ⟨_, rfl, ?_⟩
  | refine ⟨_, _, rfl, rfl, ?_⟩
  | refine .inl ⟨_, rfl, ?_⟩
  | refine ⟨rfl, ?_⟩
  | refine ⟨_, _, rfl, by walk_at "sq", ?_⟩
  | refine ⟨.inl ⟨rfl, _, SqL.of (by assumption)⟩, ?_⟩
  | refine ⟨by walk_at "cond", ?_⟩
  | (refine' ifBT ?hh ?_; (case hh => first | rfl | assumption))
  | (refine' ifBF ?hh ?_; (case hh => first | rfl | assumption)))
local macro_rules | `(tactic| walk_at "go") => `(tactic| repeat walk_at "st")
local macro_rules | `(tactic| walk_at "yes") => `(tactic| (refine' ifT ?hh ?_; (case hh => first | rfl | decide +kernel)))
local macro_rules | `(tactic| walk_at "no") => `(tactic| (refine' ifF ?hh ?_; (case hh => first | decide +kernel | (intro z; cases z; done))))

/-! ### Shape -/
abbrev s_Shape___init__ : Stmt := inClass (topS 15) 0
theorem sc_Shape___init__ : FnScope ["self", "widths"] ["self", "widths"] (C8.fnScope s_Shape___init__) := C8.fnScope_by (by decide +kernel)
abbrev s_Shape_span : Stmt := inClass (topS 15) 1
theorem sc_Shape_span : FnScope ["self", "level"] ["self", "level"] (C8.fnScope s_Shape_span) := C8.fnScope_by (by decide +kernel)
abbrev s_Shape_block_at : Stmt := inClass (topS 15) 4
theorem sc_Shape_block_at : FnScope ["self", "level", "page", "span", "start"] ["self", "level", "page"] (C8.fnScope s_Shape_block_at) := C8.fnScope_by (by decide +kernel)
structure STxt (K : PySem.W.Frag) (mg : Str → Option Value) (C : Addr) : Prop where
  cl : Cls K C
  nW : NoAttr K C "widths"
  nL : NoAttr K C "levels"
  nS : NoAttr K C "_spans"
  nP : NoAttr K C "page_count"
  mgC : mg "Shape" = some (.ref C)
def f1 (wt : Addr) : List (Str × V) := putF "widths" (.ref wt) []
def f2 (wt : Addr) (n : Nat) : List (Str × V) := putF "levels" (.int n) (f1 wt)
def f3 (wt : Addr) (n : Nat) (st : Addr) : List (Str × V) := putF "_spans" (.ref st) (f2 wt n)
def shF (wt st : Addr) (ws : List Int) : List (Str × V) := putF "page_count" (.int (prodI ws)) (f3 wt ws.length st)
theorem ne1 : ¬ (("widths" : Str) = "levels") := by decide +kernel
theorem ne2 : ¬ (("widths" : Str) = "_spans") := by decide +kernel
theorem ne3 : ¬ (("widths" : Str) = "page_count") := by decide +kernel
theorem ne4 : ¬ (("levels" : Str) = "_spans") := by decide +kernel
theorem ne5 : ¬ (("levels" : Str) = "page_count") := by decide +kernel
theorem ne6 : ¬ (("_spans" : Str) = "page_count") := by decide +kernel
theorem l1w {wt : Addr} : (f1 wt).lookup ("widths" : Str) = some (.ref wt) := by
  unfold f1
  rw [lookup_putF, if_pos rfl]
theorem l3w {wt st : Addr} {n : Nat} : (f3 wt n st).lookup ("widths" : Str) = some (.ref wt) := by
  unfold f3 f2
  rw [lookup_putF, if_neg ne2, lookup_putF, if_neg ne1, l1w]
theorem l2w {wt : Addr} {n : Nat} : (f2 wt n).lookup ("widths" : Str) = some (.ref wt) := by
  unfold f2
  rw [lookup_putF, if_neg ne1, l1w]
theorem l3s {wt st : Addr} {n : Nat} : (f3 wt n st).lookup ("_spans" : Str) = some (.ref st) := by
  unfold f3
  rw [lookup_putF, if_pos rfl]
theorem shw {wt st : Addr} {ws : List Int} : (shF wt st ws).lookup ("widths" : Str) = some (.ref wt) := by
  unfold shF
  rw [lookup_putF, if_neg ne3, l3w]
theorem shs {wt st : Addr} {ws : List Int} : (shF wt st ws).lookup ("_spans" : Str) = some (.ref st) := by
  unfold shF
  rw [lookup_putF, if_neg ne6, l3s]
theorem shl {wt st : Addr} {ws : List Int} : (shF wt st ws).lookup ("levels" : Str) = some (.int ws.length) := by
  unfold shF f3 f2
  rw [lookup_putF, if_neg ne5, lookup_putF, if_neg ne4, lookup_putF, if_pos rfl]
theorem shp {wt st : Addr} {ws : List Int} : (shF wt st ws).lookup ("page_count" : Str) = some (.int (prodI ws)) := by
  unfold shF
  rw [lookup_putF, if_pos rfl]
theorem sh_no {wt st : Addr} {ws : List Int} {m : Str} (h1 : ¬ m = "page_count") (h2 : ¬ m = "_spans") (h3 : ¬ m = "levels") (h4 : ¬ m = "widths") : (shF wt st ws).lookup m = none := by
  unfold shF f3 f2 f1
  rw [lookup_putF, if_neg h1, lookup_putF, if_neg h2, lookup_putF, if_neg h3, lookup_putF, if_neg h4]
  rfl
structure ShapeAt (C : Addr) (H : Hp) (p wt st dx : Addr) (ws : List Int) : Prop where
  g : H p = some (.ins C dx (shF wt st ws))
  w : H wt = some (.tup (ws.map V.int))
  s : H st = some (.tup ((spansOf ws).map V.int))
  sm : Small ws
theorem ShapeAt.same {C : Addr} {H H' : Hp} {p wt st dx : Addr} {ws : List Int} (h : ShapeAt C H p wt st dx ws) (s : Same H H') : ShapeAt C H' p wt st dx ws := ⟨s _ _ h.g, s _ _ h.w, s _ _ h.s, h.sm⟩
theorem spans_len : ∀ l : List Int, (spansOf l).length = l.length
  | [] => rfl
  | _ :: l => congrArg (· + 1) (spans_len l)
/-- the span of a level -/
def spanN (ws : List Int) (k : Nat) : Int := prodI (ws.drop (k + 1))
theorem spans_get : ∀ {ws : List Int} {k : Nat}, k < ws.length → (spansOf ws)[k]? = some (spanN ws k)
  | [], _, h => absurd h (Nat.not_lt_zero _)
  | _ :: _, 0, _ => rfl
  | _ :: ws, k + 1, h => by
    show (spansOf ws)[k]? = some (spanN ws k)
    exact spans_get (by simpa using h)
theorem prod_pos : ∀ {ws : List Int}, (∀ w ∈ ws, 2 ≤ w ∧ w ≤ 8) → 1 ≤ prodI ws ∧ prodI ws ≤ 8 ^ ws.length
  | [], _ => ⟨by decide, by decide⟩
  | w :: ws, h => by
    have h1 := h w List.mem_cons_self
    have h2 := prod_pos (ws := ws) fun x hx => h x (List.mem_cons_of_mem _ hx)
    show 1 ≤ w * prodI ws ∧ w * prodI ws ≤ _
    rw [List.length_cons, Int.pow_succ, Int.mul_comm _ 8]
    exact ⟨by
      have := Int.mul_le_mul (show (1 : Int) ≤ w by omega) h2.1 (by omega) (by omega)
      omega, Int.mul_le_mul h1.2 h2.2 (by omega) (by omega)⟩
def But (H H' : Hp) (p : Addr) : Prop := ∀ b o, b ≠ p → H b = some o → H' b = some o
def spShI (C : Addr) (K : PySem.W.Frag) : Sp := fun vs H Q _ => ∃ (p dx a : Addr) (ws : List Int), vs = [.ref p, .ref a] ∧ H p = some (.ins C dx []) ∧ (H a = some (.lst (ws.map V.int)) ∨ H a = some (.tup (ws.map V.int))) ∧ Small ws ∧
  ∀ wt st H', ShapeAt C H' p wt st dx ws → But H H' p → Q .non H'
def spSpan (C : Addr) : Sp := fun vs H Q _ => ∃ (p wt st dx : Addr) (ws : List Int) (k : Nat), vs = [.ref p, .int k] ∧ ShapeAt C H p wt st dx ws ∧ k < ws.length ∧ Q (.int (spanN ws k)) H
def spBlock (C D : Addr) : Sp := fun vs H Q E => ∃ (p wt st dx : Addr) (ws : List Int) (k : Nat) (i : Int), vs = [.ref p, .int k, .int i] ∧ ShapeAt C H p wt st dx ws ∧ k < ws.length ∧ -(10 ^ 9) ≤ i ∧ i ≤ 10 ^ 9 ∧
  ((0 ≤ i ∧ i < prodI ws) → ∀ r H', Same H H' → H' r = some (.tup [.int (i / spanN ws k * spanN ws k), .int (i / spanN ws k * spanN ws k + spanN ws k)]) → Q (.ref r) H') ∧
  (¬ (0 ≤ i ∧ i < prodI ws) → ∀ d, H d = none → E (.ref D) (some d) (upd H d (.xd (brF i (i + 1)))))
section
variable {P : Program} {w : World} {K : PySem.W.Frag} {mg : Str → Option Value} {base : Heap} {C D : Addr}
theorem ok_span {f : Addr} {fd : FuncData} (F : C8.Fun K "span" "Shape.span" s_Shape_span f fd) (M : Meth K C "span" f) (b : Binds K fd ["self", "level"] []) (T : STxt K mg C) : C8.Met P w K mg base 1 C "span" (spSpan C) [] := by
  refine C8.met0 T.cl M F b sc_Shape_span (fun vs H Q E h => ?_) (fun cdv A outer s H vs Q E hr h => ?_)
  · obtain ⟨p, wt, st, dx, ws, k, rfl, _⟩ := h
    rfl
  obtain ⟨p, wt, st, dx, ws, k, rfl, hs, hk, q⟩ := h
  have g := hs.g
  refine ⟨_, (pss_one (ps_ret (pe_ix (ixT K rfl) (pe_fld (pv 0) rfl) (pv 1) (fun _ _ => rfl)))), ?_⟩
  walk_at "go"
  refine ⟨_, _, _, _, _, rfl, g, T.cl, T.nS, shs, ?_⟩
  walk_at "go"
  refine ⟨_, _, _, _, rfl, rfl, SqT.of hs.s, atI_nat (by rw [List.getElem?_map, spans_get hk]; rfl), ?_⟩
  exact q
theorem log_small {i : Int} (h1 : -(10 ^ 10) ≤ i) (h2 : i ≤ 10 ^ 10) : i.natAbs.log2 < 1920 := by
  by_cases z : i.natAbs = 0
  · rw [z]
    decide
  · rw [Nat.log2_lt z]
    have : i.natAbs ≤ 10 ^ 10 := by omega
    exact Nat.lt_of_le_of_lt this (Nat.lt_of_lt_of_le (show 10 ^ 10 < 2 ^ 40 by decide) (Nat.pow_le_pow_right (by decide) (by decide)))
theorem ok_block {f : Addr} {fd : FuncData} (F : C8.Fun K "block_at" "Shape.block_at" s_Shape_block_at f fd) (M : Meth K C "block_at" f) (b : Binds K fd ["self", "level", "page"] []) (T : STxt K mg C)
    (e_check : CalE P w K mg base 3 "check_range" (spCheck D)) (m_span : C8.Met P w K mg base 1 C "span" (spSpan C) []) : MetE P w K mg base 4 C "block_at" (spBlock C D) := by
  refine metE T.cl M F b sc_Shape_block_at (fun vs H Q E h => ?_) (fun cdv A outer s H vs Q E hr h => ?_)
  · obtain ⟨p, wt, st, dx, ws, k, i, rfl, _⟩ := h
    rfl
  obtain ⟨p, wt, st, dx, ws, k, i, rfl, hs, hk, i0, i1, q1, q2⟩ := h
  have g := hs.g
  refine ⟨_, (pss_cons (ps_expr (pe_cE e_check (takes_of rfl rfl rfl rfl) hr (by omega) (by rfl) (pa_cons (pv 2) (pa_cons (pe_op op_add (pv 2) pe_int) (pa_cons (pe_fld (pv 0) rfl) pa_nil)))))
      (pss_cons (ps_set (i := 3) sc_Shape_block_at.nd rfl (.inl rfl) (C8.pe_mt m_span hr (by omega) (pv 0) (pa_cons (pv 1) pa_nil)))
      (pss_cons (ps_set (i := 4) sc_Shape_block_at.nd rfl (.inl rfl) (pe_op op_mul (pe_op op_fdiv (pv 2) (pv 3)) (pv 3)))
      (pss_one (ps_ret (pe_tup (pa_cons (pv 4) (pa_cons (pe_op op_add (pv 4) (pv 3)) pa_nil)))))))), ?_⟩
  walk_at "go"
  refine ⟨_, _, _, _, _, rfl, g, T.cl, T.nP, shp, ?_⟩
  walk_at "go"
  refine ⟨i, i + 1, prodI ws, rfl, log_small (by omega) (by omega), log_small (by omega) (by omega), fun z => ?_, fun z d nd => q2 (fun y => z ⟨y.1, by omega, by omega⟩) d nd⟩
  walk_at "go"
  refine ⟨p, dx, _, rfl, g, sh_no (by decide +kernel) (by decide +kernel) (by decide +kernel) (by decide +kernel), ?_⟩
  walk_at "go"
  refine ⟨p, wt, st, dx, ws, k, rfl, hs, hk, ?_⟩
  have pp := prod_pos (ws := ws.drop (k + 1)) fun x hx => hs.sm.2.2 x (List.mem_of_mem_drop hx)
  have s0 : 0 < spanN ws k := by
    show 0 < prodI _
    omega
  have s1 : spanN ws k ≤ 8 ^ 6 := by
    refine Int.le_trans pp.2 (Int.le_trans (b := ((8 ^ 6 : Nat) : Int)) ?_ (by decide))
    have h6 := hs.sm.2.1
    have : (8 : Nat) ^ (ws.drop (k + 1)).length ≤ 8 ^ 6 := Nat.pow_le_pow_right (by decide) (by rw [List.length_drop]; omega)
    exact_mod_cast this
  generalize spanN ws k = sp at *
  walk_at "go"
  refine ⟨sz, fun r nr => ?_⟩
  exact q1 ⟨z.1, by omega⟩ r _ (same_upd nr) upd_same
theorem ok_shI {f : Addr} {fd : FuncData} (F : C8.Fun K "__init__" "Shape.__init__" s_Shape___init__ f fd) (M : Mk K C f) (b : Binds K fd ["self", "widths"] []) (S : STxt K mg C) (T : Txt1 mg) (c__spans_of : Cal P w K mg base 1 "_spans_of" (spSpans K) []) : C8.Mak P w K mg base 2 "Shape" C (spShI C K) [] := by
  refine C8.mak0 M S.mgC F b .nil sc_Shape___init__ (fun vs H Q E h => ?_) (fun cdv A outer s H vs Q E hr h => ?_)
  · obtain ⟨p, dx, a, ws, rfl, _⟩ := h
    rfl
  obtain ⟨p, dx, a, ws, rfl, hp, hA, sm, q⟩ := h
  refine ⟨_, (pss_cons (ps_mk (ps_fld (pv 0) (pe_callTy call_tuple_of (by rfl) T.tuple (by decide +kernel) (pa_cons (pv 1) pa_nil)) rfl))
      (pss_cons (ps_fld (pv 0) (pe_callB (lenQ K rfl) (by rfl) T.len PySem.boot_len (pa_cons (pe_fld (pv 0) rfl) pa_nil)) rfl)
      (pss_cons (ps_fld (pv 0) (C8.pe_c c__spans_of hr (by omega) (by rfl) (pa_cons (pe_fld (pv 0) rfl) pa_nil)) rfl)
      (pss_one (ps_fld (pv 0) (pe_op op_mul (pe_ix (ixT K rfl) (pe_fld (pv 0) rfl) pe_int (fun _ _ => rfl)) (pe_ix (ixT K rfl) (pe_fld (pv 0) rfl) pe_int (fun _ _ => rfl))) rfl))))), ?_⟩
  refine jnS (M := fun σ H' => ∃ wt, H' p = some (.ins C dx (f1 wt)) ∧ H' wt = some (.tup (ws.map V.int)) ∧ But H H' p ∧ σ = [sR p, sR a]) ?_ (fun N kk => ?_)
  rotate_left
  · walk_at "go"
    rcases hA with hA | hA
    · refine ⟨a, _, rfl, .inl ⟨SqL.of hA, fun l nl => ?_⟩⟩
      have s1 := same_upd (o := HO.tup (ws.map V.int)) nl
      have hp1 := s1 _ _ hp
      have hlp : l ≠ p := (ne_of_none hp nl).symm
      refine ⟨_, rfl, p, C, dx, [], rfl, hp1, S.cl, S.nW, (by show 0 < 1000; decide), ?_⟩
      refine kk _ _ ⟨l, upd_same, ?_, fun c o n e => ?_, rfl⟩
      · rw [upd_ne hlp]
        exact upd_same
      · rw [upd_ne n]
        exact s1 _ _ e
    · refine ⟨a, _, rfl, .inr ⟨SqT.of hA, ?_⟩⟩
      have hap : a ≠ p := ne_of hA hp (fun z => by cases z)
      refine ⟨_, rfl, p, C, dx, [], rfl, hp, S.cl, S.nW, (by show 0 < 1000; decide), ?_⟩
      refine kk _ _ ⟨a, upd_same, ?_, fun c o n e => ?_, rfl⟩
      · rw [upd_ne hap]
        exact hA
      · rw [upd_ne n]
        exact e
  rintro σ H1 ⟨wt, g1, gw, b1, rfl⟩
  have hwp : wt ≠ p := ne_of gw g1 (fun z => by cases z)
  walk_at "go"
  refine ⟨_, _, _, _, _, rfl, g1, S.cl, S.nW, l1w, ?_⟩
  walk_at "go"
  obtain ⟨w0, w1, rfl⟩ : ∃ w0 w1, ws = w0 :: w1 := by
    cases ws with
    | nil => exact absurd rfl sm.1
    | cons a b => exact ⟨a, b, rfl⟩
  refine ⟨p, C, dx, _, rfl, g1, S.cl, S.nL, (by show 1 < 1000; decide), ?_⟩
  have el : putF "levels" (V.int (((w0 :: w1).map V.int).length : Nat)) (f1 wt) = f2 wt (w0 :: w1).length := by rw [List.length_map]; rfl
  rw [el]
  have g2 := upd_same (H := H1) (a := p) (o := HO.ins C dx (f2 wt (w0 :: w1).length))
  have gw2 : upd H1 p (HO.ins C dx (f2 wt (w0 :: w1).length)) wt = some (.tup ((w0 :: w1).map V.int)) := by rw [upd_ne hwp]; exact gw
  have b2 : But H (upd H1 p (HO.ins C dx (f2 wt (w0 :: w1).length))) p := fun c o n e => by
    rw [upd_ne n]
    exact b1 _ _ n e
  generalize upd H1 p (HO.ins C dx (f2 wt (w0 :: w1).length)) = H2 at *
  walk_at "go"
  refine ⟨_, _, _, _, _, rfl, g2, S.cl, S.nW, l2w, ?_⟩
  walk_at "go"
  refine ⟨sm, fun st H3 s3 nst gst => ?_⟩
  have g3 := s3 _ _ g2
  have gw3 := s3 _ _ gw2
  have hsp : st ≠ p := (ne_of_none g2 nst).symm
  walk_at "go"
  refine ⟨p, C, dx, _, rfl, g3, S.cl, S.nS, (by show 2 < 1000; decide), ?_⟩
  show _
  have g4 := upd_same (H := H3) (a := p) (o := HO.ins C dx (f3 wt (w0 :: w1).length st))
  have gw4 : upd H3 p (HO.ins C dx (f3 wt (w0 :: w1).length st)) wt = some (.tup ((w0 :: w1).map V.int)) := by rw [upd_ne hwp]; exact gw3
  have gs4 : upd H3 p (HO.ins C dx (f3 wt (w0 :: w1).length st)) st = some (.tup ((spansOf (w0 :: w1)).map V.int)) := by rw [upd_ne hsp]; exact gst
  have b4 : But H (upd H3 p (HO.ins C dx (f3 wt (w0 :: w1).length st))) p := fun c o n e => by
    rw [upd_ne n]
    exact s3 _ _ (b2 _ _ n e)
  have e3 : upd H3 p (HO.ins C dx (putF "_spans" (V.ref st) (f2 wt (w0 :: w1).length))) = upd H3 p (HO.ins C dx (f3 wt (w0 :: w1).length st)) := rfl
  rw [e3]
  generalize upd H3 p (HO.ins C dx (f3 wt (w0 :: w1).length st)) = H4 at *
  have hw0 := sm.2.2 w0 List.mem_cons_self
  walk_at "go"
  refine ⟨_, _, _, _, _, rfl, g4, S.cl, S.nW, l3w, ?_⟩
  walk_at "go"
  refine ⟨_, _, _, .int w0, rfl, rfl, SqT.of gw4, atI_nat (j := 0) rfl, ?_⟩
  walk_at "go"
  refine ⟨_, _, _, _, _, rfl, g4, S.cl, S.nS, l3s, ?_⟩
  walk_at "go"
  refine ⟨_, _, _, .int (prodI w1), rfl, rfl, SqT.of gs4, atI_nat (j := 0) rfl, ?_⟩
  walk_at "go"
  refine ⟨p, C, dx, _, rfl, g4, S.cl, S.nP, (by show 3 < 1000; decide), ?_⟩
  refine q wt st _ ⟨upd_same, by rw [upd_ne hwp]; exact gw4, by rw [upd_ne hsp]; exact gs4, sm⟩ fun c o n e => ?_
  rw [upd_ne n]
  exact b4 _ _ n e
end

end

section

-- a condition of an operator
local macro_rules | `(tactic| walk_at "cond") => `(tactic| first
  | (show (0 : Int) < _; omega)
  | (show CDiv _ _; constructor <;> (first | decide | omega))
  | (show CMul _ _; first | (refine cmul_l ?_; constructor <;> (first | decide | omega)) | (refine cmul_r ?_; constructor <;> (first | decide | omega)))
  | (show CPow _ _; exact (by refine ⟨by decide, by decide, by decide⟩))
  | (show CDivW _ _; exact ⟨by decide, by decide +kernel⟩))
local macro_rules | `(tactic| walk_at "sq") => `(tactic| first | assumption | exact Dh.mono (same_upd (by assumption)) _ _ (by assumption) | exact .inl (.inl (.inl (by assumption))) | exact .inr (.inl (.inl (by assumption))) | exact SqL.of (by assumption) | exact .inl (by assumption) | exact .inl (SqL.of (by assumption)) | exact SqT.of (by assumption) | exact .inr (SqT.of (by assumption)))
local macro_rules | `(tactic| walk_at "st") => `(tactic| first
  | refine ⟨_, rfl, ?_⟩
  | refine ⟨_, _, rfl, rfl, ?_⟩
  | refine .inl ⟨_, rfl, ?_⟩
  | refine ⟨rfl, ?_⟩
  | refine ⟨_, _, rfl, by walk_at "sq", ?_⟩
  | refine ⟨.inl ⟨rfl, _, SqL.of (by assumption)⟩, ?_⟩
  | refine ⟨by walk_at "cond", ?_⟩
  | (refine' ifBT ?hh ?_; (case hh => first | rfl | assumption))
  | (refine' ifBF ?hh ?_; (case hh => first | rfl | assumption)))
local macro_rules | `(tactic| walk_at "go") => `(tactic| repeat walk_at "st")
local macro_rules | `(tactic| walk_at "yes") => `(tactic| (refine' ifT ?hh ?_; (case hh => first | rfl | decide +kernel)))
local macro_rules | `(tactic| walk_at "no") => `(tactic| (refine' ifF ?hh ?_; (case hh => first | decide +kernel | (intro z; cases z; done))))

/-! ### _law_fan_spans, _law_fan, _law_page -/
abbrev s_fan_spans : Stmt := topS 23
theorem sc_fan_spans : FnScope ["_law_fan_here", "_law_spans", "_law_level", "_law_span", "_law_one"] ["_law_fan_here"] (C8.fnScope s_fan_spans) := C8.fnScope_by (by decide +kernel)
def spFanSpans (K : PySem.W.Frag) : Sp := fun vs H Q _ => ∃ (a : Addr) (ws : List Int), vs = [.ref a] ∧ SqL K H a (ws.map V.int) ∧ Small ws ∧ ∀ r H', Same H H' → H r = none → H' r = some (.lst ((spansOf ws).map V.int)) → Q (.ref r) H'
theorem cut_from (xs : List V) (k : Nat) (h : k + 1 ≤ xs.length) : cutV xs (some (((k : Nat) : Int) + 1)) none = xs.drop (k + 1) := by
  unfold cutV
  have e : ((k : Nat) : Int) + 1 = ((k + 1 : Nat) : Int) := by omega
  rw [e, HT.sIx_nat, HT.sIx_none, Nat.min_eq_left h, List.take_of_length_le (by rw [List.length_drop]; exact Nat.le_refl _)]
theorem prod_snoc : ∀ (l : List Int) (x : Int), prodI (l ++ [x]) = prodI l * x
  | [], x => by
    show x * 1 = 1 * x
    omega
  | a :: l, x => by
    show a * prodI (l ++ [x]) = a * prodI l * x
    rw [prod_snoc l x, Int.mul_assoc]
theorem take_snoc {l : List Int} {i : Nat} (h : i < l.length) : prodI (l.take (i + 1)) = prodI (l.take i) * l[i] := by
  rw [List.take_add_one, List.getElem?_eq_getElem h]
  exact prod_snoc _ _
section
variable {P : Program} {w : World} {K : PySem.W.Frag} {mg : Str → Option Value} {base : Heap}
theorem ok_fan_spans {f : Addr} {fd : FuncData} (D : Def K mg "_law_fan_spans" s_fan_spans f fd) (b : Binds K fd ["_law_fan_here"] []) (T : Txt mg) : Cal P w K mg base 1 "_law_fan_spans" (spFanSpans K) [] := by
  refine cal0 D b .nil sc_fan_spans (fun vs H Q E h => ?_) (fun cdv A outer s H vs Q E hr h => ?_)
  · obtain ⟨a, ws, rfl, _⟩ := h
    rfl
  obtain ⟨a, ws, rfl, ha, sm, q⟩ := h
  refine ⟨_, (pss_cons (ps_set (i := 1) sc_fan_spans.nd rfl (.inl rfl) (pe_lst pa_nil))
      (pss_cons (ps_mk (ps_for PassesOwn.never rfl (pi_range1 (by rfl) T.range (pa_cons (pe_callB (lenQ K rfl) (by rfl) T.len PySem.boot_len (pa_cons (pv 0) pa_nil)) pa_nil)) (pg_name (i := 2) sc_fan_spans.nd rfl (.inl rfl))
      (pss_cons (ps_set (i := 3) sc_fan_spans.nd rfl (.inl rfl) pe_int)
      (pss_cons (ps_mk (ps_for PassesOwn.never rfl (pi_list (pe_slice sl_list (pv 0) (po_some (pe_op op_add (pv 2) pe_int)) po_none)) (pg_name (i := 4) sc_fan_spans.nd rfl (.inl rfl))
      (pss_one (ps_set (i := 3) sc_fan_spans.nd rfl (.inl rfl) (pe_op op_mul (pv 3) (pv 4))))))
      (pss_one (ps_expr (pe_bm PySem.F.plainAttrs_list PySem.F.slot_list_append PySem.F.type_list_append mt_append (pv 1) (pa_cons (pv 3) pa_nil))))))))
      (pss_one (ps_ret (pv 1))))), ?_⟩
  walk_at "go"
  refine ⟨sz, fun L nL => ?_⟩
  have s1 := same_upd (o := HO.lst []) nL
  have gL := upd_same (H := H) (a := L) (o := HO.lst [])
  generalize upd H L (HO.lst []) = H1 at *
  refine jnS (M := fun σ H' => Same H H' ∧ ∃ y2 y3 y4, H' L = some (.lst ((spansOf ws).map V.int)) ∧ σ = [sR a, sR L, y2, y3, y4]) ?_ (fun N kk => ?_)
  · rintro σ H2 ⟨s2, y2, y3, y4, g2, rfl⟩
    walk_at "go"
    exact q L _ s2 nL g2
  have h6 := sm.2.1
  have ha1 := s1.seq ha
  walk_at "go"
  rw [List.length_map]
  refine ⟨by omega, by omega, for_range (lo := 0) (n := ws.length) (fun j σ H' => Ob (Same H H' ∧ ∃ y2 y3 y4, H' L = some (.lst (((spansOf ws).take j).map V.int)) ∧ σ = [sR a, sR L, y2, y3, y4])) (ob ⟨s1, none, none, none, gL, rfl⟩) ?_ ?_⟩
  · intro j σ H2 hj h
    obtain ⟨s2, y2, y3, y4, g2, rfl⟩ := unob h
    clear h kk ha1 gL s1
    have ha2 := s2.seq ha
    rw [Int.zero_add]
    walk_at "go"
    refine jnS (M := fun σ H' => Same H H' ∧ ∃ y4, H' L = some (.lst (((spansOf ws).take j).map V.int)) ∧ σ = [sR a, sR L, sI j, sI (spanN ws j), y4]) ?_ (fun N kk => ?_)
    · rintro σ H3 ⟨s3, y4, g3, rfl⟩
      walk_at "go"
      refine ⟨L, _, _, rfl, rfl, g3, sz5 (by rw [List.length_map, List.length_take, spans_len]; omega), ?_⟩
      refine ob ⟨same_put s3 nL, _, _, _, ?_, rfl⟩
      rw [upd_same, List.take_add_one, spans_get hj, List.map_append]
      rfl
    walk_at "go"
    intro t nt
    have ec : cutV (ws.map V.int) (some ((j : Int) + 1)) none = (ws.drop (j + 1)).map V.int := by
      rw [cut_from _ _ (by rw [List.length_map]; omega), List.map_drop]
    have s3 := same_upd (o := HO.lst (cutV (ws.map V.int) (some ((j : Int) + 1)) none)) nt
    have gt := upd_same (H := H2) (a := t) (o := HO.lst (cutV (ws.map V.int) (some ((j : Int) + 1)) none))
    have g3 := s3 _ _ g2
    have s23 := s2.trans s3
    rw [ec] at s3 gt g3 s23 ⊢
    generalize upd H2 t (HO.lst ((ws.drop (j + 1)).map V.int)) = H3 at *
    have sd : ∀ x ∈ ws.drop (j + 1), 2 ≤ x ∧ x ≤ 8 := fun x hx => sm.2.2 x (List.mem_of_mem_drop hx)
    refine ⟨t, rfl, ⟨_, SqL.of gt⟩, for_list (K := K) (a := t) (xs := (ws.drop (j + 1)).map V.int) (fun i σ H' => Ob (H' = H3 ∧ ∃ y4, σ = [sR a, sR L, sI j, sI (prodI ((ws.drop (j + 1)).take i)), y4])) (ob ⟨rfl, y4, rfl⟩) (fun i σ H' _ h => by rw [(unob h).1]; exact SqL.of gt) ?_ ?_⟩
    · intro i x σ H' hi h
      obtain ⟨rfl, y4, rfl⟩ := unob h
      have hil : i < (ws.drop (j + 1)).length := by
        have z := (List.getElem?_eq_some_iff.mp hi).1
        rw [List.length_map] at z
        exact z
      obtain rfl : x = .int (ws.drop (j + 1))[i] := by
        rw [List.getElem?_map, List.getElem?_eq_getElem hil] at hi
        exact (Option.some.inj hi).symm
      have hx := sd _ (List.getElem_mem hil)
      have ts := take_snoc hil
      generalize (ws.drop (j + 1))[i] = xv at *
      walk_at "go"
      refine ob ⟨rfl, sI xv, ?_⟩
      rw [ts]
      rfl
    · intro σ H' h
      obtain ⟨rfl, y4, rfl⟩ := unob h
      rw [List.length_map, List.take_length]
      exact kk _ _ ⟨s23, y4, g3, rfl⟩
  · intro σ H2 h
    obtain ⟨s2, y2, y3, y4, g2, rfl⟩ := unob h
    rw [List.take_of_length_le (by rw [spans_len]; exact Nat.le_refl _)] at g2
    exact kk _ _ ⟨s2, y2, y3, y4, g2, rfl⟩
end

end

section

-- a condition of an operator
local macro_rules | `(tactic| walk_at "cond") => `(tactic| first
  | (show (0 : Int) < _; omega)
  | (show CDiv _ _; constructor <;> (first | decide | omega))
  | (show CMul _ _; first | (refine cmul_l ?_; constructor <;> (first | decide | omega)) | (refine cmul_r ?_; constructor <;> (first | decide | omega)))
  | (show CPow _ _; exact (by refine ⟨by decide, by decide, by decide⟩))
  | (show CDivW _ _; exact ⟨by decide, by decide +kernel⟩))
local macro_rules | `(tactic| walk_at "sq") => `(tactic| first | assumption | exact Dh.mono (same_upd (by assumption)) _ _ (by assumption) | exact .inl (.inl (.inl (by assumption))) | exact .inr (.inl (.inl (by assumption))) | exact SqL.of (by assumption) | exact .inl (by assumption) | exact .inl (SqL.of (by assumption)) | exact SqT.of (by assumption) | exact .inr (SqT.of (by assumption)))
local macro_rules | `(tactic| walk_at "st") => `(tactic| first
  | refine ⟨_, rfl, ?_⟩
  | refine ⟨_, _, rfl, rfl, ?_⟩
  | refine .inl ⟨_, rfl, ?_⟩
  | refine ⟨rfl, ?_⟩
  | refine ⟨_, _, rfl, by walk_at "sq", ?_⟩
  | refine ⟨.inl ⟨rfl, _, SqL.of (by assumption)⟩, ?_⟩
  | refine ⟨by walk_at "cond", ?_⟩
  | (refine' ifBT ?hh ?_; (case hh => first | rfl | assumption))
  | (refine' ifBF ?hh ?_; (case hh => first | rfl | assumption)))
local macro_rules | `(tactic| walk_at "go") => `(tactic| repeat walk_at "st")
local macro_rules | `(tactic| walk_at "yes") => `(tactic| (refine' ifT ?hh ?_; (case hh => first | rfl | decide +kernel)))
local macro_rules | `(tactic| walk_at "no") => `(tactic| (refine' ifF ?hh ?_; (case hh => first | decide +kernel | (intro z; cases z; done))))

/-! ### _law_number -/
/-- n times // 1000 -/
def itd : Nat → Int → Int
  | 0, r => r
  | n + 1, r => itd n r / 1000
theorem itd_zero : ∀ n, itd n 0 = 0
  | 0 => rfl
  | n + 1 => by
    show itd n 0 / 1000 = 0
    rw [itd_zero n]
    rfl
theorem itd_add (r : Int) (h : itd n r = 0) : ∀ m, itd (n + m) r = 0
  | 0 => h
  | m + 1 => by
    show itd (n + m) r / 1000 = 0
    rw [itd_add r h m]
    rfl
theorem itd_nn {r : Int} (h : 0 ≤ r) : ∀ n, 0 ≤ itd n r
  | 0 => h
  | n + 1 => Int.ediv_nonneg (itd_nn h n) (by decide)
def nCell (ns : List Int) (i : Int) : Int := if ns.length = 0 then 0 else (ns.getD (i % (ns.length : Int)).toNat 0).natAbs
def nTurn (ns : List Int) (i : Int) : Int := if ns.length = 0 then i else i / (ns.length : Int)
def nPick (ns : List Int) (i k : Int) : Int := k + 16 * nTurn ns i
def nMix (c p : Int) : Int :=
  let a := (c + 7919 * p + 13) % 2147483647
  let b := (a * (a + 48271)) % 2147483629
  (b * (b + 69621) + 31 * p) % 2147483647
def num (ns : List Int) (i k size : Int) : Int :=
  let c := nCell ns i
  let p := nPick ns i k
  if c ≥ 10 ^ 18 then
    if itd p.toNat (c / 10 ^ 18) > 0 then itd p.toNat (c / 10 ^ 18) % 1000 % size else nMix c p / 9 % size
  else nMix c p / 9 % size
theorem num_nn {ns : List Int} {i k size : Int} (h : 0 < size) : 0 ≤ num ns i k size := by
  unfold num
  dsimp only
  split
  · split
    · exact Int.emod_nonneg _ (by omega)
    · exact Int.emod_nonneg _ (by omega)
  · exact Int.emod_nonneg _ (by omega)
theorem num_lt {ns : List Int} {i k size : Int} (h : 0 < size) : num ns i k size < size := by
  unfold num
  dsimp only
  split
  · split
    · exact Int.emod_lt_of_pos _ h
    · exact Int.emod_lt_of_pos _ h
  · exact Int.emod_lt_of_pos _ h
def spNum (K : PySem.W.Frag) : Sp := fun vs H Q _ => ∃ (a : Addr) (ns : List Int) (i k size : Int), vs = [.ref a, .int i, .int k, .int size] ∧ SqL K H a (ns.map V.int) ∧ ns.length ≤ 63 ∧
  0 ≤ i ∧ i ≤ 1000000000 ∧ 0 ≤ k ∧ k ≤ 1000000000 ∧ 0 < size ∧ Q (.int (num ns i k size)) H

abbrev s_number : Stmt := topS 20
theorem sc_number : FnScope ["_law_script", "_law_at", "_law_k", "_law_size", "_law_cell", "_law_turn", "_law_pick", "_law_rest", "_law_step", "_law_mixed"] ["_law_script", "_law_at", "_law_k", "_law_size"] (C8.fnScope s_number) := C8.fnScope_by (by decide +kernel)
section
variable {P : Program} {w : World} {K : PySem.W.Frag} {mg : Str → Option Value} {base : Heap}
theorem ok_number {f : Addr} {fd : FuncData} (D : Def K mg "_law_number" s_number f fd) (b : Binds K fd ["_law_script", "_law_at", "_law_k", "_law_size"] []) (T : Txt mg) : Cal P w K mg base 1 "_law_number" (spNum K) [] := by
  refine cal0 D b .nil sc_number (fun vs H Q E h => ?_) (fun cdv A outer s H vs Q E hr h => ?_)
  · obtain ⟨a, ns, i, k, size, rfl, _⟩ := h
    rfl
  obtain ⟨a, ns, i, k, size, rfl, hS, hl, i0, i1, k0, k1, hz, q⟩ := h
  refine ⟨_, (pss_cons (ps_set (i := 4) sc_number.nd rfl (.inl rfl) pe_int)
      (pss_cons (ps_set (i := 5) sc_number.nd rfl (.inl rfl) (pv 1))
      (pss_cons (ps_mk (ps_if (pt_cmpR op_gt (pe_callB (lenQ K rfl) (by rfl) T.len PySem.boot_len (pa_cons (pv 0) pa_nil)) pe_int (nomark _))
      (pss_cons (ps_set (i := 4) sc_number.nd rfl (.inl rfl) (pe_callB call_abs (by rfl) T.abs (by decide +kernel) (pa_cons (pe_ix (ixL K rfl) (pv 0) (pe_op op_mod (pe_callTy call_int1 (by rfl) T.int (by decide +kernel) (pa_cons (pv 1) pa_nil)) (pe_callB (lenQ K rfl) (by rfl) T.len PySem.boot_len (pa_cons (pv 0) pa_nil))) (fun _ _ => rfl)) pa_nil)))
      (pss_one (ps_set (i := 5) sc_number.nd rfl (.inl rfl) (pe_op op_fdiv (pv 1) (pe_callB (lenQ K rfl) (by rfl) T.len PySem.boot_len (pa_cons (pv 0) pa_nil))))))
      pss_nil))
      (pss_cons (ps_set (i := 6) sc_number.nd rfl (.inl rfl) (pe_op op_add (pv 2) (pe_op op_mul pe_int (pv 5))))
      (pss_cons (ps_mk (ps_if (pt_cmpR op_ge (pv 4) (pe_op op_pow pe_int pe_int) (nomark _))
      (pss_cons (ps_set (i := 7) sc_number.nd rfl (.inl rfl) (pe_op op_fdivW (pv 4) (pe_op op_pow pe_int pe_int)))
      (pss_cons (ps_mk (ps_for PassesOwn.never rfl (pi_range1 (by rfl) T.range (pa_cons (pv 6) pa_nil)) (pg_name (i := 8) sc_number.nd rfl (.inl rfl))
      (pss_cons (ps_mk (ps_if (pt_cmpR op_eq (pv 7) pe_int (nomark _))
      (pss_one ps_break)
      pss_nil))
      (pss_one (ps_set (i := 7) sc_number.nd rfl (.inl rfl) (pe_op op_fdiv (pv 7) pe_int))))))
      (pss_one (ps_mk (ps_if (pt_cmpR op_gt (pv 7) pe_int (nomark _))
      (pss_one (ps_ret (pe_op op_mod (pe_callTy call_int1 (by rfl) T.int (by decide +kernel) (pa_cons (pe_op op_mod (pe_callTy call_int1 (by rfl) T.int (by decide +kernel) (pa_cons (pv 7) pa_nil)) pe_int) pa_nil)) (pv 3))))
      pss_nil)))))
      pss_nil))
      (pss_cons (ps_set (i := 9) sc_number.nd rfl (.inl rfl) (pe_op op_mod (pe_callTy call_int1 (by rfl) T.int (by decide +kernel) (pa_cons (pe_op op_add (pe_op op_add (pv 4) (pe_op op_mul pe_int (pv 6))) pe_int) pa_nil)) pe_int))
      (pss_cons (ps_set (i := 9) sc_number.nd rfl (.inl rfl) (pe_op op_mod (pe_callTy call_int1 (by rfl) T.int (by decide +kernel) (pa_cons (pe_op op_mul (pv 9) (pe_op op_add (pv 9) pe_int)) pa_nil)) pe_int))
      (pss_cons (ps_set (i := 9) sc_number.nd rfl (.inl rfl) (pe_op op_mod (pe_callTy call_int1 (by rfl) T.int (by decide +kernel) (pa_cons (pe_op op_add (pe_op op_mul (pv 9) (pe_op op_add (pv 9) pe_int)) (pe_op op_mul pe_int (pv 6))) pa_nil)) pe_int))
      (pss_one (ps_ret (pe_op op_mod (pe_callTy call_int1 (by rfl) T.int (by decide +kernel) (pa_cons (pe_op op_fdiv (pv 9) pe_int) pa_nil)) (pv 3)))))))))))), ?_⟩
  have hml : (ns.map V.int).length = ns.length := List.length_map _
  have t0 : 0 ≤ nTurn ns i ∧ nTurn ns i ≤ 1000000000 := by
    unfold nTurn
    split
    · exact ⟨i0, i1⟩
    · exact ⟨Int.ediv_nonneg i0 (by omega), Int.le_trans (Int.ediv_le_self _ i0) i1⟩
  have p0 : 0 ≤ nPick ns i k ∧ nPick ns i k ≤ 17000000000 := by
    unfold nPick
    omega
  walk_at "go"
  refine jn (M := fun σ H' => ∃ c t : Int, c = nCell ns i ∧ t = nTurn ns i ∧ H' = H ∧ σ = [sR a, sI i, sI k, sI size, sI c, sI t, none, none, none, none]) ?_ (fun N kk => ?_)
  · rintro σ H' ⟨c, t, ec, et, rfl, rfl⟩
    walk_at "go"
    -- behind the pick
    have ep : k + 16 * t = nPick ns i k := by
      rw [et]
      rfl
    have c0 : 0 ≤ c := by
      rw [ec]
      unfold nCell
      split <;> omega
    have en : c < 10 ^ 18 ∨ ¬ itd (nPick ns i k).toNat (c / 10 ^ 18) > 0 → num ns i k size = nMix c (nPick ns i k) / 9 % size := fun h => by
      unfold num
      dsimp only
      rw [← ec]
      rcases h with h | h
      · rw [if_neg (by omega)]
      · split
        · rfl
        · rfl
    refine jn (M := fun σ H2 => H2 = H' ∧ (c < 10 ^ 18 ∨ ¬ itd (nPick ns i k).toNat (c / 10 ^ 18) > 0) ∧ ∃ y8 y9, σ = [sR a, sI i, sI k, sI size, sI c, sI t, sI (nPick ns i k), y8, y9, none]) ?_ (fun N kk => ?_)
    · rintro σ H2 ⟨rfl, hc, y8, y9, rfl⟩
      walk_at "go"
      have e := en hc
      unfold nMix at e
      dsimp only at e
      rw [e] at q
      exact q
    · walk_at "go"
      refine ifD (fun g => ?_) (fun g => ?_)
      · have g' : c ≥ 10 ^ 18 := g
        walk_at "go"
        have r0 : 0 ≤ c / 10 ^ 18 := Int.ediv_nonneg c0 (by decide)
        refine jn (M := fun σ H2 => H2 = H' ∧ ∃ y9, σ = [sR a, sI i, sI k, sI size, sI c, sI t, sI (nPick ns i k), sI (itd (nPick ns i k).toNat (c / 10 ^ 18)), y9, none]) ?_ (fun N2 k2 => ?_)
        · rintro σ H2 ⟨rfl, y9, rfl⟩
          refine un ?_
          walk_at "go"
          refine ifD (fun g2 => ?_) (fun g2 => ?_)
          · walk_at "go"
            have e : num ns i k size = itd (nPick ns i k).toNat (c / 10 ^ 18) % 1000 % size := by
              unfold num
              dsimp only
              rw [← ec, if_pos g', if_pos g2]
            rw [e] at q
            exact q
          · walk_at "go"
            exact kk _ _ ⟨rfl, .inr g2, _, _, rfl⟩
        · walk_at "go"
          refine ⟨(show -(2 ^ 62) ≤ k + 16 * t by omega), (show k + 16 * t < 2 ^ 62 by omega), for_range (lo := 0) (n := (k + 16 * t).toNat) (fun j σ H2 => Ob (H2 = H' ∧ ∃ y9, σ = [sR a, sI i, sI k, sI size, sI c, sI t, sI (nPick ns i k), sI (itd j (c / 10 ^ 18)), y9, none])) (ob ⟨rfl, none, ?_⟩) ?_ ?_⟩
          · rw [← ep]
            rfl
          · rintro j σ H2 hj h
            obtain ⟨rfl, y9, rfl⟩ := unob h
            refine un ?_
            walk_at "go"
            refine ifEq (fun z => ?_) (fun z => ?_)
            · walk_at "go"
              refine k2 _ _ ⟨rfl, sI (0 + (j : Int)), ?_⟩
              have z2 : itd (nPick ns i k).toNat (c / 10 ^ 18) = 0 := by
                have z3 := itd_add _ z ((nPick ns i k).toNat - j)
                rw [show j + ((nPick ns i k).toNat - j) = (nPick ns i k).toNat by omega] at z3
                exact z3
              rw [z2, ← z]
              rfl
            · walk_at "go"
              exact ob ⟨rfl, _, rfl⟩
          · rintro σ H2 h
            obtain ⟨rfl, y9, rfl⟩ := unob h
            refine k2 _ _ ⟨rfl, y9, ?_⟩
            rw [ep]
      · walk_at "go"
        have g' : ¬ c ≥ 10 ^ 18 := g
        refine kk _ _ ⟨rfl, .inl (by omega), none, none, ?_⟩
        rw [← ep]
        rfl
  · walk_at "go"
    refine ifD (fun c => ?_) (fun c => ?_)
    · walk_at "go"
      rw [hml] at c
      refine ⟨_, _, _, _, rfl, rfl, hS, atI_getD (Int.emod_nonneg _ (by omega)) (by rw [hml]; exact Int.emod_lt_of_pos _ (by omega)), ?_⟩
      walk_at "go"
      refine kk _ _ ⟨_, _, ?_, ?_, rfl, rfl⟩
      · unfold nCell
        rw [if_neg (show ¬ ns.length = 0 by omega)]
        simp only [hml]
        split
        · omega
        · omega
      · unfold nTurn
        rw [if_neg (by omega), hml]
    · walk_at "go"
      rw [hml] at c
      refine kk _ _ ⟨_, _, ?_, ?_, rfl, rfl⟩
      · unfold nCell
        rw [if_pos (by omega)]
      · unfold nTurn
        rw [if_pos (by omega)]
end

local macro_rules | `(tactic| walk_at "st") => `(tactic| refine ⟨_, _, _, _, _, rfl, by assumption, by assumption, by omega, by omega, by omega, by omega, by omega, ?_⟩)
local macro_rules | `(tactic| walk_at "st") => `(tactic| refine ⟨_, _, _, _, _, rfl, Same.seq (by assumption) (by assumption), by assumption, by omega, by omega, by omega, by omega, by omega, ?_⟩)

/-! ### _law_fan -/
abbrev s_fan : Stmt := topS 24
theorem sc_fan : FnScope ["_law_script", "_law_at", "_law_most", "_law_fan_here", "_law_total", "_law_k", "_law_width"] ["_law_script", "_law_at", "_law_most"] (C8.fnScope s_fan) := C8.fnScope_by (by decide +kernel)
def spFan (K : PySem.W.Frag) : Sp := fun vs H Q _ => ∃ (a : Addr) (ns : List Int) (i mo : Int), vs = [.ref a, .int i, .int mo] ∧ 8 ≤ mo ∧ mo ≤ 4096 ∧ SqL K H a (ns.map V.int) ∧ ns.length ≤ 63 ∧ 0 ≤ i ∧ i ≤ 1000000 ∧
  ∀ r ws H', Same H H' → H r = none → Small ws → prodI ws ≤ 4096 → H' r = some (.lst (ws.map V.int)) → Q (.ref r) H'
section
variable {P : Program} {w : World} {K : PySem.W.Frag} {mg : Str → Option Value} {base : Heap}
theorem ok_fan {f : Addr} {fd : FuncData} (D : Def K mg "_law_fan" s_fan f fd) (b : Binds K fd ["_law_script", "_law_at", "_law_most"] []) (T : Txt mg) (c_number : Cal P w K mg base 1 "_law_number" (spNum K) []) : Cal P w K mg base 2 "_law_fan" (spFan K) [] := by
  refine cal0 D b .nil sc_fan (fun vs H Q E h => ?_) (fun cdv A outer s H vs Q E hr h => ?_)
  · obtain ⟨a, ns, i, mo, rfl, _⟩ := h
    rfl
  obtain ⟨a, ns, i, mo, rfl, mo0, mo1, ha, hl, i0, i1, q⟩ := h
  refine ⟨_, (pss_cons (ps_set (i := 3) sc_fan.nd rfl (.inl rfl) (pe_lst pa_nil))
      (pss_cons (ps_set (i := 4) sc_fan.nd rfl (.inl rfl) pe_int)
      (pss_cons (ps_mk (ps_for PassesOwn.never rfl (pi_range1 (by rfl) T.range (pa_cons (pe_op op_add pe_int (C8.pe_c c_number hr (by omega) (by rfl) (pa_cons (pv 0) (pa_cons (pv 1) (pa_cons pe_int (pa_cons pe_int pa_nil)))))) pa_nil)) (pg_name (i := 5) sc_fan.nd rfl (.inl rfl))
      (pss_cons (ps_set (i := 6) sc_fan.nd rfl (.inl rfl) (pe_op op_add pe_int (C8.pe_c c_number hr (by omega) (by rfl) (pa_cons (pv 0) (pa_cons (pv 1) (pa_cons (pv 5) (pa_cons pe_int pa_nil)))))))
      (pss_one (ps_mk (ps_if (pt_cmpR op_le (pe_op op_mul (pv 4) (pv 6)) (pv 2) (nomark _))
      (pss_cons (ps_expr (pe_bm PySem.F.plainAttrs_list PySem.F.slot_list_append PySem.F.type_list_append mt_append (pv 3) (pa_cons (pv 6) pa_nil)))
      (pss_one (ps_set (i := 4) sc_fan.nd rfl (.inl rfl) (pe_op op_mul (pv 4) (pv 6)))))
      pss_nil))))))
      (pss_one (ps_ret (pv 3)))))), ?_⟩
  walk_at "go"
  refine ⟨sz, fun L nL => ?_⟩
  have s1 := same_upd (o := HO.lst []) nL
  have gL := upd_same (H := H) (a := L) (o := HO.lst [])
  have ha1 := s1.seq ha
  generalize upd H L (HO.lst []) = H1 at *
  walk_at "go"
  refine jnS (M := fun σ H' => Same H H' ∧ ∃ (ws : List Int) (y4 y5 y6 : Option V), Small ws ∧ prodI ws ≤ mo ∧ H' L = some (.lst (ws.map V.int)) ∧ σ = [sR a, sI i, sI mo, sR L, y4, y5, y6]) ?_ (fun N kk => ?_)
  · rintro σ H2 ⟨s2, ws, y4, y5, y6, sm, pl, g2, rfl⟩
    walk_at "go"
    exact q L ws _ s2 nL sm (Int.le_trans pl mo1) g2
  have n0 : 0 ≤ num ns i 6 4 := num_nn (by decide)
  have n1 : num ns i 6 4 < 4 := num_lt (by decide)
  walk_at "go"
  refine ⟨by omega, by omega, for_range (lo := 0) (n := (1 + num ns i 6 4).toNat) (fun j σ H' => Ob (Same H H' ∧ ∃ (ws : List Int) (y5 y6 : Option V), ws.length ≤ j ∧ (0 < j → ws ≠ []) ∧ (∀ x ∈ ws, 2 ≤ x ∧ x ≤ 8) ∧ prodI ws ≤ mo ∧ H' L = some (.lst (ws.map V.int)) ∧ σ = [sR a, sI i, sI mo, sR L, sI (prodI ws), y5, y6])) (ob ⟨s1, [], none, none, Nat.le_refl _, fun z => absurd z (Nat.lt_irrefl _), fun x hx => (by cases hx), (show (1 : Int) ≤ mo by omega), gL, rfl⟩) ?_ ?_⟩
  · intro j σ H2 hj h
    obtain ⟨s2, ws, y5, y6, lj, ne, sm, pl, g2, rfl⟩ := unob h
    clear h kk ha1 gL s1
    have ha2 := s2.seq ha
    have hj4 : j < 4 := by omega
    have w0 : 0 ≤ num ns i (0 + (j : Int)) 7 := num_nn (by decide)
    have w1 : num ns i (0 + (j : Int)) 7 < 7 := num_lt (by decide)
    have pp := prod_pos sm
    walk_at "go"
    generalize num ns i (0 + (j : Int)) 7 = u at *
    refine un ?_
    walk_at "go"
    refine ifD (fun c => ?_) (fun c => ?_)
    · have c' : prodI ws * (2 + u) ≤ mo := c
      walk_at "go"
      refine ⟨L, _, _, rfl, rfl, g2, sz5 (by rw [List.length_map]; omega), ?_⟩
      walk_at "go"
      refine ob ⟨same_put s2 nL, ws ++ [2 + u], sI (0 + (j : Int)), sI (2 + u), by rw [List.length_append]; exact Nat.add_le_add_right lj 1, fun _ => by simp, fun x hx => ?_, ?_, ?_, ?_⟩
      · rcases List.mem_append.mp hx with hx | hx
        · exact sm x hx
        · obtain rfl := List.mem_singleton.mp hx
          omega
      · rw [prod_snoc]
        exact c'
      · rw [upd_same, List.map_append]
        rfl
      · rw [prod_snoc]
        rfl
    · walk_at "go"
      refine ob ⟨s2, ws, _, _, Nat.le_succ_of_le lj, fun _ => ?_, sm, pl, g2, rfl⟩
      intro e
      rw [e] at c
      exact c (by show 1 * (2 + u) ≤ mo; omega)
  · intro σ H2 h
    obtain ⟨s2, ws, y5, y6, lj, ne, sm, pl, g2, rfl⟩ := unob h
    exact kk _ _ ⟨s2, ws, _, _, _, ⟨ne (by omega), by omega, sm⟩, pl, g2, rfl⟩
end

end

section

-- a condition of an operator
local macro_rules | `(tactic| walk_at "cond") => `(tactic| first
  | (show (0 : Int) < _; omega)
  | (show CDiv _ _; constructor <;> (first | decide | omega))
  | (show CMul _ _; first | (refine cmul_l ?_; constructor <;> (first | decide | omega)) | (refine cmul_r ?_; constructor <;> (first | decide | omega)))
  | (show CPow _ _; exact (by refine ⟨by decide, by decide, by decide⟩))
  | (show CDivW _ _; exact ⟨by decide, by decide +kernel⟩))
local macro_rules | `(tactic| walk_at "sq") => `(tactic| first | assumption | exact Dh.mono (same_upd (by assumption)) _ _ (by assumption) | exact .inl (.inl (.inl (by assumption))) | exact .inr (.inl (.inl (by assumption))) | exact SqL.of (by assumption) | exact .inl (by assumption) | exact .inl (SqL.of (by assumption)) | exact SqT.of (by assumption) | exact .inr (SqT.of (by assumption)))
local macro_rules | `(tactic| walk_at "st") => `(tactic| first
  | refine ⟨_, rfl, ?_⟩
  | refine ⟨_, _, rfl, rfl, ?_⟩
  | refine .inl ⟨_, rfl, ?_⟩
  | refine ⟨rfl, ?_⟩
  | refine ⟨_, _, rfl, by walk_at "sq", ?_⟩
  | refine ⟨.inl ⟨rfl, _, SqL.of (by assumption)⟩, ?_⟩
  | refine ⟨by walk_at "cond", ?_⟩
  | (refine' ifBT ?hh ?_; (case hh => first | rfl | assumption))
  | (refine' ifBF ?hh ?_; (case hh => first | rfl | assumption)))
local macro_rules | `(tactic| walk_at "go") => `(tactic| repeat walk_at "st")
local macro_rules | `(tactic| walk_at "yes") => `(tactic| (refine' ifT ?hh ?_; (case hh => first | rfl | decide +kernel)))
local macro_rules | `(tactic| walk_at "no") => `(tactic| (refine' ifF ?hh ?_; (case hh => first | decide +kernel | (intro z; cases z; done))))

/-! ### _law_is_whole, _law_same -/
abbrev s_is_whole : Stmt := topS 21
theorem sc_is_whole : FnScope ["_law_told"] ["_law_told"] (C8.fnScope s_is_whole) := C8.fnScope_by (by decide +kernel)
abbrev s_same : Stmt := topS 22
theorem sc_same : FnScope ["_law_told", "_law_due", "_law_k"] ["_law_told", "_law_due"] (C8.fnScope s_same) := C8.fnScope_by (by decide +kernel)
def spWhole : Sp := fun vs H Q _ => ∃ (x : V) (d : PyData), vs = [x] ∧ Dh H d x ∧ Q (.bl (isI d)) H
def spSame (n : Nat) : Sp := fun vs H Q _ => ∃ (x y : V) (d e : PyData), vs = [x, y] ∧ Dh H d x ∧ Dh H e y ∧ Dle n e ∧ ∀ (b : Bool) (H' : Hp), (b = true ↔ d = e) → Same H H' → Q (.bl b) H'
section
variable {P : Program} {w : World} {K : PySem.W.Frag} {mg : Str → Option Value} {base : Heap}
theorem ok_whole {f : Addr} {fd : FuncData} (D : Def K mg "_law_is_whole" s_is_whole f fd) (b : Binds K fd ["_law_told"] []) (T : Txt mg) : Cal P w K mg base 1 "_law_is_whole" spWhole [] := by
  refine cal0 D b .nil sc_is_whole (fun vs H Q E h => ?_) (fun cdv A outer s H vs Q E hr h => ?_)
  · obtain ⟨x, d, rfl, _⟩ := h
    rfl
  obtain ⟨x, d, rfl, hx, q⟩ := h
  refine ⟨_, (pss_one (ps_ret (pe_and (pe_callB is_int (by rfl) T.isinstance (by decide +kernel) (pa_cons (pv 0) (pa_cons (pe_bltn (v := .ty "int") (by rfl) T.int (by decide +kernel) rfl) pa_nil))) (pe_one (pe_not (pe_callB is_bool (by rfl) T.isinstance (by decide +kernel) (pa_cons (pv 0) (pa_cons (pe_bltn (v := .ty "bool") (by rfl) T.bool (by decide +kernel) rfl) pa_nil)))))))), ?_⟩
  cases d <;> (walk_at "go"; exact q)
theorem ok_same_step {f : Addr} {fd : FuncData} (D : Def K mg "_law_same" s_same f fd) (b : Binds K fd ["_law_told", "_law_due"] []) (T : Txt mg) (c_is_whole : Cal P w K mg base 1 "_law_is_whole" spWhole []) {n : Nat}
    (c_same : Cal P w K mg base (n + 1) "_law_same" (spSame n) []) : Cal P w K mg base (n + 2) "_law_same" (spSame (n + 1)) [] := by
  refine cal0 D b .nil sc_same (fun vs H Q E h => ?_) (fun cdv A outer s H vs Q E hr h => ?_)
  · obtain ⟨x, y, d, e, rfl, _⟩ := h
    rfl
  obtain ⟨x, y, d, e, rfl, hx, hy, he, q⟩ := h
  refine ⟨_, (pss_cons (ps_mk (ps_if (pt_val (pe_callB is_lt (by rfl) T.isinstance (by decide +kernel) (pa_cons (pv 1) (pa_cons (pe_tup (pa_cons (pe_bltn (v := .ty "list") (by rfl) T.list (by decide +kernel) rfl) (pa_cons (pe_bltn (v := .ty "tuple") (by rfl) T.tuple (by decide +kernel) rfl) pa_nil))) pa_nil))))
      (pss_cons (ps_mk (ps_if (PW.pt (pw_or (pt_not (pt_val (pe_callB is_lt (by rfl) T.isinstance (by decide +kernel) (pa_cons (pv 0) (pa_cons (pe_tup (pa_cons (pe_bltn (v := .ty "list") (by rfl) T.list (by decide +kernel) rfl) (pa_cons (pe_bltn (v := .ty "tuple") (by rfl) T.tuple (by decide +kernel) rfl) pa_nil))) pa_nil))))) (pw_or1 (pt_cmpR op_ne (pe_callB is_list (by rfl) T.isinstance (by decide +kernel) (pa_cons (pv 0) (pa_cons (pe_bltn (v := .ty "list") (by rfl) T.list (by decide +kernel) rfl) pa_nil))) (pe_callB is_list (by rfl) T.isinstance (by decide +kernel) (pa_cons (pv 1) (pa_cons (pe_bltn (v := .ty "list") (by rfl) T.list (by decide +kernel) rfl) pa_nil))) (nomark _)))))
      (pss_one (ps_ret pe_bl))
      pss_nil))
      (pss_cons (ps_mk (ps_if (pt_cmpR op_ne (pe_callB (lenQ K rfl) (by rfl) T.len PySem.boot_len (pa_cons (pv 0) pa_nil)) (pe_callB (lenQ K rfl) (by rfl) T.len PySem.boot_len (pa_cons (pv 1) pa_nil)) (nomark _))
      (pss_one (ps_ret pe_bl))
      pss_nil))
      (pss_one (ps_ret (pe_cmpR op_eq (pe_callB (lenQ K rfl) (by rfl) T.len PySem.boot_len (pa_cons (pe_lc (own := [("_law_k", 2)]) (g := gName 2) rfl sc_same.nd (pi_range1 (by rfl) T.range (pa_cons (pe_callB (lenQ K rfl) (by rfl) T.len PySem.boot_len (pa_cons (pv 1) pa_nil)) pa_nil)) (blkOk_by (own := [("_law_k", 2)]) (N := ["_law_told", "_law_due", "_law_k"]) (sc := C8.fnScope s_same) (by decide +kernel)) (fun _ _ _ _ _ => (pg_name (i := 2) sc_same.nd rfl (.inl rfl))) (fun _ _ _ _ _ => (pts_one (pt_not (pt_val (C8.pe_c c_same hr (by omega) (by rfl) (pa_cons (pe_ix (ixA K rfl) (pv 0) (pv 2) (fun _ _ => rfl)) (pa_cons (pe_ix (ixA K rfl) (pv 1) (pv 2) (fun _ _ => rfl)) pa_nil))))))) (fun _ _ _ _ _ => (pv 2))) pa_nil)) pe_int (nomark _))))))
      pss_nil))
      (pss_cons (ps_mk (ps_if (pt_val (pe_callB is_bool (by rfl) T.isinstance (by decide +kernel) (pa_cons (pv 1) (pa_cons (pe_bltn (v := .ty "bool") (by rfl) T.bool (by decide +kernel) rfl) pa_nil))))
      (pss_one (ps_ret (pe_and (pe_callB is_bool (by rfl) T.isinstance (by decide +kernel) (pa_cons (pv 0) (pa_cons (pe_bltn (v := .ty "bool") (by rfl) T.bool (by decide +kernel) rfl) pa_nil))) (pe_one (pe_cmpR op_eq (pv 0) (pv 1) (nomark _))))))
      pss_nil))
      (pss_cons (ps_mk (ps_if (pt_val (pe_callB is_int (by rfl) T.isinstance (by decide +kernel) (pa_cons (pv 1) (pa_cons (pe_bltn (v := .ty "int") (by rfl) T.int (by decide +kernel) rfl) pa_nil))))
      (pss_one (ps_ret (pe_and (C8.pe_c c_is_whole hr (by omega) (by rfl) (pa_cons (pv 0) pa_nil)) (pe_one (pe_cmpR op_eq (pv 0) (pv 1) (nomark _))))))
      pss_nil))
      (pss_cons (ps_mk (ps_if (pt_val (pe_callB is_str (by rfl) T.isinstance (by decide +kernel) (pa_cons (pv 1) (pa_cons (pe_bltn (v := .ty "str") (by rfl) T.str (by decide +kernel) rfl) pa_nil))))
      (pss_one (ps_ret (pe_and (pe_callB is_str (by rfl) T.isinstance (by decide +kernel) (pa_cons (pv 0) (pa_cons (pe_bltn (v := .ty "str") (by rfl) T.str (by decide +kernel) rfl) pa_nil))) (pe_one (pe_cmpR op_eq (pv 0) (pv 1) (nomark _))))))
      pss_nil))
      (pss_one (ps_ret (pe_and (pe_cmpR op_isN (pv 0) pe_non (nomark _)) (pe_one (pe_cmpR op_isN (pv 1) pe_non (nomark _)))))))))), ?_⟩
  refine jn (M := fun σ H' => Same H H' ∧ σ = [some x, some y, none] ∧ (isL e || isT e) = false) ?_ (fun N kk => ?_)
  · rintro σ H1 ⟨s1, rfl, hf⟩
    have hx1 := Dh.mono s1 _ _ hx
    have hy1 := Dh.mono s1 _ _ hy
    clear hx hy he
    cases e with
    | list es => cases hf
    | tuple es => cases hf
    | dict kvs => exact False.elim hy1
    | none =>
      cases (show y = V.non from hy1)
      cases d
      case dict => exact False.elim hx1
      all_goals first | (obtain ⟨_, _, e1, _, _⟩ := id hx1; cases e1) | (cases (show x = _ from hx1))
      all_goals repeat (first | refine un ?_ | walk_at "st")
      all_goals exact q _ _ (by simp) s1
    | bool c =>
      cases (show y = V.bl c from hy1)
      cases d
      case dict => exact False.elim hx1
      all_goals first | (obtain ⟨_, _, e1, _, _⟩ := id hx1; cases e1) | (cases (show x = _ from hx1))
      all_goals repeat (first | refine un ?_ | walk_at "st")
      all_goals exact q _ _ (by simp) s1
    | int c =>
      cases (show y = V.int c from hy1)
      cases d
      case dict => exact False.elim hx1
      all_goals first | (obtain ⟨_, _, e1, _, _⟩ := id hx1; cases e1) | (cases (show x = _ from hx1))
      all_goals repeat (first | refine un ?_ | walk_at "st")
      all_goals first | exact q _ _ (by simp) s1 | skip
      all_goals refine ⟨_, _, rfl, hx1, ?_⟩
      all_goals repeat (first | refine un ?_ | walk_at "st")
      all_goals exact q _ _ (by simp) s1
    | str c =>
      cases (show y = V.str c from hy1)
      cases d
      case dict => exact False.elim hx1
      all_goals first | (obtain ⟨_, _, e1, _, _⟩ := id hx1; cases e1) | (cases (show x = _ from hx1))
      all_goals repeat (first | refine un ?_ | walk_at "st")
      all_goals exact q _ _ (by simp) s1
  · walk_at "go"
    refine ⟨sz, fun p hp => ?_⟩
    refine ⟨_, _, _, rfl, upd_same, Dh.mono (same_upd hp) _ _ hy, ?_⟩
    walk_at "go"
    have s1 : Same H (upd H p (.tup [.ty "list", .ty "tuple"])) := same_upd hp
    have hx1 := Dh.mono s1 _ _ hx
    have hy1 := Dh.mono s1 _ _ hy
    cases hf : (isL e || isT e) with
    | false =>
      refine ifBF rfl ?_
      exact kk _ _ ⟨s1, rfl, hf⟩
    | true =>
      refine ifBT rfl ?_
      generalize upd H p (HO.tup [V.ty "list", V.ty "tuple"]) = H1 at *
      clear hx hy kk hp
      walk_at "go"
      refine jn (M := fun σ H2 => Same H1 H2 ∧ ∃ a c xs ys ds es, σ = [sR a, sR c, none] ∧ (SqL K H2 a xs ∨ SqT K H2 a xs) ∧ (SqL K H2 c ys ∨ SqT K H2 c ys) ∧ DhAll H2 ds xs ∧ DhAll H2 es ys ∧ es.length ≤ 100000 ∧ (∀ e' ∈ es, Dle n e') ∧ (d = e ↔ ds = es)) ?_ (fun N2 k2 => ?_)
      · rintro σ H2 ⟨s2, a, c, xs, ys, ds, es, rfl, hA, hC, hds, hes, hlen, hle, hiff⟩
        have lx := hds.len
        have ly := hes.len
        walk_at "go"
        refine jn (M := fun σ H3 => H3 = H2 ∧ σ = [sR a, sR c, none] ∧ ds.length = es.length) ?_ (fun N3 k3 => ?_)
        · rintro σ H3 ⟨rfl, rfl, el⟩
          walk_at "go"
          refine ⟨by omega, by omega, fun L hL => lc_range (lo := 0) (n := ((ys.length : Nat) : Int).toNat)
            (fun i H' => Ob (Same H3 H' ∧ ∃ acc, H' L = some (.lst acc) ∧ acc.length ≤ i ∧ (acc = [] ↔ ds.take i = es.take i))) (ob ⟨same_upd hL, [], upd_same, Nat.le_refl _, by simp⟩) ?_ ?_⟩
          · intro i H4 hi h4
            obtain ⟨s4, acc, g4, l4, e4⟩ := unob h4
            have hi2 : i < es.length := by omega
            have hi3 : i < ds.length := by omega
            obtain ⟨xv, ex, dx⟩ := hds.get (List.getElem?_eq_getElem hi3)
            obtain ⟨yv, ey, dy⟩ := hes.get (List.getElem?_eq_getElem hi2)
            have tk := take_succ_eq (List.getElem?_eq_getElem hi3) (List.getElem?_eq_getElem hi2)
            have ax : atI xs (0 + (i : Int)) = some xv := by
              rw [Int.zero_add]
              exact atI_nat ex
            have ay : atI ys (0 + (i : Int)) = some yv := by
              rw [Int.zero_add]
              exact atI_nat ey
            refine ⟨rfl, ?_⟩
            walk_at "go"
            refine ixAny (sqAny s4 hA) ax ?_
            walk_at "go"
            refine ixAny (sqAny s4 hC) ay ?_
            walk_at "go"
            refine ⟨_, _, _, _, rfl, Dh.mono s4 _ _ dx, Dh.mono s4 _ _ dy, hle _ (List.getElem_mem hi2), fun b5 H5 hb s5 => ?_⟩
            walk_at "go"
            refine ifN ?_
            cases b5 with
            | true =>
              refine ifBT rfl (ob ⟨s4.trans s5, acc, s5 _ _ g4, Nat.le_succ_of_le l4, ?_⟩)
              rw [e4, tk]
              exact ⟨fun z => ⟨z, hb.mp rfl⟩, fun z => z.1⟩
            | false =>
              refine ifBF rfl ?_
              walk_at "go"
              refine ⟨acc, s5 _ _ g4, sz5 (by omega), ob ⟨same_put (s4.trans s5) hL, _, upd_same, ?_, ?_⟩⟩
              · rw [List.length_append]
                exact Nat.add_le_add_right l4 1
              · constructor
                · intro z
                  exact absurd (congrArg List.length z) (by rw [List.length_append]; simp)
                · intro z
                  exact absurd (hb.mpr (tk.mp z).2) Bool.false_ne_true
          · intro H4 h4
            obtain ⟨s4, acc, g4, l4, e4⟩ := unob h4
            walk_at "go"
            refine q _ _ ?_ ((s1.trans s2).trans s4)
            rw [hiff]
            have et : ((ys.length : Nat) : Int).toNat = es.length := by omega
            rw [et, List.take_of_length_le (by omega), List.take_of_length_le (Nat.le_refl _)] at e4
            rw [← e4, decide_eq_true_iff]
            constructor
            · intro z
              have z2 := V.int.inj z
              exact List.eq_nil_of_length_eq_zero (by omega)
            · intro z
              rw [z]
              rfl
        · walk_at "go"
          refine ifNe (fun z => ?_) (fun z => ?_)
          · walk_at "go"
            refine q _ _ ?_ (s1.trans s2)
            rw [hiff]
            constructor
            · intro h
              cases h
            · intro h
              rw [h] at lx
              omega
          · walk_at "go"
            exact k3 _ _ ⟨rfl, rfl, by omega⟩
      · walk_at "go"
        refine ⟨sz, fun p2 hp2 => ?_⟩
        have s2 : Same H1 (upd H1 p2 (HO.tup [V.ty "list", V.ty "tuple"])) := same_upd hp2
        refine ⟨_, _, _, rfl, upd_same, Dh.mono s2 _ _ hx1, ?_⟩
        have hx2 := Dh.mono s2 _ _ hx1
        have hy2 := Dh.mono s2 _ _ hy1
        walk_at "go"
        generalize upd H1 p2 (HO.tup [V.ty "list", V.ty "tuple"]) = H2 at *
        clear hp2
        cases e with
        | none => cases hf
        | bool _ => cases hf
        | int _ => cases hf
        | str _ => cases hf
        | dict kvs => cases hf
        | list es =>
          obtain ⟨c, ys, rfl, gy, hes⟩ := id hy2
          cases d
          case dict => exact False.elim hx2
          case list ds =>
            obtain ⟨a, xs, rfl, gx, hds⟩ := id hx2
            walk_at "go"
            exact k2 _ _ ⟨s2, _, _, _, _, ds, es, rfl, .inl (.inl (.inl gx)), .inl (.inl (.inl gy)), hds, hes, he.1, he.2, by simp⟩
          all_goals walk_at "go"
          all_goals exact q _ _ (by simp) (s1.trans s2)
        | tuple es =>
          obtain ⟨c, ys, rfl, gy, hes⟩ := id hy2
          cases d
          case dict => exact False.elim hx2
          case tuple ds =>
            obtain ⟨a, xs, rfl, gx, hds⟩ := id hx2
            walk_at "go"
            exact k2 _ _ ⟨s2, _, _, _, _, ds, es, rfl, .inr (.inl (.inl gx)), .inr (.inl (.inl gy)), hds, hes, he.1, he.2, by simp⟩
          all_goals walk_at "go"
          all_goals exact q _ _ (by simp) (s1.trans s2)
theorem ok_same {f : Addr} {fd : FuncData} (D : Def K mg "_law_same" s_same f fd) (b : Binds K fd ["_law_told", "_law_due"] []) (T : Txt mg) (c_is_whole : Cal P w K mg base 1 "_law_is_whole" spWhole []) :
    ∀ n, Cal P w K mg base (n + 1) "_law_same" (spSame n) []
  | 0 => by
    have no : ∀ vs H Q E, ¬ spSame 0 vs H Q E := fun vs H Q E h => by
      obtain ⟨x, y, d, e, _, _, _, h1, _⟩ := h
      exact h1
    exact ⟨f, fd, _, _, ⟨fun vs H Q E h => absurd h (no vs H Q E), fun A outer s H args us vs Q E _ _ _ _ h => absurd h (no vs H Q E)⟩, D.mgf, D.kp, b, .nil⟩
  | n + 1 => ok_same_step D b T c_is_whole (ok_same D b T c_is_whole n)
end

theorem dh_ints {H : Hp} : ∀ (ns : List Int), DhAll H (ns.map PyData.int) (ns.map V.int)
  | [] => rfl
  | n :: ns => ⟨.int n, ns.map V.int, rfl, rfl, dh_ints ns⟩
theorem span_b {ws : List Int} (sm : Small ws) (k : Nat) : 0 < spanN ws k ∧ spanN ws k ≤ 8 ^ 6 := by
  have pp := prod_pos (ws := ws.drop (k + 1)) fun x hx => sm.2.2 x (List.mem_of_mem_drop hx)
  refine ⟨by show 0 < prodI _; omega, Int.le_trans pp.2 (Int.le_trans (b := ((8 ^ 6 : Nat) : Int)) ?_ (by decide))⟩
  have h6 := sm.2.1
  have : (8 : Nat) ^ (ws.drop (k + 1)).length ≤ 8 ^ 6 := Nat.pow_le_pow_right (by decide) (by rw [List.length_drop]; omega)
  exact_mod_cast this
theorem span0_mul : ∀ {ws : List Int}, 0 < ws.length → spanN ws 0 * ws.getD 0 0 = prodI ws
  | [], h => absurd h (Nat.lt_irrefl _)
  | w :: ws, _ => Int.mul_comm _ _

end

/-! ### covers by aligned blocks -/
/-- the first span that fits at lo -/
def big (lo hi : Int) : List Int → Int
  | [] => 1
  | s :: ss => if s ∣ lo ∧ lo + s ≤ hi then s else big lo hi ss
/-- spans: from large to small, each a divisor of those before, the last one 1 -/
inductive Chain : List Int → Prop
  | one : Chain [1]
  | cons {a b : Int} {ss : List Int} : b ∣ a → b < a → Chain (b :: ss) → Chain (a :: b :: ss)
theorem Chain.pos {ss : List Int} (c : Chain ss) : ∀ x ∈ ss, 0 < x := by
  induction c with
  | one =>
    intro x hx
    obtain rfl := List.mem_singleton.mp hx
    decide
  | cons d l c ih =>
    intro x hx
    rcases List.mem_cons.mp hx with rfl | hx
    · have := ih _ List.mem_cons_self
      omega
    · exact ih x hx
theorem Chain.le {ss : List Int} (c : Chain ss) : ∀ {a : Int} {r : List Int}, ss = a :: r → ∀ x ∈ ss, x ≤ a ∧ x ∣ a := by
  induction c with
  | one =>
    intro a r e x hx
    cases e
    obtain rfl := List.mem_singleton.mp hx
    exact ⟨Int.le_refl _, Int.dvd_refl _⟩
  | cons d l c ih =>
    intro a r e x hx
    cases e
    rcases List.mem_cons.mp hx with rfl | hx
    · exact ⟨Int.le_refl _, Int.dvd_refl _⟩
    · have z := ih rfl x hx
      exact ⟨by omega, Int.dvd_trans z.2 d⟩
theorem Chain.dvd {ss : List Int} (c : Chain ss) : ∀ x ∈ ss, ∀ y ∈ ss, x ≤ y → x ∣ y := by
  induction c with
  | one =>
    intro x hx y hy _
    obtain rfl := List.mem_singleton.mp hx
    obtain rfl := List.mem_singleton.mp hy
    exact Int.dvd_refl _
  | cons d l c ih =>
    rename_i a b ss
    intro x hx y hy h
    rcases List.mem_cons.mp hx with e | hx
    · rcases List.mem_cons.mp hy with e2 | hy
      · rw [e, e2]; exact Int.dvd_refl _
      · have := (c.le rfl y hy).1
        omega
    · rcases List.mem_cons.mp hy with e2 | hy
      · rw [e2]
        exact Int.dvd_trans (c.le rfl x hx).2 d
      · exact ih x hx y hy h
theorem big_mem {ss : List Int} (c : Chain ss) (lo hi : Int) : big lo hi ss ∈ ss := by
  induction c with
  | one =>
    show (if _ then (1 : Int) else 1) ∈ _
    split <;> exact List.mem_cons_self
  | cons d l c ih =>
    unfold big
    split
    · exact List.mem_cons_self
    · exact List.mem_cons_of_mem _ ih
theorem big_fits {ss : List Int} (c : Chain ss) {lo hi : Int} (h : lo < hi) : big lo hi ss ∣ lo ∧ lo + big lo hi ss ≤ hi := by
  induction c with
  | one =>
    show (if _ then (1 : Int) else 1) ∣ lo ∧ lo + (if _ then (1 : Int) else 1) ≤ hi
    split <;> exact ⟨Int.one_dvd _, by omega⟩
  | cons d l c ih =>
    unfold big
    split
    · rename_i z
      exact z
    · exact ih
theorem big_max {ss : List Int} (c : Chain ss) {lo hi : Int} : ∀ x ∈ ss, x ∣ lo → lo + x ≤ hi → x ≤ big lo hi ss := by
  induction c with
  | one =>
    intro x hx _ _
    obtain rfl := List.mem_singleton.mp hx
    show (1 : Int) ≤ if _ then (1 : Int) else 1
    split <;> exact Int.le_refl _
  | cons d l c ih =>
    intro x hx h1 h2
    unfold big
    split
    · exact ((Chain.cons d l c).le rfl x hx).1
    · rename_i z
      rcases List.mem_cons.mp hx with e | hx
      · rw [e] at h1 h2
        exact absurd ⟨h1, h2⟩ z
      · exact ih x hx h1 h2
theorem gap {s a c : Int} (h1 : s ∣ a) (h2 : s ∣ c) (h : a < c) : a + s ≤ c := by
  have := Int.le_of_dvd (show 0 < c - a by omega) (Int.dvd_sub h2 h1)
  omega
/-- the blocks from lo on -/
def covF (ss : List Int) (hi : Int) : Nat → Int → List (Int × Int)
  | 0, _ => []
  | n + 1, lo => if lo < hi then (lo, lo + big lo hi ss) :: covF ss hi n (lo + big lo hi ss) else []
theorem covF_more {ss : List Int} (c : Chain ss) {hi : Int} : ∀ (n m : Nat) (lo : Int), (hi - lo).toNat ≤ n → n ≤ m → covF ss hi m lo = covF ss hi n lo
  | 0, 0, _, _, _ => rfl
  | 0, m + 1, lo, h, _ => by
    unfold covF
    rw [if_neg (by omega)]
  | n + 1, 0, _, _, h => absurd h (by omega)
  | n + 1, m + 1, lo, h, h2 => by
    unfold covF
    split
    · have := c.pos _ (big_mem c lo hi)
      rw [covF_more c n m _ (by omega) (by omega)]
    · rfl
def cov (ss : List Int) (lo hi : Int) : List (Int × Int) := covF ss hi (hi - lo).toNat lo
theorem cov_end {ss : List Int} {lo hi : Int} (h : ¬ lo < hi) : cov ss lo hi = [] := by
  unfold cov
  rw [show (hi - lo).toNat = 0 by omega]
  rfl
theorem cov_step {ss : List Int} (c : Chain ss) {lo hi : Int} (h : lo < hi) : cov ss lo hi = (lo, lo + big lo hi ss) :: cov ss (lo + big lo hi ss) hi := by
  have := c.pos _ (big_mem c lo hi)
  unfold cov
  obtain ⟨k, hk⟩ : ∃ k, (hi - lo).toNat = k + 1 := ⟨(hi - lo).toNat - 1, by omega⟩
  rw [hk, covF, if_pos h, covF_more c (hi - (lo + big lo hi ss)).toNat k _ (Nat.le_refl _) (by omega)]
theorem cov_len {ss : List Int} (c : Chain ss) {hi : Int} : ∀ (n : Nat) (lo : Int), (covF ss hi n lo).length ≤ n
  | 0, _ => Nat.le_refl _
  | n + 1, lo => by
    unfold covF
    split
    · rw [List.length_cons]
      exact Nat.succ_le_succ (cov_len c n _)
    · exact Nat.zero_le _
/-- n aligned blocks from a to b -/
inductive Til (ss : List Int) : Int → Int → Nat → Prop
  | nil {a : Int} : Til ss a a 0
  | snoc {a b s : Int} {n : Nat} : Til ss a b n → s ∈ ss → s ∣ b → Til ss a (b + s) (n + 1)
theorem Til.le {ss : List Int} (c : Chain ss) {a b : Int} {n : Nat} (t : Til ss a b n) : a ≤ b := by
  induction t with
  | nil => exact Int.le_refl _
  | snoc t hs d ih =>
    have := c.pos _ hs
    omega
theorem Til.cons {ss : List Int} {a b s : Int} {n : Nat} (hs : s ∈ ss) (d : s ∣ a) (t : Til ss (a + s) b n) : Til ss a b (n + 1) := by
  generalize e : a + s = a2 at t
  induction t with
  | nil =>
    subst e
    exact .snoc .nil hs d
  | snoc t hs2 d2 ih => exact .snoc ih hs2 d2
theorem Til.first {ss : List Int} {a b : Int} {n : Nat} (t : Til ss a b n) : n = 0 ∧ a = b ∨ ∃ s m, n = m + 1 ∧ s ∈ ss ∧ s ∣ a ∧ Til ss (a + s) b m := by
  induction t with
  | nil => exact .inl ⟨rfl, rfl⟩
  | snoc t hs d ih =>
    refine .inr ?_
    rcases ih with ⟨rfl, e⟩ | ⟨s2, m, rfl, h1, h2, h3⟩
    · subst e
      exact ⟨_, 0, rfl, hs, d, .nil⟩
    · exact ⟨s2, m + 1, rfl, h1, h2, .snoc h3 hs d⟩
theorem Til.cut {ss : List Int} (c : Chain ss) {lo hi : Int} (hl : lo < hi) : ∀ {n : Nat} {a : Int}, Til ss a hi n → lo ≤ a → a < lo + big lo hi ss → ∃ m, m + 1 ≤ n ∧ Til ss (lo + big lo hi ss) hi m
  | n, a, t, h1, h2 => by
    have bm := big_mem c lo hi
    have bf := big_fits c hl
    have bp := c.pos _ bm
    rcases t.first with ⟨rfl, e⟩ | ⟨s, m, rfl, hs, d, t2⟩
    · omega
    have sp := c.pos _ hs
    have l2 := t2.le c
    by_cases sb : s ≤ big lo hi ss
    · have sB := c.dvd s hs _ bm sb
      have g := gap d (Int.dvd_add (Int.dvd_trans sB bf.1) sB) h2
      by_cases e : a + s = lo + big lo hi ss
      · rw [e] at t2
        exact ⟨m, Nat.le_refl _, t2⟩
      · obtain ⟨m2, l, t3⟩ := Til.cut c hl t2 (by omega) (by omega)
        exact ⟨m2, by omega, t3⟩
    · have Bs := c.dvd _ bm s hs (by omega)
      have Ba := Int.dvd_trans Bs d
      have ea : a = lo := by
        by_cases z : lo < a
        · have := gap bf.1 Ba z
          omega
        · omega
      rw [ea] at d l2
      have := big_max c s hs d l2
      omega
theorem cov_least {ss : List Int} (c : Chain ss) {hi : Int} : ∀ (n : Nat) (lo : Int), Til ss lo hi n → (cov ss lo hi).length ≤ n
  | n, lo, t => by
    by_cases h : lo < hi
    · have bp := c.pos _ (big_mem c lo hi)
      obtain ⟨m, l, t2⟩ := Til.cut c h t (Int.le_refl _) (by omega)
      rw [cov_step c h, List.length_cons]
      have := cov_least c m _ t2
      omega
    · rw [cov_end h]
      exact Nat.zero_le _
theorem cov_til {ss : List Int} (c : Chain ss) {hi : Int} : ∀ (n : Nat) (lo : Int), (hi - lo).toNat = n → lo ≤ hi → Til ss lo hi (cov ss lo hi).length
  | n, lo, hn, hl => by
    by_cases h : lo < hi
    · have bp := c.pos _ (big_mem c lo hi)
      have bf := big_fits c h
      rw [cov_step c h, List.length_cons]
      exact .cons (big_mem c lo hi) bf.1 (cov_til c (hi - (lo + big lo hi ss)).toNat _ rfl bf.2)
    · rw [cov_end h, show lo = hi by omega]
      exact .nil
termination_by n => n
/-- the k-th number of blocks at least -/
def Least (ss : List Int) (low : Int) (j : Nat) (v : Int) : Prop := 0 ≤ v ∧ Til ss low (low + j) v.toNat ∧ ∀ n, Til ss low (low + j) n → v ≤ n
theorem least_zero (ss : List Int) (low : Int) : Least ss low 0 0 := ⟨Int.le_refl _, by
  show Til ss low (low + 0) 0
  rw [Int.add_zero]
  exact .nil, fun n _ => by omega⟩
theorem least_cov {ss : List Int} (c : Chain ss) {low hi : Int} (h : low ≤ hi) {v : Int} (l : Least ss low (hi - low).toNat v) : v = (cov ss low hi).length := by
  obtain ⟨v0, t, m⟩ := l
  rw [show low + (((hi - low).toNat : Nat) : Int) = hi by omega] at t m
  have h1 := cov_least c _ _ t
  have h2 := m _ (cov_til c _ low rfl h)
  omega
/-- is lo not within a larger block of the range -/
def Free (ss : List Int) (low hi lo : Int) : Prop := ∀ x ∈ ss, lo / x * x < lo → low ≤ lo / x * x → hi < lo / x * x + x
theorem free_start (ss : List Int) (low hi : Int) : Free ss low hi low := fun x _ h1 h2 => by omega
theorem fl_dvd (x lo : Int) : x ∣ lo / x * x := Int.dvd_mul_left _ _
theorem fl_le {x lo : Int} (h : 0 < x) : lo / x * x ≤ lo ∧ lo < lo / x * x + x := by
  have h1 := Int.emod_nonneg lo (show x ≠ 0 by omega)
  have h2 := Int.emod_lt_of_pos lo h
  have h3 := Int.mul_ediv_add_emod lo x
  rw [Int.mul_comm] at h3
  omega
theorem fl_eq {x lo : Int} (h : x ∣ lo) : lo / x * x = lo := Int.ediv_mul_cancel h
theorem fl_uniq {x lo m : Int} (h : 0 < x) (d : x ∣ m) (h1 : m ≤ lo) (h2 : lo < m + x) : lo / x * x = m := by
  have f := fl_le (lo := lo) h
  by_cases z : lo / x * x < m
  · have := gap (fl_dvd x lo) d z
    omega
  · by_cases z2 : m < lo / x * x
    · have := gap d (fl_dvd x lo) z2
      omega
    · omega
theorem free_step {ss : List Int} (c : Chain ss) {low hi lo : Int} (h : lo < hi) (hl : low ≤ lo) (f : Free ss low hi lo) : Free ss low hi (lo + big lo hi ss) := fun x hx h1 h2 => by
  have bm := big_mem c lo hi
  have bf := big_fits c h
  have bp := c.pos _ bm
  have xp := c.pos _ hx
  have fl := fl_le (lo := lo + big lo hi ss) xp
  have fd := fl_dvd x (lo + big lo hi ss)
  generalize em : (lo + big lo hi ss) / x * x = m at *
  refine Int.not_le.mp fun z => ?_
  rcases Int.lt_trichotomy m lo with e | e | e
  · have u := fl_uniq xp fd (show m ≤ lo by omega) (by omega)
    have := f x hx (by omega) (by omega)
    rw [u] at this
    omega
  · rw [e] at fd
    have := big_max c (hi := hi) x hx fd (by omega)
    omega
  · by_cases sx : big lo hi ss ≤ x
    · have := gap bf.1 (Int.dvd_trans (c.dvd _ bm x hx sx) fd) e
      omega
    · have xs := c.dvd x hx _ bm (by omega)
      have u := fl_eq (Int.dvd_add (Int.dvd_trans xs bf.1) xs)
      rw [em] at u
      omega
theorem free_max {ss : List Int} (c : Chain ss) {low hi lo : Int} (h : lo < hi) (f : Free ss low hi lo) {x : Int} (hx : x ∈ ss) (h1 : big lo hi ss < x) (h2 : low ≤ lo / x * x) (h3 : lo / x * x + x ≤ hi) : False := by
  have xp := c.pos _ hx
  have fl := fl_le (lo := lo) xp
  have fd := fl_dvd x lo
  by_cases e : lo / x * x < lo
  · have := f x hx e h2
    omega
  · have el : lo / x * x = lo := by omega
    rw [el] at fd h3
    have := big_max c x hx fd h3
    omega
theorem chain_spans : ∀ {ws : List Int}, ws ≠ [] → (∀ w ∈ ws, 2 ≤ w ∧ w ≤ 8) → Chain (spansOf ws)
  | [], h, _ => absurd rfl h
  | [w], _, _ => .one
  | w :: v :: ws, _, h => by
    have ih := chain_spans (ws := v :: ws) (by simp) fun x hx => h x (List.mem_cons_of_mem _ hx)
    have hv := h v (List.mem_cons_of_mem _ List.mem_cons_self)
    have pp := prod_pos (ws := ws) fun x hx => h x (List.mem_cons_of_mem _ (List.mem_cons_of_mem _ hx))
    show Chain (prodI (v :: ws) :: prodI ws :: spansOf ws)
    refine .cons (Int.dvd_mul_left _ _) ?_ ih
    show prodI ws < v * prodI ws
    have := Int.mul_le_mul_of_nonneg_right (show (2 : Int) ≤ v by omega) (show 0 ≤ prodI ws by omega)
    omega

section

-- a condition of an operator
local macro_rules | `(tactic| walk_at "cond") => `(tactic| first
  | (show (0 : Int) < _; omega)
  | (show CDiv _ _; constructor <;> (first | decide | omega))
  | (show CMul _ _; first | (refine cmul_l ?_; constructor <;> (first | decide | omega)) | (refine cmul_r ?_; constructor <;> (first | decide | omega)))
  | (show CPow _ _; exact (by refine ⟨by decide, by decide, by decide⟩))
  | (show CDivW _ _; exact ⟨by decide, by decide +kernel⟩))
local macro_rules | `(tactic| walk_at "sq") => `(tactic| first | assumption | exact Dh.mono (same_upd (by assumption)) _ _ (by assumption) | exact .inl (.inl (.inl (by assumption))) | exact .inr (.inl (.inl (by assumption))) | exact SqL.of (by assumption) | exact .inl (by assumption) | exact .inl (SqL.of (by assumption)) | exact SqT.of (by assumption) | exact .inr (SqT.of (by assumption)))
local macro_rules | `(tactic| walk_at "st") => `(tactic| first
  | refine ⟨_, rfl, ?_⟩
  | refine ⟨_, _, rfl, rfl, ?_⟩
  | refine .inl ⟨_, rfl, ?_⟩
  | refine ⟨rfl, ?_⟩
  | refine ⟨_, _, rfl, by walk_at "sq", ?_⟩
  | refine ⟨.inl ⟨rfl, _, SqL.of (by assumption)⟩, ?_⟩
  | refine ⟨by walk_at "cond", ?_⟩
  | (refine' ifBT ?hh ?_; (case hh => first | rfl | assumption))
  | (refine' ifBF ?hh ?_; (case hh => first | rfl | assumption)))
local macro_rules | `(tactic| walk_at "go") => `(tactic| repeat walk_at "st")
local macro_rules | `(tactic| walk_at "yes") => `(tactic| (refine' ifT ?hh ?_; (case hh => first | rfl | decide +kernel)))
local macro_rules | `(tactic| walk_at "no") => `(tactic| (refine' ifF ?hh ?_; (case hh => first | decide +kernel | (intro z; cases z; done))))

/-! ### _largest_block, cover -/
abbrev s_largest_block : Stmt := topS 17
theorem sc_largest_block : FnScope ["shape", "start", "end", "level", "block"] ["shape", "start", "end"] (C8.fnScope s_largest_block) := C8.fnScope_by (by decide +kernel)
abbrev s_cover : Stmt := topS 16
theorem sc_cover : FnScope ["shape", "start", "end", "blocks", "block"] ["shape", "start", "end"] (C8.fnScope s_cover) := C8.fnScope_by (by decide +kernel)
def pD (z : Int × Int) : PyData := .tuple [.int z.1, .int z.2]
def spLarge (C : Addr) : Sp := fun vs H Q _ => ∃ (p wt st dx : Addr) (ws : List Int) (lo hi : Int), vs = [.ref p, .int lo, .int hi] ∧ ShapeAt C H p wt st dx ws ∧ 0 ≤ lo ∧ lo < hi ∧ hi ≤ prodI ws ∧
  ∀ (r : Addr) (H' : Hp), Same H H' → H' r = some (.tup [.int lo, .int (lo + big lo hi (spansOf ws))]) → Q (.ref r) H'
def spCover (C D : Addr) : Sp := fun vs H Q E => ∃ (p wt st dx : Addr) (ws : List Int) (lo hi : Int), vs = [.ref p, .int lo, .int hi] ∧ ShapeAt C H p wt st dx ws ∧ -(10 ^ 9) ≤ lo ∧ lo ≤ 10 ^ 9 ∧ -(10 ^ 9) ≤ hi ∧ hi ≤ 10 ^ 9 ∧
  ((0 ≤ lo ∧ lo < hi ∧ hi ≤ prodI ws) → ∀ (L : Addr) (bs : List V) (H' : Hp), Same H H' → H L = none → H' L = some (.lst bs) → DhAll H' ((cov (spansOf ws) lo hi).map pD) bs → Q (.ref L) H') ∧
  (¬ (0 ≤ lo ∧ lo < hi ∧ hi ≤ prodI ws) → ∀ d, H d = none → E (.ref D) (some d) (upd H d (.xd (brF lo hi))))
theorem spans_drop2 {ws : List Int} {k : Nat} (h : k < ws.length) : (spansOf ws).drop k = spanN ws k :: (spansOf ws).drop (k + 1) := by
  have hl : k < (spansOf ws).length := by rw [spans_len]; exact h
  rw [List.drop_eq_getElem_cons hl]
  have e := spans_get h
  rw [List.getElem?_eq_getElem hl] at e
  rw [Option.some.inj e]
theorem span_last {ws : List Int} {k : Nat} (h : k + 1 = ws.length) : spanN ws k = 1 := by
  unfold spanN
  rw [List.drop_of_length_le (by omega)]
  rfl
theorem prod_b {ws : List Int} (sm : Small ws) : 1 ≤ prodI ws ∧ prodI ws ≤ 262144 := by
  have pp := prod_pos sm.2.2
  refine ⟨pp.1, Int.le_trans pp.2 (Int.le_trans (b := ((8 ^ 6 : Nat) : Int)) ?_ (by decide))⟩
  have : (8 : Nat) ^ ws.length ≤ 8 ^ 6 := Nat.pow_le_pow_right (by decide) sm.2.1
  exact_mod_cast this
theorem DhAll.snoc {H : Hp} : ∀ {ds : List PyData} {xs : List V} {d : PyData} {x : V}, DhAll H ds xs → Dh H d x → DhAll H (ds ++ [d]) (xs ++ [x])
  | [], xs, d, x, h, hx => by
    cases (show xs = [] from h)
    exact ⟨x, [], rfl, hx, rfl⟩
  | d' :: ds, xs, d, x, h, hx => by
    obtain ⟨v, vs, rfl, h1, h2⟩ := h
    exact ⟨v, vs ++ [x], rfl, h1, DhAll.snoc h2 hx⟩
/-- data of pairs of ints stand wherever their tuples do -/
theorem pairs_put {H : Hp} {L : Addr} {xs ys : List V} (g : H L = some (.lst xs)) : ∀ {zs : List (Int × Int)} {vs : List V}, DhAll H (zs.map pD) vs → DhAll (upd H L (.lst ys)) (zs.map pD) vs
  | [], vs, h => h
  | z :: zs, vs, h => by
    obtain ⟨v, ws, rfl, ⟨a, us, rfl, ga, h1⟩, h2⟩ := h
    have ne : a ≠ L := fun e => by
      rw [e, g] at ga
      cases ga
    refine ⟨_, ws, rfl, ⟨a, us, rfl, by rw [upd_ne ne]; exact ga, ?_⟩, pairs_put g h2⟩
    obtain ⟨v1, us1, rfl, e1, v2, us2, rfl, e2, e3⟩ := h1
    exact ⟨v1, _, rfl, e1, v2, _, rfl, e2, e3⟩
section
variable {P : Program} {w : World} {K : PySem.W.Frag} {mg : Str → Option Value} {base : Heap} {C D : Addr}
theorem ok_largest {f : Addr} {fd : FuncData} (Df : Def K mg "_largest_block" s_largest_block f fd) (b : Binds K fd ["shape", "start", "end"] []) (e_block : MetE P w K mg base 4 C "block_at" (spBlock C D)) : Cal P w K mg base 5 "_largest_block" (spLarge C) [] := by
  refine cal0 Df b .nil sc_largest_block (fun vs H Q E h => ?_) (fun cdv A outer s H vs Q E hr h => ?_)
  · obtain ⟨p, wt, st, dx, ws, lo, hi, rfl, _⟩ := h
    rfl
  obtain ⟨p, wt, st, dx, ws, lo, hi, rfl, hs, l0, l1, l2, q⟩ := h
  refine ⟨_, (pss_cons (ps_set (i := 3) sc_largest_block.nd rfl (.inl rfl) pe_int)
      (pss_cons (ps_set (i := 4) sc_largest_block.nd rfl (.inl rfl) (pe_mE e_block takes0 hr (by omega) (pv 0) (pa_cons (pv 3) (pa_cons (pv 1) pa_nil))))
      (pss_cons (ps_mk (ps_while PassesOwn.never (PW.pt (pw_or (pt_cmpR op_lt (pe_ix (ixT K rfl) (pv 4) pe_int (fun _ _ => rfl)) (pv 1) (nomark _)) (pw_or1 (pt_cmpR op_gt (pe_ix (ixT K rfl) (pv 4) pe_int (fun _ _ => rfl)) (pv 2) (nomark _)))))
      (pss_cons (ps_aug (i := 3) sc_largest_block.nd rfl (.inl rfl) pe_int ip_add)
      (pss_one (ps_set (i := 4) sc_largest_block.nd rfl (.inl rfl) (pe_mE e_block takes0 hr (by omega) (pv 0) (pa_cons (pv 3) (pa_cons (pv 1) pa_nil))))))))
      (pss_one (ps_ret (pv 4)))))), ?_⟩
  have pb := prod_b hs.sm
  have l3 : 0 < ws.length := List.length_pos_iff.mpr hs.sm.1
  walk_at "go"
  refine ⟨p, dx, _, rfl, hs.g, sh_no (by decide +kernel) (by decide +kernel) (by decide +kernel) (by decide +kernel), ?_⟩
  walk_at "go"
  refine ⟨p, wt, st, dx, ws, 0, lo, rfl, hs, l3, by omega, by omega, fun _ r H1 s1 gr => ?_, fun z => absurd ⟨l0, by omega⟩ z⟩
  refine jnS (M := fun σ H' => Same H H' ∧ ∃ (r : Addr) (y3 : Option V), H' r = some (.tup [.int lo, .int (lo + big lo hi (spansOf ws))]) ∧ σ = [sR p, sI lo, sI hi, y3, sR r]) ?_ (fun N kk => ?_)
  · rintro σ H2 ⟨s2, r, y3, g2, rfl⟩
    walk_at "go"
    exact q r _ s2 g2
  refine ⟨fun m σ H' => Ob (Same H H' ∧ ∃ (k : Nat) (r : Addr), m = ws.length - k ∧ k < ws.length ∧ big lo hi (spansOf ws) = big lo hi ((spansOf ws).drop k) ∧ H' r = some (.tup [.int (lo / spanN ws k * spanN ws k), .int (lo / spanN ws k * spanN ws k + spanN ws k)]) ∧ σ = [sR p, sI lo, sI hi, sI (k : Nat), sR r]), ⟨ws.length, ob ⟨s1, 0, r, by omega, l3, rfl, gr, rfl⟩⟩, ?_⟩
  intro m σ H2 h
  obtain ⟨s2, k, r, rfl, hk, eb, gr, rfl⟩ := unob h
  clear s1 h
  have sb := span_b hs.sm k
  have fl := fl_le (x := spanN ws k) (lo := lo) sb.1
  rw [spans_drop2 hk] at eb
  -- the way on
  have on : ¬ (spanN ws k ∣ lo ∧ lo + spanN ws k ≤ hi) → k + 1 < ws.length ∧ big lo hi (spansOf ws) = big lo hi ((spansOf ws).drop (k + 1)) := fun z => by
    constructor
    · refine Nat.lt_of_le_of_ne hk fun e => z ?_
      rw [span_last e]
      exact ⟨Int.one_dvd _, by omega⟩
    · rw [eb]
      show (if _ then _ else _) = _
      rw [if_neg z]
  walk_at "go"
  refine ⟨r, _, _, _, rfl, rfl, SqT.of gr, atI_nat (j := 0) rfl, ?_⟩
  walk_at "go"
  refine ifD (fun c => ?_) (fun c => ?_)
  rotate_left
  walk_at "go"
  refine ⟨r, _, _, _, rfl, rfl, SqT.of gr, atI_nat (j := 1) rfl, ?_⟩
  walk_at "go"
  refine ifD (fun c2 => ?_) (fun c2 => ?_)
  rotate_left
  · have el : lo / spanN ws k * spanN ws k = lo := by omega
    have ez : spanN ws k ∣ lo ∧ lo + spanN ws k ≤ hi := ⟨by rw [← el]; exact fl_dvd _ _, by omega⟩
    refine kk _ _ ⟨s2, r, _, ?_, rfl⟩
    rw [eb, gr, el]
    show _ = some (HO.tup [V.int lo, V.int (lo + if _ then _ else _)])
    rw [if_pos ez]
  all_goals
    have z : ¬ (spanN ws k ∣ lo ∧ lo + spanN ws k ≤ hi) := fun z => by
      have := fl_eq z.1
      omega
    obtain ⟨k1, eb2⟩ := on z
    refine ⟨_, fun _ _ z => z, ?_⟩
    walk_at "go"
    refine ⟨p, dx, _, rfl, (hs.same s2).g, sh_no (by decide +kernel) (by decide +kernel) (by decide +kernel) (by decide +kernel), ?_⟩
    walk_at "go"
    refine ⟨p, wt, st, dx, ws, k + 1, lo, by rw [Int.natCast_succ], hs.same s2, k1, by omega, by omega, fun _ r3 H3 s3 gr3 => ?_, fun z => absurd ⟨l0, by omega⟩ z⟩
    exact ⟨ws.length - (k + 1), by omega, ob ⟨s2.trans s3, k + 1, r3, rfl, k1, eb2, gr3, by rw [Int.natCast_succ]; rfl⟩⟩
theorem ok_cover {f : Addr} {fd : FuncData} (Df : Def K mg "cover" s_cover f fd) (b : Binds K fd ["shape", "start", "end"] []) (S : STxt K mg C) (e_check : CalE P w K mg base 3 "check_range" (spCheck D)) (c_largest : Cal P w K mg base 5 "_largest_block" (spLarge C) []) : CalE P w K mg base 6 "cover" (spCover C D) := by
  refine calE Df b sc_cover (fun vs H Q E h => ?_) (fun cdv A outer s H vs Q E hr h => ?_)
  · obtain ⟨p, wt, st, dx, ws, lo, hi, rfl, _⟩ := h
    rfl
  obtain ⟨p, wt, st, dx, ws, lo, hi, rfl, hs, l0, l1, h0, h1, q1, q2⟩ := h
  refine ⟨_, (pss_cons (ps_expr (pe_cE e_check (takes_of rfl rfl rfl rfl) hr (by omega) (by rfl) (pa_cons (pv 1) (pa_cons (pv 2) (pa_cons (pe_fld (pv 0) rfl) pa_nil)))))
      (pss_cons (ps_set (i := 3) sc_cover.nd rfl (.inl rfl) (pe_lst pa_nil))
      (pss_cons (ps_mk (ps_while (passes_of rfl) (pt_cmpR op_lt (pv 1) (pv 2) (nomark _))
      (pss_cons (ps_set (i := 4) sc_cover.nd rfl (.inl rfl) (C8.pe_c c_largest hr (by omega) (by rfl) (pa_cons (pv 0) (pa_cons (pv 1) (pa_cons (pv 2) pa_nil)))))
      (pss_cons (ps_expr (pe_bm PySem.F.plainAttrs_list PySem.F.slot_list_append PySem.F.type_list_append mt_append (pv 3) (pa_cons (pv 4) pa_nil)))
      (pss_one (ps_set (i := 1) sc_cover.nd rfl (.inl rfl) (pe_ix (ixT K rfl) (pv 4) pe_int (fun _ _ => rfl))))))))
      (pss_one (ps_ret (pv 3)))))), ?_⟩
  have pb := prod_b hs.sm
  have ch := chain_spans hs.sm.1 hs.sm.2.2
  have g := hs.g
  walk_at "go"
  refine ⟨_, _, _, _, _, rfl, g, S.cl, S.nP, shp, ?_⟩
  walk_at "go"
  refine ⟨lo, hi, prodI ws, rfl, log_small (by omega) (by omega), log_small (by omega) (by omega), fun z => ?_, fun z d nd => q2 z d nd⟩
  have q := q1 z
  clear q1 q2
  walk_at "go"
  refine ⟨sz, fun L nL => ?_⟩
  have s1 := same_upd (o := HO.lst []) nL
  have gL := upd_same (H := H) (a := L) (o := HO.lst [])
  generalize upd H L (HO.lst []) = H1 at *
  refine jnS (M := fun σ H' => Same H H' ∧ ∃ (bs : List V) (y1 y4 : Option V), H' L = some (.lst bs) ∧ DhAll H' ((cov (spansOf ws) lo hi).map pD) bs ∧ σ = [sR p, y1, sI hi, sR L, y4]) ?_ (fun N kk => ?_)
  · rintro σ H2 ⟨s2, bs, y1, y4, g2, d2, rfl⟩
    walk_at "go"
    exact q L bs _ s2 nL g2 d2
  refine ⟨fun m σ H' => Ob (Same H H' ∧ ∃ (cur : Int) (done : List (Int × Int)) (bs : List V) (y4 : Option V), m = (hi - cur).toNat ∧ lo ≤ cur ∧ cur ≤ hi ∧ cov (spansOf ws) lo hi = done ++ cov (spansOf ws) cur hi ∧ H' L = some (.lst bs) ∧ DhAll H' (done.map pD) bs ∧ σ = [sR p, sI cur, sI hi, sR L, y4]), ⟨(hi - lo).toNat, ob ⟨s1, lo, [], [], none, rfl, Int.le_refl _, by omega, rfl, gL, rfl, rfl⟩⟩, ?_⟩
  intro m σ H2 h
  obtain ⟨s2, cur, done, bs, y4, rfl, c0, c1, ec, gL2, db, rfl⟩ := unob h
  clear s1 h gL
  have lb := db.len
  have ln := cov_len ch (hi := hi) (hi - lo).toNat lo
  have el := congrArg List.length ec
  rw [List.length_append] at el
  rw [List.length_map] at lb
  have ln2 : (cov (spansOf ws) lo hi).length ≤ (hi - lo).toNat := ln
  walk_at "go"
  refine ifD (fun c => ?_) (fun c => ?_)
  · rw [cov_step ch c] at ec
    have bp := ch.pos _ (big_mem ch cur hi)
    have bf := big_fits ch c
    refine ⟨_, fun _ _ z => z, ?_⟩
    walk_at "go"
    refine ⟨p, wt, st, dx, ws, cur, hi, rfl, hs.same s2, by omega, c, z.2.2, fun r H3 s3 gr => ?_⟩
    have gL3 := s3 _ _ gL2
    have db3 := DhAll.mono s3 _ _ db
    generalize big cur hi (spansOf ws) = bg at *
    walk_at "go"
    refine ⟨L, _, _, rfl, rfl, gL3, sz5 (by omega), ?_⟩
    have hLr : r ≠ L := fun e => by
      rw [e, gL3] at gr
      cases gr
    have gr4 : (upd H3 L (HO.lst (bs ++ [V.ref r]))) r = some (.tup [.int cur, .int (cur + bg)]) := by
      rw [upd_ne hLr]
      exact gr
    have db4 := pairs_put (ys := bs ++ [V.ref r]) gL3 db3
    have s4 := same_put (o := HO.lst (bs ++ [V.ref r])) (s2.trans s3) nL
    have gL4 := upd_same (H := H3) (a := L) (o := HO.lst (bs ++ [V.ref r]))
    show _
    generalize upd H3 L (HO.lst (bs ++ [V.ref r])) = H4 at *
    walk_at "go"
    refine ⟨r, _, _, _, rfl, rfl, SqT.of gr4, atI_nat (j := 1) rfl, ?_⟩
    refine ⟨(hi - (cur + bg)).toNat, by omega, ob ⟨s4, cur + bg, done ++ [(cur, cur + bg)], bs ++ [V.ref r], sR r, rfl, by omega, by omega, by rw [ec, List.append_assoc]; rfl, gL4, ?_, rfl⟩⟩
    rw [List.map_append]
    exact DhAll.snoc db4 ⟨r, _, rfl, gr4, _, _, rfl, rfl, _, _, rfl, rfl, rfl⟩
  · rw [cov_end c, List.append_nil] at ec
    exact kk _ _ ⟨s2, bs, _, _, gL2, by rw [ec]; exact db, rfl⟩
end

end

section

-- a condition of an operator
local macro_rules | `(tactic| walk_at "cond") => `(tactic| first
  | (show (0 : Int) < _; omega)
  | (show CDiv _ _; constructor <;> (first | decide | omega))
  | (show CMul _ _; first | (refine cmul_l ?_; constructor <;> (first | decide | omega)) | (refine cmul_r ?_; constructor <;> (first | decide | omega)))
  | (show CPow _ _; exact (by refine ⟨by decide, by decide, by decide⟩))
  | (show CDivW _ _; exact ⟨by decide, by decide +kernel⟩))
local macro_rules | `(tactic| walk_at "sq") => `(tactic| first | assumption | exact Dh.mono (same_upd (by assumption)) _ _ (by assumption) | exact .inl (.inl (.inl (by assumption))) | exact .inr (.inl (.inl (by assumption))) | exact SqL.of (by assumption) | exact .inl (by assumption) | exact .inl (SqL.of (by assumption)) | exact SqT.of (by assumption) | exact .inr (SqT.of (by assumption)))
local macro_rules | `(tactic| walk_at "st") => `(tactic| first
  | refine ⟨_, rfl, ?_⟩
  | refine ⟨_, _, rfl, rfl, ?_⟩
  | refine .inl ⟨_, rfl, ?_⟩
  | refine ⟨rfl, ?_⟩
  | refine ⟨_, _, rfl, by walk_at "sq", ?_⟩
  | refine ⟨.inl ⟨rfl, _, SqL.of (by assumption)⟩, ?_⟩
  | refine ⟨by walk_at "cond", ?_⟩
  | (refine' ifBT ?hh ?_; (case hh => first | rfl | assumption))
  | (refine' ifBF ?hh ?_; (case hh => first | rfl | assumption)))
local macro_rules | `(tactic| walk_at "go") => `(tactic| repeat walk_at "st")
local macro_rules | `(tactic| walk_at "yes") => `(tactic| (refine' ifT ?hh ?_; (case hh => first | rfl | decide +kernel)))
local macro_rules | `(tactic| walk_at "no") => `(tactic| (refine' ifF ?hh ?_; (case hh => first | decide +kernel | (intro z; cases z; done))))

/-! ### the law's catch of cover -/
abbrev s_cover_refused : Stmt := topS 26
theorem sc_cover_refused : FnScope ["_law_shape", "_law_low", "_law_high", "e"] ["_law_shape", "_law_low", "_law_high"] (C8.fnScope s_cover_refused) := C8.fnScope_by (by decide +kernel)
/-- what the top says of the errors -/
structure ETxt (K : PySem.W.Frag) (mg : Str → Option Value) (D AE PgE U DN BF LE ME FE CE : Addr) : Prop where
  mB : mg "BadRange" = some (.ref D)
  mA : mg "AccessError" = some (.ref AE)
  mP : mg "PagesError" = some (.ref PgE)
  mU : mg "Unmapped" = some (.ref U)
  mD : mg "Denied" = some (.ref DN)
  mBF : mg "BeyondFile" = some (.ref BF)
  mL : mg "LimitError" = some (.ref LE)
  mM : mg "MissingError" = some (.ref ME)
  mF : mg "FileError" = some (.ref FE)
  mC : mg "CodeError" = some (.ref CE)
  zV : mg "ValueError" = none
  zI : mg "isinstance" = none
  xc : ExcC K D
  xf : XfC K D
  nS : PySem.W.findIn K (.ref D) "start" = some none
  nE : PySem.W.findIn K (.ref D) "end" = some none
  ex : PySem.W.exmOne K (.ref D) (.ref PgE) = some true
  iB : PySem.W.kitOne K (.ref D) (.ref D) = some true
  iA : PySem.W.kitOne K (.ref D) (.ref AE) = some true
  iV : PySem.W.kitOne K (.ref D) (.type "ValueError") = some true
  iN : PySem.W.kitAny K (.ref D) [.ref U, .ref DN, .ref BF, .ref LE, .ref ME, .ref FE, .ref CE] = some false
theorem br_end {i j : Int} : (brF i j).lookup ("end" : Str) = some (.int j) := by
  unfold brF
  simp [List.lookup]
theorem br_start {i j : Int} : (brF i j).lookup ("start" : Str) = some (.int i) := by
  unfold brF
  have e : (("start" : Str) == ("end" : Str)) = false := by decide +kernel
  simp [List.lookup, e]
def spRefu (C : Addr) : Sp := fun vs H Q _ => ∃ (p wt st dx : Addr) (ws : List Int) (lo hi : Int), vs = [.ref p, .int lo, .int hi] ∧ ShapeAt C H p wt st dx ws ∧ ¬ (0 ≤ lo ∧ lo < hi ∧ hi ≤ prodI ws) ∧ -(10 ^ 9) ≤ lo ∧ lo ≤ 10 ^ 9 ∧ -(10 ^ 9) ≤ hi ∧ hi ≤ 10 ^ 9 ∧
  ∀ r H', Same H H' → H' r = some (.tup [.int lo, .int hi]) → Q (.ref r) H'
section
variable {P : Program} {w : World} {K : PySem.W.Frag} {mg : Str → Option Value} {base : Heap} {C D AE PgE U DN BF LE ME FE CE : Addr}
theorem ok_refused {f : Addr} {fd : FuncData} (Df : Def K mg "_law_cover_refused" s_cover_refused f fd) (b : Binds K fd ["_law_shape", "_law_low", "_law_high"] []) (T : Txt mg) (TE : ETxt K mg D AE PgE U DN BF LE ME FE CE)
    (e_cover : CalE P w K mg base 6 "cover" (spCover C D)) : Cal P w K mg base 7 "_law_cover_refused" (spRefu C) [] := by
  refine cal0 Df b .nil sc_cover_refused (fun vs H Q E h => ?_) (fun cdv A outer s H vs Q E hr h => ?_)
  · obtain ⟨p, wt, st, dx, ws, lo, hi, rfl, _⟩ := h
    rfl
  obtain ⟨p, wt, st, dx, ws, lo, hi, rfl, hs, out, l0, l1, h0, h1, q⟩ := h
  refine ⟨_, (pss_cons (ps_mk (ps_try_m (i := 3) rfl rfl sc_cover_refused.nd rfl rfl ⟨rfl, by decide, Or.inl TE.mP⟩ takes0 (fun W pn xe tk _ =>
      (pss_one (ps_expr (pe_cE e_cover tk hr (by omega) (by rfl) (pa_cons (pv 0) (pa_cons (pv 1) (pa_cons (pv 2) pa_nil)))))))
      (fun a oe cls d pn hz hf =>
      (pss_cons (ps_mk (ps_if (PW.pt (pw_or (pt_not (pt_val (pe_callB (call_isX K rfl TE.xc hz hf) (by rfl) T.isinstance (by decide +kernel) (pa_cons (pv 3) (pa_cons (pe_glob (v := V.ref D) (by rfl) TE.mB rfl) pa_nil))))) (pw_or (pt_not (pt_val (pe_callB (call_isX K rfl TE.xc hz hf) (by rfl) T.isinstance (by decide +kernel) (pa_cons (pv 3) (pa_cons (pe_glob (v := V.ref AE) (by rfl) TE.mA rfl) pa_nil))))) (pw_or1 (pt_not (pt_val (pe_callB (call_isX K rfl TE.xc hz hf) (by rfl) T.isinstance (by decide +kernel) (pa_cons (pv 3) (pa_cons (pe_bltn (v := .ty "ValueError") (by rfl) TE.zV (by decide +kernel) rfl) pa_nil)))))))))
      (pss_one (ps_ret pe_non))
      pss_nil))
      (pss_cons (ps_mk (ps_if (pt_val (pe_callB (call_isXT K rfl TE.xc hz hf) (by rfl) T.isinstance (by decide +kernel) (pa_cons (pv 3) (pa_cons (pe_tup (pa_cons (pe_glob (v := V.ref U) (by rfl) TE.mU rfl) (pa_cons (pe_glob (v := V.ref DN) (by rfl) TE.mD rfl) (pa_cons (pe_glob (v := V.ref BF) (by rfl) TE.mBF rfl) (pa_cons (pe_glob (v := V.ref LE) (by rfl) TE.mL rfl) (pa_cons (pe_glob (v := V.ref ME) (by rfl) TE.mM rfl) (pa_cons (pe_glob (v := V.ref FE) (by rfl) TE.mF rfl) (pa_cons (pe_glob (v := V.ref CE) (by rfl) TE.mC rfl) pa_nil)))))))) pa_nil))))
      (pss_one (ps_ret pe_non))
      pss_nil))
      (pss_one (ps_ret (pe_tup (pa_cons (pe_xf TE.xf TE.nS hz hf (pv 3)) (pa_cons (pe_xf TE.xf TE.nE hz hf (pv 3)) pa_nil))))))))))
      (pss_one (ps_ret pe_non))), ?_⟩
  refine jnS (M := fun _ _ => False) (fun _ _ z => z.elim) (fun N kk => ?_)
  intro W hW
  have key : ∀ d, H d = none → W (.ref D) (some d) (start ["_law_shape", "_law_low", "_law_high", "e"] [V.ref p, V.int lo, V.int hi]) (upd H d (.xd (brF lo hi))) := fun d nd => hW _ _ _ _ (catch_yes TE.ex fun a na => by
    have s1 := same_upd (o := HO.xd (brF lo hi)) nd
    have gd := upd_same (H := H) (a := d) (o := HO.xd (brF lo hi))
    clear hW
    generalize upd H d (HO.xd (brF lo hi)) = H1 at *
    refine jnS (M := fun σ H' => H' = H1 ∧ σ = [sR p, sI lo, sI hi, sR a]) ?_ (fun N2 k2 => ?_)
    rotate_left
    · walk_at "go"
      refine ⟨d, _, _, true, _, rfl, rfl, .own D, gd, TE.iB, ?_⟩
      walk_at "go"
      refine ⟨d, _, _, true, _, rfl, rfl, .own AE, gd, TE.iA, ?_⟩
      walk_at "go"
      refine ⟨d, _, _, true, _, rfl, rfl, .ty "ValueError", gd, TE.iV, ?_⟩
      walk_at "go"
      exact k2 _ _ ⟨rfl, rfl⟩
    rintro σ H2 ⟨rfl, rfl⟩
    refine jnS (M := fun σ H' => Same H2 H' ∧ σ = [sR p, sI lo, sI hi, sR a]) ?_ (fun N2 k2 => ?_)
    rotate_left
    · walk_at "go"
      refine ⟨sz, fun tp ntp => ?_⟩
      have s2 := same_upd (o := HO.tup [V.ref U, V.ref DN, V.ref BF, V.ref LE, V.ref ME, V.ref FE, V.ref CE]) ntp
      walk_at "go"
      refine ⟨d, tp, _, _, false, _, rfl, rfl, upd_same, .cons (.own U) (.cons (.own DN) (.cons (.own BF) (.cons (.own LE) (.cons (.own ME) (.cons (.own FE) (.cons (.own CE) .nil)))))), s2 _ _ gd, TE.iN, ?_⟩
      walk_at "go"
      exact k2 _ _ ⟨s2, rfl⟩
    rintro σ H3 ⟨s3, rfl⟩
    have gd3 := s3 _ _ gd
    walk_at "go"
    refine ⟨d, _, .int lo, rfl, gd3, br_start, ?_⟩
    walk_at "go"
    refine ⟨d, _, .int hi, rfl, gd3, br_end, ?_⟩
    walk_at "go"
    refine ⟨sz, fun r nr => ?_⟩
    exact q r _ ((s1.trans s3).trans (same_upd nr)) upd_same)
  walk_at "go"
  exact ⟨p, wt, st, dx, ws, lo, hi, rfl, hs, l0, l1, h0, h1, fun z => absurd z out, fun _ d nd => key d nd⟩
end

end

section

-- a condition of an operator
local macro_rules | `(tactic| walk_at "cond") => `(tactic| first
  | (show (0 : Int) < _; omega)
  | (show CDiv _ _; constructor <;> (first | decide | omega))
  | (show CMul _ _; first | (refine cmul_l ?_; constructor <;> (first | decide | omega)) | (refine cmul_r ?_; constructor <;> (first | decide | omega)))
  | (show CPow _ _; exact (by refine ⟨by decide, by decide, by decide⟩))
  | (show CDivW _ _; exact ⟨by decide, by decide +kernel⟩))
local macro_rules | `(tactic| walk_at "sq") => `(tactic| first | assumption | exact Dh.mono (same_upd (by assumption)) _ _ (by assumption) | exact .inl (.inl (.inl (by assumption))) | exact .inr (.inl (.inl (by assumption))) | exact SqL.of (by assumption) | exact .inl (by assumption) | exact .inl (SqL.of (by assumption)) | exact SqT.of (by assumption) | exact .inr (SqT.of (by assumption)))
local macro_rules | `(tactic| walk_at "st") => `(tactic| first
  | refine ⟨_, rfl, ?_⟩
  | refine ⟨_, _, rfl, rfl, ?_⟩
  | refine .inl ⟨_, rfl, ?_⟩
  | refine ⟨rfl, ?_⟩
  | refine ⟨_, _, rfl, by walk_at "sq", ?_⟩
  | refine ⟨.inl ⟨rfl, _, SqL.of (by assumption)⟩, ?_⟩
  | refine ⟨by walk_at "cond", ?_⟩
  | (refine' ifBT ?hh ?_; (case hh => first | rfl | assumption))
  | (refine' ifBF ?hh ?_; (case hh => first | rfl | assumption)))
local macro_rules | `(tactic| walk_at "go") => `(tactic| repeat walk_at "st")
local macro_rules | `(tactic| walk_at "yes") => `(tactic| (refine' ifT ?hh ?_; (case hh => first | rfl | decide +kernel)))
local macro_rules | `(tactic| walk_at "no") => `(tactic| (refine' ifF ?hh ?_; (case hh => first | decide +kernel | (intro z; cases z; done))))

local macro_rules | `(tactic| walk_at "st") => `(tactic| refine ⟨_, _, _, _, _, rfl, by assumption, by assumption, by omega, by omega, by omega, by omega, by omega, ?_⟩)
local macro_rules | `(tactic| walk_at "st") => `(tactic| refine ⟨_, _, _, _, _, rfl, Same.seq (by assumption) (by assumption), by assumption, by omega, by omega, by omega, by omega, by omega, ?_⟩)

/-! ### _law_range, _law_is_cover -/
abbrev s_range : Stmt := topS 25
theorem sc_range : FnScope ["_law_script", "_law_at", "_law_total", "_law_low", "_law_many", "_law_high", "_law_pairs"] ["_law_script", "_law_at", "_law_total"] (C8.fnScope s_range) := C8.fnScope_by (by decide +kernel)
abbrev s_is_cover : Stmt := topS 27
theorem sc_is_cover : FnScope ["_law_told", "_law_fan_here", "_law_low", "_law_high", "_law_spans", "_law_at", "_law_block", "_law_size", "_law_span", "_law_outer"] ["_law_told", "_law_fan_here", "_law_low", "_law_high"] (C8.fnScope s_is_cover) := C8.fnScope_by (by decide +kernel)
def spRange (K : PySem.W.Frag) : Sp := fun vs H Q _ => ∃ (a : Addr) (ns : List Int) (i t : Int), vs = [.ref a, .int i, .int t] ∧ SqL K H a (ns.map V.int) ∧ ns.length ≤ 63 ∧ 0 ≤ i ∧ i ≤ 1000000 ∧ 1 ≤ t ∧ t ≤ 1000000 ∧
  ∀ (r : Addr) (x y : Int) (H' : Hp), Same H H' → -10000000 ≤ x → x ≤ 10000000 → -10000000 ≤ y → y ≤ 10000000 → H' r = some (.tup [.int x, .int y]) → Q (.ref r) H'
def spIsCov : Sp := fun vs H Q _ => ∃ (T a : Addr) (bs : List V) (ws : List Int) (lo hi : Int), vs = [.ref T, .ref a, .int lo, .int hi] ∧ H T = some (.lst bs) ∧ DhAll H ((cov (spansOf ws) lo hi).map pD) bs ∧ H a = some (.lst (ws.map V.int)) ∧ Small ws ∧ 0 ≤ lo ∧ lo < hi ∧ hi ≤ 1000000 ∧
  ∀ H', Same H H' → Q (.bl true) H'
section
variable {P : Program} {w : World} {K : PySem.W.Frag} {mg : Str → Option Value} {base : Heap}
theorem inV_ints (x : Int) (ns : List Int) : inV (.int x) (ns.map V.int) = decide (x ∈ ns) := by
  unfold inV
  induction ns with
  | nil => simp
  | cons n ns ih =>
    rw [List.map_cons, List.any_cons, ih]
    show ((n == x) || decide (x ∈ ns)) = _
    by_cases h : n = x
    · subst h
      simp
    · have h2 : (n == x) = false := by simpa using h
      rw [h2, Bool.false_or]
      have h3 : ¬ x = n := fun e => h e.symm
      simp [h3]
theorem flat_ints : ∀ ns : List Int, (ns.map V.int).all flatV = true
  | [] => rfl
  | _ :: ns => by
    rw [List.map_cons, List.all_cons, flat_ints ns]
    rfl
theorem ok_range {f : Addr} {fd : FuncData} (D : Def K mg "_law_range" s_range f fd) (b : Binds K fd ["_law_script", "_law_at", "_law_total"] []) (T : Txt mg) (c_number : Cal P w K mg base 1 "_law_number" (spNum K) []) : Cal P w K mg base 2 "_law_range" (spRange K) [] := by
  refine cal0 D b .nil sc_range (fun vs H Q E h => ?_) (fun cdv A outer s H vs Q E hr h => ?_)
  · obtain ⟨a, ns, i, t, rfl, _⟩ := h
    rfl
  obtain ⟨a, ns, i, t, rfl, ha, hl, i0, i1, t0, t1, q⟩ := h
  refine ⟨_, (pss_cons (ps_set (i := 3) sc_range.nd rfl (.inl rfl) (pe_op op_mod (pe_callTy call_int1 (by rfl) T.int (by decide +kernel) (pa_cons (pe_op op_add (C8.pe_c c_number hr (by omega) (by rfl) (pa_cons (pv 0) (pa_cons (pv 1) (pa_cons pe_int (pa_cons pe_int pa_nil))))) (pe_op op_mul pe_int (C8.pe_c c_number hr (by omega) (by rfl) (pa_cons (pv 0) (pa_cons (pv 1) (pa_cons pe_int (pa_cons pe_int pa_nil))))))) pa_nil)) (pv 2)))
      (pss_cons (ps_set (i := 4) sc_range.nd rfl (.inl rfl) (pe_op op_mod (pe_callTy call_int1 (by rfl) T.int (by decide +kernel) (pa_cons (pe_op op_add (C8.pe_c c_number hr (by omega) (by rfl) (pa_cons (pv 0) (pa_cons (pv 1) (pa_cons pe_int (pa_cons pe_int pa_nil))))) (pe_op op_mul pe_int (C8.pe_c c_number hr (by omega) (by rfl) (pa_cons (pv 0) (pa_cons (pv 1) (pa_cons pe_int (pa_cons pe_int pa_nil))))))) pa_nil)) (pe_op op_sub (pv 2) (pv 3))))
      (pss_cons (ps_set (i := 5) sc_range.nd rfl (.inl rfl) (pe_op op_add (pe_op op_add (pv 3) pe_int) (pv 4)))
      (pss_cons (ps_mk (ps_if (pt_cmpR op_eq (C8.pe_c c_number hr (by omega) (by rfl) (pa_cons (pv 0) (pa_cons (pv 1) (pa_cons pe_int (pa_cons pe_int pa_nil))))) pe_int (nomark _))
      (pss_cons (ps_set (i := 6) sc_range.nd rfl (.inl rfl) (pe_lst (pa_cons (pe_tup (pa_cons (pv 3) (pa_cons (pv 3) pa_nil))) (pa_cons (pe_tup (pa_cons (pv 5) (pa_cons (pv 3) pa_nil))) (pa_cons (pe_tup (pa_cons (pv 3) (pa_cons (pe_op op_add (pv 2) pe_int) pa_nil))) (pa_cons (pe_tup (pa_cons (pe_un un_neg pe_int) (pa_cons (pv 5) pa_nil))) (pa_cons (pe_tup (pa_cons (pv 2) (pa_cons (pe_op op_add (pv 2) pe_int) pa_nil))) (pa_cons (pe_tup (pa_cons (pe_un un_neg pe_int) (pa_cons (pe_un un_neg pe_int) pa_nil))) pa_nil))))))))
      (pss_one (ps_ret (pe_ix (ixL K rfl) (pv 6) (C8.pe_c c_number hr (by omega) (by rfl) (pa_cons (pv 0) (pa_cons (pv 1) (pa_cons pe_int (pa_cons pe_int pa_nil))))) (fun _ _ => rfl)))))
      pss_nil))
      (pss_one (ps_ret (pe_tup (pa_cons (pv 3) (pa_cons (pv 5) pa_nil))))))))), ?_⟩
  have w0 : 0 ≤ num ns i 14 5 := num_nn (by decide)
  have w1 : num ns i 14 5 < 5 := num_lt (by decide)
  have v0 : 0 ≤ num ns i 10 1000 := num_nn (by decide)
  have v1 : num ns i 10 1000 < 1000 := num_lt (by decide)
  have u0 : 0 ≤ num ns i 15 5 := num_nn (by decide)
  have u1 : num ns i 15 5 < 5 := num_lt (by decide)
  have r0 : 0 ≤ num ns i 11 1000 := num_nn (by decide)
  have r1 : num ns i 11 1000 < 1000 := num_lt (by decide)
  have tp : 0 < t := by omega
  have m0 := Int.emod_nonneg (num ns i 10 1000 + 1000 * num ns i 14 5) (show t ≠ 0 by omega)
  have m1 := Int.emod_lt_of_pos (num ns i 10 1000 + 1000 * num ns i 14 5) tp
  walk_at "go"
  have k0 := Int.emod_nonneg (num ns i 11 1000 + 1000 * num ns i 15 5) (show t - (num ns i 10 1000 + 1000 * num ns i 14 5) % t ≠ 0 by omega)
  have k1 := Int.emod_lt_of_pos (num ns i 11 1000 + 1000 * num ns i 15 5) (show 0 < t - (num ns i 10 1000 + 1000 * num ns i 14 5) % t by omega)
  walk_at "go"
  dsimp only
  generalize (num ns i 11 1000 + 1000 * num ns i 15 5) % (t - (num ns i 10 1000 + 1000 * num ns i 14 5) % t) = mn at *
  generalize (num ns i 10 1000 + 1000 * num ns i 14 5) % t = lw at *
  obtain ⟨hh, eh⟩ : ∃ hh, hh = lw + 1 + mn := ⟨_, rfl⟩
  rw [← eh]
  refine jnS (M := fun σ H' => Same H H' ∧ σ = [sR a, sI i, sI t, sI lw, sI mn, sI hh, none]) ?_ (fun N kk => ?_)
  · rintro σ H2 ⟨s2, rfl⟩
    walk_at "go"
    refine ⟨sz, fun r nr => ?_⟩
    exact q r lw hh _ (s2.trans (same_upd nr)) (by omega) (by omega) (by omega) (by omega) upd_same
  walk_at "go"
  refine ifEq (fun c => ?_) (fun c => ?_)
  rotate_left
  · exact kk _ _ ⟨same_rfl, rfl⟩
  walk_at "go"
  refine ⟨sz, fun p0 n0 => ?_⟩
  have e0 := same_upd (o := HO.tup [V.int lw, V.int lw]) n0
  have g0 := upd_same (H := H) (a := p0) (o := HO.tup [V.int lw, V.int lw])
  have sa0 : Same H _ := e0
  generalize upd H p0 (HO.tup [V.int lw, V.int lw]) = G0 at *
  walk_at "go"
  refine ⟨sz, fun p1 n1 => ?_⟩
  have e1 := same_upd (o := HO.tup [V.int hh, V.int lw]) n1
  have g1 := upd_same (H := G0) (a := p1) (o := HO.tup [V.int hh, V.int lw])
  have g0 := e1 _ _ g0
  have sa1 : Same H _ := sa0.trans e1
  generalize upd G0 p1 (HO.tup [V.int hh, V.int lw]) = G1 at *
  walk_at "go"
  refine ⟨sz, fun p2 n2 => ?_⟩
  have e2 := same_upd (o := HO.tup [V.int lw, V.int (t + 1)]) n2
  have g2 := upd_same (H := G1) (a := p2) (o := HO.tup [V.int lw, V.int (t + 1)])
  have g0 := e2 _ _ g0
  have g1 := e2 _ _ g1
  have sa2 : Same H _ := sa1.trans e2
  generalize upd G1 p2 (HO.tup [V.int lw, V.int (t + 1)]) = G2 at *
  walk_at "go"
  refine ⟨sz, fun p3 n3 => ?_⟩
  have e3 := same_upd (o := HO.tup [V.int (-1), V.int hh]) n3
  have g3 := upd_same (H := G2) (a := p3) (o := HO.tup [V.int (-1), V.int hh])
  have g0 := e3 _ _ g0
  have g1 := e3 _ _ g1
  have g2 := e3 _ _ g2
  have sa3 : Same H _ := sa2.trans e3
  generalize upd G2 p3 (HO.tup [V.int (-1), V.int hh]) = G3 at *
  walk_at "go"
  refine ⟨sz, fun p4 n4 => ?_⟩
  have e4 := same_upd (o := HO.tup [V.int t, V.int (t + 3)]) n4
  have g4 := upd_same (H := G3) (a := p4) (o := HO.tup [V.int t, V.int (t + 3)])
  have g0 := e4 _ _ g0
  have g1 := e4 _ _ g1
  have g2 := e4 _ _ g2
  have g3 := e4 _ _ g3
  have sa4 : Same H _ := sa3.trans e4
  generalize upd G3 p4 (HO.tup [V.int t, V.int (t + 3)]) = G4 at *
  walk_at "go"
  refine ⟨sz, fun p5 n5 => ?_⟩
  have e5 := same_upd (o := HO.tup [V.int (-3), V.int (-2)]) n5
  have g5 := upd_same (H := G4) (a := p5) (o := HO.tup [V.int (-3), V.int (-2)])
  have g0 := e5 _ _ g0
  have g1 := e5 _ _ g1
  have g2 := e5 _ _ g2
  have g3 := e5 _ _ g3
  have g4 := e5 _ _ g4
  have sa5 : Same H _ := sa4.trans e5
  generalize upd G4 p5 (HO.tup [V.int (-3), V.int (-2)]) = G5 at *
  walk_at "go"
  refine ⟨sz, fun pl nl => ?_⟩
  have e6 := same_upd (o := HO.lst [V.ref p0, V.ref p1, V.ref p2, V.ref p3, V.ref p4, V.ref p5]) nl
  have gl := upd_same (H := G5) (a := pl) (o := HO.lst [V.ref p0, V.ref p1, V.ref p2, V.ref p3, V.ref p4, V.ref p5])
  have g0 := e6 _ _ g0
  have g1 := e6 _ _ g1
  have g2 := e6 _ _ g2
  have g3 := e6 _ _ g3
  have g4 := e6 _ _ g4
  have g5 := e6 _ _ g5
  have s6 := sa5.trans e6
  generalize upd G5 pl (HO.lst [V.ref p0, V.ref p1, V.ref p2, V.ref p3, V.ref p4, V.ref p5]) = G6 at *
  have ha6 := s6.seq ha
  obtain ⟨r, x, y, hat, gr, b0, b1, b2, b3⟩ : ∃ (r : Addr) (x y : Int), atI [V.ref p0, V.ref p1, V.ref p2, V.ref p3, V.ref p4, V.ref p5] (num ns i 13 6) = some (.ref r) ∧ G6 r = some (.tup [.int x, .int y]) ∧ -10000000 ≤ x ∧ x ≤ 10000000 ∧ -10000000 ≤ y ∧ y ≤ 10000000 := by
    have d0 : 0 ≤ num ns i 13 6 := num_nn (by decide)
    have d1 : num ns i 13 6 < 6 := num_lt (by decide)
    have h : num ns i 13 6 = 0 ∨ num ns i 13 6 = 1 ∨ num ns i 13 6 = 2 ∨ num ns i 13 6 = 3 ∨ num ns i 13 6 = 4 ∨ num ns i 13 6 = 5 := by omega
    rcases h with e | e | e | e | e | e <;> rw [e]
    · exact ⟨p0, _, _, rfl, g0, by omega, by omega, by omega, by omega⟩
    · exact ⟨p1, _, _, rfl, g1, by omega, by omega, by omega, by omega⟩
    · exact ⟨p2, _, _, rfl, g2, by omega, by omega, by omega, by omega⟩
    · exact ⟨p3, _, _, rfl, g3, by omega, by omega, by omega, by omega⟩
    · exact ⟨p4, _, _, rfl, g4, by omega, by omega, by omega, by omega⟩
    · exact ⟨p5, _, _, rfl, g5, by omega, by omega, by omega, by omega⟩
  walk_at "go"
  refine ⟨_, _, _, _, rfl, rfl, SqL.of gl, hat, ?_⟩
  exact q r x y _ s6 b0 b1 b2 b3 gr
theorem ok_is_cover {f : Addr} {fd : FuncData} (D : Def K mg "_law_is_cover" s_is_cover f fd) (b : Binds K fd ["_law_told", "_law_fan_here", "_law_low", "_law_high"] []) (T : Txt mg) (c_fan_spans : Cal P w K mg base 1 "_law_fan_spans" (spFanSpans K) []) (c_is_whole : Cal P w K mg base 1 "_law_is_whole" spWhole []) : Cal P w K mg base 2 "_law_is_cover" spIsCov [] := by
  refine cal0 D b .nil sc_is_cover (fun vs H Q E h => ?_) (fun cdv A outer s H vs Q E hr h => ?_)
  · obtain ⟨T, a, bs, ws, lo, hi, rfl, _⟩ := h
    rfl
  obtain ⟨T0, a, bs, ws, lo, hi, rfl, gT, dT, ha, sm, l0, l1, l2, q⟩ := h
  refine ⟨_, (pss_cons (ps_set (i := 4) sc_is_cover.nd rfl (.inl rfl) (C8.pe_c c_fan_spans hr (by omega) (by rfl) (pa_cons (pv 1) pa_nil)))
      (pss_cons (ps_mk (ps_if (pt_not (pt_val (pe_callB is_list (by rfl) T.isinstance (by decide +kernel) (pa_cons (pv 0) (pa_cons (pe_bltn (v := .ty "list") (by rfl) T.list (by decide +kernel) rfl) pa_nil)))))
      (pss_one (ps_ret pe_bl))
      pss_nil))
      (pss_cons (ps_set (i := 5) sc_is_cover.nd rfl (.inl rfl) (pv 2))
      (pss_cons (ps_mk (ps_for PassesOwn.never rfl (pi_list (pv 0)) (pg_name (i := 6) sc_is_cover.nd rfl (.inl rfl))
      (pss_cons (ps_mk (ps_if (PW.pt (pw_or (pt_not (pt_val (pe_callB is_tuple (by rfl) T.isinstance (by decide +kernel) (pa_cons (pv 6) (pa_cons (pe_bltn (v := .ty "tuple") (by rfl) T.tuple (by decide +kernel) rfl) pa_nil))))) (pw_or1 (pt_cmpR op_ne (pe_callB (lenQ K rfl) (by rfl) T.len PySem.boot_len (pa_cons (pv 6) pa_nil)) pe_int (nomark _)))))
      (pss_one (ps_ret pe_bl))
      pss_nil))
      (pss_cons (ps_mk (ps_if (PW.pt (pw_or (pt_not (pt_val (C8.pe_c c_is_whole hr (by omega) (by rfl) (pa_cons (pe_ix (ixT K rfl) (pv 6) pe_int (fun _ _ => rfl)) pa_nil)))) (pw_or (pt_not (pt_val (C8.pe_c c_is_whole hr (by omega) (by rfl) (pa_cons (pe_ix (ixT K rfl) (pv 6) pe_int (fun _ _ => rfl)) pa_nil)))) (pw_or (pt_cmpR op_ne (pe_ix (ixT K rfl) (pv 6) pe_int (fun _ _ => rfl)) (pv 5) (nomark _)) (pw_or1 (pt_cmpR op_gt (pe_ix (ixT K rfl) (pv 6) pe_int (fun _ _ => rfl)) (pv 3) (nomark _)))))))
      (pss_one (ps_ret pe_bl))
      pss_nil))
      (pss_cons (ps_set (i := 7) sc_is_cover.nd rfl (.inl rfl) (pe_op op_sub (pe_ix (ixT K rfl) (pv 6) pe_int (fun _ _ => rfl)) (pe_ix (ixT K rfl) (pv 6) pe_int (fun _ _ => rfl))))
      (pss_cons (ps_mk (ps_if (PW.pt (pw_or (pt_cmpR (notInQ K rfl) (pv 7) (pv 4) (by rfl)) (pw_or1 (pt_cmpR op_ne (pe_op op_mod (pe_callTy call_int1 (by rfl) T.int (by decide +kernel) (pa_cons (pv 5) pa_nil)) (pv 7)) pe_int (nomark _)))))
      (pss_one (ps_ret pe_bl))
      pss_nil))
      (pss_cons (ps_mk (ps_for PassesOwn.never rfl (pi_list (pv 4)) (pg_name (i := 8) sc_is_cover.nd rfl (.inl rfl))
      (pss_cons (ps_set (i := 9) sc_is_cover.nd rfl (.inl rfl) (pe_op op_mul (pe_op op_fdiv (pv 5) (pv 8)) (pv 8)))
      (pss_one (ps_mk (ps_if (PW.pt (pw_and (pt_cmpR op_gt (pv 8) (pv 7) (nomark _)) (pw_and (pt_cmpR op_le (pv 2) (pv 9) (nomark _)) (pw_and1 (pt_cmpR op_le (pe_op op_add (pv 9) (pv 8)) (pv 3) (nomark _))))))
      (pss_one (ps_ret pe_bl))
      pss_nil))))))
      (pss_one (ps_set (i := 5) sc_is_cover.nd rfl (.inl rfl) (pe_ix (ixT K rfl) (pv 6) pe_int (fun _ _ => rfl)))))))))))
      (pss_one (ps_ret (pe_cmpR op_eq (pv 5) (pv 3) (nomark _)))))))), ?_⟩
  have ch := chain_spans sm.1 sm.2.2
  walk_at "go"
  refine ⟨sm, fun sp H1 s1 nsp gsp => ?_⟩
  have gT1 := s1 _ _ gT
  have dT1 := DhAll.mono s1 _ _ dT
  clear gT dT ha
  have lb := dT1.len
  rw [List.length_map] at lb
  have sle : ∀ x ∈ spansOf ws, 0 < x ∧ x ≤ 8 ^ 6 := fun x hx => by
    obtain ⟨k, hk⟩ := List.mem_iff_getElem?.mp hx
    have hk2 := (List.getElem?_eq_some_iff.mp hk).1
    rw [spans_len] at hk2
    rw [spans_get hk2] at hk
    rw [← Option.some.inj hk]
    exact span_b sm k
  generalize spansOf ws = ss at *
  walk_at "go"
  refine un ?_
  walk_at "go"
  refine ⟨_, .list ((cov ss lo hi).map pD), rfl, ⟨T0, _, rfl, gT1, dT1⟩, ?_⟩
  walk_at "go"
  refine jnS (M := fun σ H' => Same H H' ∧ ∃ y6 y7 y8 y9, σ = [sR T0, sR a, sI lo, sI hi, sR sp, sI hi, y6, y7, y8, y9]) ?_ (fun N kk => ?_)
  · rintro σ H2 ⟨s2, y6, y7, y8, y9, rfl⟩
    walk_at "go"
    rw [decide_eq_true rfl]
    exact q _ s2
  walk_at "go"
  refine ⟨⟨_, SqL.of gT1⟩, for_list (K := K) (a := T0) (xs := bs) (fun i σ H' => Ob (Same H1 H' ∧ ∃ (cur : Int) (pre : List (Int × Int)) (y6 y7 y8 y9 : Option V), pre.length = i ∧ lo ≤ cur ∧ cur ≤ hi ∧ Free ss lo hi cur ∧ cov ss lo hi = pre ++ cov ss cur hi ∧ σ = [sR T0, sR a, sI lo, sI hi, sR sp, sI cur, y6, y7, y8, y9])) (ob ⟨same_rfl, lo, [], none, none, none, none, rfl, Int.le_refl _, by omega, free_start _ _ _, rfl, rfl⟩) (fun i σ H' _ h => SqL.of ((unob h).1 _ _ gT1)) ?_ ?_⟩
  rotate_left
  · intro σ H2 h
    obtain ⟨s2, cur, pre, y6, y7, y8, y9, lp, c0, c1, fr, ec, rfl⟩ := unob h
    have : ¬ cur < hi := fun z => by
      rw [cov_step ch z] at ec
      have := congrArg List.length ec
      rw [List.length_append, List.length_cons] at this
      omega
    rw [show cur = hi by omega]
    exact kk _ _ ⟨s1.trans s2, y6, y7, y8, y9, rfl⟩
  intro i x σ H2 hi2 h
  obtain ⟨s2, cur, pre, y6, y7, y8, y9, lp, c0, c1, fr, ec, rfl⟩ := unob h
  clear h
  have hil := (List.getElem?_eq_some_iff.mp hi2).1
  have cl : cur < hi := by
    refine Int.not_le.mp fun z => ?_
    rw [cov_end (lo := cur) (by omega), List.append_nil] at ec
    rw [ec] at lb
    omega
  have ec2 := cov_step ch cl
  have bm := big_mem ch cur hi
  have bf := big_fits ch cl
  have bp := ch.pos _ bm
  have fs := free_step ch cl c0 fr
  have fx := fun x hx => free_max ch cl fr (x := x) hx
  have ez : (cov ss lo hi)[i]? = some (cur, cur + big cur hi ss) := by
    rw [ec, ec2, List.getElem?_append_right (by omega), lp, Nat.sub_self]
    rfl
  rw [ec2] at ec
  obtain ⟨x2, hx2, dx⟩ := dT1.get (i := i) (d := pD (cur, cur + big cur hi ss)) (by rw [List.getElem?_map, ez]; rfl)
  obtain rfl : x2 = x := by
    rw [hi2] at hx2
    exact (Option.some.inj hx2).symm
  obtain ⟨bl, us, rfl, gb, v1, us1, rfl, rfl, v2, us2, rfl, rfl, e3⟩ := dx
  cases (show us2 = [] from e3)
  generalize big cur hi ss = B at *
  have gb2 := s2 _ _ gb
  have tp := SqT.of (K := K) gb2
  have bB := sle B bm
  have a0 : atI [V.int cur, V.int (cur + B)] 0 = some (.int cur) := rfl
  have a1 : atI [V.int cur, V.int (cur + B)] 1 = some (.int (cur + B)) := rfl
  clear dT1 hx2 hi2 ez ec2
  walk_at "go"
  refine jnS (M := fun σ H' => H' = H2 ∧ σ = [sR T0, sR a, sI lo, sI hi, sR sp, sI cur, sR bl, y7, y8, y9]) ?_ (fun N2 k2 => ?_)
  rotate_left
  · walk_at "go"
    refine ⟨_, .tuple [.int cur, .int (cur + B)], rfl, ⟨bl, _, rfl, gb2, _, _, rfl, rfl, _, _, rfl, rfl, rfl⟩, ?_⟩
    walk_at "go"
    exact k2 _ _ ⟨rfl, rfl⟩
  rintro σ H3 ⟨e3, rfl⟩
  subst e3
  refine jnS (M := fun σ H' => H' = H3 ∧ σ = [sR T0, sR a, sI lo, sI hi, sR sp, sI cur, sR bl, y7, y8, y9]) ?_ (fun N2 k2 => ?_)
  rotate_left
  · walk_at "go"
    refine ⟨bl, _, _, _, rfl, rfl, tp, a0, ?_⟩
    walk_at "go"
    refine ⟨_, .int cur, rfl, rfl, ?_⟩
    walk_at "go"
    refine ⟨bl, _, _, _, rfl, rfl, tp, a1, ?_⟩
    walk_at "go"
    refine ⟨_, .int (cur + B), rfl, rfl, ?_⟩
    walk_at "go"
    refine ⟨bl, _, _, _, rfl, rfl, tp, a0, ?_⟩
    walk_at "go"
    refine ifNe (fun c => absurd rfl c) (fun _ => ?_)
    walk_at "go"
    refine ⟨bl, _, _, _, rfl, rfl, tp, a1, ?_⟩
    walk_at "go"
    refine ifD (fun c => absurd c (by omega)) (fun _ => ?_)
    exact k2 _ _ ⟨rfl, rfl⟩
  rintro σ H4 ⟨e4, rfl⟩
  subst e4
  walk_at "go"
  refine ⟨bl, _, _, _, rfl, rfl, tp, a1, ?_⟩
  walk_at "go"
  refine ⟨bl, _, _, _, rfl, rfl, tp, a0, ?_⟩
  have eB : cur + B - cur = B := by omega
  have gsp2 := s2 _ _ gsp
  walk_at "go"
  refine jnS (M := fun σ H' => H' = H4 ∧ σ = [sR T0, sR a, sI lo, sI hi, sR sp, sI cur, sR bl, sI B, y8, y9]) ?_ (fun N2 k2 => ?_)
  rotate_left
  · walk_at "go"
    refine ⟨flat_ints _, ?_⟩
    rw [inV_ints, eB]
    walk_at "go"
    refine ifN ?_
    refine ifD (fun _ => ?_) (fun c => absurd bm c)
    walk_at "go"
    refine ifNe (fun c => absurd (Int.emod_eq_zero_of_dvd bf.1) (by rw [eB] at c; exact c)) (fun _ => ?_)
    exact k2 _ _ ⟨rfl, by
      show [sR T0, sR a, sI lo, sI hi, sR sp, sI cur, sR bl, sI (cur + B - cur), y8, y9] = _
      rw [eB]⟩
  rintro σ H5 ⟨e5, rfl⟩
  subst e5
  refine jnS (M := fun σ H' => H' = H5 ∧ ∃ y8 y9, σ = [sR T0, sR a, sI lo, sI hi, sR sp, sI cur, sR bl, sI B, y8, y9]) ?_ (fun N2 k2 => ?_)
  · rintro σ H6 ⟨e6, z8, z9, rfl⟩
    subst e6
    walk_at "go"
    refine ⟨bl, _, _, _, rfl, rfl, tp, a1, ?_⟩
    exact ob ⟨s2, cur + B, pre ++ [(cur, cur + B)], _, _, _, _, by rw [List.length_append, lp]; rfl, by omega, bf.2, fs, by rw [ec, List.append_assoc]; rfl, rfl⟩
  walk_at "go"
  refine ⟨⟨_, SqL.of gsp2⟩, for_list (K := K) (a := sp) (xs := ss.map V.int) (fun i σ H' => Ob (H' = H5 ∧ ∃ y8 y9, σ = [sR T0, sR a, sI lo, sI hi, sR sp, sI cur, sR bl, sI B, y8, y9])) (ob ⟨rfl, _, _, rfl⟩) (fun i σ H' _ h => by rw [(unob h).1]; exact SqL.of gsp2) ?_ ?_⟩
  rotate_left
  · intro σ H6 h
    obtain ⟨e6, z8, z9, rfl⟩ := unob h
    exact k2 _ _ ⟨e6, _, _, rfl⟩
  intro j x σ H6 hj h
  obtain ⟨e6, z8, z9, rfl⟩ := unob h
  subst e6
  have hjl : j < ss.length := by
    have z := (List.getElem?_eq_some_iff.mp hj).1
    rw [List.length_map] at z
    exact z
  obtain rfl : x = .int ss[j] := by
    rw [List.getElem?_map, List.getElem?_eq_getElem hjl] at hj
    exact (Option.some.inj hj).symm
  have xm := List.getElem_mem hjl
  have xb := sle _ xm
  have fxx := fx _ xm
  generalize ss[j] = xv at *
  have fin : ∀ y9, Ob (H6 = H6 ∧ ∃ y8' y9', [sR T0, sR a, sI lo, sI hi, sR sp, sI cur, sR bl, sI B, sI xv, y9] = [sR T0, sR a, sI lo, sI hi, sR sp, sI cur, sR bl, sI B, y8', y9']) := fun y9 => ob ⟨rfl, _, _, rfl⟩
  clear h k2 hj
  walk_at "go"
  refine un ?_
  walk_at "go"
  refine ifD (fun c => ?_) (fun c => ?_)
  · walk_at "go"
    refine ifD (fun c2 => ?_) (fun c2 => ?_)
    · walk_at "go"
      refine ifD (fun c3 => (fxx c c2 c3).elim) (fun c3 => ?_)
      exact fin _
    · exact fin _
  · exact fin _
end

end

section

-- a condition of an operator
local macro_rules | `(tactic| walk_at "cond") => `(tactic| first
  | (show (0 : Int) < _; omega)
  | (show CDiv _ _; constructor <;> (first | decide | omega))
  | (show CMul _ _; first | (refine cmul_l ?_; constructor <;> (first | decide | omega)) | (refine cmul_r ?_; constructor <;> (first | decide | omega)))
  | (show CPow _ _; exact (by refine ⟨by decide, by decide, by decide⟩))
  | (show CDivW _ _; exact ⟨by decide, by decide +kernel⟩))
local macro_rules | `(tactic| walk_at "sq") => `(tactic| first | assumption | exact Dh.mono (same_upd (by assumption)) _ _ (by assumption) | exact .inl (.inl (.inl (by assumption))) | exact .inr (.inl (.inl (by assumption))) | exact SqL.of (by assumption) | exact .inl (by assumption) | exact .inl (SqL.of (by assumption)) | exact SqT.of (by assumption) | exact .inr (SqT.of (by assumption)))
local macro_rules | `(tactic| walk_at "st") => `(tactic| first
  | refine ⟨_, rfl, ?_⟩
  | refine ⟨_, _, rfl, rfl, ?_⟩
  | refine .inl ⟨_, rfl, ?_⟩
  | refine ⟨rfl, ?_⟩
  | refine ⟨_, _, rfl, by walk_at "sq", ?_⟩
  | refine ⟨.inl ⟨rfl, _, SqL.of (by assumption)⟩, ?_⟩
  | refine ⟨by walk_at "cond", ?_⟩
  | (refine' ifBT ?hh ?_; (case hh => first | rfl | assumption))
  | (refine' ifBF ?hh ?_; (case hh => first | rfl | assumption)))
local macro_rules | `(tactic| walk_at "go") => `(tactic| repeat walk_at "st")
local macro_rules | `(tactic| walk_at "yes") => `(tactic| (refine' ifT ?hh ?_; (case hh => first | rfl | decide +kernel)))
local macro_rules | `(tactic| walk_at "no") => `(tactic| (refine' ifF ?hh ?_; (case hh => first | decide +kernel | (intro z; cases z; done))))

/-! ### _law_least_count -/
abbrev s_least_count : Stmt := topS 28
theorem sc_least_count : FnScope ["_law_fan_here", "_law_low", "_law_high", "_law_spans", "_law_need", "_law_end", "_law_ways", "_law_span"] ["_law_fan_here", "_law_low", "_law_high"] (C8.fnScope s_least_count) := C8.fnScope_by (by decide +kernel)
structure TxtM (mg : Str → Option Value) : Prop extends Txt mg where
  min : mg "min" = none
def spLeast : Sp := fun vs H Q _ => ∃ (a : Addr) (ws : List Int) (lo hi : Int), vs = [.ref a, .int lo, .int hi] ∧ H a = some (.lst (ws.map V.int)) ∧ Small ws ∧ 0 ≤ lo ∧ lo < hi ∧ hi ≤ 100000 ∧
  ∀ H', Same H H' → Q (.int ((cov (spansOf ws) lo hi).length : Nat)) H'
theorem least_step {ss : List Int} (c : Chain ss) {low : Int} {j : Nat} {vals ys : List Int} (hv : ∀ i, i ≤ j → Least ss low i (vals.getD i 0))
    (h1 : ∀ y ∈ ys, ∃ x ∈ ss, x ∣ low + (j + 1 : Nat) ∧ low ≤ low + (j + 1 : Nat) - x ∧ y = vals.getD (low + (j + 1 : Nat) - x - low).toNat 0)
    (h2 : ∀ x ∈ ss, x ∣ low + (j + 1 : Nat) → low ≤ low + (j + 1 : Nat) - x → vals.getD (low + (j + 1 : Nat) - x - low).toNat 0 ∈ ys) {m : Int} (hm : m ∈ ys) (hl : ∀ y ∈ ys, m ≤ y) : Least ss low (j + 1) (1 + m) := by
  obtain ⟨x, hx, d, l, rfl⟩ := h1 m hm
  have xp := c.pos x hx
  obtain ⟨k, hk⟩ : ∃ k : Nat, (k : Int) = low + (j + 1 : Nat) - x - low := ⟨(low + (j + 1 : Nat) - x - low).toNat, by omega⟩
  have ek : (low + (j + 1 : Nat) - x - low).toNat = k := by omega
  rw [ek] at hl ⊢
  obtain ⟨v0, t, mn⟩ := hv k (by omega)
  generalize vals.getD k 0 = v at *
  refine ⟨by omega, ?_, fun n tn => ?_⟩
  · have e : low + ((j + 1 : Nat) : Int) = low + (k : Int) + x := by omega
    have dx : x ∣ low + (k : Int) := by
      have z := Int.dvd_sub d (Int.dvd_refl x)
      rw [e, show low + (k : Int) + x - x = low + (k : Int) by omega] at z
      exact z
    rw [e, show (1 + v).toNat = v.toNat + 1 by omega]
    exact .snoc t hx dx
  · generalize eb : low + ((j + 1 : Nat) : Int) = b at *
    cases tn with
    | nil => omega
    | snoc t2 hs d2 =>
      rename_i b2 s n2
      have sp := c.pos _ hs
      have l2 := t2.le c
      obtain ⟨k2, hk2⟩ : ∃ k2 : Nat, (k2 : Int) = b2 + s - s - low := ⟨(b2 + s - s - low).toNat, by omega⟩
      have z := h2 s hs (Int.dvd_add d2 (Int.dvd_refl s)) (by omega)
      rw [show (b2 + s - s - low).toNat = k2 by omega] at z
      have z1 := hl _ z
      have z2 := (hv k2 (by omega)).2.2 n2 (by rw [show low + (k2 : Int) = b2 by omega]; exact t2)
      omega
section
variable {P : Program} {w : World} {K : PySem.W.Frag} {mg : Str → Option Value} {base : Heap}
theorem ok_least {f : Addr} {fd : FuncData} (D : Def K mg "_law_least_count" s_least_count f fd) (b : Binds K fd ["_law_fan_here", "_law_low", "_law_high"] []) (T : TxtM mg) (c_fan_spans : Cal P w K mg base 1 "_law_fan_spans" (spFanSpans K) []) : Cal P w K mg base 2 "_law_least_count" spLeast [] := by
  refine cal0 D b .nil sc_least_count (fun vs H Q E h => ?_) (fun cdv A outer s H vs Q E hr h => ?_)
  · obtain ⟨a, ws, lo, hi, rfl, _⟩ := h
    rfl
  obtain ⟨a, ws, lo, hi, rfl, ha, sm, l0, l1, l2, q⟩ := h
  refine ⟨_, (pss_cons (ps_set (i := 3) sc_least_count.nd rfl (.inl rfl) (C8.pe_c c_fan_spans hr (by omega) (by rfl) (pa_cons (pv 0) pa_nil)))
      (pss_cons (ps_set (i := 4) sc_least_count.nd rfl (.inr rfl) (pe_lst (pa_cons pe_int pa_nil)))
      (pss_cons (ps_mk (ps_for PassesOwn.never rfl (pi_range2 (by rfl) T.range (pa_cons (pe_op op_add (pv 1) pe_int) (pa_cons (pe_op op_add (pv 2) pe_int) pa_nil))) (pg_name (i := 5) sc_least_count.nd rfl (.inr rfl))
      (pss_cons (ps_setLc (i := 6) (own := [("_law_span", 7)]) (g := gName 7) rfl sc_least_count.nd rfl rfl (sw_true rfl rfl rfl (by decide +kernel)) (pi_list (pv 3)) (blkOk_by (own := [("_law_span", 7)]) (N := ["_law_fan_here", "_law_low", "_law_high", "_law_spans", "_law_need", "_law_end", "_law_ways", "_law_span"]) (sc := C8.fnScope s_least_count) (by decide +kernel)) (fun _ _ _ _ _ => (pg_name (i := 7) sc_least_count.nd rfl (.inl rfl))) (fun _ _ _ _ _ => (pts_one (PW.pt (pw_and (pt_cmpR op_eq (pe_op op_mod (pe_callTy call_int1 (by rfl) T.int (by decide +kernel) (pa_cons (pv 5) pa_nil)) (pv 7)) pe_int (nomark _)) (pw_and1 (pt_cmpR op_ge (pe_op op_sub (pv 5) (pv 7)) (pv 1) (nomark _))))))) (fun _ _ _ _ _ => (pe_ix (ixL K rfl) (pv 4) (pe_op op_sub (pe_op op_sub (pv 5) (pv 7)) (pv 1)) (fun _ _ => rfl))))
      (pss_one (ps_expr (pe_bm PySem.F.plainAttrs_list PySem.F.slot_list_append PySem.F.type_list_append mt_append (pv 4) (pa_cons (pe_op op_add pe_int (pe_callB (cr_min rfl) (by rfl) T.min (by decide +kernel) (pa_cons (pv 6) pa_nil))) pa_nil)))))))
      (pss_one (ps_ret (pe_ix (ixL K rfl) (pv 4) (pe_un un_neg pe_int) (fun _ _ => rfl))))))), ?_⟩
  have ch := chain_spans sm.1 sm.2.2
  have h6 := sm.2.1
  have sl := spans_len ws
  walk_at "go"
  refine ⟨sm, fun sp H1 s1 nsp gsp => ?_⟩
  have sle : ∀ x ∈ spansOf ws, 0 < x ∧ x ≤ 8 ^ 6 := fun x hx => by
    obtain ⟨k, hk⟩ := List.mem_iff_getElem?.mp hx
    have hk2 := (List.getElem?_eq_some_iff.mp hk).1
    rw [spans_len] at hk2
    rw [spans_get hk2] at hk
    rw [← Option.some.inj hk]
    exact span_b sm k
  have one : (1 : Int) ∈ spansOf ws := by
    obtain ⟨k, hk⟩ : ∃ k, k + 1 = ws.length := ⟨ws.length - 1, by have := List.length_pos_iff.mpr sm.1; omega⟩
    have z := spans_get (ws := ws) (k := k) (by omega)
    rw [span_last hk] at z
    exact List.mem_of_getElem? z
  generalize spansOf ws = ss at *
  walk_at "go"
  refine ⟨sz, fun L nL => ?_⟩
  have nL0 := s1.free nL
  have s2 := s1.trans (same_upd (o := HO.lst [V.int 0]) nL)
  have gL := upd_same (H := H1) (a := L) (o := HO.lst [V.int 0])
  have gsp2 := same_upd (o := HO.lst [V.int 0]) nL _ _ gsp
  have hLs : sp ≠ L := ne_of_none gsp nL
  generalize upd H1 L (HO.lst [V.int 0]) = H2 at *
  clear gsp nL s1
  refine jnS (M := fun σ H' => Same H H' ∧ ∃ (vals : List Int) (y5 y6 y7 : Option V), vals.length = (hi - lo).toNat + 1 ∧ Least ss lo (hi - lo).toNat (vals.getD (hi - lo).toNat 0) ∧ H' L = some (.lst (vals.map V.int)) ∧ σ = [sR a, sI lo, sI hi, sR sp, sR L, y5, y6, y7]) ?_ (fun N kk => ?_)
  · rintro σ H3 ⟨s3, vals, y5, y6, y7, lv, le, g3, rfl⟩
    have el := least_cov ch (show lo ≤ hi by omega) le
    walk_at "go"
    refine ⟨L, _, _, .int (vals.getD (hi - lo).toNat 0), rfl, rfl, SqL.of g3, ?_, ?_⟩
    · obtain ⟨v0, v1, rfl⟩ : ∃ v0 v1, vals = v0 ++ [v1] := ⟨vals.dropLast, vals.getLast (by intro e; rw [e] at lv; simp at lv), (List.dropLast_concat_getLast _).symm⟩
      rw [List.length_append] at lv
      have : (v0 ++ [v1]).getD (hi - lo).toNat 0 = v1 := by
        rw [List.getD_eq_getElem?_getD, List.getElem?_append_right (by simp at lv; omega), show (hi - lo).toNat - v0.length = 0 by simp at lv; omega]
        rfl
      rw [this, List.map_append]
      exact atI_last _ _
    · rw [el]
      exact q _ s3
  walk_at "go"
  refine ⟨_, _, rfl, ⟨by omega, by omega, by omega, by omega⟩, for_range (lo := lo + 1) (n := (hi + 1 - (lo + 1)).toNat) (fun j σ H' => Ob (Same H H' ∧ H' sp = some (.lst (ss.map V.int)) ∧ ∃ (vals : List Int) (y5 y6 y7 : Option V), vals.length = j + 1 ∧ (∀ i, i ≤ j → Least ss lo i (vals.getD i 0)) ∧ H' L = some (.lst (vals.map V.int)) ∧ σ = [sR a, sI lo, sI hi, sR sp, sR L, y5, y6, y7])) (ob ⟨s2, gsp2, [0], none, none, none, rfl, fun i hi => ?_, gL, rfl⟩) ?_ ?_⟩
  · obtain rfl : i = 0 := by omega
    exact least_zero _ _
  rotate_left
  · intro σ H3 h
    obtain ⟨s3, gs, vals, y5, y6, y7, lv, hv, g3, rfl⟩ := unob h
    rw [show (hi + 1 - (lo + 1)).toNat = (hi - lo).toNat by omega] at lv hv
    exact kk _ _ ⟨s3, vals, _, _, _, lv, hv _ (Nat.le_refl _), g3, rfl⟩
  intro j σ H3 hj h
  obtain ⟨s3, gs, vals, y5, y6, y7, lv, hv, g3, rfl⟩ := unob h
  clear h kk gL s2 gsp2
  obtain ⟨en, ee⟩ : ∃ en, en = lo + ((j + 1 : Nat) : Int) := ⟨_, rfl⟩
  rw [show lo + 1 + (j : Int) = en by omega]
  walk_at "go"
  refine ⟨⟨_, SqL.of gs⟩, fun W nW => lc_list (K := K) (a := sp) (xs := ss.map V.int) (fun i H' => Ob (Same H3 H' ∧ ∃ ys : List Int, ys.length ≤ i ∧ (∀ y ∈ ys, ∃ x ∈ ss, x ∣ en ∧ lo ≤ en - x ∧ y = vals.getD (en - x - lo).toNat 0) ∧ (∀ x ∈ ss.take i, x ∣ en → lo ≤ en - x → vals.getD (en - x - lo).toNat 0 ∈ ys) ∧ H' W = some (.lst (ys.map V.int)))) (ob ⟨same_upd nW, [], Nat.le_refl _, fun y hy => (by cases hy), fun x hx => (by cases hx), upd_same⟩) (fun i H' _ h => SqL.of ((unob h).1 _ _ gs)) ?_ ?_⟩
  · intro i x H4 hi4 h
    obtain ⟨s4, ys, ly, h1, h2, g4⟩ := unob h
    have hil : i < ss.length := by
      have z := (List.getElem?_eq_some_iff.mp hi4).1
      rw [List.length_map] at z
      exact z
    obtain rfl : x = .int ss[i] := by
      rw [List.getElem?_map, List.getElem?_eq_getElem hil] at hi4
      exact (Option.some.inj hi4).symm
    have xm := List.getElem_mem hil
    have xb := sle _ xm
    have tk : ss.take (i + 1) = ss.take i ++ [ss[i]] := by
      rw [List.take_add_one, List.getElem?_eq_getElem hil]
      rfl
    generalize ss[i] = xv at *
    have skip : ¬ (xv ∣ en ∧ lo ≤ en - xv) → Ob (Same H3 H4 ∧ ∃ ys : List Int, ys.length ≤ i + 1 ∧ (∀ y ∈ ys, ∃ x ∈ ss, x ∣ en ∧ lo ≤ en - x ∧ y = vals.getD (en - x - lo).toNat 0) ∧ (∀ x ∈ ss.take (i + 1), x ∣ en → lo ≤ en - x → vals.getD (en - x - lo).toNat 0 ∈ ys) ∧ H4 W = some (.lst (ys.map V.int))) := fun z => ob ⟨s4, ys, Nat.le_succ_of_le ly, h1, fun x hx d l => by
      rw [tk] at hx
      rcases List.mem_append.mp hx with hx | hx
      · exact h2 x hx d l
      · obtain rfl := List.mem_singleton.mp hx
        exact absurd ⟨d, l⟩ z, g4⟩
    have g34 := s4 _ _ g3
    clear h
    walk_at "go"
    refine ifEq (fun c => ?_) (fun c => ?_)
    · have d := Int.dvd_of_emod_eq_zero c
      walk_at "go"
      refine ifD (fun c2 => ?_) (fun c2 => ?_)
      · walk_at "go"
        refine ⟨L, _, _, .int (vals.getD (en - xv - lo).toNat 0), rfl, rfl, SqL.of g34, atI_getD (by omega) (by omega), ?_⟩
        refine ⟨_, g4, sz5 (by rw [List.length_map]; omega), ob ⟨same_put s4 nW, ys ++ [vals.getD (en - xv - lo).toNat 0], by rw [List.length_append]; exact Nat.add_le_add_right ly 1, fun y hy => ?_, fun x hx d l => ?_, by rw [upd_same, List.map_append]; rfl⟩⟩
        · rcases List.mem_append.mp hy with hy | hy
          · exact h1 y hy
          · obtain rfl := List.mem_singleton.mp hy
            exact ⟨xv, xm, d, c2, rfl⟩
        · rw [tk] at hx
          rcases List.mem_append.mp hx with hx | hx
          · exact List.mem_append_left _ (h2 x hx d l)
          · obtain rfl := List.mem_singleton.mp hx
            exact List.mem_append_right _ List.mem_cons_self
      · exact skip fun z => c2 z.2
    · exact skip fun z => c (Int.emod_eq_zero_of_dvd z.1)
  intro H4 h
  obtain ⟨s4, ys, ly, h1, h2, g4⟩ := unob h
  rw [List.length_map] at ly h2
  rw [List.take_length] at h2
  have yp : 0 < ys.length := List.length_pos_of_mem (h2 1 one (Int.one_dvd _) (by omega))
  have g34 := s4 _ _ g3
  have gs4 := s4 _ _ gs
  have s34 := s3.trans s4
  walk_at "go"
  refine ⟨yp, fun m hm hle => ?_⟩
  rw [ee] at h1 h2
  have ls := least_step ch hv h1 h2 hm hle
  walk_at "go"
  refine ⟨L, _, _, rfl, rfl, g34, sz5 (by rw [List.length_map]; omega), ?_⟩
  refine ob ⟨same_put s34 nL0, by rw [upd_ne hLs]; exact gs4, vals ++ [1 + m], _, _, _, by rw [List.length_append, lv]; rfl, fun i hi => ?_, by rw [upd_same, List.map_append]; rfl, rfl⟩
  by_cases e : i = j + 1
  · rw [e]
    have : (vals ++ [1 + m]).getD (j + 1) 0 = 1 + m := by
      rw [List.getD_eq_getElem?_getD, List.getElem?_append_right (by omega), lv, Nat.sub_self]
      rfl
    rw [this]
    exact ls
  · have : (vals ++ [1 + m]).getD i 0 = vals.getD i 0 := by
      rw [List.getD_eq_getElem?_getD, List.getElem?_append_left (by omega), ← List.getD_eq_getElem?_getD]
    rw [this]
    exact hv i (by omega)
end

end

section

-- a condition of an operator
local macro_rules | `(tactic| walk_at "cond") => `(tactic| first
  | (show (0 : Int) < _; omega)
  | (show CDiv _ _; constructor <;> (first | decide | omega))
  | (show CMul _ _; first | (refine cmul_l ?_; constructor <;> (first | decide | omega)) | (refine cmul_r ?_; constructor <;> (first | decide | omega)))
  | (show CPow _ _; exact (by refine ⟨by decide, by decide, by decide⟩))
  | (show CDivW _ _; exact ⟨by decide, by decide +kernel⟩))
local macro_rules | `(tactic| walk_at "sq") => `(tactic| first | assumption | exact Dh.mono (same_upd (by assumption)) _ _ (by assumption) | exact .inl (.inl (.inl (by assumption))) | exact .inr (.inl (.inl (by assumption))) | exact SqL.of (by assumption) | exact .inl (by assumption) | exact .inl (SqL.of (by assumption)) | exact SqT.of (by assumption) | exact .inr (SqT.of (by assumption)))
local macro_rules | `(tactic| walk_at "st") => `(tactic| first
  | refine ⟨_, rfl, ?_⟩
  | refine ⟨_, _, rfl, rfl, ?_⟩
  | refine .inl ⟨_, rfl, ?_⟩
  | refine ⟨rfl, ?_⟩
  | refine ⟨_, _, rfl, by walk_at "sq", ?_⟩
  | refine ⟨.inl ⟨rfl, _, SqL.of (by assumption)⟩, ?_⟩
  | refine ⟨by walk_at "cond", ?_⟩
  | (refine' ifBT ?hh ?_; (case hh => first | rfl | assumption))
  | (refine' ifBF ?hh ?_; (case hh => first | rfl | assumption)))
local macro_rules | `(tactic| walk_at "go") => `(tactic| repeat walk_at "st")
local macro_rules | `(tactic| walk_at "yes") => `(tactic| (refine' ifT ?hh ?_; (case hh => first | rfl | decide +kernel)))
local macro_rules | `(tactic| walk_at "no") => `(tactic| (refine' ifF ?hh ?_; (case hh => first | decide +kernel | (intro z; cases z; done))))

/-! ### _law_cover_good -/
abbrev s_cover_good : Stmt := topS 29
theorem sc_cover_good : FnScope ["_law_shape", "_law_fan_here", "_law_low", "_law_high", "_law_spans", "_law_told", "_law_kept"] ["_law_shape", "_law_fan_here", "_law_low", "_law_high"] (C8.fnScope s_cover_good) := C8.fnScope_by (by decide +kernel)
def spCovG (C : Addr) : Sp := fun vs H Q _ => ∃ (p wt st dx a : Addr) (ws : List Int) (lo hi : Int), vs = [.ref p, .ref a, .int lo, .int hi] ∧ ShapeAt C H p wt st dx ws ∧ H a = some (.lst (ws.map V.int)) ∧ prodI ws ≤ 4096 ∧ -10000000 ≤ lo ∧ lo ≤ 10000000 ∧ -10000000 ≤ hi ∧ hi ≤ 10000000 ∧
  ∀ H', Same H H' → Q (.bl true) H'
theorem ShapeAt.put {C : Addr} {H : Hp} {p wt st dx G : Addr} {ws : List Int} {xs ys : List V} (h : ShapeAt C H p wt st dx ws) (g : H G = some (.lst xs)) : ShapeAt C (upd H G (.lst ys)) p wt st dx ws := by
  have n1 : p ≠ G := fun e => by
    have z := h.g
    rw [e, g] at z
    cases z
  have n2 : wt ≠ G := fun e => by
    have z := h.w
    rw [e, g] at z
    cases z
  have n3 : st ≠ G := fun e => by
    have z := h.s
    rw [e, g] at z
    cases z
  exact ⟨by rw [upd_ne n1]; exact h.g, by rw [upd_ne n2]; exact h.w, by rw [upd_ne n3]; exact h.s, h.sm⟩
theorem dle_pairs {n : Nat} (zs : List (Int × Int)) (h : zs.length ≤ 100000) : Dle (n + 3) (.list (zs.map pD)) := ⟨by rw [List.length_map]; exact h, fun e he => by
  obtain ⟨z, _, rfl⟩ := List.mem_map.mp he
  exact ⟨by show 2 ≤ 100000; decide, fun e he => by
    rcases List.mem_cons.mp he with rfl | he
    · trivial
    · obtain rfl := List.mem_singleton.mp he
      trivial⟩⟩
section
variable {P : Program} {w : World} {K : PySem.W.Frag} {mg : Str → Option Value} {base : Heap} {C D : Addr}
theorem ok_cover_good {f : Addr} {fd : FuncData} (Df : Def K mg "_law_cover_good" s_cover_good f fd) (b : Binds K fd ["_law_shape", "_law_fan_here", "_law_low", "_law_high"] []) (T : Txt mg) (c_fan_spans : Cal P w K mg base 1 "_law_fan_spans" (spFanSpans K) [])
    (e_cover : CalE P w K mg base 6 "cover" (spCover C D)) (c_cover_refused : Cal P w K mg base 7 "_law_cover_refused" (spRefu C) []) (c_is_cover : Cal P w K mg base 2 "_law_is_cover" spIsCov []) (c_least_count : Cal P w K mg base 2 "_law_least_count" spLeast []) (c_same : Cal P w K mg base 5 "_law_same" (spSame 4) []) : Cal P w K mg base 8 "_law_cover_good" (spCovG C) [] := by
  refine cal0 Df b .nil sc_cover_good (fun vs H Q E h => ?_) (fun cdv A outer s H vs Q E hr h => ?_)
  · obtain ⟨p, wt, st, dx, a, ws, lo, hi, rfl, _⟩ := h
    rfl
  obtain ⟨p, wt, st, dx, a, ws, lo, hi, rfl, hs, ha, pm, x0, x1, y0, y1, q⟩ := h
  refine ⟨_, (pss_cons (ps_set (i := 4) sc_cover_good.nd rfl (.inl rfl) (C8.pe_c c_fan_spans hr (by omega) (by rfl) (pa_cons (pv 1) pa_nil)))
      (pss_cons (ps_mk (ps_if (PW.pt (pw_or (pt_cmpR op_lt (pv 2) pe_int (nomark _)) (pw_or (pt_cmpR op_ge (pv 2) (pv 3) (nomark _)) (pw_or1 (pt_cmpR op_gt (pv 3) (pe_op op_mul (pe_ix (ixL K rfl) (pv 4) pe_int (fun _ _ => rfl)) (pe_ix (ixL K rfl) (pv 1) pe_int (fun _ _ => rfl))) (nomark _))))))
      (pss_one (ps_ret (C8.pe_c c_same hr (by omega) (by rfl) (pa_cons (C8.pe_c c_cover_refused hr (by omega) (by rfl) (pa_cons (pv 0) (pa_cons (pv 2) (pa_cons (pv 3) pa_nil)))) (pa_cons (pe_tup (pa_cons (pv 2) (pa_cons (pv 3) pa_nil))) pa_nil)))))
      pss_nil))
      (pss_cons (ps_set (i := 5) sc_cover_good.nd rfl (.inl rfl) (pe_cE e_cover takes0 hr (by omega) (by rfl) (pa_cons (pv 0) (pa_cons (pv 2) (pa_cons (pv 3) pa_nil)))))
      (pss_cons (ps_mk (ps_if (pt_not (pt_val (C8.pe_c c_is_cover hr (by omega) (by rfl) (pa_cons (pv 5) (pa_cons (pv 1) (pa_cons (pv 2) (pa_cons (pv 3) pa_nil)))))))
      (pss_one (ps_ret pe_bl))
      pss_nil))
      (pss_cons (ps_mk (ps_if (PW.pt (pw_and (pt_cmpR op_le (pe_op op_sub (pv 3) (pv 2)) pe_int (nomark _)) (pw_and1 (pt_cmpR op_ne (pe_callB (lenQ K rfl) (by rfl) T.len PySem.boot_len (pa_cons (pv 5) pa_nil)) (C8.pe_c c_least_count hr (by omega) (by rfl) (pa_cons (pv 1) (pa_cons (pv 2) (pa_cons (pv 3) pa_nil)))) (nomark _)))))
      (pss_one (ps_ret pe_bl))
      pss_nil))
      (pss_cons (ps_set (i := 6) sc_cover_good.nd rfl (.inl rfl) (pe_callTy (listQ K rfl) (by rfl) T.list (by decide +kernel) (pa_cons (pv 5) pa_nil)))
      (pss_cons (ps_asg (pe_tup (pa_cons (pv 3) (pa_cons (pv 3) pa_nil))) (pg_sub (pv 5) pe_int set_list))
      (pss_cons (ps_expr (pe_bm PySem.F.plainAttrs_list PySem.F.slot_list_append PySem.F.type_list_append mt_append (pv 5) (pa_cons (pe_tup (pa_cons (pv 2) (pa_cons (pv 2) pa_nil))) pa_nil)))
      (pss_one (ps_ret (C8.pe_c c_same hr (by omega) (by rfl) (pa_cons (pe_cE e_cover takes0 hr (by omega) (by rfl) (pa_cons (pv 0) (pa_cons (pv 2) (pa_cons (pv 3) pa_nil)))) (pa_cons (pv 6) pa_nil))))))))))))), ?_⟩
  have sm := hs.sm
  have l0 : 0 < ws.length := List.length_pos_iff.mpr sm.1
  have b0 := span_b sm 0
  have e0 := span0_mul l0
  have ts : atI ((spansOf ws).map V.int) 0 = some (.int (spanN ws 0)) := atI_nat (j := 0) (by rw [List.getElem?_map, spans_get l0]; rfl)
  have tw : atI (ws.map V.int) 0 = some (.int (ws.getD 0 0)) := atI_getD (Int.le_refl 0) (by omega)
  have ch := chain_spans sm.1 sm.2.2
  walk_at "go"
  refine ⟨sm, fun sp H1 s1 nsp gsp => ?_⟩
  have hs1 := hs.same s1
  have ha1 := s1 _ _ ha
  clear hs ha
  refine jnS (M := fun σ H' => (0 ≤ lo ∧ lo < hi ∧ hi ≤ prodI ws) ∧ H' = H1 ∧ σ = [sR p, sR a, sI lo, sI hi, sR sp, none, none]) ?_ (fun N kk => ?_)
  rotate_left
  · walk_at "go"
    by_cases hin : 0 ≤ lo ∧ lo < hi ∧ hi ≤ prodI ws
    · refine ifD (fun c => absurd c (by omega)) (fun c => ?_)
      walk_at "go"
      refine ifD (fun c => absurd c (by omega)) (fun c => ?_)
      walk_at "go"
      refine ⟨_, _, _, _, rfl, rfl, SqL.of gsp, ts, ?_⟩
      walk_at "go"
      refine ⟨_, _, _, _, rfl, rfl, SqL.of ha1, tw, ?_⟩
      walk_at "go"
      refine ifD (fun c => absurd c (by rw [e0]; omega)) (fun c => ?_)
      exact kk _ _ ⟨hin, rfl, rfl⟩
    · refine ifD (fun c => ?_) (fun c => ?_)
      rotate_left
      walk_at "go"
      refine ifD (fun c => ?_) (fun c => ?_)
      rotate_left
      walk_at "go"
      refine ⟨_, _, _, _, rfl, rfl, SqL.of gsp, ts, ?_⟩
      walk_at "go"
      refine ⟨_, _, _, _, rfl, rfl, SqL.of ha1, tw, ?_⟩
      walk_at "go"
      refine ifD (fun c => ?_) (fun c => absurd c (by rw [e0]; omega))
      all_goals
        walk_at "go"
        refine ⟨p, wt, st, dx, ws, lo, hi, rfl, hs1, hin, by omega, by omega, by omega, by omega, fun r H2 s2 gr => ?_⟩
        walk_at "go"
        refine ⟨sz, fun du ndu => ?_⟩
        have s3 := same_upd (o := HO.tup [V.int lo, V.int hi]) ndu
        refine ⟨_, _, .tuple ([lo, hi].map PyData.int), .tuple ([lo, hi].map PyData.int), rfl, ⟨r, _, rfl, s3 _ _ gr, dh_ints [lo, hi]⟩, ⟨du, _, rfl, upd_same, dh_ints [lo, hi]⟩, ⟨by show 2 ≤ 100000; decide, fun e he => by
          obtain ⟨z, _, rfl⟩ := List.mem_map.mp he
          trivial⟩, fun bo H5 hb s5 => ?_⟩
        obtain rfl : bo = true := hb.mpr rfl
        exact q _ (s1.trans (s2.trans (s3.trans s5)))
  rintro σ H2 ⟨hin, e2, rfl⟩
  subst e2
  clear ts tw b0 e0 gsp
  have nLz := cov_len ch (hi := hi) (hi - lo).toNat lo
  have nL2 : (cov (spansOf ws) lo hi).length ≤ (hi - lo).toNat := nLz
  walk_at "go"
  refine ⟨p, wt, st, dx, ws, lo, hi, rfl, hs1, by omega, by omega, by omega, by omega, fun _ L bs H3 s3 nL gL dL => ?_, fun z => absurd hin z⟩
  have s13 := s1.trans s3
  have hs3 := hs1.same s3
  have ha3 := s3 _ _ ha1
  have nL0 := s1.free nL
  clear hs1 ha1 s3 nL
  refine jnS (M := fun σ H' => Same H3 H' ∧ σ = [sR p, sR a, sI lo, sI hi, sR sp, sR L, none]) ?_ (fun N kk => ?_)
  rotate_left
  · walk_at "go"
    refine ⟨L, a, bs, ws, lo, hi, rfl, gL, dL, ha3, sm, hin.1, hin.2.1, by omega, fun H4 s4 => ?_⟩
    walk_at "go"
    exact kk _ _ ⟨s4, rfl⟩
  rintro σ H4 ⟨s4, rfl⟩
  have gL := s4 _ _ gL
  have dL := DhAll.mono s4 _ _ dL
  have hs4 := hs3.same s4
  have ha4 := s4 _ _ ha3
  have s14 := s13.trans s4
  have lb := dL.len
  rw [List.length_map] at lb
  clear s13 s4 hs3 ha3
  refine jnS (M := fun σ H' => Same H4 H' ∧ σ = [sR p, sR a, sI lo, sI hi, sR sp, sR L, none]) ?_ (fun N kk => ?_)
  rotate_left
  · walk_at "go"
    refine ifD (fun c => ?_) (fun c => ?_)
    · walk_at "go"
      refine ⟨a, ws, lo, hi, rfl, ha4, sm, hin.1, hin.2.1, by omega, fun H5 s5 => ?_⟩
      walk_at "go"
      refine ifNe (fun c => absurd (by rw [lb]) c) (fun _ => ?_)
      exact kk _ _ ⟨s5, rfl⟩
    · exact kk _ _ ⟨same_rfl, rfl⟩
  rintro σ H5 ⟨s5, rfl⟩
  have gL := s5 _ _ gL
  have dL := DhAll.mono s5 _ _ dL
  have hs5 := hs4.same s5
  have s15 := s14.trans s5
  clear s14 s5 hs4 ha4
  walk_at "go"
  intro G nG
  have s6 := s15.trans (same_upd (o := HO.lst bs) nG)
  have gG := upd_same (H := H5) (a := G) (o := HO.lst bs)
  have gL6 := same_upd (o := HO.lst bs) nG _ _ gL
  have dL6 := DhAll.mono (same_upd (o := HO.lst bs) nG) _ _ dL
  have hs6 := hs5.same (same_upd (o := HO.lst bs) nG)
  have hGL : G ≠ L := (ne_of_none gL nG).symm
  generalize upd H5 G (HO.lst bs) = H6 at *
  clear gL dL hs5 s15 nG
  obtain ⟨b1, b2, eb⟩ : ∃ b1 b2, bs = b1 :: b2 := by
    cases bs with
    | nil =>
      rw [cov_step ch hin.2.1] at lb
      cases lb
    | cons x y => exact ⟨x, y, rfl⟩
  walk_at "go"
  refine ⟨sz, fun t1 nt1 => ?_⟩
  have s7 := s6.trans (same_upd (o := HO.tup [V.int hi, V.int hi]) nt1)
  have gL7 := same_upd (o := HO.tup [V.int hi, V.int hi]) nt1 _ _ gL6
  have gG7 := same_upd (o := HO.tup [V.int hi, V.int hi]) nt1 _ _ gG
  have dL7 := DhAll.mono (same_upd (o := HO.tup [V.int hi, V.int hi]) nt1) _ _ dL6
  have hs7 := hs6.same (same_upd (o := HO.tup [V.int hi, V.int hi]) nt1)
  generalize upd H6 t1 (HO.tup [V.int hi, V.int hi]) = H7 at *
  clear gL6 gG dL6 hs6 s6 nt1
  walk_at "go"
  refine ⟨L, _, 0, 0, rfl, rfl, gL7, (by unfold ixN; rw [if_pos (Int.le_refl 0), if_pos (by rw [eb, List.length_cons]; omega)]; rfl), ?_⟩
  have s8 := same_put (o := HO.lst (bs.set 0 (V.ref t1))) s7 nL0
  have gL8 := upd_same (H := H7) (a := L) (o := HO.lst (bs.set 0 (V.ref t1)))
  have gG8 : (upd H7 L (HO.lst (bs.set 0 (V.ref t1)))) G = some (.lst bs) := by
    rw [upd_ne hGL]
    exact gG7
  have dL8 := pairs_put (ys := bs.set 0 (V.ref t1)) gL7 dL7
  have hs8 := hs7.put (ys := bs.set 0 (V.ref t1)) gL7
  have lset : (bs.set 0 (V.ref t1)).length ≤ 1000000 := by
    rw [List.length_set]
    omega
  show _
  generalize upd H7 L (HO.lst (bs.set 0 (V.ref t1))) = H8 at *
  generalize bs.set 0 (V.ref t1) = bt at *
  clear gL7 gG7 dL7 hs7 s7
  walk_at "go"
  refine ⟨sz, fun t2 nt2 => ?_⟩
  have s9 := s8.trans (same_upd (o := HO.tup [V.int lo, V.int lo]) nt2)
  have gL9 := same_upd (o := HO.tup [V.int lo, V.int lo]) nt2 _ _ gL8
  have gG9 := same_upd (o := HO.tup [V.int lo, V.int lo]) nt2 _ _ gG8
  have dL9 := DhAll.mono (same_upd (o := HO.tup [V.int lo, V.int lo]) nt2) _ _ dL8
  have hs9 := hs8.same (same_upd (o := HO.tup [V.int lo, V.int lo]) nt2)
  generalize upd H8 t2 (HO.tup [V.int lo, V.int lo]) = H9 at *
  clear gL8 gG8 dL8 hs8 s8 nt2
  refine ⟨L, _, _, rfl, rfl, gL9, sz5 lset, ?_⟩
  have s10 := same_put (o := HO.lst (bt ++ [V.ref t2])) s9 nL0
  have gG10 : (upd H9 L (HO.lst (bt ++ [V.ref t2]))) G = some (.lst bs) := by
    rw [upd_ne hGL]
    exact gG9
  have dL10 := pairs_put (ys := bt ++ [V.ref t2]) gL9 dL9
  have hs10 := hs9.put (ys := bt ++ [V.ref t2]) gL9
  show _
  generalize upd H9 L (HO.lst (bt ++ [V.ref t2])) = H10 at *
  clear gL9 gG9 dL9 hs9 s9
  walk_at "go"
  refine ⟨p, wt, st, dx, ws, lo, hi, rfl, hs10, by omega, by omega, by omega, by omega, fun _ L2 cs H11 s11 _ gL2 dL2 => ?_, fun z => absurd hin z⟩
  walk_at "go"
  refine ⟨_, _, .list ((cov (spansOf ws) lo hi).map pD), .list ((cov (spansOf ws) lo hi).map pD), rfl, ⟨L2, _, rfl, gL2, dL2⟩, ⟨G, _, rfl, s11 _ _ gG10, DhAll.mono s11 _ _ dL10⟩, dle_pairs (n := 1) _ (by omega), fun bo H12 hb s12 => ?_⟩
  obtain rfl : bo = true := hb.mpr rfl
  exact q _ (s10.trans (s11.trans s12))
end

end

section

-- a condition of an operator
local macro_rules | `(tactic| walk_at "cond") => `(tactic| first
  | (show (0 : Int) < _; omega)
  | (show CDiv _ _; constructor <;> (first | decide | omega))
  | (show CMul _ _; first | (refine cmul_l ?_; constructor <;> (first | decide | omega)) | (refine cmul_r ?_; constructor <;> (first | decide | omega)))
  | (show CPow _ _; exact (by refine ⟨by decide, by decide, by decide⟩))
  | (show CDivW _ _; exact ⟨by decide, by decide +kernel⟩))
local macro_rules | `(tactic| walk_at "sq") => `(tactic| first | assumption | exact Dh.mono (same_upd (by assumption)) _ _ (by assumption) | exact .inl (.inl (.inl (by assumption))) | exact .inr (.inl (.inl (by assumption))) | exact SqL.of (by assumption) | exact .inl (by assumption) | exact .inl (SqL.of (by assumption)) | exact SqT.of (by assumption) | exact .inr (SqT.of (by assumption)))
local macro_rules | `(tactic| walk_at "st") => `(tactic| first
  | refine ⟨_, rfl, ?_⟩
  | refine ⟨_, _, rfl, rfl, ?_⟩
  | refine .inl ⟨_, rfl, ?_⟩
  | refine ⟨rfl, ?_⟩
  | refine ⟨_, _, rfl, by walk_at "sq", ?_⟩
  | refine ⟨.inl ⟨rfl, _, SqL.of (by assumption)⟩, ?_⟩
  | refine ⟨by walk_at "cond", ?_⟩
  | (refine' ifBT ?hh ?_; (case hh => first | rfl | assumption))
  | (refine' ifBF ?hh ?_; (case hh => first | rfl | assumption)))
local macro_rules | `(tactic| walk_at "go") => `(tactic| repeat walk_at "st")
local macro_rules | `(tactic| walk_at "yes") => `(tactic| (refine' ifT ?hh ?_; (case hh => first | rfl | decide +kernel)))
local macro_rules | `(tactic| walk_at "no") => `(tactic| (refine' ifF ?hh ?_; (case hh => first | decide +kernel | (intro z; cases z; done))))

local macro_rules | `(tactic| walk_at "st") => `(tactic| refine ⟨_, _, _, _, _, rfl, by assumption, by assumption, by omega, by omega, by omega, by omega, by omega, ?_⟩)
local macro_rules | `(tactic| walk_at "st") => `(tactic| refine ⟨_, _, _, _, _, rfl, Same.seq (by assumption) (by assumption), by assumption, by omega, by omega, by omega, by omega, by omega, ?_⟩)

/-! ### law (k02) -/
abbrev s_law : Stmt := topS 30
theorem sc_law : FnScope ["_law_script", "_law_most", "_law_fan_here", "_law_twin", "_law_shape", "_law_other", "_law_total", "_law_at", "_law_pair"] ["_law_script"] (C8.fnScope s_law) := C8.fnScope_by (by decide +kernel)
section
variable {P : Program} {w : World} {K : PySem.W.Frag} {mg : Str → Option Value} {base : Heap} {C : Addr}
theorem ok_law {f : Addr} {fd : FuncData} (Df : Def K mg "law" s_law f fd) (T : Txt mg) (c_number : Cal P w K mg base 1 "_law_number" (spNum K) []) (c_fan : Cal P w K mg base 2 "_law_fan" (spFan K) []) (c_Shape : C8.Mak P w K mg base 2 "Shape" C (spShI C K) [])
    (c_fan_spans : Cal P w K mg base 1 "_law_fan_spans" (spFanSpans K) []) (c_range : Cal P w K mg base 2 "_law_range" (spRange K) []) (c_cover_good : Cal P w K mg base 8 "_law_cover_good" (spCovG C) []) : FnOk P w K mg base C8.CX0 9 f fd ["_law_script"] (spLaw K) := by
  refine C8.fn0 Df.fn sc_law (fun vs H Q E h => ?_) (fun cdv A outer s H vs Q E hr h => ?_)
  · obtain ⟨a, ns, rfl, _⟩ := h
    rfl
  obtain ⟨a, ns, rfl, hS, hl, q⟩ := h
  refine ⟨_, (pss_cons (ps_set (i := 1) sc_law.nd rfl (.inl rfl) pe_int)
      (pss_cons (ps_mk (ps_if (pt_cmpR op_eq (C8.pe_c c_number hr (by omega) (by rfl) (pa_cons (pv 0) (pa_cons pe_int (pa_cons pe_int (pa_cons pe_int pa_nil))))) pe_int (nomark _))
      (pss_one (ps_set (i := 1) sc_law.nd rfl (.inl rfl) pe_int))
      pss_nil))
      (pss_cons (ps_set (i := 2) sc_law.nd rfl (.inl rfl) (C8.pe_c c_fan hr (by omega) (by rfl) (pa_cons (pv 0) (pa_cons pe_int (pa_cons (pv 1) pa_nil)))))
      (pss_cons (ps_set (i := 3) sc_law.nd rfl (.inl rfl) (C8.pe_c c_fan hr (by omega) (by rfl) (pa_cons (pv 0) (pa_cons pe_int (pa_cons (pv 1) pa_nil)))))
      (pss_cons (ps_set (i := 4) sc_law.nd rfl (.inl rfl) (C8.pe_mk c_Shape hr (by omega) (by rfl) (pa_cons (pe_callTy (listQ K rfl) (by rfl) T.list (by decide +kernel) (pa_cons (pv 2) pa_nil)) pa_nil)))
      (pss_cons (ps_set (i := 5) sc_law.nd rfl (.inl rfl) (C8.pe_mk c_Shape hr (by omega) (by rfl) (pa_cons (pe_callTy call_tuple_of (by rfl) T.tuple (by decide +kernel) (pa_cons (pv 3) pa_nil)) pa_nil)))
      (pss_cons (ps_set (i := 6) sc_law.nd rfl (.inl rfl) (pe_op op_mul (pe_ix (ixL K rfl) (C8.pe_c c_fan_spans hr (by omega) (by rfl) (pa_cons (pv 2) pa_nil)) pe_int (fun _ _ => rfl)) (pe_ix (ixL K rfl) (pv 2) pe_int (fun _ _ => rfl))))
      (pss_cons (ps_mk (ps_for PassesOwn.never rfl (pi_range2 (by rfl) T.range (pa_cons pe_int (pa_cons (pe_op op_add pe_int (C8.pe_c c_number hr (by omega) (by rfl) (pa_cons (pv 0) (pa_cons pe_int (pa_cons pe_int (pa_cons pe_int pa_nil)))))) pa_nil))) (pg_name (i := 7) sc_law.nd rfl (.inl rfl))
      (pss_cons (ps_set (i := 8) sc_law.nd rfl (.inl rfl) (C8.pe_c c_range hr (by omega) (by rfl) (pa_cons (pv 0) (pa_cons (pv 7) (pa_cons (pv 6) pa_nil)))))
      (pss_cons (ps_mk (ps_if (pt_not (pt_val (C8.pe_c c_cover_good hr (by omega) (by rfl) (pa_cons (pv 4) (pa_cons (pv 2) (pa_cons (pe_ix (ixT K rfl) (pv 8) pe_int (fun _ _ => rfl)) (pa_cons (pe_ix (ixT K rfl) (pv 8) pe_int (fun _ _ => rfl)) pa_nil)))))))
      (pss_one (ps_ret pe_bl))
      pss_nil))
      (pss_one (ps_mk (ps_if (pt_not (pt_val (C8.pe_c c_cover_good hr (by omega) (by rfl) (pa_cons (pv 5) (pa_cons (pv 3) (pa_cons (pe_ix (ixT K rfl) (pv 8) pe_int (fun _ _ => rfl)) (pa_cons (pe_ix (ixT K rfl) (pv 8) pe_int (fun _ _ => rfl)) pa_nil)))))))
      (pss_one (ps_ret pe_bl))
      pss_nil)))))))
      (pss_one (ps_ret pe_bl)))))))))), ?_⟩
  walk_at "go"
  refine jnS (M := fun σ H' => H' = H ∧ ∃ mo : Int, 8 ≤ mo ∧ mo ≤ 4096 ∧ σ = [sR a, sI mo, none, none, none, none, none, none, none]) ?_ (fun N kk => ?_)
  rotate_left
  · walk_at "go"
    refine ifEq (fun c => ?_) (fun c => ?_)
    · walk_at "go"
      exact kk _ _ ⟨rfl, 4096, by decide, by decide, rfl⟩
    · exact kk _ _ ⟨rfl, 512, by decide, by decide, rfl⟩
  rintro σ H0 ⟨e0, mo, m0, m1, rfl⟩
  subst e0
  walk_at "go"
  refine ⟨_, _, _, _, rfl, m0, m1, hS, hl, by omega, by omega, fun L ws H1 s1 nL sm pl gL => ?_⟩
  have hS1 := s1.seq hS
  walk_at "go"
  refine ⟨_, _, _, _, rfl, m0, m1, hS1, hl, by omega, by omega, fun L2 ws2 H2 s2 nL2 sm2 pl2 gL2 => ?_⟩
  have s3 := s1.trans s2
  have gL := s2 _ _ gL
  clear s2 nL2 hS1 s1 nL
  walk_at "go"
  intro G nG
  have s4 := same_upd (o := HO.lst (ws.map V.int)) nG
  have gG := upd_same (H := H2) (a := G) (o := HO.lst (ws.map V.int))
  have gL := s4 _ _ gL
  have gL2 := s4 _ _ gL2
  have s34 := s3.trans s4
  generalize upd H2 G (HO.lst (ws.map V.int)) = H4 at *
  clear s3 s4 nG
  have pb := prod_b sm
  have l0 : 0 < ws.length := List.length_pos_iff.mpr sm.1
  walk_at "go"
  intro p dx np ndx npx
  have sC : Same H4 (upd (upd H4 dx (.own p)) p (.ins C dx [])) := (same_upd ndx).trans (same_upd (by rw [upd_ne npx.symm]; exact np))
  refine ⟨p, dx, G, ws, rfl, upd_same, .inl (sC _ _ gG), sm, fun wt st H5 hs b5 => ⟨rfl, ?_⟩⟩
  have s45 : Same H4 H5 := fun b o e => b5 _ _ (ne_of_none e np) (sC _ _ e)
  have s5 := s34.trans s45
  have gL := s45 _ _ gL
  have gL2 := s45 _ _ gL2
  clear sC s45 s34 b5 np ndx npx gG
  walk_at "go"
  refine ⟨L2, _, rfl, .inl ⟨SqL.of gL2, fun tt ntt => ?_⟩⟩
  have s6 := same_upd (o := HO.tup (ws2.map V.int)) ntt
  have gtt := upd_same (H := H5) (a := tt) (o := HO.tup (ws2.map V.int))
  have gL := s6 _ _ gL
  have gL2 := s6 _ _ gL2
  have hs := hs.same s6
  have s56 := s5.trans s6
  generalize upd H5 tt (HO.tup (ws2.map V.int)) = H6 at *
  clear s5 s6 ntt
  walk_at "go"
  intro p2 dx2 np ndx npx
  have sC : Same H6 (upd (upd H6 dx2 (.own p2)) p2 (.ins C dx2 [])) := (same_upd ndx).trans (same_upd (by rw [upd_ne npx.symm]; exact np))
  refine ⟨p2, dx2, tt, ws2, rfl, upd_same, .inr (sC _ _ gtt), sm2, fun wt2 st2 H7 hs2 b7 => ⟨rfl, ?_⟩⟩
  have s67 : Same H6 H7 := fun b o e => b7 _ _ (ne_of_none e np) (sC _ _ e)
  have s7 := s56.trans s67
  have gL := s67 _ _ gL
  have gL2 := s67 _ _ gL2
  have hs := hs.same s67
  clear sC s67 s56 b7 np ndx npx gtt
  walk_at "go"
  refine ⟨sm, fun sp H8 s8 nsp gsp => ?_⟩
  have gL := s8 _ _ gL
  have gL2 := s8 _ _ gL2
  have hs := hs.same s8
  have hs2 := hs2.same s8
  have s8 := s7.trans s8
  have e0 := span0_mul l0
  have sb := span_b sm 0
  have tw : atI (ws.map V.int) 0 = some (.int (ws.getD 0 0)) := atI_getD (Int.le_refl 0) (by omega)
  clear s7 nsp
  walk_at "go"
  refine ⟨_, _, _, .int (spanN ws 0), rfl, rfl, SqL.of gsp, atI_nat (j := 0) (by rw [List.getElem?_map, spans_get l0]; rfl), ?_⟩
  walk_at "go"
  refine ⟨_, _, _, .int (ws.getD 0 0), rfl, rfl, SqL.of gL, tw, ?_⟩
  walk_at "go"
  have hS8 := s8.seq hS
  have n0 : 0 ≤ num ns 0 9 4 := num_nn (by decide)
  have n1 : num ns 0 9 4 < 4 := num_lt (by decide)
  have tb : 1 ≤ spanN ws 0 * ws.getD 0 0 ∧ spanN ws 0 * ws.getD 0 0 ≤ 1000000 := by
    rw [e0]
    omega
  clear e0 sb tw gsp pb l0
  refine jnS (M := fun _ _ => True) (fun σ H' _ => ?_) (fun N kk => ?_)
  · walk_at "go"
    exact q _
  walk_at "go"
  refine ⟨_, _, rfl, ⟨by omega, by omega, by omega, by omega⟩, for_range (lo := 1) (n := (2 + num ns 0 9 4 - 1).toNat) (fun j σ H' => Ob (Same H8 H' ∧ ∃ y7 y8, σ = [sR a, sI mo, sR L, sR L2, sR p, sR p2, sI (spanN ws 0 * ws.getD 0 0), y7, y8])) (ob ⟨same_rfl, none, none, rfl⟩) ?_ (fun σ H' _ => kk _ _ trivial)⟩
  intro j σ H9 hj h
  obtain ⟨s9, y7, y8, rfl⟩ := unob h
  generalize spanN ws 0 * ws.getD 0 0 = tot at *
  clear kk h
  walk_at "go"
  refine ⟨_, _, _, _, rfl, s9.seq hS8, hl, by omega, by omega, tb.1, tb.2, fun r x y H10 s10 x0 x1 y0 y1 gr => ?_⟩
  have s10 := s9.trans s10
  have gL := s10 _ _ gL
  have gL2 := s10 _ _ gL2
  have hs := hs.same s10
  have hs2 := hs2.same s10
  have tp := SqT.of (K := K) gr
  have a0 : atI [V.int x, V.int y] 0 = some (.int x) := rfl
  have a1 : atI [V.int x, V.int y] 1 = some (.int y) := rfl
  walk_at "go"
  refine jnS (M := fun σ H' => Same H10 H' ∧ σ = [sR a, sI mo, sR L, sR L2, sR p, sR p2, sI tot, sI (1 + (j : Int)), sR r]) ?_ (fun N kk => ?_)
  rotate_left
  · walk_at "go"
    refine ⟨r, _, _, _, rfl, rfl, tp, a0, ?_⟩
    walk_at "go"
    refine ⟨r, _, _, _, rfl, rfl, tp, a1, ?_⟩
    walk_at "go"
    refine ⟨p, wt, st, dx, L, ws, x, y, rfl, hs, gL, pl, x0, x1, y0, y1, fun H11 s11 => ?_⟩
    walk_at "go"
    exact kk _ _ ⟨s11, rfl⟩
  rintro σ H11 ⟨s11, rfl⟩
  have tp := sameT s11 tp
  have gL2 := s11 _ _ gL2
  have hs2 := hs2.same s11
  refine un ?_
  walk_at "go"
  refine ⟨r, _, _, _, rfl, rfl, tp, a0, ?_⟩
  walk_at "go"
  refine ⟨r, _, _, _, rfl, rfl, tp, a1, ?_⟩
  walk_at "go"
  refine ⟨p2, wt2, st2, dx2, L2, ws2, x, y, rfl, hs2, gL2, pl2, x0, x1, y0, y1, fun H12 s12 => ?_⟩
  walk_at "go"
  exact ob ⟨s10.trans (s11.trans s12), _, _, rfl⟩
end

end

section

-- a condition of an operator
local macro_rules | `(tactic| walk_at "cond") => `(tactic| first
  | (show (0 : Int) < _; omega)
  | (show CDiv _ _; constructor <;> (first | decide | omega))
  | (show CMul _ _; first | (refine cmul_l ?_; constructor <;> (first | decide | omega)) | (refine cmul_r ?_; constructor <;> (first | decide | omega)))
  | (show CPow _ _; exact (by refine ⟨by decide, by decide, by decide⟩))
  | (show CDivW _ _; exact ⟨by decide, by decide +kernel⟩))
local macro_rules | `(tactic| walk_at "sq") => `(tactic| first | assumption | exact Dh.mono (same_upd (by assumption)) _ _ (by assumption) | exact .inl (.inl (.inl (by assumption))) | exact .inr (.inl (.inl (by assumption))) | exact SqL.of (by assumption) | exact .inl (by assumption) | exact .inl (SqL.of (by assumption)) | exact SqT.of (by assumption) | exact .inr (SqT.of (by assumption)))
local macro_rules | `(tactic| walk_at "st") => `(tactic| first
  | refine ⟨_, rfl, ?_⟩
  | refine ⟨_, _, rfl, rfl, ?_⟩
  | refine .inl ⟨_, rfl, ?_⟩
  | refine ⟨rfl, ?_⟩
  | refine ⟨_, _, rfl, by walk_at "sq", ?_⟩
  | refine ⟨.inl ⟨rfl, _, SqL.of (by assumption)⟩, ?_⟩
  | refine ⟨by walk_at "cond", ?_⟩
  | (refine' ifBT ?hh ?_; (case hh => first | rfl | assumption))
  | (refine' ifBF ?hh ?_; (case hh => first | rfl | assumption)))
local macro_rules | `(tactic| walk_at "go") => `(tactic| repeat walk_at "st")
local macro_rules | `(tactic| walk_at "yes") => `(tactic| (refine' ifT ?hh ?_; (case hh => first | rfl | decide +kernel)))
local macro_rules | `(tactic| walk_at "no") => `(tactic| (refine' ifF ?hh ?_; (case hh => first | decide +kernel | (intro z; cases z; done))))

theorem all_mk {l : PySem.W.OpenLaw} {w : World} {K : PySem.W.Frag} {h : Heap} {mg : Str → Option Value} {fa : Addr} (X : K.In h) (G : h.Ns mainGlobals mg) (hfa : mg "law" = some (.ref fa))
    {CS : Addr} (aCS : PySem.W.nsIn K mainGlobals "Shape" = some (some (.ref CS)))
    {od_m_init an_m_init : Option Addr} {sl_m_init : Array (Option Value)} {f_m_init : Addr} {oc_m_init kV_m_init dc_m_init pm_m_init cd_m_init ct_m_init : Value}
    (a_m_init : PySem.W.findIn K (.ref CS) "__init__" = some (some (.ref f_m_init))) (i_m_init : PySem.W.isFn K (.ref f_m_init) = true)
    (l_m_init : K.lookup f_m_init = some ⟨oc_m_init, od_m_init, .func (PySem.W.fnOf "__init__" "Shape.__init__" (C8.fnArgs s_Shape___init__) (C8.fnBody s_Shape___init__) (C8.fnScope s_Shape___init__) .none kV_m_init dc_m_init pm_m_init an_m_init cd_m_init ct_m_init), sl_m_init⟩)
    (c_m_init : PySem.W.codeIn K cd_m_init "Shape.__init__" = true) (k_m_init : PySem.W.keepIn K (.ref f_m_init) = true)
    {od_m_span an_m_span : Option Addr} {sl_m_span : Array (Option Value)} {f_m_span : Addr} {oc_m_span kV_m_span dc_m_span pm_m_span cd_m_span ct_m_span : Value}
    (a_m_span : PySem.W.findIn K (.ref CS) "span" = some (some (.ref f_m_span))) (i_m_span : PySem.W.isFn K (.ref f_m_span) = true)
    (l_m_span : K.lookup f_m_span = some ⟨oc_m_span, od_m_span, .func (PySem.W.fnOf "span" "Shape.span" (C8.fnArgs s_Shape_span) (C8.fnBody s_Shape_span) (C8.fnScope s_Shape_span) .none kV_m_span dc_m_span pm_m_span an_m_span cd_m_span ct_m_span), sl_m_span⟩)
    (c_m_span : PySem.W.codeIn K cd_m_span "Shape.span" = true) (k_m_span : PySem.W.keepIn K (.ref f_m_span) = true)
    {od_m_block_at an_m_block_at : Option Addr} {sl_m_block_at : Array (Option Value)} {f_m_block_at : Addr} {oc_m_block_at kV_m_block_at dc_m_block_at pm_m_block_at cd_m_block_at ct_m_block_at : Value}
    (a_m_block_at : PySem.W.findIn K (.ref CS) "block_at" = some (some (.ref f_m_block_at))) (i_m_block_at : PySem.W.isFn K (.ref f_m_block_at) = true)
    (l_m_block_at : K.lookup f_m_block_at = some ⟨oc_m_block_at, od_m_block_at, .func (PySem.W.fnOf "block_at" "Shape.block_at" (C8.fnArgs s_Shape_block_at) (C8.fnBody s_Shape_block_at) (C8.fnScope s_Shape_block_at) .none kV_m_block_at dc_m_block_at pm_m_block_at an_m_block_at cd_m_block_at ct_m_block_at), sl_m_block_at⟩)
    (c_m_block_at : PySem.W.codeIn K cd_m_block_at "Shape.block_at" = true) (k_m_block_at : PySem.W.keepIn K (.ref f_m_block_at) = true)
    (pgCS : PySem.W.plainGet K CS Str.empty = true) (hdCS : PySem.W.hasDictIn K CS = true) (poCS : PySem.W.plainOver K CS = true) (saCS : PySem.W.findIn K (.ref CS) "__setattr__" = some (some (.builtin "object.__setattr__"))) (mkCS : PySem.W.makesIn K CS = true) (kcCS : PySem.W.keepIn K (.ref CS) = true)
    (nWS : PySem.W.findIn K (.ref CS) "widths" = some none)
    (nLS : PySem.W.findIn K (.ref CS) "levels" = some none)
    (nSS : PySem.W.findIn K (.ref CS) "_spans" = some none)
    (nPS : PySem.W.findIn K (.ref CS) "page_count" = some none)
    {D fE cc cE NE : Addr} {ocE cclE clE kVE docE pmE ctvE : Value} {odE anE cddE cldE ddE : Option Addr} {oslE ccsE cslE : Array (Option Value)} {vsE : Array Value} {fileE : Str} {tfE : Tok}
    {nmE qE : Str} {bsE bmE : List Value} {snE : List Str} {subE : List Value} {abE : Bool} {colE : Option Bool} {k0E k1E k2E k3E k5E : Option Value}
    (aD : PySem.W.nsIn K mainGlobals "BadRange" = some (some (.ref D)))
    (iC : PySem.W.findIn K (.ref D) "__init__" = some (some (.ref fE))) (tI : PySem.W.typeIn K (.ref fE) = some (.type "function"))
    (lF : K.lookup fE = some ⟨ocE, odE, .func (PySem.W.fnX "__init__" "BadRange.__init__" (C8.fnArgs s_BadRange_init) (C8.fnBody s_BadRange_init) (C8.fnScope s_BadRange_init) [("__class__", cc)] .none kVE docE pmE anE (.ref cE) ctvE), oslE⟩)
    (cF : PySem.W.codeIn K (.ref cE) "BadRange.__init__" = true) (lc : K.lookup cE = some ⟨cclE, cddE, .fields vsE, ccsE⟩) (x_hv : vsE[2]? = some (.str fileE tfE)) (x_hf : ((l.prog.main.file : Str) == fileE) = true) (x_tp : (l.prog.main.scope.names.lookup ("super" : Str)).isSome = false)
    (lcc : K.lookup cc = some ⟨clE, cldE, .cell (some (.ref D)), cslE⟩) (zsuper : PySem.W.nsIn K mainGlobals "super" = some none)
    (lD : K.lookup D = some (excClassObj nmE qE D NE bsE bmE true snE subE abE colE ddE k0E k1E k2E k3E k5E "ValueError.__new__")) (x_rb : PySem.HandSPX.refsVE bmE = true)
    (saD : PySem.W.findIn K (.ref D) "__setattr__" = some (some (.builtin "object.__setattr__"))) (exD : PySem.W.subIn K (.ref D) (.type "BaseException") = some true) (tyD : PySem.W.typeIn K (.ref D) = some (.type "type")) (kD : PySem.W.keepIn K (.ref D) = true)
    (mrD : PySem.W.mroIn K D (.ref D) = some true) (x_iniD : PySem.W.ks_superIn K D D "__init__" = some (some (.builtin "ValueError.__init__"))) (veD : PySem.W.subIn K (.ref D) (.type "ValueError") = some true) (anyD : PySem.W.nsIn K cStatics "thirdparty.any" = some none)
    (nSD : PySem.W.findIn K (.ref D) "start" = some none) (nED : PySem.W.findIn K (.ref D) "end" = some none)
    {AE PgE U DN BF LE ME FE CE : Addr}
    (aAE : PySem.W.nsIn K mainGlobals "AccessError" = some (some (.ref AE)))
    (aPgE : PySem.W.nsIn K mainGlobals "PagesError" = some (some (.ref PgE)))
    (aU : PySem.W.nsIn K mainGlobals "Unmapped" = some (some (.ref U)))
    (aDN : PySem.W.nsIn K mainGlobals "Denied" = some (some (.ref DN)))
    (aBF : PySem.W.nsIn K mainGlobals "BeyondFile" = some (some (.ref BF)))
    (aLE : PySem.W.nsIn K mainGlobals "LimitError" = some (some (.ref LE)))
    (aME : PySem.W.nsIn K mainGlobals "MissingError" = some (some (.ref ME)))
    (aFE : PySem.W.nsIn K mainGlobals "FileError" = some (some (.ref FE)))
    (aCE : PySem.W.nsIn K mainGlobals "CodeError" = some (some (.ref CE)))
    (zValueError : PySem.W.nsIn K mainGlobals "ValueError" = some none)
    (hgD : PySem.W.findIn K (.ref D) "__getattribute__" = some (some (.builtin "BaseException.__getattribute__")))
    (hkD : PySem.W.findIn K (.ref D) "__getattr__" = some none)
    (hdD : PySem.W.hasDictIn K D = true)
    (haD : PySem.W.findIn K (.ref D) "__class__" = some (some (.builtin "object.__class__")))
    (hnD : PySem.W.specialIn K (.builtin "object.__class__") "__get__" = some (some (.builtin "getset_descriptor.__get__")))
    (htD : PySem.W.takesIn K (.builtin "object.__class__") = some true)
    (hmD : PySem.W.mroIn K D (.type "object") = some true)
    (x_ex : PySem.W.exmOne K (.ref D) (.ref PgE) = some true)
    (x_iB : PySem.W.kitOne K (.ref D) (.ref D) = some true)
    (x_iA : PySem.W.kitOne K (.ref D) (.ref AE) = some true)
    (x_iV : PySem.W.kitOne K (.ref D) (.type "ValueError") = some true)
    (x_iN : PySem.W.kitAny K (.ref D) [.ref U, .ref DN, .ref BF, .ref LE, .ref ME, .ref FE, .ref CE] = some false)
    {od_check_range an_check_range : Option Addr} {sl_check_range : Array (Option Value)} {f_check_range : Addr} {oc_check_range kV_check_range dc_check_range pm_check_range cd_check_range ct_check_range : Value}
    (a_check_range : PySem.W.nsIn K mainGlobals "check_range" = some (some (.ref f_check_range)))
    (l_check_range : K.lookup f_check_range = some ⟨oc_check_range, od_check_range, .func (PySem.W.fnOf "check_range" "check_range" (C8.fnArgs s_check_range) (C8.fnBody s_check_range) (C8.fnScope s_check_range) .none kV_check_range dc_check_range pm_check_range an_check_range cd_check_range ct_check_range), sl_check_range⟩)
    (c_check_range : PySem.W.codeIn K cd_check_range "check_range" = true) (k_check_range : PySem.W.keepIn K (.ref f_check_range) = true)
    {od_spans_of an_spans_of : Option Addr} {sl_spans_of : Array (Option Value)} {f_spans_of : Addr} {oc_spans_of kV_spans_of dc_spans_of pm_spans_of cd_spans_of ct_spans_of : Value}
    (a_spans_of : PySem.W.nsIn K mainGlobals "_spans_of" = some (some (.ref f_spans_of)))
    (l_spans_of : K.lookup f_spans_of = some ⟨oc_spans_of, od_spans_of, .func (PySem.W.fnOf "_spans_of" "_spans_of" (C8.fnArgs s_spans_of) (C8.fnBody s_spans_of) (C8.fnScope s_spans_of) .none kV_spans_of dc_spans_of pm_spans_of an_spans_of cd_spans_of ct_spans_of), sl_spans_of⟩)
    (c_spans_of : PySem.W.codeIn K cd_spans_of "_spans_of" = true) (k_spans_of : PySem.W.keepIn K (.ref f_spans_of) = true)
    {od_cover an_cover : Option Addr} {sl_cover : Array (Option Value)} {f_cover : Addr} {oc_cover kV_cover dc_cover pm_cover cd_cover ct_cover : Value}
    (a_cover : PySem.W.nsIn K mainGlobals "cover" = some (some (.ref f_cover)))
    (l_cover : K.lookup f_cover = some ⟨oc_cover, od_cover, .func (PySem.W.fnOf "cover" "cover" (C8.fnArgs s_cover) (C8.fnBody s_cover) (C8.fnScope s_cover) .none kV_cover dc_cover pm_cover an_cover cd_cover ct_cover), sl_cover⟩)
    (c_cover : PySem.W.codeIn K cd_cover "cover" = true) (k_cover : PySem.W.keepIn K (.ref f_cover) = true)
    {od_largest_block an_largest_block : Option Addr} {sl_largest_block : Array (Option Value)} {f_largest_block : Addr} {oc_largest_block kV_largest_block dc_largest_block pm_largest_block cd_largest_block ct_largest_block : Value}
    (a_largest_block : PySem.W.nsIn K mainGlobals "_largest_block" = some (some (.ref f_largest_block)))
    (l_largest_block : K.lookup f_largest_block = some ⟨oc_largest_block, od_largest_block, .func (PySem.W.fnOf "_largest_block" "_largest_block" (C8.fnArgs s_largest_block) (C8.fnBody s_largest_block) (C8.fnScope s_largest_block) .none kV_largest_block dc_largest_block pm_largest_block an_largest_block cd_largest_block ct_largest_block), sl_largest_block⟩)
    (c_largest_block : PySem.W.codeIn K cd_largest_block "_largest_block" = true) (k_largest_block : PySem.W.keepIn K (.ref f_largest_block) = true)
    {od_number an_number : Option Addr} {sl_number : Array (Option Value)} {f_number : Addr} {oc_number kV_number dc_number pm_number cd_number ct_number : Value}
    (a_number : PySem.W.nsIn K mainGlobals "_law_number" = some (some (.ref f_number)))
    (l_number : K.lookup f_number = some ⟨oc_number, od_number, .func (PySem.W.fnOf "_law_number" "_law_number" (C8.fnArgs s_number) (C8.fnBody s_number) (C8.fnScope s_number) .none kV_number dc_number pm_number an_number cd_number ct_number), sl_number⟩)
    (c_number : PySem.W.codeIn K cd_number "_law_number" = true) (k_number : PySem.W.keepIn K (.ref f_number) = true)
    {od_is_whole an_is_whole : Option Addr} {sl_is_whole : Array (Option Value)} {f_is_whole : Addr} {oc_is_whole kV_is_whole dc_is_whole pm_is_whole cd_is_whole ct_is_whole : Value}
    (a_is_whole : PySem.W.nsIn K mainGlobals "_law_is_whole" = some (some (.ref f_is_whole)))
    (l_is_whole : K.lookup f_is_whole = some ⟨oc_is_whole, od_is_whole, .func (PySem.W.fnOf "_law_is_whole" "_law_is_whole" (C8.fnArgs s_is_whole) (C8.fnBody s_is_whole) (C8.fnScope s_is_whole) .none kV_is_whole dc_is_whole pm_is_whole an_is_whole cd_is_whole ct_is_whole), sl_is_whole⟩)
    (c_is_whole : PySem.W.codeIn K cd_is_whole "_law_is_whole" = true) (k_is_whole : PySem.W.keepIn K (.ref f_is_whole) = true)
    {od_same an_same : Option Addr} {sl_same : Array (Option Value)} {f_same : Addr} {oc_same kV_same dc_same pm_same cd_same ct_same : Value}
    (a_same : PySem.W.nsIn K mainGlobals "_law_same" = some (some (.ref f_same)))
    (l_same : K.lookup f_same = some ⟨oc_same, od_same, .func (PySem.W.fnOf "_law_same" "_law_same" (C8.fnArgs s_same) (C8.fnBody s_same) (C8.fnScope s_same) .none kV_same dc_same pm_same an_same cd_same ct_same), sl_same⟩)
    (c_same : PySem.W.codeIn K cd_same "_law_same" = true) (k_same : PySem.W.keepIn K (.ref f_same) = true)
    {od_fan_spans an_fan_spans : Option Addr} {sl_fan_spans : Array (Option Value)} {f_fan_spans : Addr} {oc_fan_spans kV_fan_spans dc_fan_spans pm_fan_spans cd_fan_spans ct_fan_spans : Value}
    (a_fan_spans : PySem.W.nsIn K mainGlobals "_law_fan_spans" = some (some (.ref f_fan_spans)))
    (l_fan_spans : K.lookup f_fan_spans = some ⟨oc_fan_spans, od_fan_spans, .func (PySem.W.fnOf "_law_fan_spans" "_law_fan_spans" (C8.fnArgs s_fan_spans) (C8.fnBody s_fan_spans) (C8.fnScope s_fan_spans) .none kV_fan_spans dc_fan_spans pm_fan_spans an_fan_spans cd_fan_spans ct_fan_spans), sl_fan_spans⟩)
    (c_fan_spans : PySem.W.codeIn K cd_fan_spans "_law_fan_spans" = true) (k_fan_spans : PySem.W.keepIn K (.ref f_fan_spans) = true)
    {od_fan an_fan : Option Addr} {sl_fan : Array (Option Value)} {f_fan : Addr} {oc_fan kV_fan dc_fan pm_fan cd_fan ct_fan : Value}
    (a_fan : PySem.W.nsIn K mainGlobals "_law_fan" = some (some (.ref f_fan)))
    (l_fan : K.lookup f_fan = some ⟨oc_fan, od_fan, .func (PySem.W.fnOf "_law_fan" "_law_fan" (C8.fnArgs s_fan) (C8.fnBody s_fan) (C8.fnScope s_fan) .none kV_fan dc_fan pm_fan an_fan cd_fan ct_fan), sl_fan⟩)
    (c_fan : PySem.W.codeIn K cd_fan "_law_fan" = true) (k_fan : PySem.W.keepIn K (.ref f_fan) = true)
    {od_range an_range : Option Addr} {sl_range : Array (Option Value)} {f_range : Addr} {oc_range kV_range dc_range pm_range cd_range ct_range : Value}
    (a_range : PySem.W.nsIn K mainGlobals "_law_range" = some (some (.ref f_range)))
    (l_range : K.lookup f_range = some ⟨oc_range, od_range, .func (PySem.W.fnOf "_law_range" "_law_range" (C8.fnArgs s_range) (C8.fnBody s_range) (C8.fnScope s_range) .none kV_range dc_range pm_range an_range cd_range ct_range), sl_range⟩)
    (c_range : PySem.W.codeIn K cd_range "_law_range" = true) (k_range : PySem.W.keepIn K (.ref f_range) = true)
    {od_cover_refused an_cover_refused : Option Addr} {sl_cover_refused : Array (Option Value)} {f_cover_refused : Addr} {oc_cover_refused kV_cover_refused dc_cover_refused pm_cover_refused cd_cover_refused ct_cover_refused : Value}
    (a_cover_refused : PySem.W.nsIn K mainGlobals "_law_cover_refused" = some (some (.ref f_cover_refused)))
    (l_cover_refused : K.lookup f_cover_refused = some ⟨oc_cover_refused, od_cover_refused, .func (PySem.W.fnOf "_law_cover_refused" "_law_cover_refused" (C8.fnArgs s_cover_refused) (C8.fnBody s_cover_refused) (C8.fnScope s_cover_refused) .none kV_cover_refused dc_cover_refused pm_cover_refused an_cover_refused cd_cover_refused ct_cover_refused), sl_cover_refused⟩)
    (c_cover_refused : PySem.W.codeIn K cd_cover_refused "_law_cover_refused" = true) (k_cover_refused : PySem.W.keepIn K (.ref f_cover_refused) = true)
    {od_is_cover an_is_cover : Option Addr} {sl_is_cover : Array (Option Value)} {f_is_cover : Addr} {oc_is_cover kV_is_cover dc_is_cover pm_is_cover cd_is_cover ct_is_cover : Value}
    (a_is_cover : PySem.W.nsIn K mainGlobals "_law_is_cover" = some (some (.ref f_is_cover)))
    (l_is_cover : K.lookup f_is_cover = some ⟨oc_is_cover, od_is_cover, .func (PySem.W.fnOf "_law_is_cover" "_law_is_cover" (C8.fnArgs s_is_cover) (C8.fnBody s_is_cover) (C8.fnScope s_is_cover) .none kV_is_cover dc_is_cover pm_is_cover an_is_cover cd_is_cover ct_is_cover), sl_is_cover⟩)
    (c_is_cover : PySem.W.codeIn K cd_is_cover "_law_is_cover" = true) (k_is_cover : PySem.W.keepIn K (.ref f_is_cover) = true)
    {od_least_count an_least_count : Option Addr} {sl_least_count : Array (Option Value)} {f_least_count : Addr} {oc_least_count kV_least_count dc_least_count pm_least_count cd_least_count ct_least_count : Value}
    (a_least_count : PySem.W.nsIn K mainGlobals "_law_least_count" = some (some (.ref f_least_count)))
    (l_least_count : K.lookup f_least_count = some ⟨oc_least_count, od_least_count, .func (PySem.W.fnOf "_law_least_count" "_law_least_count" (C8.fnArgs s_least_count) (C8.fnBody s_least_count) (C8.fnScope s_least_count) .none kV_least_count dc_least_count pm_least_count an_least_count cd_least_count ct_least_count), sl_least_count⟩)
    (c_least_count : PySem.W.codeIn K cd_least_count "_law_least_count" = true) (k_least_count : PySem.W.keepIn K (.ref f_least_count) = true)
    {od_cover_good an_cover_good : Option Addr} {sl_cover_good : Array (Option Value)} {f_cover_good : Addr} {oc_cover_good kV_cover_good dc_cover_good pm_cover_good cd_cover_good ct_cover_good : Value}
    (a_cover_good : PySem.W.nsIn K mainGlobals "_law_cover_good" = some (some (.ref f_cover_good)))
    (l_cover_good : K.lookup f_cover_good = some ⟨oc_cover_good, od_cover_good, .func (PySem.W.fnOf "_law_cover_good" "_law_cover_good" (C8.fnArgs s_cover_good) (C8.fnBody s_cover_good) (C8.fnScope s_cover_good) .none kV_cover_good dc_cover_good pm_cover_good an_cover_good cd_cover_good ct_cover_good), sl_cover_good⟩)
    (c_cover_good : PySem.W.codeIn K cd_cover_good "_law_cover_good" = true) (k_cover_good : PySem.W.keepIn K (.ref f_cover_good) = true)
    {od_law an_law : Option Addr} {sl_law : Array (Option Value)} {f_law : Addr} {oc_law kV_law dc_law pm_law cd_law ct_law : Value}
    (a_law : PySem.W.nsIn K mainGlobals "law" = some (some (.ref f_law)))
    (l_law : K.lookup f_law = some ⟨oc_law, od_law, .func (PySem.W.fnOf "law" "law" (C8.fnArgs s_law) (C8.fnBody s_law) (C8.fnScope s_law) .none kV_law dc_law pm_law an_law cd_law ct_law), sl_law⟩)
    (c_law : PySem.W.codeIn K cd_law "law" = true) (k_law : PySem.W.keepIn K (.ref f_law) = true)
    (z_len : PySem.W.nsIn K mainGlobals "len" = some none)
    (z_abs : PySem.W.nsIn K mainGlobals "abs" = some none)
    (z_int : PySem.W.nsIn K mainGlobals "int" = some none)
    (z_range : PySem.W.nsIn K mainGlobals "range" = some none)
    (z_isinstance : PySem.W.nsIn K mainGlobals "isinstance" = some none)
    (z_bool : PySem.W.nsIn K mainGlobals "bool" = some none)
    (z_str : PySem.W.nsIn K mainGlobals "str" = some none)
    (z_list : PySem.W.nsIn K mainGlobals "list" = some none)
    (z_tuple : PySem.W.nsIn K mainGlobals "tuple" = some none)
    (z_reversed : PySem.W.nsIn K mainGlobals "reversed" = some none)
    (z_zip : PySem.W.nsIn K mainGlobals "zip" = some none)
    (z_sum : PySem.W.nsIn K mainGlobals "sum" = some none)
    (z_min : PySem.W.nsIn K mainGlobals "min" = some none) :
    ∃ fd : FuncData, (∀ (s : Shared) (v : Value), BindsTo s fd ⟨[v], []⟩ [("_law_script", v)]) ∧ ∀ base : Heap, K.In base → base.Ns mainGlobals mg → FnOk l.prog w K mg base C8.CX0 9 fa fd ["_law_script"] (spLaw K) := by
  have e := hfa.symm.trans (PySem.W.mg_of X G a_law)
  cases e
  have T : Txt mg := ⟨PySem.W.mg_none_of X G z_len, PySem.W.mg_none_of X G z_abs, PySem.W.mg_none_of X G z_int, PySem.W.mg_none_of X G z_range, PySem.W.mg_none_of X G z_isinstance, PySem.W.mg_none_of X G z_bool, PySem.W.mg_none_of X G z_str, PySem.W.mg_none_of X G z_list, PySem.W.mg_none_of X G z_tuple⟩
  have T1 : Txt1 mg := ⟨PySem.W.mg_none_of X G z_len, PySem.W.mg_none_of X G z_reversed, PySem.W.mg_none_of X G z_tuple, PySem.W.mg_none_of X G z_zip, PySem.W.mg_none_of X G z_sum⟩
  have TM : TxtM mg := ⟨T, PySem.W.mg_none_of X G z_min⟩
  have F_m_init : C8.Fun K "__init__" "Shape.__init__" s_Shape___init__ f_m_init _ := ⟨oc_m_init, od_m_init, .none, kV_m_init, dc_m_init, pm_m_init, an_m_init, cd_m_init, ct_m_init, sl_m_init, rfl, l_m_init, c_m_init⟩
  have b_m_init := F_m_init.binds (ps := ["self", "widths"]) rfl fun _ _ _ _ _ _ us hl => match us, hl with | [_, _], _ => rfl
  have F_m_span : C8.Fun K "span" "Shape.span" s_Shape_span f_m_span _ := ⟨oc_m_span, od_m_span, .none, kV_m_span, dc_m_span, pm_m_span, an_m_span, cd_m_span, ct_m_span, sl_m_span, rfl, l_m_span, c_m_span⟩
  have b_m_span := F_m_span.binds (ps := ["self", "level"]) rfl fun _ _ _ _ _ _ us hl => match us, hl with | [_, _], _ => rfl
  have F_m_block_at : C8.Fun K "block_at" "Shape.block_at" s_Shape_block_at f_m_block_at _ := ⟨oc_m_block_at, od_m_block_at, .none, kV_m_block_at, dc_m_block_at, pm_m_block_at, an_m_block_at, cd_m_block_at, ct_m_block_at, sl_m_block_at, rfl, l_m_block_at, c_m_block_at⟩
  have b_m_block_at := F_m_block_at.binds (ps := ["self", "level", "page"]) rfl fun _ _ _ _ _ _ us hl => match us, hl with | [_, _, _], _ => rfl
  have TS : STxt K mg CS := ⟨⟨pgCS, hdCS, poCS, saCS⟩, nWS, nLS, nSS, nPS, PySem.W.mg_of X G aCS⟩
  obtain ⟨U_D, O_D⟩ := err_mk (P := l.prog) X G aD iC tI lF cF lc x_hv x_hf x_tp lcc zsuper rfl rfl rfl lD x_rb saD exD tyD kD mrD x_iniD veD anyD nSD nED
  have b_BR : Binds K (PySem.W.fnX "__init__" "BadRange.__init__" (C8.fnArgs s_BadRange_init) (C8.fnBody s_BadRange_init) (C8.fnScope s_BadRange_init) [("__class__", cc)] .none kVE docE pmE anE (.ref cE) ctvE) ["self", "start", "end"] [] := .all fun us hl => match us, hl with | [_, _, _], _ => rfl
  have TE : ETxt K mg D AE PgE U DN BF LE ME FE CE := ⟨PySem.W.mg_of X G aD, PySem.W.mg_of X G aAE, PySem.W.mg_of X G aPgE, PySem.W.mg_of X G aU, PySem.W.mg_of X G aDN, PySem.W.mg_of X G aBF, PySem.W.mg_of X G aLE, PySem.W.mg_of X G aME, PySem.W.mg_of X G aFE, PySem.W.mg_of X G aCE, PySem.W.mg_none_of X G zValueError, PySem.W.mg_none_of X G z_isinstance, ⟨hgD, hkD, exD, hdD, haD, hnD, htD, hmD⟩, ⟨hgD, hkD, exD, hdD⟩, nSD, nED, x_ex, x_iB, x_iA, x_iV, x_iN⟩
  have D_check_range : Def K mg "check_range" s_check_range f_check_range _ := ⟨⟨oc_check_range, od_check_range, .none, kV_check_range, dc_check_range, pm_check_range, an_check_range, cd_check_range, ct_check_range, sl_check_range, rfl, l_check_range, c_check_range⟩, PySem.W.mg_of X G a_check_range, k_check_range⟩
  have b_check_range := D_check_range.fn.binds (ps := ["start", "end", "limit"]) rfl fun _ _ _ _ _ _ us hl => match us, hl with | [_, _, _], _ => rfl
  have D_spans_of : Def K mg "_spans_of" s_spans_of f_spans_of _ := ⟨⟨oc_spans_of, od_spans_of, .none, kV_spans_of, dc_spans_of, pm_spans_of, an_spans_of, cd_spans_of, ct_spans_of, sl_spans_of, rfl, l_spans_of, c_spans_of⟩, PySem.W.mg_of X G a_spans_of, k_spans_of⟩
  have b_spans_of := D_spans_of.fn.binds (ps := ["widths"]) rfl fun _ _ _ _ _ _ us hl => match us, hl with | [_], _ => rfl
  have D_cover : Def K mg "cover" s_cover f_cover _ := ⟨⟨oc_cover, od_cover, .none, kV_cover, dc_cover, pm_cover, an_cover, cd_cover, ct_cover, sl_cover, rfl, l_cover, c_cover⟩, PySem.W.mg_of X G a_cover, k_cover⟩
  have b_cover := D_cover.fn.binds (ps := ["shape", "start", "end"]) rfl fun _ _ _ _ _ _ us hl => match us, hl with | [_, _, _], _ => rfl
  have D_largest_block : Def K mg "_largest_block" s_largest_block f_largest_block _ := ⟨⟨oc_largest_block, od_largest_block, .none, kV_largest_block, dc_largest_block, pm_largest_block, an_largest_block, cd_largest_block, ct_largest_block, sl_largest_block, rfl, l_largest_block, c_largest_block⟩, PySem.W.mg_of X G a_largest_block, k_largest_block⟩
  have b_largest_block := D_largest_block.fn.binds (ps := ["shape", "start", "end"]) rfl fun _ _ _ _ _ _ us hl => match us, hl with | [_, _, _], _ => rfl
  have D_number : Def K mg "_law_number" s_number f_number _ := ⟨⟨oc_number, od_number, .none, kV_number, dc_number, pm_number, an_number, cd_number, ct_number, sl_number, rfl, l_number, c_number⟩, PySem.W.mg_of X G a_number, k_number⟩
  have b_number := D_number.fn.binds (ps := ["_law_script", "_law_at", "_law_k", "_law_size"]) rfl fun _ _ _ _ _ _ us hl => match us, hl with | [_, _, _, _], _ => rfl
  have D_is_whole : Def K mg "_law_is_whole" s_is_whole f_is_whole _ := ⟨⟨oc_is_whole, od_is_whole, .none, kV_is_whole, dc_is_whole, pm_is_whole, an_is_whole, cd_is_whole, ct_is_whole, sl_is_whole, rfl, l_is_whole, c_is_whole⟩, PySem.W.mg_of X G a_is_whole, k_is_whole⟩
  have b_is_whole := D_is_whole.fn.binds (ps := ["_law_told"]) rfl fun _ _ _ _ _ _ us hl => match us, hl with | [_], _ => rfl
  have D_same : Def K mg "_law_same" s_same f_same _ := ⟨⟨oc_same, od_same, .none, kV_same, dc_same, pm_same, an_same, cd_same, ct_same, sl_same, rfl, l_same, c_same⟩, PySem.W.mg_of X G a_same, k_same⟩
  have b_same := D_same.fn.binds (ps := ["_law_told", "_law_due"]) rfl fun _ _ _ _ _ _ us hl => match us, hl with | [_, _], _ => rfl
  have D_fan_spans : Def K mg "_law_fan_spans" s_fan_spans f_fan_spans _ := ⟨⟨oc_fan_spans, od_fan_spans, .none, kV_fan_spans, dc_fan_spans, pm_fan_spans, an_fan_spans, cd_fan_spans, ct_fan_spans, sl_fan_spans, rfl, l_fan_spans, c_fan_spans⟩, PySem.W.mg_of X G a_fan_spans, k_fan_spans⟩
  have b_fan_spans := D_fan_spans.fn.binds (ps := ["_law_fan_here"]) rfl fun _ _ _ _ _ _ us hl => match us, hl with | [_], _ => rfl
  have D_fan : Def K mg "_law_fan" s_fan f_fan _ := ⟨⟨oc_fan, od_fan, .none, kV_fan, dc_fan, pm_fan, an_fan, cd_fan, ct_fan, sl_fan, rfl, l_fan, c_fan⟩, PySem.W.mg_of X G a_fan, k_fan⟩
  have b_fan := D_fan.fn.binds (ps := ["_law_script", "_law_at", "_law_most"]) rfl fun _ _ _ _ _ _ us hl => match us, hl with | [_, _, _], _ => rfl
  have D_range : Def K mg "_law_range" s_range f_range _ := ⟨⟨oc_range, od_range, .none, kV_range, dc_range, pm_range, an_range, cd_range, ct_range, sl_range, rfl, l_range, c_range⟩, PySem.W.mg_of X G a_range, k_range⟩
  have b_range := D_range.fn.binds (ps := ["_law_script", "_law_at", "_law_total"]) rfl fun _ _ _ _ _ _ us hl => match us, hl with | [_, _, _], _ => rfl
  have D_cover_refused : Def K mg "_law_cover_refused" s_cover_refused f_cover_refused _ := ⟨⟨oc_cover_refused, od_cover_refused, .none, kV_cover_refused, dc_cover_refused, pm_cover_refused, an_cover_refused, cd_cover_refused, ct_cover_refused, sl_cover_refused, rfl, l_cover_refused, c_cover_refused⟩, PySem.W.mg_of X G a_cover_refused, k_cover_refused⟩
  have b_cover_refused := D_cover_refused.fn.binds (ps := ["_law_shape", "_law_low", "_law_high"]) rfl fun _ _ _ _ _ _ us hl => match us, hl with | [_, _, _], _ => rfl
  have D_is_cover : Def K mg "_law_is_cover" s_is_cover f_is_cover _ := ⟨⟨oc_is_cover, od_is_cover, .none, kV_is_cover, dc_is_cover, pm_is_cover, an_is_cover, cd_is_cover, ct_is_cover, sl_is_cover, rfl, l_is_cover, c_is_cover⟩, PySem.W.mg_of X G a_is_cover, k_is_cover⟩
  have b_is_cover := D_is_cover.fn.binds (ps := ["_law_told", "_law_fan_here", "_law_low", "_law_high"]) rfl fun _ _ _ _ _ _ us hl => match us, hl with | [_, _, _, _], _ => rfl
  have D_least_count : Def K mg "_law_least_count" s_least_count f_least_count _ := ⟨⟨oc_least_count, od_least_count, .none, kV_least_count, dc_least_count, pm_least_count, an_least_count, cd_least_count, ct_least_count, sl_least_count, rfl, l_least_count, c_least_count⟩, PySem.W.mg_of X G a_least_count, k_least_count⟩
  have b_least_count := D_least_count.fn.binds (ps := ["_law_fan_here", "_law_low", "_law_high"]) rfl fun _ _ _ _ _ _ us hl => match us, hl with | [_, _, _], _ => rfl
  have D_cover_good : Def K mg "_law_cover_good" s_cover_good f_cover_good _ := ⟨⟨oc_cover_good, od_cover_good, .none, kV_cover_good, dc_cover_good, pm_cover_good, an_cover_good, cd_cover_good, ct_cover_good, sl_cover_good, rfl, l_cover_good, c_cover_good⟩, PySem.W.mg_of X G a_cover_good, k_cover_good⟩
  have b_cover_good := D_cover_good.fn.binds (ps := ["_law_shape", "_law_fan_here", "_law_low", "_law_high"]) rfl fun _ _ _ _ _ _ us hl => match us, hl with | [_, _, _, _], _ => rfl
  have D_law : Def K mg "law" s_law fa _ := ⟨⟨oc_law, od_law, .none, kV_law, dc_law, pm_law, an_law, cd_law, ct_law, sl_law, rfl, l_law, c_law⟩, PySem.W.mg_of X G a_law, k_law⟩
  refine ⟨PySem.W.fnOf "law" "law" (C8.fnArgs s_law) (C8.fnBody s_law) (C8.fnScope s_law) .none kV_law dc_law pm_law an_law cd_law ct_law, fun s v => .of_eq rfl, fun base _ _ => ?_⟩
  have F_BR := ok_BadRange (w := w) (base := base) (F := NF.of s_BadRange_init "__init__" "BadRange.__init__" [("__class__", cc)] cE) U_D nSD nED
  have e_check := ok_check F_BR O_D iC tI b_BR (PySem.W.mg_of X G aD) D_check_range b_check_range
  have c_spans := ok_spans (P := l.prog) (w := w) (base := base) D_spans_of b_spans_of T1
  have m_span := ok_span (P := l.prog) (w := w) (base := base) F_m_span ⟨a_m_span, i_m_span, k_m_span⟩ b_m_span TS
  have e_block := ok_block F_m_block_at ⟨a_m_block_at, i_m_block_at, k_m_block_at⟩ b_m_block_at TS e_check m_span
  have c_Shape := ok_shI F_m_init ⟨mkCS, a_m_init, i_m_init, kcCS⟩ b_m_init TS T1 c_spans
  have c_number := ok_number (P := l.prog) (w := w) (base := base) D_number b_number T
  have c_whole := ok_whole (P := l.prog) (w := w) (base := base) D_is_whole b_is_whole T
  have c_same := ok_same D_same b_same T c_whole 4
  have c_fs := ok_fan_spans (P := l.prog) (w := w) (base := base) D_fan_spans b_fan_spans T
  have c_fan := ok_fan D_fan b_fan T c_number
  have c_range := ok_range D_range b_range T c_number
  have c_large := ok_largest D_largest_block b_largest_block e_block
  have e_cover := ok_cover D_cover b_cover TS e_check c_large
  have c_ref := ok_refused D_cover_refused b_cover_refused T TE e_cover
  have c_isc := ok_is_cover D_is_cover b_is_cover T c_fs c_whole
  have c_lst := ok_least D_least_count b_least_count TM c_fs
  have c_cg := ok_cover_good D_cover_good b_cover_good T c_fs e_cover c_ref c_isc c_lst c_same
  exact ok_law D_law T c_number c_fan c_Shape c_fs c_range c_cg

end

end Lw
open PySem PySem.W PyProof.Rows
set_option maxRecDepth 100000 in
set_option maxHeartbeats 0 in
theorem PySem.Challenge.cw_lentpages_k02_cover_holds : PySem.Challenge.rw_lentpages_k02_cover.Holds := by
  w_on; o_law; k_head; (case hw => w_witness2)
  k_fill
  refine L2.walk_of (l := PySem.Challenge.rw_lentpages_k02_cover) (n := 63) (k := 9) (x := "_law_script") (CX := fun _ => C8.CX0) (sp := fun w => Lw.spLaw _) rfl (by decide) rfl ⟨rfl, by decide, by decide⟩ (fun w h Y => by first | exact PySem.W.kIn_of Y | exact PySem.W.km_in_of Y) ?F (fun _ _ a ns hl _ hS => ⟨a, ns, rfl, hS, hl, fun _ => rfl⟩) (fun _ _ _ _ _ h => h)
  case F =>
    intro w mg fa h KX G hmg
    refine' Lw.all_mk KX G hmg ?aCS ?a_m_init ?i_m_init ?l_m_init ?c_m_init ?k_m_init ?a_m_span ?i_m_span ?l_m_span ?c_m_span ?k_m_span ?a_m_block_at ?i_m_block_at ?l_m_block_at ?c_m_block_at ?k_m_block_at ?pgCS ?hdCS ?poCS ?saCS ?mkCS ?kcCS ?nWS ?nLS ?nSS ?nPS ?aD ?iC ?tI ?lF ?cF ?lc ?x_hv ?x_hf ?x_tp ?lcc ?zsuper ?lD ?x_rb ?saD ?exD ?tyD ?kD ?mrD ?x_iniD ?veD ?anyD ?nSD ?nED ?aAE ?aPgE ?aU ?aDN ?aBF ?aLE ?aME ?aFE ?aCE ?zValueError ?hgD ?hkD ?hdD ?haD ?hnD ?htD ?hmD ?x_ex ?x_iB ?x_iA ?x_iV ?x_iN ?a_check_range ?l_check_range ?c_check_range ?k_check_range ?a_spans_of ?l_spans_of ?c_spans_of ?k_spans_of ?a_cover ?l_cover ?c_cover ?k_cover ?a_largest_block ?l_largest_block ?c_largest_block ?k_largest_block ?a_number ?l_number ?c_number ?k_number ?a_is_whole ?l_is_whole ?c_is_whole ?k_is_whole ?a_same ?l_same ?c_same ?k_same ?a_fan_spans ?l_fan_spans ?c_fan_spans ?k_fan_spans ?a_fan ?l_fan ?c_fan ?k_fan ?a_range ?l_range ?c_range ?k_range ?a_cover_refused ?l_cover_refused ?c_cover_refused ?k_cover_refused ?a_is_cover ?l_is_cover ?c_is_cover ?k_is_cover ?a_least_count ?l_least_count ?c_least_count ?k_least_count ?a_cover_good ?l_cover_good ?c_cover_good ?k_cover_good ?a_law ?l_law ?c_law ?k_law ?z_len ?z_abs ?z_int ?z_range ?z_isinstance ?z_bool ?z_str ?z_list ?z_tuple ?z_reversed ?z_zip ?z_sum ?z_min
    (case aCS => k_is)
    (case a_m_init => k_is)
    (case i_m_init => k_is)
    (case l_m_init => k_is)
    (case c_m_init => k_is)
    (case k_m_init => k_is)
    (case a_m_span => k_is)
    (case i_m_span => k_is)
    (case l_m_span => k_is)
    (case c_m_span => k_is)
    (case k_m_span => k_is)
    (case a_m_block_at => k_is)
    (case i_m_block_at => k_is)
    (case l_m_block_at => k_is)
    (case c_m_block_at => k_is)
    (case k_m_block_at => k_is)
    (case pgCS => k_is)
    (case hdCS => k_is)
    (case poCS => k_is)
    (case saCS => k_is)
    (case mkCS => k_is)
    (case kcCS => k_is)
    (case nWS => k_is)
    (case nLS => k_is)
    (case nSS => k_is)
    (case nPS => k_is)
    (case aD => k_is)
    (case iC => k_is)
    (case tI => k_is)
    (case lF => k_is)
    (case cF => k_is)
    (case lc => k_is)
    (case x_hv => first | k_is | rfl | decide +kernel)
    (case x_hf => first | k_is | rfl | decide +kernel)
    (case x_tp => first | k_is | rfl | decide +kernel)
    (case lcc => k_is)
    (case zsuper => k_is)
    (case lD => k_is)
    (case x_rb => first | k_is | rfl | decide +kernel)
    (case saD => k_is)
    (case exD => k_is)
    (case tyD => k_is)
    (case kD => k_is)
    (case mrD => k_is)
    (case x_iniD => first | k_is | rfl | decide +kernel)
    (case veD => k_is)
    (case anyD => k_is)
    (case nSD => k_is)
    (case nED => k_is)
    (case aAE => k_is)
    (case aPgE => k_is)
    (case aU => k_is)
    (case aDN => k_is)
    (case aBF => k_is)
    (case aLE => k_is)
    (case aME => k_is)
    (case aFE => k_is)
    (case aCE => k_is)
    (case zValueError => k_is)
    (case hgD => k_is)
    (case hkD => k_is)
    (case hdD => k_is)
    (case haD => k_is)
    (case hnD => k_is)
    (case htD => k_is)
    (case hmD => k_is)
    (case x_ex => first | k_is | rfl | decide +kernel)
    (case x_iB => first | k_is | rfl | decide +kernel)
    (case x_iA => first | k_is | rfl | decide +kernel)
    (case x_iV => first | k_is | rfl | decide +kernel)
    (case x_iN => first | k_is | rfl | decide +kernel)
    (case a_check_range => k_is)
    (case l_check_range => k_is)
    (case c_check_range => k_is)
    (case k_check_range => k_is)
    (case a_spans_of => k_is)
    (case l_spans_of => k_is)
    (case c_spans_of => k_is)
    (case k_spans_of => k_is)
    (case a_cover => k_is)
    (case l_cover => k_is)
    (case c_cover => k_is)
    (case k_cover => k_is)
    (case a_largest_block => k_is)
    (case l_largest_block => k_is)
    (case c_largest_block => k_is)
    (case k_largest_block => k_is)
    (case a_number => k_is)
    (case l_number => k_is)
    (case c_number => k_is)
    (case k_number => k_is)
    (case a_is_whole => k_is)
    (case l_is_whole => k_is)
    (case c_is_whole => k_is)
    (case k_is_whole => k_is)
    (case a_same => k_is)
    (case l_same => k_is)
    (case c_same => k_is)
    (case k_same => k_is)
    (case a_fan_spans => k_is)
    (case l_fan_spans => k_is)
    (case c_fan_spans => k_is)
    (case k_fan_spans => k_is)
    (case a_fan => k_is)
    (case l_fan => k_is)
    (case c_fan => k_is)
    (case k_fan => k_is)
    (case a_range => k_is)
    (case l_range => k_is)
    (case c_range => k_is)
    (case k_range => k_is)
    (case a_cover_refused => k_is)
    (case l_cover_refused => k_is)
    (case c_cover_refused => k_is)
    (case k_cover_refused => k_is)
    (case a_is_cover => k_is)
    (case l_is_cover => k_is)
    (case c_is_cover => k_is)
    (case k_is_cover => k_is)
    (case a_least_count => k_is)
    (case l_least_count => k_is)
    (case c_least_count => k_is)
    (case k_least_count => k_is)
    (case a_cover_good => k_is)
    (case l_cover_good => k_is)
    (case c_cover_good => k_is)
    (case k_cover_good => k_is)
    (case a_law => k_is)
    (case l_law => k_is)
    (case c_law => k_is)
    (case k_law => k_is)
    (case z_len => k_is)
    (case z_abs => k_is)
    (case z_int => k_is)
    (case z_range => k_is)
    (case z_isinstance => k_is)
    (case z_bool => k_is)
    (case z_str => k_is)
    (case z_list => k_is)
    (case z_tuple => k_is)
    (case z_reversed => k_is)
    (case z_zip => k_is)
    (case z_sum => k_is)
    (case z_min => k_is)
