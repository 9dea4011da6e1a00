import PyProof.Rows.All
import Wide.All
import OpenK.AllK
import Wide.FinOn
import HandS.ForMost
import HandS.Codes
import HandS.IsInst
import HandS.Wide
import HandS.DictTup
import PyProof.DictMoreH
import HandS.TupLen
import HandS.Nested
import HandS.ExcInit
import HandS.FStr
import HandS.ExcOwn
import HandS.ExcIs
import HandS.ExcField
import KE.KExcIs
import HandS.WordsExc
import HandS.Rev
import HandS.Style
import HandS.Zip
import HandS.Walk
import HandS.TryOnly
import HandS.TryMany
import HandS.MakeKwOnly
import HandS.Conv
import KE.KExcSuper
import KE.KExcMake
import PySem.Challenge.RW_lentpages_k29_device
set_option Elab.async false
set_option linter.all false
set_option maxRecDepth 100000
set_option maxHeartbeats 4000000
namespace Lw
open PySem PySem.Spec PyProof.Rows L2 NdefX
open C8 (Def Cal cal0 pe_c)
def topS (i : Nat) : Stmt := PySem.Challenge.pw_lentpages_k29_device.main.body.getD i (.Pass ⟨0, 0, 0, 0⟩)

/-! ### data in the heap, tracked -/
mutual
def Dh (H : Hp) : PyData → V → Prop
  | .none, x => x = .non
  | .bool b, x => x = .bl b
  | .int i, x => x = .int i
  | .str s, x => x = .str s
  | .list ds, x => ∃ a xs, x = .ref a ∧ H a = some (.lst xs) ∧ DhAll H ds xs
  | .tuple ds, x => ∃ a xs, x = .ref a ∧ H a = some (.tup xs) ∧ DhAll H ds xs
  | .dict _, _ => False
def DhAll (H : Hp) : List PyData → List V → Prop
  | [], xs => xs = []
  | d :: ds, xs => ∃ v vs, xs = v :: vs ∧ Dh H d v ∧ DhAll H ds vs
end
mutual
theorem Dh.mono {H H' : Hp} (s : Same H H') : ∀ (d : PyData) (x : V), Dh H d x → Dh H' d x
  | .none, x, h => h
  | .bool b, x, h => h
  | .int i, x, h => h
  | .str i, x, h => h
  | .list ds, x, h => by
    obtain ⟨a, xs, e, g, r⟩ := h
    exact ⟨a, xs, e, s _ _ g, DhAll.mono s ds xs r⟩
  | .tuple ds, x, h => by
    obtain ⟨a, xs, e, g, r⟩ := h
    exact ⟨a, xs, e, s _ _ g, DhAll.mono s ds xs r⟩
  | .dict _, x, h => False.elim h
theorem DhAll.mono {H H' : Hp} (s : Same H H') : ∀ (ds : List PyData) (xs : List V), DhAll H ds xs → DhAll H' ds xs
  | [], xs, h => h
  | d :: ds, xs, h => by
    obtain ⟨v, vs, e, g, r⟩ := h
    exact ⟨v, vs, e, Dh.mono s d v g, DhAll.mono s ds vs r⟩
end
theorem DhAll.len {H : Hp} : ∀ {ds : List PyData} {xs : List V}, DhAll H ds xs → xs.length = ds.length
  | [], xs, h => by
    cases (show xs = [] from h)
    rfl
  | d :: ds, xs, h => by
    obtain ⟨v, vs, e, g, r⟩ := h
    rw [e, List.length_cons, List.length_cons, DhAll.len r]
theorem DhAll.get {H : Hp} : ∀ {ds : List PyData} {xs : List V} {i : Nat} {d : PyData}, DhAll H ds xs → ds[i]? = some d → ∃ x, xs[i]? = some x ∧ Dh H d x
  | [], xs, i, d, h, e => by simp at e
  | d' :: ds, xs, 0, d, h, e => by
    obtain ⟨v, vs, e', g, r⟩ := h
    simp at e
    subst e
    exact ⟨v, by rw [e']; rfl, g⟩
  | d' :: ds, xs, i + 1, d, h, e => by
    obtain ⟨v, vs, e', g, r⟩ := h
    obtain ⟨x, h1, h2⟩ := DhAll.get (i := i) (d := d) r (by simpa using e)
    exact ⟨x, by rw [e']; simpa using h1, h2⟩
mutual
theorem Dh.dp {K : PySem.W.Frag} {H : Hp} : ∀ (d : PyData) (x : V), Dh H d x → Dp K H x d
  | .none, x, h => by
    cases (show x = .non from h)
    exact .non
  | .bool b, x, h => by
    cases (show x = .bl b from h)
    exact .bl b
  | .int i, x, h => by
    cases (show x = .int i from h)
    exact .int i
  | .str i, x, h => by
    cases (show x = .str i from h)
    exact .str i
  | .list ds, x, h => by
    obtain ⟨a, xs, e, g, r⟩ := h
    rw [e]
    exact .lst (SqL.of g) (DhAll.dp ds xs r)
  | .tuple ds, x, h => by
    obtain ⟨a, xs, e, g, r⟩ := h
    rw [e]
    exact .tup (SqT.of g) (DhAll.dp ds xs r)
  | .dict _, x, h => False.elim h
theorem DhAll.dp {K : PySem.W.Frag} {H : Hp} : ∀ (ds : List PyData) (xs : List V), DhAll H ds xs → DpAll K H xs ds
  | [], xs, h => by
    cases (show xs = [] from h)
    exact .nil
  | d :: ds, xs, h => by
    obtain ⟨v, vs, e, g, r⟩ := h
    rw [e]
    exact .cons (Dh.dp d v g) (DhAll.dp ds vs r)
end
/-- a datum's type -/
def tyN : PyData → String
  | .none => "NoneType"
  | .bool _ => "bool"
  | .int _ => "int"
  | .str _ => "str"
  | .list _ => "list"
  | .tuple _ => "tuple"
  | .dict _ => "dict"
theorem Dh.ty {K : PySem.W.Frag} {H : Hp} : ∀ {d : PyData} {x : V}, Dh H d x → TyX K H x (.type (tyN d))
  | .none, x, h => by
    cases (show x = .non from h)
    exact .base .non
  | .bool b, x, h => by
    cases (show x = .bl b from h)
    exact .base (.bl b)
  | .int i, x, h => by
    cases (show x = .int i from h)
    exact .base (.int i)
  | .str i, x, h => by
    cases (show x = .str i from h)
    exact .base (.str i)
  | .list ds, x, h => by
    obtain ⟨a, xs, e, g, r⟩ := h
    rw [e]
    exact .base (.lst g)
  | .tuple ds, x, h => by
    obtain ⟨a, xs, e, g, r⟩ := h
    rw [e]
    exact .base (.tup g)
  | .dict _, x, h => False.elim h
/-- at most n lists and tuples in one another, none of them long -/
def Dle : Nat → PyData → Prop
  | 0, _ => False
  | n + 1, .list ds => ds.length ≤ 100000 ∧ ∀ d ∈ ds, Dle n d
  | n + 1, .tuple ds => ds.length ≤ 100000 ∧ ∀ d ∈ ds, Dle n d
  | _, .dict _ => False
  | _, _ => True
theorem same_upd {H : Hp} {p : Addr} {o : HO} (h : H p = none) : Same H (upd H p o) := fun b x e => by
  rw [upd_ne (ne_of_none e h)]
  exact e
theorem same_rfl {H : Hp} : Same H H := fun _ _ e => e
/-- what is asked of the top's names -/
structure Txt (mg : Str → Option Value) : Prop where
  len : mg "len" = none
  abs : mg "abs" = none
  int : mg "int" = none
  range : mg "range" = none
  isinstance : mg "isinstance" = none
  bool : mg "bool" = none
  str : mg "str" = none
  list : mg "list" = none
  tuple : mg "tuple" = none
abbrev sI (i : Int) : Option V := some (.int i)
abbrev sR (a : Addr) : Option V := some (.ref a)
abbrev sS (x : Str) : Option V := some (.str x)
abbrev sB (b : Bool) : Option V := some (.bl b)

/-! ### steps of a reading -/
theorem ifD {p : Prop} [Decidable p] {A B : Prop} (a : p → A) (b : ¬ p → B) : if decide p = true then A else B := by
  by_cases h : p
  · rw [if_pos (decide_eq_true h)]
    exact a h
  · rw [if_neg (fun z => h (of_decide_eq_true z))]
    exact b h
theorem ifEq {x y : Int} {A B : Prop} (a : x = y → A) (b : x ≠ y → B) : if decide (V.int x = V.int y) = true then A else B :=
  ifD (fun h => a (V.int.inj h)) (fun h => b (fun z => h (congrArg V.int z)))
theorem ifT {p : Prop} [Decidable p] {A B : Prop} (h : p) (a : A) : if decide p = true then A else B := by
  rw [if_pos (decide_eq_true h)]
  exact a
theorem ifF {p : Prop} [Decidable p] {A B : Prop} (h : ¬ p) (b : B) : if decide p = true then A else B := by
  rw [if_neg (fun z => h (of_decide_eq_true z))]
  exact b
theorem ifEqT {x y : Int} {A B : Prop} (h : x = y) (a : A) : if decide (V.int x = V.int y) = true then A else B := ifT (congrArg V.int h) a
theorem ifEqF {x y : Int} {A B : Prop} (h : x ≠ y) (b : B) : if decide (V.int x = V.int y) = true then A else B := ifF (fun z => h (V.int.inj z)) b
theorem cmul_l {i j : Int} (h : -(2 ^ 64) < i ∧ i < 2 ^ 64) : CMul i j := .inl h
theorem cmul_r {i j : Int} (h : -(2 ^ 64) < j ∧ j < 2 ^ 64) : CMul i j := .inr h
/-- a statement that the steps stop at -/
@[irreducible] def tMk (t : TS) : TS := t
theorem tMk_eq (t : TS) : tMk t = t := by
  unfold tMk
  rfl
theorem ps_mk {X : Cx} {s : Stmt} {t : TS} (h : PS X s t) : PS X s (tMk t) := by
  rw [tMk_eq]
  exact h
theorem un {t : TS} {D : Ends} {σ : L2.St} {H : Hp} (h : t D σ H) : tMk t D σ H := by
  rw [tMk_eq]
  exact h
/-- what follows, said once -/
theorem jn {t : TS} {D : Ends} {σ : L2.St} {H : Hp} (M : L2.St → Hp → Prop) (h2 : ∀ σ H, M σ H → D.nx σ H) (h1 : ∀ N : L2.St → Hp → Prop, (∀ σ H, M σ H → N σ H) → t { D with nx := N } σ H) : tMk t D σ H := by
  rw [tMk_eq]
  exact h1 D.nx h2
/-- a wish that the steps stop at -/
@[irreducible] def Ob (p : Prop) : Prop := p
theorem ob {p : Prop} (h : p) : Ob p := by
  unfold Ob
  exact h
theorem unob {p : Prop} (h : Ob p) : p := by
  unfold Ob at h
  exact h
theorem atI_getD {ns : List Int} {j : Int} (h0 : 0 ≤ j) (h1 : j < (ns.length : Int)) : atI (ns.map V.int) j = some (.int (ns.getD j.toNat 0)) := by
  have e : j = ((j.toNat : Nat) : Int) := by omega
  have hj : j.toNat < ns.length := by omega
  have q : atI (ns.map V.int) ((j.toNat : Nat) : Int) = some (.int (ns.getD j.toNat 0)) := atI_nat (by
    rw [List.getElem?_map, List.getElem?_eq_getElem hj, List.getD_eq_getElem?_getD, List.getElem?_eq_getElem hj]
    rfl)
  rw [← e] at q
  exact q
theorem sz {n : Nat} (h : n ≤ 1000 := by first | decide | simp) : n ≤ sizeLine := Nat.le_of_lt (small1000 h)
theorem sz5 {n : Nat} (h : n ≤ 1000000) : n < sizeLine := by
  rw [sizeLine_eq]
  omega
theorem take_succ_eq {α : Type} {xs ys : List α} {i : Nat} {x y : α} (hx : xs[i]? = some x) (hy : ys[i]? = some y) : xs.take (i + 1) = ys.take (i + 1) ↔ xs.take i = ys.take i ∧ x = y := by
  rw [List.take_add_one, List.take_add_one, hx, hy]
  constructor
  · intro h
    have h1 := List.append_inj' h rfl
    refine ⟨h1.1, ?_⟩
    have h2 := h1.2
    simpa using h2
  · rintro ⟨h1, rfl⟩
    rw [h1]
-- size2
theorem ifN {b : Bool} {A B : Prop} (h : if b = true then B else A) : if (!b) = true then A else B := by
  cases b
  · exact h
  · exact h
theorem ifNe {x y : Int} {A B : Prop} (a : x ≠ y → A) (b : x = y → B) : if (!decide (V.int x = V.int y)) = true then A else B := ifN (ifEq b a)
theorem ixAny {K : PySem.W.Frag} {H : Hp} {a : Addr} {xs : List V} {i : Int} {v : V} {Q : VK} (h : SqL K H a xs ∨ SqT K H a xs) (e : atI xs i = some v) (q : Q v H) : rIx K (.ref a) (.int i) H Q := by
  rcases h with h | h
  · exact .inl ⟨a, xs, i, v, rfl, rfl, h, e, q⟩
  · exact .inr (.inl ⟨a, xs, i, v, rfl, rfl, h, e, q⟩)
theorem sameT {K : PySem.W.Frag} {H H' : Hp} {a : Addr} {xs : List V} (s : Same H H') (h : SqT K H a xs) : SqT K H' a xs := by
  rcases h with (g | ⟨o, g⟩) | g
  · exact .inl (.inl (s _ _ g))
  · exact .inl (.inr ⟨o, s _ _ g⟩)
  · exact .inr g
theorem sqAny {K : PySem.W.Frag} {H H' : Hp} {a : Addr} {xs : List V} (s : Same H H') (h : SqL K H a xs ∨ SqT K H a xs) : SqL K H' a xs ∨ SqT K H' a xs := h.imp (fun z => s.seq z) (fun z => sameT s z)
theorem same_put {H H1 : Hp} {D : Addr} {o : HO} (s : Same H H1) (h : H D = none) : Same H (upd H1 D o) := fun b x e => by
  rw [upd_ne (ne_of_none e h)]
  exact s b x e

/-! ### rules that say the written part by a letter -/
theorem ixL {X : Cx} (K : PySem.W.Frag) (h : X.K = K) : IxR X (rIxL K) := by
  subst h
  exact ix_list
theorem ixT {X : Cx} (K : PySem.W.Frag) (h : X.K = K) : IxR X (rIxT K) := by
  subst h
  exact ix_tup
theorem ixA {X : Cx} (K : PySem.W.Frag) (h : X.K = K) : IxR X (rIx K) := by
  subst h
  exact ix_seq
def rLen (K : PySem.W.Frag) : List V → Hp → VK → Prop := fun xs H Q => ∃ p ys, xs = [.ref p] ∧ (SqL K H p ys ∨ SqT K H p ys) ∧ Q (.int ys.length) H
theorem lenQ {X : Cx} (K : PySem.W.Frag) (h : X.K = K) : CallR X (.builtin "len") (rLen K) := by
  subst h
  exact call_len_seq
def isB : PyData → Bool
  | .bool _ => true
  | _ => false
def isI : PyData → Bool
  | .int _ => true
  | _ => false
def isS : PyData → Bool
  | .str _ => true
  | _ => false
def isL : PyData → Bool
  | .list _ => true
  | _ => false
def isT : PyData → Bool
  | .tuple _ => true
  | _ => false
theorem kit_B {K : PySem.W.Frag} : ∀ (d : PyData), PySem.W.kitOne K (.type (tyN d)) (.type "bool") = some (isB d)
  | .none => kit_ty (show kitB "NoneType" "bool" = some false by decide +kernel)
  | .bool _ => kit_ty (show kitB "bool" "bool" = some true by decide +kernel)
  | .int _ => kit_ty (show kitB "int" "bool" = some false by decide +kernel)
  | .str _ => kit_ty (show kitB "str" "bool" = some false by decide +kernel)
  | .list _ => kit_ty (show kitB "list" "bool" = some false by decide +kernel)
  | .tuple _ => kit_ty (show kitB "tuple" "bool" = some false by decide +kernel)
  | .dict _ => kit_ty (show kitB "dict" "bool" = some false by decide +kernel)
theorem kit_I {K : PySem.W.Frag} : ∀ (d : PyData), PySem.W.kitOne K (.type (tyN d)) (.type "int") = some (isI d || isB d)
  | .none => kit_ty (show kitB "NoneType" "int" = some false by decide +kernel)
  | .bool _ => kit_ty (show kitB "bool" "int" = some true by decide +kernel)
  | .int _ => kit_ty (show kitB "int" "int" = some true by decide +kernel)
  | .str _ => kit_ty (show kitB "str" "int" = some false by decide +kernel)
  | .list _ => kit_ty (show kitB "list" "int" = some false by decide +kernel)
  | .tuple _ => kit_ty (show kitB "tuple" "int" = some false by decide +kernel)
  | .dict _ => kit_ty (show kitB "dict" "int" = some false by decide +kernel)
theorem kit_S {K : PySem.W.Frag} : ∀ (d : PyData), PySem.W.kitOne K (.type (tyN d)) (.type "str") = some (isS d)
  | .none => kit_ty (show kitB "NoneType" "str" = some false by decide +kernel)
  | .bool _ => kit_ty (show kitB "bool" "str" = some false by decide +kernel)
  | .int _ => kit_ty (show kitB "int" "str" = some false by decide +kernel)
  | .str _ => kit_ty (show kitB "str" "str" = some true by decide +kernel)
  | .list _ => kit_ty (show kitB "list" "str" = some false by decide +kernel)
  | .tuple _ => kit_ty (show kitB "tuple" "str" = some false by decide +kernel)
  | .dict _ => kit_ty (show kitB "dict" "str" = some false by decide +kernel)
theorem kit_L {K : PySem.W.Frag} : ∀ (d : PyData), PySem.W.kitOne K (.type (tyN d)) (.type "list") = some (isL d)
  | .none => kit_ty (show kitB "NoneType" "list" = some false by decide +kernel)
  | .bool _ => kit_ty (show kitB "bool" "list" = some false by decide +kernel)
  | .int _ => kit_ty (show kitB "int" "list" = some false by decide +kernel)
  | .str _ => kit_ty (show kitB "str" "list" = some false by decide +kernel)
  | .list _ => kit_ty (show kitB "list" "list" = some true by decide +kernel)
  | .tuple _ => kit_ty (show kitB "tuple" "list" = some false by decide +kernel)
  | .dict _ => kit_ty (show kitB "dict" "list" = some false by decide +kernel)
theorem kit_T {K : PySem.W.Frag} : ∀ (d : PyData), PySem.W.kitOne K (.type (tyN d)) (.type "tuple") = some (isT d)
  | .none => kit_ty (show kitB "NoneType" "tuple" = some false by decide +kernel)
  | .bool _ => kit_ty (show kitB "bool" "tuple" = some false by decide +kernel)
  | .int _ => kit_ty (show kitB "int" "tuple" = some false by decide +kernel)
  | .str _ => kit_ty (show kitB "str" "tuple" = some false by decide +kernel)
  | .list _ => kit_ty (show kitB "list" "tuple" = some false by decide +kernel)
  | .tuple _ => kit_ty (show kitB "tuple" "tuple" = some true by decide +kernel)
  | .dict _ => kit_ty (show kitB "dict" "tuple" = some false by decide +kernel)
theorem kit_LT {K : PySem.W.Frag} (d : PyData) : PySem.W.kitAny K (.type (tyN d)) [.type "list", .type "tuple"] = some (isL d || isT d) := by
  refine kitAny_cons (kit_L d) (fun h => ?_) (fun h => by rw [h]; rfl)
  rw [h]
  refine kitAny_cons (kit_T d) (fun h => by rw [h]; rfl) (fun h => by rw [h]; rfl)
/-- isinstance of a datum -/
def rIsD (T : String) (g : PyData → Bool) : List V → Hp → VK → Prop := fun xs H Q => ∃ x d, xs = [x, .ty T] ∧ Dh H d x ∧ Q (.bl (g d)) H
theorem isOf {X : Cx} {T : String} {g : PyData → Bool} (h : ∀ d, PySem.W.kitOne X.K (.type (tyN d)) (.type T) = some (g d)) : CallR X (.builtin "isinstance") (rIsD T g) := by
  intro pins s σ H xs us Q I r z
  obtain ⟨x, d, rfl, hx, q⟩ := z
  exact call_isi pins s σ H _ us Q I r ⟨_, _, _, _, _, rfl, .ty T, hx.ty, h d, q⟩
theorem is_bool {X : Cx} : CallR X (.builtin "isinstance") (rIsD "bool" isB) := isOf kit_B
theorem is_int {X : Cx} : CallR X (.builtin "isinstance") (rIsD "int" fun d => isI d || isB d) := isOf kit_I
theorem is_str {X : Cx} : CallR X (.builtin "isinstance") (rIsD "str" isS) := isOf kit_S
theorem is_list {X : Cx} : CallR X (.builtin "isinstance") (rIsD "list" isL) := isOf kit_L
theorem is_tuple {X : Cx} : CallR X (.builtin "isinstance") (rIsD "tuple" isT) := isOf kit_T
/-- isinstance(x, (list, tuple)) of a datum -/
def rIsLT : List V → Hp → VK → Prop := fun xs H Q => ∃ x d p, xs = [x, .ref p] ∧ H p = some (.tup [.ty "list", .ty "tuple"]) ∧ Dh H d x ∧ Q (.bl (isL d || isT d)) H
theorem is_lt {X : Cx} : CallR X (.builtin "isinstance") rIsLT := by
  intro pins s σ H xs us Q I r z
  obtain ⟨x, d, p, rfl, hp, hx, q⟩ := z
  exact call_isiT pins s σ H _ us Q I r ⟨_, _, _, _, _, _, rfl, hp, .cons (.ty "list") (.cons (.ty "tuple") .nil), hx.ty, kit_LT d, q⟩
theorem ifBT {b : Bool} {A B : Prop} (h : b = true) (a : A) : if b = true then A else B := by
  rw [if_pos h]
  exact a
theorem ifBF {b : Bool} {A B : Prop} (h : b = false) (q : B) : if b = true then A else B := by
  rw [h, if_neg Bool.false_ne_true]
  exact q
theorem inQ {X : Cx} (K : PySem.W.Frag) (h : X.K = K) : OpR X (compareOp .In) (rIn K false) := by
  subst h
  exact op_in_seq
theorem notInQ {X : Cx} (K : PySem.W.Frag) (h : X.K = K) : OpR X (compareOp .NotIn) (rIn K true) := by
  subst h
  exact op_notIn_seq
theorem eqQ {X : Cx} (K : PySem.W.Frag) (h : X.K = K) (hu : X.A.units + 64 < cLine) : OpR X (compareOp .Eq) (rEqD K) := by
  subst h
  exact op_eqD hu
theorem neQ {X : Cx} (K : PySem.W.Frag) (h : X.K = K) (hu : X.A.units + 64 < cLine) : OpR X (compareOp .NotEq) (rNeD K) := by
  subst h
  exact op_neD hu
def rLst (K : PySem.W.Frag) : List V → Hp → VK → Prop := fun xs H Q => ∃ p ys, xs = [.ref p] ∧ (SqL K H p ys ∨ SqT K H p ys) ∧ ∀ l, H l = none → Q (.ref l) (upd H l (.lst ys))
theorem listQ {X : Cx} (K : PySem.W.Frag) (h : X.K = K) : CallR X (.type "list") (rLst K) := by
  subst h
  exact call_list_of

/-! ### an own error (over ValueError, by any own classes) whose __init__ begins with super().__init__(text) -/
section
variable {prog : Program} {w : World} {A : Around} {E : Value → Shared → Prop} {h : Heap} {g : Array GenState} {d : Drawn} {t : Nat} {os : OsState}
theorem mw_call {u a C N t1 : Addr} {dv : Option Addr} {ws : List Value} {Q : Value → Shared → Prop} {nm q : Str} {bs bm : List Value} {hdct : Bool} {sn : List Str} {sub : List Value} {ab : Bool} {col : Option Bool} {dd : Option Addr} {k0 k1 k2 k3 k5 : Option Value}
    (hC : h.get? C = some (excClassObj nm q C N bs bm hdct sn sub ab col dd k0 k1 k2 k3 k5 "ValueError.__new__")) (he : h.get? a = some (PySem.W.excObj C t1 dv .none)) (hu : h.get? u = some (PySem.W.kxs_mw "ValueError.__init__" a)) (hl : ws.length ≤ sizeLine)
    (hq : ∀ h' t2, (∀ b o, b ≠ a → h.get? b = some o → h'.get? b = some o) → h'.get? a = some (PySem.W.excObj C t2 dv .none) → Q .none ⟨h', g, d, t, os⟩) : wpAny (model prog w) A (call (.ref u) ws) Q E ⟨h, g, d, t, os⟩ := by
  have FB := F.excBase_ValueError
  refine (wpAny_call (codeAny_of_tree ?_)); show wpAny _ A.in1 (callAny (.ref u) ⟨ws, []⟩) _ _ _; simp only [callAny]
  refine (wpAny_bind (wpAny_load hu ?_)); simp only [PySem.W.kxs_mw]; refine (PySem.W.KFB.if_so (by decide) (wpAny_bind (PySem.W.check_bound_init FB.toExcCallFacts hC he rfl (wpAny_bind (wpAny_pure (wpAny_pure ⟨plainId_quiet FB.init.plain _, codeAny_builtin FB.initEntry ?_⟩))))))
  exact PySem.W.exc_init_tree (cls := .ref C) (t0 := t1) (dv := dv) (c2 := .none) (c3 := .none) (b4 := .bool false) he hl fun h' k e _ => hq h' _ k e
end
/-- what the written part and the text say of the def F at f, an __init__ of the class at D -/
structure SupAt (P : Program) (K : PySem.W.Frag) (mg : Str → Option Value) (F : NF) (f D cc : Addr) (me : Str) (dV kV doc pm ctv : Value) (an : Option Addr) : Prop where
  fn : ∃ oc od osl, K.lookup f = some ⟨oc, od, .func (PySem.W.fnX F.name F.qual F.params F.body F.scope F.cl dV kV doc pm an (.ref F.c) ctv), osl⟩
  cl : F.cl = [(("__class__" : Str), cc)]
  code : PySem.W.codeIn K (.ref F.c) F.qual = true
  file : ∃ ccl cdd vs ccs file tf, K.lookup F.c = some ⟨ccl, cdd, .fields vs, ccs⟩ ∧ vs[2]? = some (.str file tf) ∧ ((P.main.file : Str) == file) = true
  top : (P.main.scope.names.lookup ("super" : Str)).isSome = false
  cell : ∃ cl cld csl, K.lookup cc = some ⟨cl, cld, .cell (some (.ref D)), csl⟩
  sup : mg "super" = none
  par : ∃ ar : Arg, (F.params.posonlyargs ++ F.params.args).head? = some ar ∧ ar.arg = me
  sk : F.scope.names.lookup ("super" : Str) = some .globalImplicit
  exc : OexC K D
  mro : PySem.W.mroIn K D (.ref D) = some true
  ini : PySem.W.ks_superIn K D D "__init__" = some (some (.builtin "ValueError.__init__"))
  ve : PySem.W.subIn K (.ref D) (.type "ValueError") = some true
  any : PySem.W.nsIn K cStatics "thirdparty.any" = some none
section
variable {CX : CXT} {P : Program} {w : World} {K : PySem.W.Frag} {mg : Str → Option Value} {base : Heap} {N ps : List Str} {F : NF} {f D cc : Addr} {k : Nat} {sp : Sp} {me : Str} {dV kV doc pm ctv : Value} {an : Option Addr} {msg : Expr} {rest : List Stmt} {p0 p1 p2 p3 p4 : Pos}
theorem fn_sup (S : NScope N ps ["__class__"] F.scope) (U : SupAt P K mg F f D cc me dV kV doc pm ctv an) (hps : ps[0]? = some me) (hF : F.body = .Expr (.Call (.Attribute (.Call (.Name "super" p0) [] [] p1) "__init__" p2) [msg] [] p3) p4 :: rest)
    (len : ∀ vs H Q E, sp vs H Q E → vs.length = ps.length)
    (hbody : ∀ (A : Around) (outer : List Env) (s : Shared) (H : Hp) (vs : List V) (Q : VK) (E : XK), Room k (A.deeper (envF F f s.heap.objs.size)) → sp vs H Q E →
      ∃ ta t, PA (ncx CX P w K mg base N F f A outer s H E) [msg] ta ∧ PSs (ncx CX P w K mg base N F f A outer s H E) rest t ∧
        ∃ a, vs[0]? = some (.ref a) ∧ H a = some (exo a D none) ∧ ta (startF N vs [none]) H fun xs H1 => xs.length ≤ 1000 ∧ H1 a = some (exo a D none) ∧ t { nx := fun _ H' => Q .non H', rt := Q } (startF N vs [none]) H1)
    {pl : Env → Sem Bool} (he : ∀ env : Env, eval (.Call (.Attribute (.Call (.Name "super" p0) [] [] p1) "__init__" p2) [msg] [] p3) env = (do
      let ov ← attributeBase (.Call (.Name "super" p0) [] [] p1) "__init__" env (eval (.Call (.Name "super" p0) [] [] p1) env)
      standAt p2.atName
      let (f, first) ← holding [ov] (getMethod ov "__init__" (pl env))
      callWith p3 f first (backTo p3 (starEach [msg] env)) []) := by intro _; rfl)
    (hm : ∀ env : Env, starEach [msg] env = [(false, eval msg env)] := by intro _; rfl) (hs : ∀ env : Env, swapsWith (.Call (.Attribute (.Call (.Name "super" p0) [] [] p1) "__init__" p2) [msg] [] p3) none p4.line env = pure false := by intro _; rfl) :
    FnOk P w K mg base CX (k + 1) f (PySem.W.fnX F.name F.qual F.params F.body F.scope F.cl dV kV doc pm an (.ref F.c) ctv) ps sp := by
  refine ⟨len, fun A outer s H args us vs Q E hr e0 hb r hsp => ?_⟩
  have hl := len _ _ _ _ hsp
  have KX : K.In s.heap := e0.mod.kin.keeps fun b o e => (e0.bs b o e).1
  have lim : s.heap.NoLimit := e0.mod.nolimit.keeps fun b o e => (e0.bs b o e).1
  obtain ⟨oc, od, osl, lk⟩ := U.fn
  obtain ⟨cl, cld, csl, hcc⟩ := U.cell
  have CA : CellsAt F.cl ["__class__"] [none] s.heap H := by
    rw [U.cl]
    have one : ∀ {y : Str} {c : Addr}, ([("__class__", cc)] : List (Str × Addr)).lookup y = some c → y = "__class__" ∧ c = cc := fun {y c} e => by
      have m := PySem.mem_of_lookup e
      rcases List.mem_singleton.mp m with z
      cases z
      exact ⟨rfl, rfl⟩
    refine ⟨rfl, fun y c e => ?_, fun x y c e1 e2 => ?_, fun i y e => ?_⟩
    · obtain ⟨rfl, rfl⟩ := one e
      exact ⟨(e0.bs _ _ (e0.mod.kin _ _ hcc)).2, _, _, KX _ _ hcc, rfl⟩
    · rw [(one e1).1, (one e2).1]
    · have hy : y = "__class__" := by
        have m := List.mem_of_getElem? e
        exact List.mem_singleton.mp m
      rw [hy]
      refine ⟨cc, by simp [List.lookup], fun v hv => ?_⟩
      cases i with
      | zero => simp at hv
      | succ i => simp at hv
  refine ks_codeAny_call_defAt (binds := ps.zip us) hr.depth (KX _ _ lk) rfl lim (PySem.W.codeRec_of KX U.code) rfl hb S.nocell (fun ⟨n, _⟩ hy => S.par n (List.of_mem_zip hy).1) (fun h₁ hns kp => ?_) S.co S.gen S.kind
  obtain ⟨ta, t, hta, ht, a, ha0, ha, q⟩ := hbody A outer s H vs Q E (hr.deeper _) hsp
  have I : Inv (ncx CX P w K mg base N F f A outer s H E) [] (startF N vs [none]) H { s with heap := h₁, toks := s.toks + (ps.zip us).length } := inv_startN S hr.hd e0 hl r CA hns kp
  show PySem.wpAt _ (A.deeper (envF F f s.heap.objs.size)) (.func F.body (envF F f s.heap.objs.size)) (execs F.body (envF F f s.heap.objs.size)) _ _ _
  rw [hF]
  refine ks_wpAt_execs_cons (ks_wpAt_mono (Q := fun fl s' => fl = .next ∧ ∃ H1, Inv (ncx CX P w K mg base N F f A outer s H E) [] (startF N vs [none]) H1 s' ∧ t { nx := fun _ H' => Q .non H', rt := Q } (startF N vs [none]) H1) ?one ?two fun _ _ z => z)
  case two =>
    rintro fl s' ⟨rfl, H1, J, q1⟩
    refine wpAt_of_wpAny (wpAny_mono (ht.run [] s' (startF N vs [none]) H1 _ J q1) (fun fl s2 hs => ?_) fun e s2 hs => hs)
    have fin : ∀ {σ' : L2.St} {H' : Hp} {v : V} {u : Value}, Inv (ncx CX P w K mg base N F f A outer s H E) [] σ' H' s2 → RelV v u → Q v H' → CE outer P w H s Q u s2 := fun {σ' H' v u} J2 rv q2 => ⟨v, H', J2.os, J2.bare, J2.base, J2.hok, rv, q2⟩
    cases fl with
    | ret u =>
      obtain ⟨v, σ', H', J2, rv, q2⟩ := hs
      exact fin J2 rv q2
    | next =>
      obtain ⟨σ', H', J2, q2⟩ := hs
      exact fin (v := V.non) (u := Value.none) J2 rfl q2
    | brk =>
      obtain ⟨_, _, _, q2⟩ := hs
      exact q2.elim
    | cont =>
      obtain ⟨_, _, _, q2⟩ := hs
      exact q2.elim
  case one =>
    have IX := I
    obtain ⟨oD, cdD, hD0, hD1, hD2⟩ : ∃ oD cdD, PySem.W.clsIn K D = some cdD ∧ K.lookup D = some oD ∧ oD.data = .cls cdD := by
      obtain ⟨nm, qq, NN, bs, bm, sn, sub, ab, col, dd, k0, k1, k2, k3, k5, hC, _⟩ := U.exc.cls
      exact ⟨_, _, by unfold PySem.W.clsIn; rw [hC] <;> rfl, hC, rfl⟩
    obtain ⟨ccl, cdd, vsc, ccs, file, tf, hfc, hv2, hfile⟩ := U.file
    obtain ⟨ar, har, harm⟩ := U.par
    obtain ⟨t1, ho⟩ := exo_at I.hok ha
    have K1 := I.kIn
    have hN0 : N[0]? = some me := by
      have z : (N.take (ps.length + [("__class__" : Str)].length))[0]? = (ps ++ [("__class__" : Str)])[0]? := by rw [S.pre]
      rw [List.getElem?_take_of_lt (by simp)] at z
      rw [z, List.getElem?_append_left (List.getElem?_eq_some_iff.mp hps).1, hps]
    have hme : F.scope.names.lookup me = some .local := S.par _ (List.mem_of_getElem? hps)
    have hs0 : (startF N vs [none])[0]? = some (some (.ref a)) := by
      have hlt : 0 < vs.length := (List.getElem?_eq_some_iff.mp ha0).1
      unfold startF
      rw [List.getElem?_append_left (by rw [List.length_map]; exact hlt), List.getElem?_map, ha0]
      rfl
    refine ks_wpAt_Expr_any (ks_wpAt_MethodCall ?_ (he _)) (hi := I.quiet) (hs := hs _)
    refine ks_wpAt_super_base (env := envF F f s.heap.objs.size) U.sk (S.frk _ (List.mem_singleton.mpr rfl)) (by decide) rfl (K1 _ _ lk) rfl har rfl (K1 _ _ hfc) rfl hv2 hfile U.top ?_
    obtain ⟨mb, hb1, hb2⟩ := I.mod.blt
    refine PySem.W.ks_loadName_global S.kind U.sk (Calls.loadGlobal_builtin (I.mod.glob.keeps I.bk) U.sup (hb1.keeps I.bk) ((hb2 "super" (by decide)).trans (show bootBuiltins "super" = some (.type "super") from by first | rfl | kernel_rfl)) ⟨rfl, ?_⟩)
    refine wpAny_loadName_free (c := cc) (v := .ref D) S.kind (S.frk _ (List.mem_singleton.mpr rfl)) (by show F.cl.lookup _ = _; rw [U.cl]; simp [List.lookup]) ⟨_, K1 _ _ hcc, rfl⟩ ?_
    obtain ⟨m, hns1, hlook⟩ := I.loc
    obtain ⟨u, hu, hL⟩ := hlook 0 me (.ref a) hN0 hs0 (.inl hme)
    obtain rfl : u = Value.ref a := hu
    have hmu : m me = some (.ref a) := by
      rcases hL with ⟨_, z⟩ | ⟨z, _⟩
      · exact z
      · have z2 : F.scope.names.lookup me = some .cell ∨ F.scope.names.lookup me = some .free := z
        rw [hme] at z2
        rcases z2 with z2 | z2 <;> cases z2
    rw [harm]
    refine wpAny_loadName_local S.kind hme hns1 hmu ?_
    refine ks_wpAny_isType_cls (K1 _ _ hD1) hD2 ⟨rfl, ?_⟩
    refine ks_wpAny_call_super (K1 _ _ hD1) hD2 ho rfl (fun c z => by cases z) (PySem.W.looks_mroIn K1 U.mro) (fun h2 e2 kk2 => ?_)
    have I2 := I.kept (t' := s.toks + (ps.zip us).length) kk2
    have K2 := I2.kIn
    have ia : PySem.W.InstAt h2 a (PySem.W.excObj D t1 none .none) D none := ⟨kk2 _ _ ho, rfl, rfl, trivial⟩
    have aD : a ≠ D := fun z => by
      have z2 := K1 _ _ hD1
      rw [← z, ho] at z2
      have z3 := Option.some.inj z2
      rw [← z3] at hD2
      cases hD2
    have ini := U.ini
    unfold PySem.W.ks_superIn at ini
    rw [hD0] at ini
    refine PySem.W.kxs_getMethod PySem.W.kxs_ValueError e2 (PySem.W.looks_opaque K2 U.any) (l₀ := cdD.mro) (fun A' Q' E' s' k' q' => wpAny_bind ((PySem.W.looks_clsIn K2 hD0) A' _ E' s' k' (wpAny_pure q'))) rfl K2 ini (ia.type.andThen (PySem.W.looks_subIn K2 U.ve)) aD (by decide) ?_
    have I3 := I2.kept (t' := s.toks + (ps.zip us).length + 1) (h' := h2.push (PySem.W.kxs_mw "ValueError.__init__" a)) (fun b o e => Heap.get?_push_of_some _ e)
    have I4 : Inv (ncx CX P w K mg base N F f A outer s H E) ([] ++ [(h2.objs.size, PySem.W.kxs_mw "ValueError.__init__" a)]) (startF N vs [none]) H _ := I3.pins_of (fun p hp => by
      obtain rfl := List.mem_singleton.mp hp
      exact ⟨Heap.get?_push_at rfl rfl, I2.hok.fresh (Nat.le_refl _), Nat.ne_of_gt I2.lt, I2.nofs (Nat.le_refl _), fun v z => by cases z⟩)
    show wpAny _ _ (callWith p3 (.ref h2.objs.size) [] (backTo p3 (starEach [msg] (envF F f s.heap.objs.size))) []) _ _ _
    have hsp2 := hta.run p3 _ _ _ _ _ I4 q
    have hst : starEach [msg] (ncx CX P w K mg base N F f A outer s H E).env = [(false, eval msg (envF F f s.heap.objs.size))] := hm _
    rw [hst] at hsp2
    rw [hm]
    refine PySem.W.kxs_callWith (i := "ValueError.__init__") (x := a) rfl (Calls.evalArgs_plain (thn hsp2 fun us2 s7 ⟨xs, H1, I8, r8, hl8, ea, q8⟩ => ?_))
    obtain ⟨nm, qq, NN, bs, bm, sn, sub, ab, col, dd, k0, k1, k2, k3, k5, hC, _⟩ := U.exc.cls
    obtain ⟨h7, g7, d7, t7, os7⟩ := s7
    have pn := (I8.pin (h2.objs.size, PySem.W.kxs_mw "ValueError.__init__" a) (List.mem_append_right _ (List.mem_append_right _ (List.mem_singleton.mpr rfl)))).1
    obtain ⟨t8, ho8⟩ := exo_at I8.hok ea
    refine ⟨pn, mw_call (I8.kIn _ _ hC) ho8 pn (by show us2.length ≤ sizeLine; rw [← r8.length, sizeLine_eq]; omega) fun h9 t9 k9 e9 => ⟨rfl, H1, ?_, q8⟩⟩
    have J := I8.write (t' := t7) (x := a) (e := a) (o := exo a D none) (by rw [ea]; exact True.intro) (.inl rfl) k9 ⟨_, e9⟩ (exo_ok e9)
    have eu : upd H1 a (exo a D none) = H1 := by
      funext b
      by_cases hb : b = a
      · rw [hb, upd_same, ea]
      · rw [upd_ne hb]
    rw [eu] at J
    exact J.unpinned
end

/-! ### a chain of three comparisons -/
section
variable {X : Cx} {a b c d : Expr} {ta tb tc td : TE} {r r2 r3 : R2} {op op2 op3 : CmpOp} {pos : Pos}
def tChain3 (r r2 r3 : R2) (ta tb tc td : TE) : TE := fun σ H Q => ta σ H fun x H1 => tb σ H1 fun y H2 => r x y H2 fun z H3 => ∃ k, z = .bl k ∧
  (if k = true then tc σ H3 fun u H4 => r2 y u H4 fun z2 H5 => ∃ k2, z2 = .bl k2 ∧ (if k2 = true then td σ H5 fun v H6 => r3 u v H6 Q else Q (.bl false) H5) else Q (.bl false) H3)
theorem if_ff {A B : Prop} (h : B) : if (false : Bool) = true then A else B := by
  rw [if_neg (by decide)]
  exact h
theorem if_tt {A B : Prop} (h : A) : if (true : Bool) = true then A else B := by
  rw [if_pos rfl]
  exact h
theorem pt_chain3 (h1 : OpR X (compareOp op) r) (h2 : OpR X (compareOp op2) r2) (h3 : OpR X (compareOp op3) r3) (ha : PE X a ta) (hb : PE X b tb) (hc : PE X c tc) (hd : PE X d td)
    (hm : lastMarks [op, op2, op3] [b, c, d] = false := by with_unfolding_all rfl) : PT X (.Compare a [op, op2, op3] [b, c, d] pos) (tTest (tChain3 r r2 r3 ta tb tc td)) := by
  refine ⟨fun pins s σ H Q I h => ?_⟩
  refine isTrue_chain (thn (ha.run pins s σ H _ I h) fun v s1 ⟨x, H1, I1, e1, q1⟩ => test_link (thn (hb.run pins s1 σ H1 _ I1 q1) fun u s2 ⟨y, H2, I2, e2, q2⟩ => thn (h1 pins s2 σ H2 x y v u _ I2 e1 e2 q2) fun dv s3 ⟨z, H3, I3, e3, k, ek, q3⟩ => ?_)) hm
  subst ek
  cases e3
  refine wpAny_truthy_bool ?_
  cases k with
  | false =>
    obtain ⟨k', e', q'⟩ := q3
    cases e'
    exact if_ff ⟨H3, I3, q'⟩
  | true =>
    refine if_tt (test_link (thn (hc.run pins s3 σ H3 _ I3 (if_pos rfl ▸ q3)) fun w4 s4 ⟨z4, H4, I4, e4, q4⟩ => thn (h2 pins s4 σ H4 y z4 u w4 _ I4 e2 e4 q4) fun d5 s5 ⟨z5, H5, I5, e5, k2, ek2, q5⟩ => ?_))
    subst ek2
    cases e5
    refine wpAny_truthy_bool ?_
    cases k2 with
    | false =>
      obtain ⟨k', e', q'⟩ := q5
      cases e'
      exact if_ff ⟨H5, I5, q'⟩
    | true =>
      refine if_tt (test_last (thn (hd.run pins s5 σ H5 _ I5 q5) fun w6 s6 ⟨z6, H6, I6, e6, q6⟩ => thn (h3 pins s6 σ H6 z4 z6 w4 w6 _ I6 e4 e6 q6) fun d7 s7 ⟨z7, H7, I7, e7, k3, ek3, q7⟩ => ?_))
      subst ek3
      cases e7
      exact wpAny_truthy_bool ⟨H7, I7, q7⟩
end

/-! ### defs that may raise, called -/
/-- the def under its name, which may let out what sp says -/
structure CalE (P : Program) (w : World) (K : PySem.W.Frag) (mg : Str → Option Value) (base : Heap) (k : Nat) (x : Str) (sp : Sp) : Prop where
  ex : ∃ (f : Addr) (fd : FuncData) (ps : List Str), FnOk P w K mg base (L2.CX P w) k f fd ps sp ∧ mg x = some (.ref f) ∧ PySem.W.keepIn K (.ref f) = true ∧ Binds K fd ps []
section
variable {P : Program} {w : World} {K : PySem.W.Frag} {mg : Str → Option Value} {base : Heap}
theorem fnE {x qual : Str} {st : Stmt} {f : Addr} {fd : FuncData} {N ps : List Str} {k : Nat} {sp : Sp} (F : C8.Fun K x qual st f fd) (S : FnScope N ps (C8.fnScope st)) (len : ∀ vs H Q E, sp vs H Q E → vs.length = ps.length)
    (hb : ∀ (cdv : Value) (A : Around) (outer : List Env) (s : Shared) (H : Hp) (vs : List V) (Q : VK) (E : XK), Room k (A.deeper (envOfC qual (C8.fnScope st) s.heap.objs.size f cdv)) → sp vs H Q E →
      ∃ t, PSs (cxOf (L2.CX P w) P w K mg base N qual (C8.fnScope st) f cdv A outer s H E) (C8.fnBody st) t ∧ t { nx := fun _ H' => Q .non H', rt := Q } (start N vs) H) : FnOk P w K mg base (L2.CX P w) (k + 1) f fd ps sp := by
  obtain ⟨oc, od, dV, kV, doc, pm, an, cdv, ct, osl, rfl, lk, hcd⟩ := F.ex
  exact fn_of lk hcd S len fun A outer s H vs Q E hr hs => hb cdv A outer s H vs Q E hr hs
theorem calE {x : Str} {st : Stmt} {f : Addr} {fd : FuncData} {N ps : List Str} {k : Nat} {sp : Sp} (D : Def K mg x st f fd) (b : Binds K fd ps []) (S : FnScope N ps (C8.fnScope st)) (len : ∀ vs H Q E, sp vs H Q E → vs.length = ps.length)
    (hb : ∀ (cdv : Value) (A : Around) (outer : List Env) (s : Shared) (H : Hp) (vs : List V) (Q : VK) (E : XK), Room k (A.deeper (envOfC x (C8.fnScope st) s.heap.objs.size f cdv)) → sp vs H Q E →
      ∃ t, PSs (cxOf (L2.CX P w) P w K mg base N x (C8.fnScope st) f cdv A outer s H E) (C8.fnBody st) t ∧ t { nx := fun _ H' => Q .non H', rt := Q } (start N vs) H) : CalE P w K mg base (k + 1) x sp :=
  ⟨f, fd, ps, fnE D.fn S len hb, D.mgf, D.kp, b⟩
end
section
variable {X : Cx} {x : Str} {p pos : Pos} {e : Expr} {es : List Expr} {ta : TA} {sp : Sp} {k j : Nat}
/-- its call where exceptions go to W -/
theorem pe_cE (c : CalE X.prog X.w X.K X.mg X.base k x sp) {W : WX} (tk : Takes X W) (hr : Room j X.A) (hk : k ≤ j) (hg : Gl X x) (ha : PA X (e :: es) ta) (hdb : (x == ("__debug__" : Str)) = false := by decide)
    (he : starEach (e :: es) X.env = (false, eval e X.env) :: starEach es X.env := by rfl) (hpl : (backTo pos (starEach es X.env)).any (·.1) = false := by rfl) : PE X (.Call (.Name x p) (e :: es) [] pos) (tCallS sp (WE W) ta) := by
  obtain ⟨f, fd, ps, F, m, kp, b⟩ := c.ex
  exact pe_callS (F.mono hk) hr hg m kp b (passAt tk) ha hdb he hpl
end
/-- a method that may raise -/
structure MetE (P : Program) (w : World) (K : PySem.W.Frag) (mg : Str → Option Value) (base : Heap) (k : Nat) (C : Addr) (m : Str) (sp : Sp) : Prop where
  ex : ∃ (f : Addr) (fd : FuncData) (ps : List Str), Cls K C ∧ Meth K C m f ∧ FnOk P w K mg base (L2.CX P w) k f fd ps sp ∧ Binds K fd ps []
def tMtE (C : Addr) (m : Str) (sp : Sp) (E : L2.St → XK) (ta : TE) (t : TA) : TE := fun σ H Q => ta σ H fun x H1 => ∃ a dx fs, x = .ref a ∧ H1 a = some (.ins C dx fs) ∧ fs.lookup m = none ∧ t σ H1 fun vs H2 => sp (x :: vs) H2 Q (E σ)
section
variable {P : Program} {w : World} {K : PySem.W.Frag} {mg : Str → Option Value} {base : Heap}
theorem metE {m qual : Str} {C : Addr} {st : Stmt} {f : Addr} {fd : FuncData} {N ps : List Str} {k : Nat} {sp : Sp} (c : Cls K C) (me : Meth K C m f) (F : C8.Fun K m qual st f fd) (b : Binds K fd ps []) (S : FnScope N ps (C8.fnScope st)) (len : ∀ vs H Q E, sp vs H Q E → vs.length = ps.length)
    (hb : ∀ (cdv : Value) (A : Around) (outer : List Env) (s : Shared) (H : Hp) (vs : List V) (Q : VK) (E : XK), Room k (A.deeper (envOfC qual (C8.fnScope st) s.heap.objs.size f cdv)) → sp vs H Q E →
      ∃ t, PSs (cxOf (L2.CX P w) P w K mg base N qual (C8.fnScope st) f cdv A outer s H E) (C8.fnBody st) t ∧ t { nx := fun _ H' => Q .non H', rt := Q } (start N vs) H) : MetE P w K mg base (k + 1) C m sp :=
  ⟨f, fd, ps, c, me, fnE F S len hb, b⟩
end
section
variable {X : Cx} {m : Str} {C : Addr} {pos apos : Pos} {e o : Expr} {es : List Expr} {ta : TE} {t : TA} {sp : Sp} {k j : Nat}
theorem pe_mE {pl : Sem Bool} (c : MetE X.prog X.w X.K X.mg X.base k C m sp) {W : WX} (tk : Takes X W) (hr : Room j X.A) (hk : k ≤ j) (he : PE X o ta) (ha : PA X (e :: es) t)
    (hst : starEach (e :: es) X.env = (false, eval e X.env) :: starEach es X.env := by rfl) (hpl : (backTo pos (starEach es X.env)).any (·.1) = false := by rfl)
    (ht : eval (.Call (.Attribute o m apos) (e :: es) [] pos) X.env = (do
      let ov ← eval o X.env
      standAt apos.atName
      let (f, first) ← holding [ov] (getMethod ov m pl)
      callWith pos f first (backTo pos (starEach (e :: es) X.env)) (backToKw pos (keywordEach [] X.env))) := by rfl) : PE X (.Call (.Attribute o m apos) (e :: es) [] pos) (tMtE C m sp (WE W) ta t) := by
  obtain ⟨f, fd, ps, hc, hm, F, b⟩ := c.ex
  refine ⟨fun pins s σ H Q I h => PySem.W.methodCall_KW (pl := pl) (thn (he.run pins s σ H _ I h) fun u s1 ⟨x, H1, I1, rx, a, dx, fs, ex, ea, l, q⟩ => ?_) ht⟩
  subst ex
  cases (show u = Value.ref a from rx)
  exact getmeth_ok I1 ea hc hm l (PySem.W.callWith_K (first := [.ref a]) (h₀ := X.base) I.ok.mod.kin hm.kp (thn (ha.run pos pins s1 σ H1 _ I1 q) fun us s2 ⟨vs, H2, I2, r, q2⟩ => ⟨I2.kIn, run_fnS (us := .ref a :: us) (vs := .ref a :: vs) (F.mono hk) hr b (passAt tk σ) I2 (.cons rfl r) q2⟩) hst hpl)
end

/-! ### isinstance of the exception that a suite holds, with its fields -/
def rIsX (K : PySem.W.Frag) (D a : Addr) (cls : Value) (d0 : Option Addr) : List V → Hp → VK → Prop := fun xs H Q => cls = .ref D ∧ ∃ (d : Addr) (c : V) (u : Value) (b : Bool) (fs : List (Str × V)), d0 = some d ∧ xs = [.ref a, c] ∧ ClsV c u ∧ H d = some (.xd fs) ∧ PySem.W.kitOne K (.ref D) u = some b ∧ Q (.bl b) H
def rIsXT (K : PySem.W.Frag) (D a : Addr) (cls : Value) (d0 : Option Addr) : List V → Hp → VK → Prop := fun xs H Q => cls = .ref D ∧ ∃ (d tp : Addr) (cs : List V) (us : List Value) (b : Bool) (fs : List (Str × V)), d0 = some d ∧ xs = [.ref a, .ref tp] ∧ H tp = some (.tup cs) ∧ Paired ClsV cs us ∧ H d = some (.xd fs) ∧ PySem.W.kitAny K (.ref D) us = some b ∧ Q (.bl b) H
section
variable {X : Cx} {a D : Addr} {cls : Value} {d0 : Option Addr} {oe : Obj} {pn : List (Addr × Obj)}
theorem exx_at {d : Addr} {pins : List (Addr × Obj)} {σ : L2.St} {H : Hp} {s : Shared} {fs : List (Str × V)} (hz : Zc (.ref D) (some d) oe) (hf : ∃ vs, oe.data = .fields vs) (I : Inv (X.suite a ((a, oe) :: pn)) pins σ H s) (hd : H d = some (.xd fs)) : ∃ od, PySem.W.InstAt s.heap a oe D (some od) := by
  obtain ⟨hget, _⟩ := I.pin (a, oe) (List.mem_append.mpr (.inl List.mem_cons_self))
  obtain ⟨mA, hns, _⟩ := (show ObjOk X.prog X.w H s.heap d (.xd fs) from I.hok d _ hd)
  obtain ⟨od, _, _, hod, _⟩ := hns
  obtain ⟨vs, hv⟩ := hf
  refine ⟨od, hget, hz.1, ?_, ?_⟩
  · obtain ⟨oc, od2, oda, osl⟩ := oe
    dsimp only at hv
    subst hv
    rfl
  · rw [hz.2]
    exact hod
theorem call_isX (K : PySem.W.Frag) (hK : X.K = K) (C : ExcC K D) (hz : Zc cls d0 oe) (hf : ∃ vs, oe.data = .fields vs) : CallR (X.suite a ((a, oe) :: pn)) (.builtin "isinstance") (rIsX K D a cls d0) := by
  intro pins s σ H xs us Q I r h
  obtain ⟨rfl, d, c, u, b, fs, rfl, rfl, hc, hd, e, q⟩ := h
  subst hK
  obtain ⟨u1, u2, rfl, r1, r2⟩ := vals2 r
  cases (show u1 = Value.ref a from r1)
  obtain rfl := hc.eq r2
  obtain ⟨od, J⟩ := exx_at hz hf I hd
  have hcl : (PySem.W.clsIn X.K D).isSome = true := by
    obtain ⟨cd, hcd, _⟩ := PySem.W.any_some C.hd
    rw [hcd]
    rfl
  exact PySem.W.kia_one (PySem.W.kitx_exc hcl C.hg C.hk C.hs C.ha C.hn C.ht C.hm) I.kIn J e (fun z => nomatch z) fun tk => ⟨.bl b, H, I.tok tk, rfl, q⟩
theorem call_isXT (K : PySem.W.Frag) (hK : X.K = K) (C : ExcC K D) (hz : Zc cls d0 oe) (hf : ∃ vs, oe.data = .fields vs) : CallR (X.suite a ((a, oe) :: pn)) (.builtin "isinstance") (rIsXT K D a cls d0) := by
  intro pins s σ H xs us Q I r h
  obtain ⟨rfl, d, tp, cs, ws, b, fs, rfl, rfl, hT, hk, hd, e, q⟩ := h
  subst hK
  obtain ⟨u1, u2, rfl, r1, r2⟩ := vals2 r
  cases (show u1 = Value.ref a from r1)
  cases (show u2 = Value.ref tp from r2)
  obtain ⟨od, J⟩ := exx_at hz hf I hd
  obtain ⟨_, its, rv, o, g1, g2, n, g3⟩ := (show ObjOk X.prog X.w H s.heap tp (.tup cs) from I.hok tp _ hT)
  obtain rfl := ClsV.all hk rv
  obtain ⟨oc, od2, dt, sl⟩ := o
  simp only at g2 g3
  subst g2 g3
  have hcl : (PySem.W.clsIn X.K D).isSome = true := by
    obtain ⟨cd, hcd, _⟩ := PySem.W.any_some C.hd
    rw [hcd]
    rfl
  exact PySem.W.kia_tup (PySem.W.kitx_exc hcl C.hg C.hk C.hs C.ha C.hn C.ht C.hm) I.kIn J g1 e (fun z => nomatch z) fun tk => ⟨.bl b, H, I.tok tk, rfl, q⟩
end

/-- what follows a wrapped statement, said once -/
theorem jnS {a b : TS} {D : Ends} {σ : L2.St} {H : Hp} (M : L2.St → Hp → Prop) (h2 : ∀ σ H, M σ H → b D σ H) (h1 : ∀ N : L2.St → Hp → Prop, (∀ σ H, M σ H → N σ H) → a { D with nx := N } σ H) : tSeq (tMk a) b D σ H := by
  rw [tMk_eq]
  exact h1 (b D) h2

mutual
/-- no lists inside -/
def noL : PyData → Bool
  | .list _ => false
  | .dict _ => false
  | .tuple ds => noLs ds
  | _ => true
def noLs : List PyData → Bool
  | [] => true
  | d :: ds => noL d && noLs ds
end
mutual
theorem Dh.tups {H H' : Hp} (s : ∀ a us, H a = some (.tup us) → H' a = some (.tup us)) : ∀ (d : PyData) (x : V), noL d = true → Dh H d x → Dh H' d x
  | .none, x, _, h => h
  | .bool b, x, _, h => h
  | .int i, x, _, h => h
  | .str i, x, _, h => h
  | .list ds, x, n, h => by cases n
  | .tuple ds, x, n, h => by
    obtain ⟨a, xs, e, g, r⟩ := h
    exact ⟨a, xs, e, s _ _ g, DhAll.tups s ds xs n r⟩
  | .dict _, x, n, h => by cases n
theorem DhAll.tups {H H' : Hp} (s : ∀ a us, H a = some (.tup us) → H' a = some (.tup us)) : ∀ (ds : List PyData) (xs : List V), noLs ds = true → DhAll H ds xs → DhAll H' ds xs
  | [], xs, _, h => h
  | d :: ds, xs, n, h => by
    obtain ⟨v, vs, e, g, r⟩ := h
    have n2 : noL d = true ∧ noLs ds = true := Bool.and_eq_true_iff.mp n
    exact ⟨v, vs, e, Dh.tups s d v n2.1 g, DhAll.tups s ds vs n2.2 r⟩
end
theorem DhAll.snoc {H : Hp} : ∀ {ds : List PyData} {xs : List V} {d : PyData} {x : V}, DhAll H ds xs → Dh H d x → DhAll H (ds ++ [d]) (xs ++ [x])
  | [], xs, d, x, h, hx => by
    cases (show xs = [] from h)
    exact ⟨x, [], rfl, hx, rfl⟩
  | d' :: ds, xs, d, x, h, hx => by
    obtain ⟨v, vs, rfl, h1, h2⟩ := h
    exact ⟨v, vs ++ [x], rfl, h1, DhAll.snoc h2 hx⟩

section

-- a condition of an operator
local macro_rules | `(tactic| walk_at "cond") => `(tactic| first
  | (show (0 : Int) < _; omega)
  | (show CDiv _ _; constructor <;> (first | decide | omega))
  | (show CMul _ _; first | (refine cmul_l ?_; constructor <;> (first | decide | omega)) | (refine cmul_r ?_; constructor <;> (first | decide | omega)))
  | (show CPow _ _; exact (by refine ⟨by decide, by decide, by decide⟩))
  | (show CDivW _ _; exact ⟨by decide, by decide +kernel⟩))
local macro_rules | `(tactic| walk_at "sq") => `(tactic| first | assumption | exact Dh.mono (same_upd (by assumption)) _ _ (by assumption) | exact .inl (.inl (.inl (by assumption))) | exact .inr (.inl (.inl (by assumption))) | exact SqL.of (by assumption) | exact .inl (by assumption) | exact .inl (SqL.of (by assumption)) | exact SqT.of (by assumption) | exact .inr (SqT.of (by assumption)))
local macro_rules | `(tactic| walk_at "st") => `(tactic| first
  | refine ⟨_, rfl, ?_⟩
  | refine ⟨_, _, rfl, rfl, ?_⟩
  | refine .inl ⟨_, rfl, ?_⟩
  | refine ⟨rfl, ?_⟩
  | refine ⟨_, _, rfl, by walk_at "sq", ?_⟩
  | refine ⟨.inl ⟨rfl, _, SqL.of (by assumption)⟩, ?_⟩
  | refine ⟨by walk_at "cond", ?_⟩
  | (refine' ifBT ?hh ?_; (case hh => first | rfl | assumption))
  | (refine' ifBF ?hh ?_; (case hh => first | rfl | assumption)))
local macro_rules | `(tactic| walk_at "go") => `(tactic| repeat walk_at "st")
local macro_rules | `(tactic| walk_at "yes") => `(tactic| (refine' ifT ?hh ?_; (case hh => first | rfl | decide +kernel)))
local macro_rules | `(tactic| walk_at "no") => `(tactic| (refine' ifF ?hh ?_; (case hh => first | decide +kernel | (intro z; cases z; done))))

/-! ### BadRange, check_range -/
abbrev s_BadRange_init : Stmt := inClass (topS 8) 0
theorem sn_BadRange_init : NScope ["self", "start", "end", "__class__"] ["self", "start", "end"] ["__class__"] (C8.fnScope s_BadRange_init) := nscope_by (by decide +kernel)
abbrev s_check_range : Stmt := topS 13
theorem sc_check_range : FnScope ["start", "end", "limit"] ["start", "end", "limit"] (C8.fnScope s_check_range) := C8.fnScope_by (by decide +kernel)
theorem no_fly {P : Program} {w : World} {l : List Env} {H : Hp} {s s' : Shared} {e : Value} {p : Prop} (c : L2.CX P w l H s (fun _ _ _ => False) e s') : p := by
  obtain ⟨_, _, _, _, _, _, _, _, _, _, _, _, z⟩ := c
  exact z.elim
def brF (i j : Int) : List (Str × V) := [("end", .int j), ("start", .int i)]
def spBR (D : Addr) : Sp := fun vs H Q _ => ∃ (a : Addr) (i j : Int), vs = [.ref a, .int i, .int j] ∧ H a = some (exo a D none) ∧ i.natAbs.log2 < 1920 ∧ j.natAbs.log2 < 1920 ∧
  ∀ dx, H dx = none → dx ≠ a → Q .non (upd (upd (upd H dx (exd dx [("start", .int i)])) a (exo a D (some dx))) dx (exd dx (brF i j)))
def spCheck (D : Addr) : Sp := fun vs H Q E => ∃ i j n : Int, vs = [.int i, .int j, .int n] ∧ i.natAbs.log2 < 1920 ∧ j.natAbs.log2 < 1920 ∧ ((0 ≤ i ∧ i < j ∧ j ≤ n) → Q .non H) ∧
  (¬ (0 ≤ i ∧ i < j ∧ j ≤ n) → ∀ d, H d = none → E (.ref D) (some d) (upd H d (.xd (brF i j))))
theorem sz3 {n : Nat} (h : n ≤ 10000) : n ≤ sizeLine := by
  rw [sizeLine_eq]
  omega
theorem len_ap {a b : Str} {m n : Nat} (ha : a.length ≤ m) (hb : b.length ≤ n) : (a ++ b).length ≤ m + n := by
  rw [Str.length_append]
  omega
section
variable {P : Program} {w : World} {K : PySem.W.Frag} {mg : Str → Option Value} {base : Heap}
theorem ok_BadRange {F : NF} {f D cc : Addr} {dV kV doc pm ctv : Value} {an : Option Addr} {q : Str} {cl : List (Str × Addr)} {c : Addr} (U : SupAt P K mg (NF.of s_BadRange_init "__init__" q cl c) f D cc "self" dV kV doc pm ctv an)
    (nS : PySem.W.findIn K (.ref D) "start" = some none) (nE : PySem.W.findIn K (.ref D) "end" = some none) :
    FnOk P w K mg base (L2.CX P w) 1 f (PySem.W.fnX "__init__" q (C8.fnArgs s_BadRange_init) (C8.fnBody s_BadRange_init) (C8.fnScope s_BadRange_init) cl dV kV doc pm an (.ref c) ctv) ["self", "start", "end"] (spBR D) := by
  refine fn_sup (F := NF.of s_BadRange_init "__init__" q cl c) (N := ["self", "start", "end", "__class__"]) sn_BadRange_init U rfl (by rfl) (fun vs H Q E h => ?_) (fun A outer s H vs Q E hr h => ?_)
  · obtain ⟨a, i, j, rfl, _⟩ := h
    rfl
  obtain ⟨a, i, j, rfl, ha, hi, hj, q⟩ := h
  refine ⟨_, _, pa_cons (pe_joined (.cons pe_str (.cons (pe_fmt (pv 1)) (.cons pe_str (.cons (pe_fmt (pv 2)) (.cons pe_str .nil)))))) pa_nil, pss_cons (ps_ost (pv 0) (pv 1)) (pss_one (ps_ost (pv 0) (pv 2))), a, rfl, ha, ?_⟩
  have l1 := len_ap (show Str.empty.length ≤ 0 by decide +kernel) (show ("the range (" : Str).length ≤ 50 by decide +kernel)
  have l2 := len_ap l1 (int_text_len_1921 hi)
  have l3 := len_ap l2 (show (", " : Str).length ≤ 50 by decide +kernel)
  have l4 := len_ap l3 (int_text_len_1921 hj)
  have l5 := len_ap l4 (show (") is empty, reversed or outside" : Str).length ≤ 50 by decide +kernel)
  refine ⟨_, rfl, sz3 (Nat.le_trans l1 (by decide)), ?_⟩
  refine ⟨_, rfl, .inr ⟨i, rfl, hi, _, rfl, sz3 (Nat.le_trans l2 (by decide)), ?_⟩⟩
  refine ⟨_, rfl, sz3 (Nat.le_trans l3 (by decide)), ?_⟩
  refine ⟨_, rfl, .inr ⟨j, rfl, hj, _, rfl, sz3 (Nat.le_trans l4 (by decide)), ?_⟩⟩
  refine ⟨_, rfl, sz3 (Nat.le_trans l5 (by decide)), ?_⟩
  refine ⟨(by show 1 ≤ 1000; decide), ha, _, rfl, _, rfl, a, D, rfl, U.exc, nS, .inl ⟨ha, fun dx nd ne => ?_⟩⟩
  refine ⟨_, rfl, _, rfl, a, D, rfl, U.exc, nE, .inr ⟨dx, _, upd_same, ?_, (by show 1 ≤ 900; decide), q dx nd ne⟩⟩
  rw [upd_ne ne]
  exact upd_same
theorem ok_check {D f2 : Addr} {fd2 : FuncData} (B : FnOk P w K mg base (L2.CX P w) 1 f2 fd2 ["self", "start", "end"] (spBR D)) (O : OexC K D) (iC : PySem.W.findIn K (.ref D) "__init__" = some (some (.ref f2))) (tI : PySem.W.typeIn K (.ref f2) = some (.type "function"))
    (hb : Binds K fd2 ["self", "start", "end"] []) (mD : mg "BadRange" = some (.ref D)) {f : Addr} {fd : FuncData} (Df : Def K mg "check_range" s_check_range f fd) (b : Binds K fd ["start", "end", "limit"] []) : CalE P w K mg base 3 "check_range" (spCheck D) := by
  refine calE Df b sc_check_range (fun vs H Q E h => ?_) (fun cdv A outer s H vs Q E hr h => ?_)
  · obtain ⟨i, j, n, rfl, _⟩ := h
    rfl
  obtain ⟨i, j, n, rfl, hi, hj, q1, q2⟩ := h
  refine ⟨_, pss_one (ps_mk (ps_if (pt_not (pt_chain3 op_le op_lt op_le pe_int (pv 0) (pv 1) (pv 2))) (pss_one (ps_raise rfl (takes_of rfl rfl rfl rfl) (pmk_oex O iC tI B hr hb .nil (fun _ _ _ _ e s' _ c => no_fly c) rfl mD (pa_cons (pv 0) (pa_cons (pv 1) pa_nil))))) pss_nil)), ?_⟩
  have bad : ¬ (0 ≤ i ∧ i < j ∧ j ≤ n) → ([V.int i, V.int j] : List V).length ≤ 1000 ∧ ∀ a, H a = none → spBR D (V.ref a :: ([V.int i, V.int j] ++ [])) (upd H a (exo a D none))
      (fun v H2 => v = .non ∧ ∃ d fs, H2 a = some (exo a D (some d)) ∧ H2 d = some (exd d fs) ∧ H d = none ∧ E (.ref D) (some d) (upd (del H2 a) d (.xd fs))) (fun _ _ _ => False) := fun z => by
    refine ⟨(by show 2 ≤ 1000; decide), fun a na => ⟨a, i, j, rfl, upd_same, hi, hj, fun dx nd ne => ⟨rfl, dx, brF i j, ?_, upd_same, ?_, ?_⟩⟩⟩
    · rw [upd_ne ne.symm]
      exact upd_same
    · rw [upd_ne ne] at nd
      exact nd
    · rw [upd_ne ne] at nd
      have e : upd (del (upd (upd (upd (upd H a (exo a D none)) dx (exd dx [("start", .int i)])) a (exo a D (some dx))) dx (exd dx (brF i j))) a) dx (.xd (brF i j)) = upd H dx (.xd (brF i j)) := by
        funext c
        by_cases h1 : c = dx
        · rw [h1, upd_same, upd_same]
        · rw [upd_ne h1, upd_ne h1]
          by_cases h2 : c = a
          · rw [h2, del_same, na]
          · rw [del_ne h2, upd_ne h1, upd_ne h2, upd_ne h1, upd_ne h2]
      rw [e]
      exact q2 z dx nd
  refine un ?_
  walk_at "go"
  refine ifD (fun c1 => ?_) (fun c1 => ?_)
  · walk_at "go"
    refine ifD (fun c2 => ?_) (fun c2 => ?_)
    · walk_at "go"
      by_cases c3 : j ≤ n
      · refine ifBF (by rw [decide_eq_true c3]; rfl) ?_
        exact q1 ⟨c1, c2, c3⟩
      · refine ifBT (by rw [decide_eq_false c3]; rfl) ?_
        walk_at "go"
        exact bad fun z => c3 z.2.2
    · walk_at "go"
      exact bad fun z => c2 z.2.1
  · walk_at "go"
    exact bad fun z => c1 z.1
end

end

section

-- a condition of an operator
local macro_rules | `(tactic| walk_at "cond") => `(tactic| first
  | (show (0 : Int) < _; omega)
  | (show CDiv _ _; constructor <;> (first | decide | omega))
  | (show CMul _ _; first | (refine cmul_l ?_; constructor <;> (first | decide | omega)) | (refine cmul_r ?_; constructor <;> (first | decide | omega)))
  | (show CPow _ _; exact (by refine ⟨by decide, by decide, by decide⟩))
  | (show CDivW _ _; exact ⟨by decide, by decide +kernel⟩))
local macro_rules | `(tactic| walk_at "sq") => `(tactic| first | assumption | exact Dh.mono (same_upd (by assumption)) _ _ (by assumption) | exact .inl (.inl (.inl (by assumption))) | exact .inr (.inl (.inl (by assumption))) | exact SqL.of (by assumption) | exact .inl (by assumption) | exact .inl (SqL.of (by assumption)) | exact SqT.of (by assumption) | exact .inr (SqT.of (by assumption)))
local macro_rules | `(tactic| walk_at "st") => `(tactic| first
  | refine ⟨_, rfl, ?_⟩
  | refine ⟨_, _, rfl, rfl, ?_⟩
  | refine .inl ⟨_, rfl, ?_⟩
  | refine ⟨rfl, ?_⟩
  | refine ⟨_, _, rfl, by walk_at "sq", ?_⟩
  | refine ⟨.inl ⟨rfl, _, SqL.of (by assumption)⟩, ?_⟩
  | refine ⟨by walk_at "cond", ?_⟩
  | (refine' ifBT ?hh ?_; (case hh => first | rfl | assumption))
  | (refine' ifBF ?hh ?_; (case hh => first | rfl | assumption)))
local macro_rules | `(tactic| walk_at "go") => `(tactic| repeat walk_at "st")
local macro_rules | `(tactic| walk_at "yes") => `(tactic| (refine' ifT ?hh ?_; (case hh => first | rfl | decide +kernel)))
local macro_rules | `(tactic| walk_at "no") => `(tactic| (refine' ifF ?hh ?_; (case hh => first | decide +kernel | (intro z; cases z; done))))

/-! ### _law_number -/
/-- n times // 1000 -/
def itd : Nat → Int → Int
  | 0, r => r
  | n + 1, r => itd n r / 1000
theorem itd_zero : ∀ n, itd n 0 = 0
  | 0 => rfl
  | n + 1 => by
    show itd n 0 / 1000 = 0
    rw [itd_zero n]
    rfl
theorem itd_add (r : Int) (h : itd n r = 0) : ∀ m, itd (n + m) r = 0
  | 0 => h
  | m + 1 => by
    show itd (n + m) r / 1000 = 0
    rw [itd_add r h m]
    rfl
theorem itd_nn {r : Int} (h : 0 ≤ r) : ∀ n, 0 ≤ itd n r
  | 0 => h
  | n + 1 => Int.ediv_nonneg (itd_nn h n) (by decide)
def nCell (ns : List Int) (i : Int) : Int := if ns.length = 0 then 0 else (ns.getD (i % (ns.length : Int)).toNat 0).natAbs
def nTurn (ns : List Int) (i : Int) : Int := if ns.length = 0 then i else i / (ns.length : Int)
def nPick (ns : List Int) (i k : Int) : Int := k + 16 * nTurn ns i
def nMix (c p : Int) : Int :=
  let a := (c + 7919 * p + 13) % 2147483647
  let b := (a * (a + 48271)) % 2147483629
  (b * (b + 69621) + 31 * p) % 2147483647
def num (ns : List Int) (i k size : Int) : Int :=
  let c := nCell ns i
  let p := nPick ns i k
  if c ≥ 10 ^ 18 then
    if itd p.toNat (c / 10 ^ 18) > 0 then itd p.toNat (c / 10 ^ 18) % 1000 % size else nMix c p / 9 % size
  else nMix c p / 9 % size
theorem num_nn {ns : List Int} {i k size : Int} (h : 0 < size) : 0 ≤ num ns i k size := by
  unfold num
  dsimp only
  split
  · split
    · exact Int.emod_nonneg _ (by omega)
    · exact Int.emod_nonneg _ (by omega)
  · exact Int.emod_nonneg _ (by omega)
theorem num_lt {ns : List Int} {i k size : Int} (h : 0 < size) : num ns i k size < size := by
  unfold num
  dsimp only
  split
  · split
    · exact Int.emod_lt_of_pos _ h
    · exact Int.emod_lt_of_pos _ h
  · exact Int.emod_lt_of_pos _ h
def spNum (K : PySem.W.Frag) : Sp := fun vs H Q _ => ∃ (a : Addr) (ns : List Int) (i k size : Int), vs = [.ref a, .int i, .int k, .int size] ∧ SqL K H a (ns.map V.int) ∧ ns.length ≤ 63 ∧
  0 ≤ i ∧ i ≤ 1000000000 ∧ 0 ≤ k ∧ k ≤ 1000000000 ∧ 0 < size ∧ Q (.int (num ns i k size)) H

abbrev s_number : Stmt := topS 17
theorem sc_number : FnScope ["_law_script", "_law_at", "_law_k", "_law_size", "_law_cell", "_law_turn", "_law_pick", "_law_rest", "_law_step", "_law_mixed"] ["_law_script", "_law_at", "_law_k", "_law_size"] (C8.fnScope s_number) := C8.fnScope_by (by decide +kernel)
section
variable {P : Program} {w : World} {K : PySem.W.Frag} {mg : Str → Option Value} {base : Heap}
theorem ok_number {f : Addr} {fd : FuncData} (D : Def K mg "_law_number" s_number f fd) (b : Binds K fd ["_law_script", "_law_at", "_law_k", "_law_size"] []) (T : Txt mg) : Cal P w K mg base 1 "_law_number" (spNum K) [] := by
  refine cal0 D b .nil sc_number (fun vs H Q E h => ?_) (fun cdv A outer s H vs Q E hr h => ?_)
  · obtain ⟨a, ns, i, k, size, rfl, _⟩ := h
    rfl
  obtain ⟨a, ns, i, k, size, rfl, hS, hl, i0, i1, k0, k1, hz, q⟩ := h
  refine ⟨_, (pss_cons (ps_set (i := 4) sc_number.nd rfl (.inl rfl) pe_int)
      (pss_cons (ps_set (i := 5) sc_number.nd rfl (.inl rfl) (pv 1))
      (pss_cons (ps_mk (ps_if (pt_cmpR op_gt (pe_callB (lenQ K rfl) (by rfl) T.len PySem.boot_len (pa_cons (pv 0) pa_nil)) pe_int (nomark _))
      (pss_cons (ps_set (i := 4) sc_number.nd rfl (.inl rfl) (pe_callB call_abs (by rfl) T.abs (by decide +kernel) (pa_cons (pe_ix (ixL K rfl) (pv 0) (pe_op op_mod (pe_callTy call_int1 (by rfl) T.int (by decide +kernel) (pa_cons (pv 1) pa_nil)) (pe_callB (lenQ K rfl) (by rfl) T.len PySem.boot_len (pa_cons (pv 0) pa_nil))) (fun _ _ => rfl)) pa_nil)))
      (pss_one (ps_set (i := 5) sc_number.nd rfl (.inl rfl) (pe_op op_fdiv (pv 1) (pe_callB (lenQ K rfl) (by rfl) T.len PySem.boot_len (pa_cons (pv 0) pa_nil))))))
      pss_nil))
      (pss_cons (ps_set (i := 6) sc_number.nd rfl (.inl rfl) (pe_op op_add (pv 2) (pe_op op_mul pe_int (pv 5))))
      (pss_cons (ps_mk (ps_if (pt_cmpR op_ge (pv 4) (pe_op op_pow pe_int pe_int) (nomark _))
      (pss_cons (ps_set (i := 7) sc_number.nd rfl (.inl rfl) (pe_op op_fdivW (pv 4) (pe_op op_pow pe_int pe_int)))
      (pss_cons (ps_mk (ps_for PassesOwn.never rfl (pi_range1 (by rfl) T.range (pa_cons (pv 6) pa_nil)) (pg_name (i := 8) sc_number.nd rfl (.inl rfl))
      (pss_cons (ps_mk (ps_if (pt_cmpR op_eq (pv 7) pe_int (nomark _))
      (pss_one ps_break)
      pss_nil))
      (pss_one (ps_set (i := 7) sc_number.nd rfl (.inl rfl) (pe_op op_fdiv (pv 7) pe_int))))))
      (pss_one (ps_mk (ps_if (pt_cmpR op_gt (pv 7) pe_int (nomark _))
      (pss_one (ps_ret (pe_op op_mod (pe_callTy call_int1 (by rfl) T.int (by decide +kernel) (pa_cons (pe_op op_mod (pe_callTy call_int1 (by rfl) T.int (by decide +kernel) (pa_cons (pv 7) pa_nil)) pe_int) pa_nil)) (pv 3))))
      pss_nil)))))
      pss_nil))
      (pss_cons (ps_set (i := 9) sc_number.nd rfl (.inl rfl) (pe_op op_mod (pe_callTy call_int1 (by rfl) T.int (by decide +kernel) (pa_cons (pe_op op_add (pe_op op_add (pv 4) (pe_op op_mul pe_int (pv 6))) pe_int) pa_nil)) pe_int))
      (pss_cons (ps_set (i := 9) sc_number.nd rfl (.inl rfl) (pe_op op_mod (pe_callTy call_int1 (by rfl) T.int (by decide +kernel) (pa_cons (pe_op op_mul (pv 9) (pe_op op_add (pv 9) pe_int)) pa_nil)) pe_int))
      (pss_cons (ps_set (i := 9) sc_number.nd rfl (.inl rfl) (pe_op op_mod (pe_callTy call_int1 (by rfl) T.int (by decide +kernel) (pa_cons (pe_op op_add (pe_op op_mul (pv 9) (pe_op op_add (pv 9) pe_int)) (pe_op op_mul pe_int (pv 6))) pa_nil)) pe_int))
      (pss_one (ps_ret (pe_op op_mod (pe_callTy call_int1 (by rfl) T.int (by decide +kernel) (pa_cons (pe_op op_fdiv (pv 9) pe_int) pa_nil)) (pv 3)))))))))))), ?_⟩
  have hml : (ns.map V.int).length = ns.length := List.length_map _
  have t0 : 0 ≤ nTurn ns i ∧ nTurn ns i ≤ 1000000000 := by
    unfold nTurn
    split
    · exact ⟨i0, i1⟩
    · exact ⟨Int.ediv_nonneg i0 (by omega), Int.le_trans (Int.ediv_le_self _ i0) i1⟩
  have p0 : 0 ≤ nPick ns i k ∧ nPick ns i k ≤ 17000000000 := by
    unfold nPick
    omega
  walk_at "go"
  refine jn (M := fun σ H' => ∃ c t : Int, c = nCell ns i ∧ t = nTurn ns i ∧ H' = H ∧ σ = [sR a, sI i, sI k, sI size, sI c, sI t, none, none, none, none]) ?_ (fun N kk => ?_)
  · rintro σ H' ⟨c, t, ec, et, rfl, rfl⟩
    walk_at "go"
    -- behind the pick
    have ep : k + 16 * t = nPick ns i k := by
      rw [et]
      rfl
    have c0 : 0 ≤ c := by
      rw [ec]
      unfold nCell
      split <;> omega
    have en : c < 10 ^ 18 ∨ ¬ itd (nPick ns i k).toNat (c / 10 ^ 18) > 0 → num ns i k size = nMix c (nPick ns i k) / 9 % size := fun h => by
      unfold num
      dsimp only
      rw [← ec]
      rcases h with h | h
      · rw [if_neg (by omega)]
      · split
        · rfl
        · rfl
    refine jn (M := fun σ H2 => H2 = H' ∧ (c < 10 ^ 18 ∨ ¬ itd (nPick ns i k).toNat (c / 10 ^ 18) > 0) ∧ ∃ y8 y9, σ = [sR a, sI i, sI k, sI size, sI c, sI t, sI (nPick ns i k), y8, y9, none]) ?_ (fun N kk => ?_)
    · rintro σ H2 ⟨rfl, hc, y8, y9, rfl⟩
      walk_at "go"
      have e := en hc
      unfold nMix at e
      dsimp only at e
      rw [e] at q
      exact q
    · walk_at "go"
      refine ifD (fun g => ?_) (fun g => ?_)
      · have g' : c ≥ 10 ^ 18 := g
        walk_at "go"
        have r0 : 0 ≤ c / 10 ^ 18 := Int.ediv_nonneg c0 (by decide)
        refine jn (M := fun σ H2 => H2 = H' ∧ ∃ y9, σ = [sR a, sI i, sI k, sI size, sI c, sI t, sI (nPick ns i k), sI (itd (nPick ns i k).toNat (c / 10 ^ 18)), y9, none]) ?_ (fun N2 k2 => ?_)
        · rintro σ H2 ⟨rfl, y9, rfl⟩
          refine un ?_
          walk_at "go"
          refine ifD (fun g2 => ?_) (fun g2 => ?_)
          · walk_at "go"
            have e : num ns i k size = itd (nPick ns i k).toNat (c / 10 ^ 18) % 1000 % size := by
              unfold num
              dsimp only
              rw [← ec, if_pos g', if_pos g2]
            rw [e] at q
            exact q
          · walk_at "go"
            exact kk _ _ ⟨rfl, .inr g2, _, _, rfl⟩
        · walk_at "go"
          refine ⟨(show -(2 ^ 62) ≤ k + 16 * t by omega), (show k + 16 * t < 2 ^ 62 by omega), for_range (lo := 0) (n := (k + 16 * t).toNat) (fun j σ H2 => Ob (H2 = H' ∧ ∃ y9, σ = [sR a, sI i, sI k, sI size, sI c, sI t, sI (nPick ns i k), sI (itd j (c / 10 ^ 18)), y9, none])) (ob ⟨rfl, none, ?_⟩) ?_ ?_⟩
          · rw [← ep]
            rfl
          · rintro j σ H2 hj h
            obtain ⟨rfl, y9, rfl⟩ := unob h
            refine un ?_
            walk_at "go"
            refine ifEq (fun z => ?_) (fun z => ?_)
            · walk_at "go"
              refine k2 _ _ ⟨rfl, sI (0 + (j : Int)), ?_⟩
              have z2 : itd (nPick ns i k).toNat (c / 10 ^ 18) = 0 := by
                have z3 := itd_add _ z ((nPick ns i k).toNat - j)
                rw [show j + ((nPick ns i k).toNat - j) = (nPick ns i k).toNat by omega] at z3
                exact z3
              rw [z2, ← z]
              rfl
            · walk_at "go"
              exact ob ⟨rfl, _, rfl⟩
          · rintro σ H2 h
            obtain ⟨rfl, y9, rfl⟩ := unob h
            refine k2 _ _ ⟨rfl, y9, ?_⟩
            rw [ep]
      · walk_at "go"
        have g' : ¬ c ≥ 10 ^ 18 := g
        refine kk _ _ ⟨rfl, .inl (by omega), none, none, ?_⟩
        rw [← ep]
        rfl
  · walk_at "go"
    refine ifD (fun c => ?_) (fun c => ?_)
    · walk_at "go"
      rw [hml] at c
      refine ⟨_, _, _, _, rfl, rfl, hS, atI_getD (Int.emod_nonneg _ (by omega)) (by rw [hml]; exact Int.emod_lt_of_pos _ (by omega)), ?_⟩
      walk_at "go"
      refine kk _ _ ⟨_, _, ?_, ?_, rfl, rfl⟩
      · unfold nCell
        rw [if_neg (show ¬ ns.length = 0 by omega)]
        simp only [hml]
        split
        · omega
        · omega
      · unfold nTurn
        rw [if_neg (by omega), hml]
    · walk_at "go"
      rw [hml] at c
      refine kk _ _ ⟨_, _, ?_, ?_, rfl, rfl⟩
      · unfold nCell
        rw [if_pos (by omega)]
      · unfold nTurn
        rw [if_pos (by omega)]
end

/-! ### _law_is_whole, _law_same -/
abbrev s_is_whole : Stmt := topS 18
theorem sc_is_whole : FnScope ["_law_told"] ["_law_told"] (C8.fnScope s_is_whole) := C8.fnScope_by (by decide +kernel)
abbrev s_same : Stmt := topS 19
theorem sc_same : FnScope ["_law_told", "_law_due", "_law_k"] ["_law_told", "_law_due"] (C8.fnScope s_same) := C8.fnScope_by (by decide +kernel)
def spWhole : Sp := fun vs H Q _ => ∃ (x : V) (d : PyData), vs = [x] ∧ Dh H d x ∧ Q (.bl (isI d)) H
def spSame (n : Nat) : Sp := fun vs H Q _ => ∃ (x y : V) (d e : PyData), vs = [x, y] ∧ Dh H d x ∧ Dh H e y ∧ Dle n e ∧ ∀ (b : Bool) (H' : Hp), (b = true ↔ d = e) → Same H H' → Q (.bl b) H'
section
variable {P : Program} {w : World} {K : PySem.W.Frag} {mg : Str → Option Value} {base : Heap}
theorem ok_whole {f : Addr} {fd : FuncData} (D : Def K mg "_law_is_whole" s_is_whole f fd) (b : Binds K fd ["_law_told"] []) (T : Txt mg) : Cal P w K mg base 1 "_law_is_whole" spWhole [] := by
  refine cal0 D b .nil sc_is_whole (fun vs H Q E h => ?_) (fun cdv A outer s H vs Q E hr h => ?_)
  · obtain ⟨x, d, rfl, _⟩ := h
    rfl
  obtain ⟨x, d, rfl, hx, q⟩ := h
  refine ⟨_, (pss_one (ps_ret (pe_and (pe_callB is_int (by rfl) T.isinstance (by decide +kernel) (pa_cons (pv 0) (pa_cons (pe_bltn (v := .ty "int") (by rfl) T.int (by decide +kernel) rfl) pa_nil))) (pe_one (pe_not (pe_callB is_bool (by rfl) T.isinstance (by decide +kernel) (pa_cons (pv 0) (pa_cons (pe_bltn (v := .ty "bool") (by rfl) T.bool (by decide +kernel) rfl) pa_nil)))))))), ?_⟩
  cases d <;> (walk_at "go"; exact q)
theorem ok_same_step {f : Addr} {fd : FuncData} (D : Def K mg "_law_same" s_same f fd) (b : Binds K fd ["_law_told", "_law_due"] []) (T : Txt mg) (c_is_whole : Cal P w K mg base 1 "_law_is_whole" spWhole []) {n : Nat}
    (c_same : Cal P w K mg base (n + 1) "_law_same" (spSame n) []) : Cal P w K mg base (n + 2) "_law_same" (spSame (n + 1)) [] := by
  refine cal0 D b .nil sc_same (fun vs H Q E h => ?_) (fun cdv A outer s H vs Q E hr h => ?_)
  · obtain ⟨x, y, d, e, rfl, _⟩ := h
    rfl
  obtain ⟨x, y, d, e, rfl, hx, hy, he, q⟩ := h
  refine ⟨_, (pss_cons (ps_mk (ps_if (pt_val (pe_callB is_lt (by rfl) T.isinstance (by decide +kernel) (pa_cons (pv 1) (pa_cons (pe_tup (pa_cons (pe_bltn (v := .ty "list") (by rfl) T.list (by decide +kernel) rfl) (pa_cons (pe_bltn (v := .ty "tuple") (by rfl) T.tuple (by decide +kernel) rfl) pa_nil))) pa_nil))))
      (pss_cons (ps_mk (ps_if (PW.pt (pw_or (pt_not (pt_val (pe_callB is_lt (by rfl) T.isinstance (by decide +kernel) (pa_cons (pv 0) (pa_cons (pe_tup (pa_cons (pe_bltn (v := .ty "list") (by rfl) T.list (by decide +kernel) rfl) (pa_cons (pe_bltn (v := .ty "tuple") (by rfl) T.tuple (by decide +kernel) rfl) pa_nil))) pa_nil))))) (pw_or1 (pt_cmpR op_ne (pe_callB is_list (by rfl) T.isinstance (by decide +kernel) (pa_cons (pv 0) (pa_cons (pe_bltn (v := .ty "list") (by rfl) T.list (by decide +kernel) rfl) pa_nil))) (pe_callB is_list (by rfl) T.isinstance (by decide +kernel) (pa_cons (pv 1) (pa_cons (pe_bltn (v := .ty "list") (by rfl) T.list (by decide +kernel) rfl) pa_nil))) (nomark _)))))
      (pss_one (ps_ret pe_bl))
      pss_nil))
      (pss_cons (ps_mk (ps_if (pt_cmpR op_ne (pe_callB (lenQ K rfl) (by rfl) T.len PySem.boot_len (pa_cons (pv 0) pa_nil)) (pe_callB (lenQ K rfl) (by rfl) T.len PySem.boot_len (pa_cons (pv 1) pa_nil)) (nomark _))
      (pss_one (ps_ret pe_bl))
      pss_nil))
      (pss_one (ps_ret (pe_cmpR op_eq (pe_callB (lenQ K rfl) (by rfl) T.len PySem.boot_len (pa_cons (pe_lc (own := [("_law_k", 2)]) (g := gName 2) rfl sc_same.nd (pi_range1 (by rfl) T.range (pa_cons (pe_callB (lenQ K rfl) (by rfl) T.len PySem.boot_len (pa_cons (pv 1) pa_nil)) pa_nil)) (blkOk_by (own := [("_law_k", 2)]) (N := ["_law_told", "_law_due", "_law_k"]) (sc := C8.fnScope s_same) (by decide +kernel)) (fun _ _ _ _ _ => (pg_name (i := 2) sc_same.nd rfl (.inl rfl))) (fun _ _ _ _ _ => (pts_one (pt_not (pt_val (C8.pe_c c_same hr (by omega) (by rfl) (pa_cons (pe_ix (ixA K rfl) (pv 0) (pv 2) (fun _ _ => rfl)) (pa_cons (pe_ix (ixA K rfl) (pv 1) (pv 2) (fun _ _ => rfl)) pa_nil))))))) (fun _ _ _ _ _ => (pv 2))) pa_nil)) pe_int (nomark _))))))
      pss_nil))
      (pss_cons (ps_mk (ps_if (pt_val (pe_callB is_bool (by rfl) T.isinstance (by decide +kernel) (pa_cons (pv 1) (pa_cons (pe_bltn (v := .ty "bool") (by rfl) T.bool (by decide +kernel) rfl) pa_nil))))
      (pss_one (ps_ret (pe_and (pe_callB is_bool (by rfl) T.isinstance (by decide +kernel) (pa_cons (pv 0) (pa_cons (pe_bltn (v := .ty "bool") (by rfl) T.bool (by decide +kernel) rfl) pa_nil))) (pe_one (pe_cmpR op_eq (pv 0) (pv 1) (nomark _))))))
      pss_nil))
      (pss_cons (ps_mk (ps_if (pt_val (pe_callB is_int (by rfl) T.isinstance (by decide +kernel) (pa_cons (pv 1) (pa_cons (pe_bltn (v := .ty "int") (by rfl) T.int (by decide +kernel) rfl) pa_nil))))
      (pss_one (ps_ret (pe_and (C8.pe_c c_is_whole hr (by omega) (by rfl) (pa_cons (pv 0) pa_nil)) (pe_one (pe_cmpR op_eq (pv 0) (pv 1) (nomark _))))))
      pss_nil))
      (pss_cons (ps_mk (ps_if (pt_val (pe_callB is_str (by rfl) T.isinstance (by decide +kernel) (pa_cons (pv 1) (pa_cons (pe_bltn (v := .ty "str") (by rfl) T.str (by decide +kernel) rfl) pa_nil))))
      (pss_one (ps_ret (pe_and (pe_callB is_str (by rfl) T.isinstance (by decide +kernel) (pa_cons (pv 0) (pa_cons (pe_bltn (v := .ty "str") (by rfl) T.str (by decide +kernel) rfl) pa_nil))) (pe_one (pe_cmpR op_eq (pv 0) (pv 1) (nomark _))))))
      pss_nil))
      (pss_one (ps_ret (pe_and (pe_cmpR op_isN (pv 0) pe_non (nomark _)) (pe_one (pe_cmpR op_isN (pv 1) pe_non (nomark _)))))))))), ?_⟩
  refine jn (M := fun σ H' => Same H H' ∧ σ = [some x, some y, none] ∧ (isL e || isT e) = false) ?_ (fun N kk => ?_)
  · rintro σ H1 ⟨s1, rfl, hf⟩
    have hx1 := Dh.mono s1 _ _ hx
    have hy1 := Dh.mono s1 _ _ hy
    clear hx hy he
    cases e with
    | list es => cases hf
    | tuple es => cases hf
    | dict kvs => exact False.elim hy1
    | none =>
      cases (show y = V.non from hy1)
      cases d
      case dict => exact False.elim hx1
      all_goals first | (obtain ⟨_, _, e1, _, _⟩ := id hx1; cases e1) | (cases (show x = _ from hx1))
      all_goals repeat (first | refine un ?_ | walk_at "st")
      all_goals exact q _ _ (by simp) s1
    | bool c =>
      cases (show y = V.bl c from hy1)
      cases d
      case dict => exact False.elim hx1
      all_goals first | (obtain ⟨_, _, e1, _, _⟩ := id hx1; cases e1) | (cases (show x = _ from hx1))
      all_goals repeat (first | refine un ?_ | walk_at "st")
      all_goals exact q _ _ (by simp) s1
    | int c =>
      cases (show y = V.int c from hy1)
      cases d
      case dict => exact False.elim hx1
      all_goals first | (obtain ⟨_, _, e1, _, _⟩ := id hx1; cases e1) | (cases (show x = _ from hx1))
      all_goals repeat (first | refine un ?_ | walk_at "st")
      all_goals first | exact q _ _ (by simp) s1 | skip
      all_goals refine ⟨_, _, rfl, hx1, ?_⟩
      all_goals repeat (first | refine un ?_ | walk_at "st")
      all_goals exact q _ _ (by simp) s1
    | str c =>
      cases (show y = V.str c from hy1)
      cases d
      case dict => exact False.elim hx1
      all_goals first | (obtain ⟨_, _, e1, _, _⟩ := id hx1; cases e1) | (cases (show x = _ from hx1))
      all_goals repeat (first | refine un ?_ | walk_at "st")
      all_goals exact q _ _ (by simp) s1
  · walk_at "go"
    refine ⟨sz, fun p hp => ?_⟩
    refine ⟨_, _, _, rfl, upd_same, Dh.mono (same_upd hp) _ _ hy, ?_⟩
    walk_at "go"
    have s1 : Same H (upd H p (.tup [.ty "list", .ty "tuple"])) := same_upd hp
    have hx1 := Dh.mono s1 _ _ hx
    have hy1 := Dh.mono s1 _ _ hy
    cases hf : (isL e || isT e) with
    | false =>
      refine ifBF rfl ?_
      exact kk _ _ ⟨s1, rfl, hf⟩
    | true =>
      refine ifBT rfl ?_
      generalize upd H p (HO.tup [V.ty "list", V.ty "tuple"]) = H1 at *
      clear hx hy kk hp
      walk_at "go"
      refine jn (M := fun σ H2 => Same H1 H2 ∧ ∃ a c xs ys ds es, σ = [sR a, sR c, none] ∧ (SqL K H2 a xs ∨ SqT K H2 a xs) ∧ (SqL K H2 c ys ∨ SqT K H2 c ys) ∧ DhAll H2 ds xs ∧ DhAll H2 es ys ∧ es.length ≤ 100000 ∧ (∀ e' ∈ es, Dle n e') ∧ (d = e ↔ ds = es)) ?_ (fun N2 k2 => ?_)
      · rintro σ H2 ⟨s2, a, c, xs, ys, ds, es, rfl, hA, hC, hds, hes, hlen, hle, hiff⟩
        have lx := hds.len
        have ly := hes.len
        walk_at "go"
        refine jn (M := fun σ H3 => H3 = H2 ∧ σ = [sR a, sR c, none] ∧ ds.length = es.length) ?_ (fun N3 k3 => ?_)
        · rintro σ H3 ⟨rfl, rfl, el⟩
          walk_at "go"
          refine ⟨by omega, by omega, fun L hL => lc_range (lo := 0) (n := ((ys.length : Nat) : Int).toNat)
            (fun i H' => Ob (Same H3 H' ∧ ∃ acc, H' L = some (.lst acc) ∧ acc.length ≤ i ∧ (acc = [] ↔ ds.take i = es.take i))) (ob ⟨same_upd hL, [], upd_same, Nat.le_refl _, by simp⟩) ?_ ?_⟩
          · intro i H4 hi h4
            obtain ⟨s4, acc, g4, l4, e4⟩ := unob h4
            have hi2 : i < es.length := by omega
            have hi3 : i < ds.length := by omega
            obtain ⟨xv, ex, dx⟩ := hds.get (List.getElem?_eq_getElem hi3)
            obtain ⟨yv, ey, dy⟩ := hes.get (List.getElem?_eq_getElem hi2)
            have tk := take_succ_eq (List.getElem?_eq_getElem hi3) (List.getElem?_eq_getElem hi2)
            have ax : atI xs (0 + (i : Int)) = some xv := by
              rw [Int.zero_add]
              exact atI_nat ex
            have ay : atI ys (0 + (i : Int)) = some yv := by
              rw [Int.zero_add]
              exact atI_nat ey
            refine ⟨rfl, ?_⟩
            walk_at "go"
            refine ixAny (sqAny s4 hA) ax ?_
            walk_at "go"
            refine ixAny (sqAny s4 hC) ay ?_
            walk_at "go"
            refine ⟨_, _, _, _, rfl, Dh.mono s4 _ _ dx, Dh.mono s4 _ _ dy, hle _ (List.getElem_mem hi2), fun b5 H5 hb s5 => ?_⟩
            walk_at "go"
            refine ifN ?_
            cases b5 with
            | true =>
              refine ifBT rfl (ob ⟨s4.trans s5, acc, s5 _ _ g4, Nat.le_succ_of_le l4, ?_⟩)
              rw [e4, tk]
              exact ⟨fun z => ⟨z, hb.mp rfl⟩, fun z => z.1⟩
            | false =>
              refine ifBF rfl ?_
              walk_at "go"
              refine ⟨acc, s5 _ _ g4, sz5 (by omega), ob ⟨same_put (s4.trans s5) hL, _, upd_same, ?_, ?_⟩⟩
              · rw [List.length_append]
                exact Nat.add_le_add_right l4 1
              · constructor
                · intro z
                  exact absurd (congrArg List.length z) (by rw [List.length_append]; simp)
                · intro z
                  exact absurd (hb.mpr (tk.mp z).2) Bool.false_ne_true
          · intro H4 h4
            obtain ⟨s4, acc, g4, l4, e4⟩ := unob h4
            walk_at "go"
            refine q _ _ ?_ ((s1.trans s2).trans s4)
            rw [hiff]
            have et : ((ys.length : Nat) : Int).toNat = es.length := by omega
            rw [et, List.take_of_length_le (by omega), List.take_of_length_le (Nat.le_refl _)] at e4
            rw [← e4, decide_eq_true_iff]
            constructor
            · intro z
              have z2 := V.int.inj z
              exact List.eq_nil_of_length_eq_zero (by omega)
            · intro z
              rw [z]
              rfl
        · walk_at "go"
          refine ifNe (fun z => ?_) (fun z => ?_)
          · walk_at "go"
            refine q _ _ ?_ (s1.trans s2)
            rw [hiff]
            constructor
            · intro h
              cases h
            · intro h
              rw [h] at lx
              omega
          · walk_at "go"
            exact k3 _ _ ⟨rfl, rfl, by omega⟩
      · walk_at "go"
        refine ⟨sz, fun p2 hp2 => ?_⟩
        have s2 : Same H1 (upd H1 p2 (HO.tup [V.ty "list", V.ty "tuple"])) := same_upd hp2
        refine ⟨_, _, _, rfl, upd_same, Dh.mono s2 _ _ hx1, ?_⟩
        have hx2 := Dh.mono s2 _ _ hx1
        have hy2 := Dh.mono s2 _ _ hy1
        walk_at "go"
        generalize upd H1 p2 (HO.tup [V.ty "list", V.ty "tuple"]) = H2 at *
        clear hp2
        cases e with
        | none => cases hf
        | bool _ => cases hf
        | int _ => cases hf
        | str _ => cases hf
        | dict kvs => cases hf
        | list es =>
          obtain ⟨c, ys, rfl, gy, hes⟩ := id hy2
          cases d
          case dict => exact False.elim hx2
          case list ds =>
            obtain ⟨a, xs, rfl, gx, hds⟩ := id hx2
            walk_at "go"
            exact k2 _ _ ⟨s2, _, _, _, _, ds, es, rfl, .inl (.inl (.inl gx)), .inl (.inl (.inl gy)), hds, hes, he.1, he.2, by simp⟩
          all_goals walk_at "go"
          all_goals exact q _ _ (by simp) (s1.trans s2)
        | tuple es =>
          obtain ⟨c, ys, rfl, gy, hes⟩ := id hy2
          cases d
          case dict => exact False.elim hx2
          case tuple ds =>
            obtain ⟨a, xs, rfl, gx, hds⟩ := id hx2
            walk_at "go"
            exact k2 _ _ ⟨s2, _, _, _, _, ds, es, rfl, .inr (.inl (.inl gx)), .inr (.inl (.inl gy)), hds, hes, he.1, he.2, by simp⟩
          all_goals walk_at "go"
          all_goals exact q _ _ (by simp) (s1.trans s2)
theorem ok_same {f : Addr} {fd : FuncData} (D : Def K mg "_law_same" s_same f fd) (b : Binds K fd ["_law_told", "_law_due"] []) (T : Txt mg) (c_is_whole : Cal P w K mg base 1 "_law_is_whole" spWhole []) :
    ∀ n, Cal P w K mg base (n + 1) "_law_same" (spSame n) []
  | 0 => by
    have no : ∀ vs H Q E, ¬ spSame 0 vs H Q E := fun vs H Q E h => by
      obtain ⟨x, y, d, e, _, _, _, h1, _⟩ := h
      exact h1
    exact ⟨f, fd, _, _, ⟨fun vs H Q E h => absurd h (no vs H Q E), fun A outer s H args us vs Q E _ _ _ _ h => absurd h (no vs H Q E)⟩, D.mgf, D.kp, b, .nil⟩
  | n + 1 => ok_same_step D b T c_is_whole (ok_same D b T c_is_whole n)
end

end

/-! ### a try whose wish the body sees as a letter -/
def tTry (K : PySem.W.Frag) (c : Value) (i : Nat) (tb : WX → TS) (ts : Addr → Value → Option Addr → TS) (Wout : WX) : TS := fun D σ H => ∀ W : WX, (∀ cls d σ2 H2, wAs K c i ts Wout D cls d σ2 H2 → W cls d σ2 H2) → tb W D σ H
theorem ps_try_m {X : Cx} {x n : Str} {c : Value} {i : Nat} {body suite : List Stmt} {b0 : Stmt} {np pos pos2 : Pos} {tb : WX → TS} {ts : Addr → Value → Option Addr → TS} {Wout : WX} (hs : X.stack = X.env :: X.outer) (hf : X.env.frame = some X.env.locals) (hN : X.N.Nodup) (hi : X.N[i]? = some n) (hln : X.env.kindOf n = some .local) (hc : Names X x c) (tk : Takes X Wout)
    (hb : ∀ (W : WX) (pn : List (Addr × Obj)) (xe : Value → Shared → Prop), Takes (X.tr pn xe) W → PassesOwn (model X.prog X.w) X.A X.env xe → PSs (X.tr pn xe) body (tb W))
    (hu : ∀ (a : Addr) (oe : Obj) (cls : Value) (d : Option Addr) (pn : List (Addr × Obj)), Zc cls d oe → (∃ vs, oe.data = .fields vs) → PSs (X.suite a ((a, oe) :: pn)) (b0 :: suite) (ts a cls d)) :
    PS X (.Try body [.ExceptHandler (some (.Name x np)) (some n) (b0 :: suite) pos2] [] [] pos) (tTry X.K c i tb ts Wout) :=
  ⟨fun pins s σ H D I h => (ps_try_as hs hf hN hi hln hc tk hb hu).run pins s σ H D I (h _ fun _ _ _ _ z => z)⟩
/-- the catch takes it -/
theorem catch_yes {K : PySem.W.Frag} {c : Value} {i : Nat} {ts : Addr → Value → Option Addr → TS} {Wout : WX} {D : Ends} {cls : Value} {d : Option Addr} {σ : L2.St} {H : Hp} (e : PySem.W.exmOne K cls c = some true)
    (h : ∀ a, H a = none → ts a cls d { nx := fun σ' H' => D.nx (σ'.set i none) H', rt := D.rt, bk := fun σ' H' => D.bk (σ'.set i none) H', ct := fun σ' H' => D.ct (σ'.set i none) H' } (σ.set i (some (.ref a))) H) : wAs K c i ts Wout D cls d σ H :=
  ⟨true, e, fun _ => h, fun z => by cases z⟩

section

-- a condition of an operator
local macro_rules | `(tactic| walk_at "cond") => `(tactic| first
  | (show (0 : Int) < _; omega)
  | (show CDiv _ _; constructor <;> (first | decide | omega))
  | (show CMul _ _; first | (refine cmul_l ?_; constructor <;> (first | decide | omega)) | (refine cmul_r ?_; constructor <;> (first | decide | omega)))
  | (show CPow _ _; exact (by refine ⟨by decide, by decide, by decide⟩))
  | (show CDivW _ _; exact ⟨by decide, by decide +kernel⟩))
local macro_rules | `(tactic| walk_at "sq") => `(tactic| first | assumption | exact Dh.mono (same_upd (by assumption)) _ _ (by assumption) | exact .inl (.inl (.inl (by assumption))) | exact .inr (.inl (.inl (by assumption))) | exact SqL.of (by assumption) | exact .inl (by assumption) | exact .inl (SqL.of (by assumption)) | exact SqT.of (by assumption) | exact .inr (SqT.of (by assumption)))
local macro_rules | `(tactic| walk_at "st") => `(tactic| first
  | refine ⟨_, rfl, ?_⟩
  | refine ⟨_, _, rfl, rfl, ?_⟩
  | refine .inl ⟨_, rfl, ?_⟩
  | refine ⟨rfl, ?_⟩
  | refine ⟨_, _, rfl, by walk_at "sq", ?_⟩
  | refine ⟨.inl ⟨rfl, _, SqL.of (by assumption)⟩, ?_⟩
  | refine ⟨by walk_at "cond", ?_⟩
  | (refine' ifBT ?hh ?_; (case hh => first | rfl | assumption))
  | (refine' ifBF ?hh ?_; (case hh => first | rfl | assumption)))
local macro_rules | `(tactic| walk_at "go") => `(tactic| repeat walk_at "st")
local macro_rules | `(tactic| walk_at "yes") => `(tactic| (refine' ifT ?hh ?_; (case hh => first | rfl | decide +kernel)))
local macro_rules | `(tactic| walk_at "no") => `(tactic| (refine' ifF ?hh ?_; (case hh => first | decide +kernel | (intro z; cases z; done))))

/-! ### Device -/
abbrev s_Device___init__ : Stmt := inClass (topS 15) 0
theorem sc_Device___init__ : FnScope ["self", "blocks"] ["self", "blocks"] (C8.fnScope s_Device___init__) := C8.fnScope_by (by decide +kernel)
abbrev s_Device__check_block : Stmt := inClass (topS 15) 7
theorem sc_Device__check_block : FnScope ["self", "block"] ["self", "block"] (C8.fnScope s_Device__check_block) := C8.fnScope_by (by decide +kernel)
abbrev s_Device_write : Stmt := inClass (topS 15) 2
theorem sc_Device_write : FnScope ["self", "block", "content"] ["self", "block", "content"] (C8.fnScope s_Device_write) := C8.fnScope_by (by decide +kernel)
abbrev s_Device_read : Stmt := inClass (topS 15) 3
theorem sc_Device_read : FnScope ["self", "block", "content", "written", "newer"] ["self", "block"] (C8.fnScope s_Device_read) := C8.fnScope_by (by decide +kernel)
abbrev s_Device_barrier : Stmt := inClass (topS 15) 4
theorem sc_Device_barrier : FnScope ["self"] ["self"] (C8.fnScope s_Device_barrier) := C8.fnScope_by (by decide +kernel)
abbrev s_Device_pending : Stmt := inClass (topS 15) 5
theorem sc_Device_pending : FnScope ["self", "block", "_"] ["self"] (C8.fnScope s_Device_pending) := C8.fnScope_by (by decide +kernel)
abbrev s_Device_crash : Stmt := inClass (topS 15) 6
theorem sc_Device_crash : FnScope ["self", "fates"] ["self", "fates"] (C8.fnScope s_Device_crash) := C8.fnScope_by (by decide +kernel)
abbrev s_Device__end_writes : Stmt := inClass (topS 15) 8
theorem sc_Device__end_writes : FnScope ["self", "fates", "at", "block", "content", "fate"] ["self", "fates"] (C8.fnScope s_Device__end_writes) := C8.fnScope_by (by decide +kernel)
def dvF (pa wa : Addr) : List (Str × V) := putF "_writes" (.ref wa) (putF "_permanent" (.ref pa) [])
theorem dv_p {pa wa : Addr} : (dvF pa wa).lookup ("_permanent" : Str) = some (.ref pa) := by kernel_rfl
theorem dv_w {pa wa : Addr} : (dvF pa wa).lookup ("_writes" : Str) = some (.ref wa) := by kernel_rfl
theorem dv_pw {pa wa wb : Addr} : putF "_writes" (.ref wb) (dvF pa wa) = dvF pa wb := by kernel_rfl
theorem dv_no1 {pa wa : Addr} : (dvF pa wa).lookup ("_check_block" : Str) = none := by kernel_rfl
theorem dv_no2 {pa wa : Addr} : (dvF pa wa).lookup ("_end_writes" : Str) = none := by kernel_rfl
theorem dv_no3 {pa wa : Addr} : (dvF pa wa).lookup ("read" : Str) = none := by kernel_rfl
theorem dv_no4 {pa wa : Addr} : (dvF pa wa).lookup ("write" : Str) = none := by kernel_rfl
theorem dv_no5 {pa wa : Addr} : (dvF pa wa).lookup ("barrier" : Str) = none := by kernel_rfl
theorem dv_no6 {pa wa : Addr} : (dvF pa wa).lookup ("pending" : Str) = none := by kernel_rfl
theorem dv_no7 {pa wa : Addr} : (dvF pa wa).lookup ("crash" : Str) = none := by kernel_rfl
structure STxt (K : PySem.W.Frag) (mg : Str → Option Value) (C : Addr) : Prop where
  cl : Cls K C
  n1 : NoAttr K C "_permanent"
  n2 : NoAttr K C "_writes"
  mgC : mg "Device" = some (.ref C)
structure TxtE (mg : Str → Option Value) : Prop where
  len : mg "len" = none
  enumerate : mg "enumerate" = none
def wD (x : Int × PyData) : PyData := .tuple [.int x.1, x.2]
structure DvAt (C : Addr) (H : Hp) (p pa wa dx : Addr) (pvs us : List V) (perm : List PyData) (ws : List (Int × PyData)) : Prop where
  g : H p = some (.ins C dx (dvF pa wa))
  a : H pa = some (.lst pvs)
  da : DhAll H perm pvs
  w : H wa = some (.lst us)
  dw : DhAll H (ws.map wD) us
  ne : pa ≠ wa
  np : perm.length ≤ 1000
  nw : ws.length ≤ 1000
  kp : ∀ d ∈ perm, noL d = true
  kw : ∀ x ∈ ws, noL x.2 = true
def But (H H' : Hp) (p : Addr) : Prop := ∀ b o, b ≠ p → H b = some o → H' b = some o
def ButL (l : List Addr) (H H' : Hp) : Prop := ∀ b o, b ∉ l → H b = some o → H' b = some o
theorem ButL.trans {l : List Addr} {H H1 H2 : Hp} (a : ButL l H H1) (b : ButL l H1 H2) : ButL l H H2 := fun c o n e => b c o n (a c o n e)
theorem ButL.mono {l l' : List Addr} {H H1 : Hp} (a : ButL l H H1) (h : ∀ x ∈ l, x ∈ l') : ButL l' H H1 := fun c o n e => a c o (fun z => n (h c z)) e
theorem ButL.put {l : List Addr} {H : Hp} {p : Addr} {o : HO} (h : p ∈ l) : ButL l H (upd H p o) := fun c o n e => by
  rw [upd_ne (fun z => n (by rw [z]; exact h))]
  exact e
theorem Same.but {l : List Addr} {H H1 : Hp} (s : Same H H1) : ButL l H H1 := fun c o _ e => s c o e
/-- none of them a tuple -/
def NTup (H : Hp) (l : List Addr) : Prop := ∀ x ∈ l, ∀ us, H x ≠ some (.tup us)
theorem ButL.tups {l : List Addr} {H H' : Hp} (b : ButL l H H') (n : NTup H l) : ∀ a us, H a = some (.tup us) → H' a = some (.tup us) := fun a us g => b a _ (fun z => n a z us g) g
theorem kw_noL {ws : List (Int × PyData)} (h : ∀ x ∈ ws, noL x.2 = true) : noLs (ws.map wD) = true := by
  induction ws with
  | nil => rfl
  | cons x ws ih =>
    show (noL (wD x) && noLs (ws.map wD)) = true
    rw [ih fun y hy => h y (List.mem_cons_of_mem _ hy), Bool.and_true]
    show noLs [.int x.1, x.2] = true
    show (true && (noL x.2 && true)) = true
    rw [h x List.mem_cons_self]
    rfl
theorem kp_noL {perm : List PyData} (h : ∀ d ∈ perm, noL d = true) : noLs perm = true := by
  induction perm with
  | nil => rfl
  | cons x xs ih =>
    show (noL x && noLs xs) = true
    rw [ih fun y hy => h y (List.mem_cons_of_mem _ hy), h x List.mem_cons_self]
    rfl
theorem DvAt.same {C : Addr} {H H' : Hp} {p pa wa dx : Addr} {pvs us : List V} {perm : List PyData} {ws : List (Int × PyData)} (h : DvAt C H p pa wa dx pvs us perm ws) (s : Same H H') : DvAt C H' p pa wa dx pvs us perm ws :=
  ⟨s _ _ h.g, s _ _ h.a, DhAll.mono s _ _ h.da, s _ _ h.w, DhAll.mono s _ _ h.dw, h.ne, h.np, h.nw, h.kp, h.kw⟩
theorem DvAt.but {C : Addr} {H H' : Hp} {p pa wa dx : Addr} {pvs us : List V} {perm : List PyData} {ws : List (Int × PyData)} {l : List Addr} (h : DvAt C H p pa wa dx pvs us perm ws) (b : ButL l H H') (n : NTup H l) (n1 : p ∉ l) (n2 : pa ∉ l) (n3 : wa ∉ l) : DvAt C H' p pa wa dx pvs us perm ws :=
  ⟨b _ _ n1 h.g, b _ _ n2 h.a, DhAll.tups (b.tups n) _ _ (kp_noL h.kp) h.da, b _ _ n3 h.w, DhAll.tups (b.tups n) _ _ (kw_noL h.kw) h.dw, h.ne, h.np, h.nw, h.kp, h.kw⟩
def lastW (b : Int) : List (Int × PyData) → PyData → PyData
  | [], d => d
  | (k, e) :: ws, d => lastW b ws (if k = b then e else d)
theorem lastW_snoc (b k : Int) (e d : PyData) : ∀ ws : List (Int × PyData), ∀ d, lastW b (ws ++ [(k, e)]) d = if k = b then e else lastW b ws d
  | [], _ => rfl
  | (k', e') :: ws, d => by
    show lastW b (ws ++ [(k, e)]) _ = _
    rw [lastW_snoc b k e d ws]
    rfl
def fateP (f : Int) (b : Int) (d : PyData) (perm : List PyData) : List PyData := if f = 1 then perm.set b.toNat d else if f = 2 then perm.set b.toNat .none else perm
def endW : List PyData → List (Int × PyData) → List Int → List PyData
  | perm, [], _ => perm
  | perm, (b, d) :: ws, fs => endW (fateP (fs.headD 0) b d perm) ws fs.tail
def spDvI (C : Addr) : Sp := fun vs H Q _ => ∃ (p dx : Addr) (n : Nat), vs = [.ref p, .int n] ∧ H p = some (.ins C dx []) ∧ n ≤ 1000 ∧ ∀ pa wa H', DvAt C H' p pa wa dx (List.replicate n .non) [] (List.replicate n .none) [] → H pa = none → H wa = none → But H H' p → Q .non H'
def spCB (C D : Addr) : Sp := fun vs H Q E => ∃ (p pa wa dx : Addr) (pvs us : List V) (perm : List PyData) (ws : List (Int × PyData)) (b : Int), vs = [.ref p, .int b] ∧ DvAt C H p pa wa dx pvs us perm ws ∧ -(10 ^ 8) ≤ b ∧ b ≤ 10 ^ 8 ∧
  ((0 ≤ b ∧ b < perm.length) → Q .non H) ∧ (¬ (0 ≤ b ∧ b < perm.length) → ∀ d, H d = none → E (.ref D) (some d) (upd H d (.xd (brF b (b + 1)))))
def spWrite (C D : Addr) : Sp := fun vs H Q E => ∃ (p pa wa dx : Addr) (pvs us : List V) (perm : List PyData) (ws : List (Int × PyData)) (b : Int) (v : V) (d : PyData), vs = [.ref p, .int b, v] ∧ DvAt C H p pa wa dx pvs us perm ws ∧ -(10 ^ 8) ≤ b ∧ b ≤ 10 ^ 8 ∧ Dh H d v ∧ noL d = true ∧ ws.length < 1000 ∧
  ((0 ≤ b ∧ b < perm.length) → ∀ us' H', DvAt C H' p pa wa dx pvs us' perm (ws ++ [(b, d)]) → But H H' wa → Q .non H') ∧ (¬ (0 ≤ b ∧ b < perm.length) → ∀ d, H d = none → E (.ref D) (some d) (upd H d (.xd (brF b (b + 1)))))
def spRead (C D : Addr) : Sp := fun vs H Q E => ∃ (p pa wa dx : Addr) (pvs us : List V) (perm : List PyData) (ws : List (Int × PyData)) (b : Int), vs = [.ref p, .int b] ∧ DvAt C H p pa wa dx pvs us perm ws ∧ -(10 ^ 8) ≤ b ∧ b ≤ 10 ^ 8 ∧
  ((0 ≤ b ∧ b < perm.length) → ∀ v, Dh H (lastW b ws (perm.getD b.toNat .none)) v → Q v H) ∧ (¬ (0 ≤ b ∧ b < perm.length) → ∀ d, H d = none → E (.ref D) (some d) (upd H d (.xd (brF b (b + 1)))))
def spPend (C : Addr) : Sp := fun vs H Q _ => ∃ (p pa wa dx : Addr) (pvs us : List V) (perm : List PyData) (ws : List (Int × PyData)), vs = [.ref p] ∧ DvAt C H p pa wa dx pvs us perm ws ∧
  ∀ l H', Same H H' → H l = none → H' l = some (.lst ((ws.map (·.1)).map V.int)) → Q (.ref l) H'
def spEndW (C : Addr) : Sp := fun vs H Q _ => ∃ (p pa wa dx fa : Addr) (pvs us : List V) (perm : List PyData) (ws : List (Int × PyData)) (fs : List Int), vs = [.ref p, .ref fa] ∧ DvAt C H p pa wa dx pvs us perm ws ∧ H fa = some (.lst (fs.map V.int)) ∧ fa ≠ pa ∧ (∀ x ∈ ws, 0 ≤ x.1 ∧ x.1 < perm.length) ∧
  ∀ pvs' wb H', DvAt C H' p pa wb dx pvs' [] (endW perm ws fs) [] → H wb = none → ButL [p, pa] H H' → Q .non H'
def spBarr (C : Addr) : Sp := fun vs H Q _ => ∃ (p pa wa dx : Addr) (pvs us : List V) (perm : List PyData) (ws : List (Int × PyData)), vs = [.ref p] ∧ DvAt C H p pa wa dx pvs us perm ws ∧ (∀ x ∈ ws, 0 ≤ x.1 ∧ x.1 < perm.length) ∧
  ∀ pvs' wb H', DvAt C H' p pa wb dx pvs' [] (endW perm ws (List.replicate ws.length 1)) [] → H wb = none → ButL [p, pa] H H' → Q .non H'
theorem ix_ok {n : Nat} {i : Int} (h0 : 0 ≤ i) (h1 : i < n) : ixN n i = some i.toNat := by
  unfold ixN
  rw [if_pos h0, if_pos h1]
theorem DhAll.set {H : Hp} : ∀ {ds : List PyData} {xs : List V} {d : PyData} {x : V} {i : Nat}, DhAll H ds xs → Dh H d x → DhAll H (ds.set i d) (xs.set i x)
  | [], xs, _, _, _, h, _ => by
    cases (show xs = [] from h)
    exact rfl
  | d' :: ds, xs, d, x, 0, h, hx => by
    obtain ⟨v, vs, rfl, _, h2⟩ := h
    exact ⟨x, vs, rfl, hx, h2⟩
  | d' :: ds, xs, d, x, i + 1, h, hx => by
    obtain ⟨v, vs, rfl, h1, h2⟩ := h
    exact ⟨v, vs.set i x, rfl, h1, DhAll.set h2 hx⟩
theorem rep_ints (n : Nat) (v : Int) : (List.replicate n [V.int v]).flatten = (List.replicate n v).map V.int := by
  induction n with
  | zero => rfl
  | succ m ih =>
    rw [List.replicate_succ, List.flatten_cons, ih]
    rfl
theorem rep_non (n : Nat) : (List.replicate n [V.non]).flatten = List.replicate n V.non := by
  induction n with
  | zero => rfl
  | succ m ih =>
    rw [List.replicate_succ, List.flatten_cons, ih]
    rfl
theorem dh_nons (H : Hp) : ∀ m : Nat, DhAll H (List.replicate m .none) (List.replicate m .non)
  | 0 => rfl
  | m + 1 => ⟨.non, List.replicate m .non, rfl, rfl, dh_nons H m⟩
section
variable {P : Program} {w : World} {K : PySem.W.Frag} {mg : Str → Option Value} {base : Heap} {C D : Addr}
theorem ok_init {f : Addr} {fd : FuncData} (F : C8.Fun K "__init__" "Device.__init__" s_Device___init__ f fd) (M : Mk K C f) (b : Binds K fd ["self", "blocks"] []) (S : STxt K mg C) : C8.Mak P w K mg base 1 "Device" C (spDvI C) [] := by
  refine C8.mak0 M S.mgC F b .nil sc_Device___init__ (fun vs H Q E h => ?_) (fun cdv A outer s H vs Q E hr h => ?_)
  · obtain ⟨p, dx, n, rfl, _⟩ := h
    rfl
  obtain ⟨p, dx, n, rfl, hp, hn, q⟩ := h
  refine ⟨_, (pss_cons (ps_fld (pv 0) (pe_op op_rep (pe_lst (pa_cons pe_non pa_nil)) (pv 1)) rfl)
      (pss_one (ps_fld (pv 0) (pe_lst pa_nil) rfl))), ?_⟩
  walk_at "go"
  refine ⟨sz, fun l1 nl1 => ?_⟩
  have s1 := same_upd (o := HO.lst [V.non]) nl1
  have gl1 := upd_same (H := H) (a := l1) (o := HO.lst [V.non])
  generalize upd H l1 (HO.lst [V.non]) = H1 at *
  walk_at "go"
  refine ⟨l1, n, [V.non], rfl, rfl, gl1, by omega, by omega, (by rw [Int.toNat_natCast, List.length_singleton, sizeLine_eq]; omega), fun pa npa => ?_⟩
  rw [Int.toNat_natCast, rep_non]
  have s2 := s1.trans (same_upd (o := HO.lst (List.replicate n V.non)) npa)
  have npa0 := s1.free npa
  have ga := upd_same (H := H1) (a := pa) (o := HO.lst (List.replicate n V.non))
  generalize upd H1 pa (HO.lst (List.replicate n V.non)) = H2 at *
  have g2 := s2 _ _ hp
  walk_at "go"
  refine ⟨p, C, dx, _, rfl, g2, S.cl, S.n1, (by show 0 < 1000; decide), ?_⟩
  have ppa : pa ≠ p := (ne_of_none hp npa0).symm
  have g3 := upd_same (H := H2) (a := p) (o := HO.ins C dx (putF "_permanent" (V.ref pa) []))
  have b3 : But H (upd H2 p (HO.ins C dx (putF "_permanent" (V.ref pa) []))) p := fun c o n e => by
    rw [upd_ne n]
    exact s2 _ _ e
  have ga : (upd H2 p (HO.ins C dx (putF "_permanent" (V.ref pa) []))) pa = some (.lst (List.replicate n V.non)) := by
    rw [upd_ne ppa]
    exact ga
  show _
  generalize upd H2 p (HO.ins C dx (putF "_permanent" (V.ref pa) [])) = H3 at *
  walk_at "go"
  refine ⟨sz, fun wa nwa => ?_⟩
  have s4 := same_upd (o := HO.lst []) nwa
  have gw := upd_same (H := H3) (a := wa) (o := HO.lst [])
  have g4 := s4 _ _ g3
  have ga := s4 _ _ ga
  have paw : pa ≠ wa := ne_of_none (by assumption) nwa
  have pw : wa ≠ p := (ne_of_none g3 nwa).symm
  have nwa0 : H wa = none := by
    cases e : H wa with
    | none => rfl
    | some o =>
      have := b3 wa o pw e
      rw [nwa] at this
      cases this
  have b4 : But H (upd H3 wa (HO.lst [])) p := fun c o n e => s4 _ _ (b3 c o n e)
  generalize upd H3 wa (HO.lst []) = H4 at *
  walk_at "go"
  refine ⟨p, C, dx, _, rfl, g4, S.cl, S.n2, (by show 1 < 1000; decide), ?_⟩
  refine q pa wa _ ⟨upd_same, by rw [upd_ne ppa]; exact ga, ?_, by rw [upd_ne pw]; exact gw, rfl, paw, by rw [List.length_replicate]; exact hn, Nat.zero_le _, fun d hd => by rw [List.eq_of_mem_replicate hd]; rfl, by simp⟩ npa0 nwa0 fun c o n e => by rw [upd_ne n]; exact b4 c o n e
  clear q
  induction n with
  | zero => rfl
  | succ m ih => exact ⟨.non, List.replicate m .non, rfl, rfl, dh_nons _ m⟩
theorem ok_cb {f : Addr} {fd : FuncData} (F : C8.Fun K "_check_block" "Device._check_block" s_Device__check_block f fd) (M : Meth K C "_check_block" f) (b : Binds K fd ["self", "block"] []) (S : STxt K mg C) (T : TxtE mg) (e_check : CalE P w K mg base 3 "check_range" (spCheck D)) : MetE P w K mg base 4 C "_check_block" (spCB C D) := by
  refine metE S.cl M F b sc_Device__check_block (fun vs H Q E h => ?_) (fun cdv A outer s H vs Q E hr h => ?_)
  · obtain ⟨p, pa, wa, dx, pvs, us, perm, ws, b, rfl, _⟩ := h
    rfl
  obtain ⟨p, pa, wa, dx, pvs, us, perm, ws, b, rfl, hc, b0, b1, q1, q2⟩ := h
  refine ⟨_, (pss_one (ps_expr (pe_cE e_check (takes_of rfl rfl rfl rfl) hr (by omega) (by rfl) (pa_cons (pv 1) (pa_cons (pe_op op_add (pv 1) pe_int) (pa_cons (pe_callB (lenQ K rfl) (by rfl) T.len PySem.boot_len (pa_cons (pe_fld (pv 0) rfl) pa_nil)) pa_nil)))))), ?_⟩
  have pl := hc.da.len
  have np := hc.np
  have lg : ∀ i : Int, -(10 ^ 9) ≤ i → i ≤ 10 ^ 9 → i.natAbs.log2 < 1920 := fun i h0 h1 => by
    have : i.natAbs < 2 ^ 31 := by omega
    by_cases z : i.natAbs = 0
    · rw [z]
      decide
    · have := (Nat.log2_lt z).mpr this
      omega
  walk_at "go"
  refine ⟨_, _, _, _, _, rfl, hc.g, S.cl, S.n1, dv_p, ?_⟩
  walk_at "go"
  refine ⟨pa, pvs, rfl, .inl (SqL.of hc.a), ?_⟩
  walk_at "go"
  refine ⟨b, b + 1, pvs.length, rfl, lg _ (by omega) (by omega), lg _ (by omega) (by omega), fun z => ?_, fun z d nd => ?_⟩
  · exact q1 ⟨z.1, by omega⟩
  · exact q2 (fun y => z ⟨y.1, by omega, by omega⟩) d nd
theorem ok_write {f : Addr} {fd : FuncData} (F : C8.Fun K "write" "Device.write" s_Device_write f fd) (M : Meth K C "write" f) (b : Binds K fd ["self", "block", "content"] []) (S : STxt K mg C) (e_cb : MetE P w K mg base 4 C "_check_block" (spCB C D)) : MetE P w K mg base 5 C "write" (spWrite C D) := by
  refine metE S.cl M F b sc_Device_write (fun vs H Q E h => ?_) (fun cdv A outer s H vs Q E hr h => ?_)
  · obtain ⟨p, pa, wa, dx, pvs, us, perm, ws, b, v, d, rfl, _⟩ := h
    rfl
  obtain ⟨p, pa, wa, dx, pvs, us, perm, ws, b, v, d, rfl, hc, b0, b1, hv, hd, hw, q1, q2⟩ := h
  refine ⟨_, (pss_cons (ps_expr (pe_mE e_cb (takes_of rfl rfl rfl rfl) hr (by omega) (pv 0) (pa_cons (pv 1) pa_nil)))
      (pss_one (ps_expr (pe_bm PySem.F.plainAttrs_list PySem.F.slot_list_append PySem.F.type_list_append mt_append (pe_fld (pv 0) rfl) (pa_cons (pe_tup (pa_cons (pv 1) (pa_cons (pv 2) pa_nil))) pa_nil))))), ?_⟩
  have wl := hc.dw.len
  rw [List.length_map] at wl
  walk_at "go"
  refine ⟨p, dx, _, rfl, hc.g, dv_no1, ?_⟩
  walk_at "go"
  refine ⟨p, pa, wa, dx, pvs, us, perm, ws, b, rfl, hc, b0, b1, fun z => ?_, q2⟩
  have q1 := q1 z
  walk_at "go"
  refine ⟨_, _, _, _, _, rfl, hc.g, S.cl, S.n2, dv_w, ?_⟩
  have gw := hc.w
  walk_at "go"
  refine ⟨sz, fun t nt => ?_⟩
  have s1 := same_upd (o := HO.tup [V.int b, v]) nt
  have gt := upd_same (H := H) (a := t) (o := HO.tup [V.int b, v])
  show _
  generalize upd H t (HO.tup [V.int b, v]) = H1 at *
  have hc1 := hc.same s1
  have hv1 := Dh.mono s1 _ _ hv
  walk_at "go"
  refine ⟨wa, _, _, rfl, rfl, hc1.w, sz5 (by omega), ?_⟩
  have bt : ButL [wa] H1 (upd H1 wa (HO.lst (us ++ [V.ref t]))) := ButL.put (by simp)
  have nt1 : NTup H1 [wa] := fun x hx us' z => by
    rw [List.mem_singleton.mp hx, hc1.w] at z
    cases z
  have tp := bt.tups nt1
  have npw : p ≠ wa := fun z => by
    have k := hc1.g
    rw [z, hc1.w] at k
    cases k
  have kw' : ∀ x ∈ ws ++ [(b, d)], noL x.2 = true := fun x hx => by
    rcases List.mem_append.mp hx with hx | hx
    · exact hc.kw x hx
    · rw [List.mem_singleton.mp hx]
      exact hd
  refine q1 _ _ ⟨by rw [upd_ne npw]; exact hc1.g, by rw [upd_ne hc.ne]; exact hc1.a, DhAll.tups tp _ _ (kp_noL hc.kp) hc1.da, upd_same, ?_, hc.ne, hc.np, by rw [List.length_append, List.length_singleton]; omega, hc.kp, kw'⟩ fun c o n e => by rw [upd_ne n]; exact s1 _ _ e
  rw [List.map_append]
  exact DhAll.snoc (DhAll.tups tp _ _ (kw_noL hc.kw) hc1.dw) ⟨t, _, rfl, tp _ _ gt, _, _, rfl, rfl, _, _, rfl, Dh.tups tp _ _ hd hv1, rfl⟩
theorem ok_read {f : Addr} {fd : FuncData} (F : C8.Fun K "read" "Device.read" s_Device_read f fd) (M : Meth K C "read" f) (b : Binds K fd ["self", "block"] []) (S : STxt K mg C) (e_cb : MetE P w K mg base 4 C "_check_block" (spCB C D)) : MetE P w K mg base 5 C "read" (spRead C D) := by
  refine metE S.cl M F b sc_Device_read (fun vs H Q E h => ?_) (fun cdv A outer s H vs Q E hr h => ?_)
  · obtain ⟨p, pa, wa, dx, pvs, us, perm, ws, b, rfl, _⟩ := h
    rfl
  obtain ⟨p, pa, wa, dx, pvs, us, perm, ws, b, rfl, hc, b0, b1, q1, q2⟩ := h
  refine ⟨_, (pss_cons (ps_expr (pe_mE e_cb (takes_of rfl rfl rfl rfl) hr (by omega) (pv 0) (pa_cons (pv 1) pa_nil)))
      (pss_cons (ps_set (i := 2) sc_Device_read.nd rfl (.inl rfl) (pe_ix (ixL K rfl) (pe_fld (pv 0) rfl) (pv 1) (fun _ _ => rfl)))
      (pss_cons (ps_mk (ps_for (passes_of rfl) rfl (pi_list (pe_fld (pv 0) rfl)) (pg_tup rfl (pgs_cons (pg_name (i := 3) sc_Device_read.nd rfl (.inl rfl)) (pgs_cons (pg_name (i := 4) sc_Device_read.nd rfl (.inl rfl)) pgs_nil)))
      (pss_one (ps_mk (ps_if (pt_cmpR op_eq (pv 3) (pv 1) (nomark _))
      (pss_one (ps_set (i := 2) sc_Device_read.nd rfl (.inl rfl) (pv 4)))
      pss_nil)))))
      (pss_one (ps_ret (pv 2)))))), ?_⟩
  have wl := hc.dw.len
  rw [List.length_map] at wl
  have pl := hc.da.len
  walk_at "go"
  refine ⟨p, dx, _, rfl, hc.g, dv_no1, ?_⟩
  walk_at "go"
  refine ⟨p, pa, wa, dx, pvs, us, perm, ws, b, rfl, hc, b0, b1, fun z => ?_, q2⟩
  have q1 := q1 z
  clear q2
  have bl : b.toNat < perm.length := by omega
  obtain ⟨v0, ev, dv⟩ := hc.da.get (List.getElem?_eq_getElem bl)
  have eb : b = ((b.toNat : Nat) : Int) := by omega
  have av : atI pvs b = some v0 := by
    have k := atI_nat ev
    rw [← eb] at k
    exact k
  have d0 : Dh H (perm.getD b.toNat .none) v0 := by
    rw [List.getD_eq_getElem?_getD, List.getElem?_eq_getElem bl]
    exact dv
  walk_at "go"
  refine ⟨_, _, _, _, _, rfl, hc.g, S.cl, S.n1, dv_p, ?_⟩
  walk_at "go"
  refine ⟨pa, _, _, _, rfl, rfl, SqL.of hc.a, av, ?_⟩
  walk_at "go"
  refine jnS (M := fun σ H' => H' = H ∧ ∃ v, Dh H (lastW b ws (perm.getD b.toNat .none)) v ∧ ∃ y3 y4, σ = [sR p, sI b, some v, y3, y4]) ?_ (fun N kk => ?_)
  · rintro σ H2 ⟨e2, v, hv, y3, y4, rfl⟩
    subst e2
    walk_at "go"
    exact q1 v hv
  walk_at "go"
  refine ⟨_, _, _, _, _, rfl, hc.g, S.cl, S.n2, dv_w, ?_⟩
  have gw := hc.w
  walk_at "go"
  refine ⟨⟨_, SqL.of gw⟩, for_list (K := K) (a := wa) (xs := us) (fun i σ H' => Ob (H' = H ∧ ∃ v d, Dh H d v ∧ lastW b (ws.drop i) d = lastW b ws (perm.getD b.toNat .none) ∧ ∃ y3 y4, σ = [sR p, sI b, some v, y3, y4])) (ob ⟨rfl, v0, _, d0, rfl, none, none, rfl⟩) (fun i σ H' _ h => by rw [(unob h).1]; exact SqL.of gw) ?_ ?_⟩
  · intro i v σ H2 hi h
    obtain ⟨e2, v1, d1, hv1, ed, y3, y4, rfl⟩ := unob h
    subst e2
    clear h kk
    have hil : i < ws.length := by
      rw [← wl]
      exact (List.getElem?_eq_some_iff.mp hi).1
    obtain ⟨vt, et, dt⟩ := hc.dw.get (i := i) (d := wD ws[i]) (by rw [List.getElem?_map, List.getElem?_eq_getElem hil]; rfl)
    rw [hi] at et
    obtain rfl := Option.some.inj et
    rw [List.drop_eq_getElem_cons hil] at ed
    generalize ws[i] = x at *
    obtain ⟨k, e⟩ := x
    obtain ⟨ta, ts, rfl, gt, u1, r1, rfl, f1, u2, r2, rfl, f2, f3⟩ := dt
    cases (show u1 = _ from f1)
    cases (show r2 = _ from f3)
    walk_at "go"
    refine un ?_
    walk_at "go"
    refine ifEq (fun c => ?_) (fun c => ?_)
    · walk_at "go"
      refine ob ⟨rfl, u2, e, f2, ?_, _, _, rfl⟩
      rw [← ed]
      show _ = lastW b (ws.drop (i + 1)) (if k = b then e else d1)
      rw [if_pos c]
    · walk_at "go"
      refine ob ⟨rfl, v1, d1, hv1, ?_, _, _, rfl⟩
      rw [← ed]
      show _ = lastW b (ws.drop (i + 1)) (if k = b then e else d1)
      rw [if_neg c]
  · intro σ H2 h
    obtain ⟨e2, v, d, hv, ed, y3, y4, rfl⟩ := unob h
    subst e2
    rw [wl, List.drop_length] at ed
    exact kk _ _ ⟨rfl, v, by rw [← ed]; exact hv, _, _, rfl⟩
theorem ok_pending {f : Addr} {fd : FuncData} (F : C8.Fun K "pending" "Device.pending" s_Device_pending f fd) (M : Meth K C "pending" f) (b : Binds K fd ["self"] []) (S : STxt K mg C) : C8.Met P w K mg base 1 C "pending" (spPend C) [] := by
  refine C8.met0 S.cl M F b sc_Device_pending (fun vs H Q E h => ?_) (fun cdv A outer s H vs Q E hr h => ?_)
  · obtain ⟨p, pa, wa, dx, pvs, us, perm, ws, rfl, _⟩ := h
    rfl
  obtain ⟨p, pa, wa, dx, pvs, us, perm, ws, rfl, hc, q⟩ := h
  refine ⟨_, (pss_one (ps_ret (pe_lc (own := [("block", 1), ("_", 2)]) (g := gTup K 2 (gCons (gName 1) (gCons (gName 2) gNil))) (tt := tYes) rfl sc_Device_pending.nd (pi_list (pe_fld (pv 0) rfl)) (blkOk_by (own := [("block", 1), ("_", 2)]) (N := ["self", "block", "_"]) (sc := C8.fnScope s_Device_pending) (by decide +kernel)) (fun _ _ _ _ _ => (pg_tup rfl (pgs_cons (pg_name (i := 1) sc_Device_pending.nd rfl (.inl rfl)) (pgs_cons (pg_name (i := 2) sc_Device_pending.nd rfl (.inl rfl)) pgs_nil)))) (fun _ _ _ _ _ => pts_nil) (fun _ _ _ _ _ => (pv 1))))), ?_⟩
  have wl := hc.dw.len
  rw [List.length_map] at wl
  have gw := hc.w
  have nw := hc.nw
  walk_at "go"
  refine ⟨_, _, _, _, _, rfl, hc.g, S.cl, S.n2, dv_w, ?_⟩
  walk_at "go"
  refine ⟨⟨_, SqL.of gw⟩, fun N nN => lc_list (K := K) (a := wa) (xs := us) (fun i H' => Ob (Same H H' ∧ H' N = some (.lst (((ws.take i).map (·.1)).map V.int)))) (ob ⟨same_upd nN, upd_same⟩) (fun i H' _ h => SqL.of ((unob h).1 _ _ gw)) ?_ ?_⟩
  · intro i v H2 hi h
    obtain ⟨s2, g2⟩ := unob h
    clear h
    have hil : i < ws.length := by
      rw [← wl]
      exact (List.getElem?_eq_some_iff.mp hi).1
    obtain ⟨vt, et, dt⟩ := hc.dw.get (i := i) (d := wD ws[i]) (by rw [List.getElem?_map, List.getElem?_eq_getElem hil]; rfl)
    rw [hi] at et
    obtain rfl := Option.some.inj et
    have ek : ((ws.take (i + 1)).map (·.1)).map V.int = ((ws.take i).map (·.1)).map V.int ++ [V.int ws[i].1] := by
      rw [List.take_add_one, List.getElem?_eq_getElem hil, List.map_append, List.map_append]
      rfl
    rw [ek]
    generalize ws[i] = x at *
    obtain ⟨k, e⟩ := x
    obtain ⟨ta, ts, rfl, gt, u1, r1, rfl, f1, u2, r2, rfl, f2, f3⟩ := dt
    cases (show u1 = _ from f1)
    cases (show r2 = _ from f3)
    have gt2 := s2 _ _ gt
    refine ⟨ta, [V.int k, u2], rfl, SqT.of gt2, rfl, ?_⟩
    walk_at "go"
    exact ⟨_, g2, sz5 (by rw [List.length_map, List.length_map, List.length_take]; omega), ob ⟨same_put s2 nN, upd_same⟩⟩
  · intro H2 h
    obtain ⟨s2, g2⟩ := unob h
    rw [wl, List.take_length] at g2
    exact q N H2 s2 nN g2
theorem ok_end_writes {f : Addr} {fd : FuncData} (F : C8.Fun K "_end_writes" "Device._end_writes" s_Device__end_writes f fd) (M : Meth K C "_end_writes" f) (b : Binds K fd ["self", "fates"] []) (S : STxt K mg C) (T : TxtE mg) : C8.Met P w K mg base 1 C "_end_writes" (spEndW C) [] := by
  refine C8.met0 S.cl M F b sc_Device__end_writes (fun vs H Q E h => ?_) (fun cdv A outer s H vs Q E hr h => ?_)
  · obtain ⟨p, pa, wa, dx, fa, pvs, us, perm, ws, fs, rfl, _⟩ := h
    rfl
  obtain ⟨p, pa, wa, dx, fa, pvs, us, perm, ws, fs, rfl, hc, gf, nfa, bd, q⟩ := h
  refine ⟨_, (pss_cons (ps_mk (ps_for PassesOwn.never rfl (pi_enum (by rfl) T.enumerate (pa_cons (pe_fld (pv 0) rfl) pa_nil)) (pg_tup rfl (pgs_cons (pg_name (i := 2) sc_Device__end_writes.nd rfl (.inl rfl)) (pgs_cons (pg_tup rfl (pgs_cons (pg_name (i := 3) sc_Device__end_writes.nd rfl (.inl rfl)) (pgs_cons (pg_name (i := 4) sc_Device__end_writes.nd rfl (.inl rfl)) pgs_nil))) pgs_nil)))
      (pss_cons (ps_set (i := 5) sc_Device__end_writes.nd rfl (.inl rfl) (pe_ifExp (pt_cmpR op_lt (pv 2) (pe_callB (lenQ K rfl) (by rfl) T.len PySem.boot_len (pa_cons (pv 1) pa_nil)) (nomark _)) (pe_ix (ixL K rfl) (pv 1) (pv 2) (fun _ _ => rfl)) pe_int))
      (pss_one (ps_mk (ps_if (pt_cmpR op_eq (pv 5) pe_int (nomark _))
      (pss_one (ps_asg (pv 4) (pg_sub (pe_fld (pv 0) rfl) (pv 3) set_list)))
      (pss_one (ps_mk (ps_if (pt_cmpR op_eq (pv 5) pe_int (nomark _))
      (pss_one (ps_asg pe_non (pg_sub (pe_fld (pv 0) rfl) (pv 3) set_list)))
      pss_nil)))))))))
      (pss_one (ps_fld (pv 0) (pe_lst pa_nil) rfl))), ?_⟩
  have wl := hc.dw.len
  rw [List.length_map] at wl
  have gw := hc.w
  have nw := hc.nw
  have npa : p ≠ pa := fun z => by
    have k := hc.g
    rw [z, hc.a] at k
    cases k
  have nt0 : ∀ {H' : Hp} {vs : List V}, H' pa = some (.lst vs) → NTup H' [pa] := fun g x hx us' z => by
    rw [List.mem_singleton.mp hx, g] at z
    cases z
  refine jnS (M := fun σ H' => ∃ pm pv', ButL [pa] H H' ∧ H' pa = some (.lst pv') ∧ DhAll H' pm pv' ∧ (∀ d ∈ pm, noL d = true) ∧ pm.length = perm.length ∧ pm = endW perm ws fs ∧ ∃ y2 y3 y4 y5, σ = [sR p, sR fa, y2, y3, y4, y5]) ?_ (fun N kk => ?_)
  · rintro σ H2 ⟨pm, pv', b2, ga, da, ka, la, e, y2, y3, y4, y5, rfl⟩
    have gp := b2 _ _ (by simpa using npa) hc.g
    walk_at "go"
    refine ⟨sz, fun wb nwb => ?_⟩
    have s3 := same_upd (o := HO.lst []) nwb
    have gwb := upd_same (H := H2) (a := wb) (o := HO.lst [])
    have gp := s3 _ _ gp
    have npw : p ≠ wb := ne_of_none (by assumption) nwb
    have npaw : pa ≠ wb := ne_of_none ga nwb
    have ga := s3 _ _ ga
    have nwb0 : H wb = none := by
      cases e : H wb with
      | none => rfl
      | some o =>
        have := b2 wb o (by simpa using npaw.symm) e
        rw [nwb] at this
        cases this
    generalize upd H2 wb (HO.lst []) = H3 at *
    walk_at "go"
    refine ⟨p, C, dx, _, rfl, gp, S.cl, S.n2, (by show 2 < 1000; decide), ?_⟩
    have bp : ButL [p] H3 (upd H3 p (HO.ins C dx (dvF pa wb))) := ButL.put (by simp)
    have ntp : NTup H3 [p] := fun x hx us' z => by
      rw [List.mem_singleton.mp hx, gp] at z
      cases z
    refine q pv' wb _ ⟨upd_same, by rw [upd_ne npa.symm]; exact ga, ?_, by rw [upd_ne npw.symm]; exact gwb, rfl, npaw, by rw [← e, la]; exact hc.np, Nat.zero_le _, by rw [← e]; exact ka, by simp⟩ nwb0 fun c o n e => ?_
    · rw [← e]
      exact DhAll.tups (bp.tups ntp) _ _ (kp_noL ka) (DhAll.mono s3 _ _ da)
    · have n1 : c ≠ p := fun z => n (by simp [z])
      have n2 : c ≠ pa := fun z => n (by simp [z])
      rw [upd_ne n1]
      exact s3 _ _ (b2 c o (by simpa using n2) e)
  walk_at "go"
  refine ⟨_, _, _, _, _, rfl, hc.g, S.cl, S.n2, dv_w, ?_⟩
  walk_at "go"
  refine for_it (walk_enum (K := K) (a := wa) (xs := us)) (fun i σ H' => Ob (∃ pm pv', ButL [pa] H H' ∧ H' pa = some (.lst pv') ∧ DhAll H' pm pv' ∧ (∀ d ∈ pm, noL d = true) ∧ pm.length = perm.length ∧ endW pm (ws.drop i) (fs.drop i) = endW perm ws fs ∧ ∃ y2 y3 y4 y5, σ = [sR p, sR fa, y2, y3, y4, y5])) (ob ⟨perm, pvs, fun _ _ _ e => e, hc.a, hc.da, hc.kp, rfl, rfl, none, none, none, none, rfl⟩) (fun i σ H' _ h => ?_) ?_ ?_
  · obtain ⟨pm, pv', b2, _⟩ := unob h
    exact SqL.of (b2 _ _ (by simpa using hc.ne.symm) gw)
  · intro i x σ H2 H3 hi h hy
    obtain ⟨TT, x1, x2, rfl, nT, rfl, e1, e2⟩ := hy
    cases e1
    obtain ⟨pm, pv', b2, ga, da, ka, la, ee, y2, y3, y4, y5, rfl⟩ := unob h
    clear h kk
    have hil : i < ws.length := by
      rw [← wl]
      exact hi
    obtain ⟨vt, et, dt⟩ := hc.dw.get (i := i) (d := wD ws[i]) (by rw [List.getElem?_map, List.getElem?_eq_getElem hil]; rfl)
    have e2' : us[i]? = some x2 := e2
    rw [e2'] at et
    obtain rfl := Option.some.inj et
    have bx := bd _ (List.getElem_mem hil)
    have kx := hc.kw _ (List.getElem_mem hil)
    have tp := b2.tups (nt0 hc.a)
    rw [List.drop_eq_getElem_cons hil] at ee
    generalize ws[i] = x at *
    obtain ⟨k, e⟩ := x
    obtain ⟨ta, ts, rfl, gt, u1, r1, rfl, f1, u2, r2, rfl, f2, f3⟩ := dt
    cases (show u1 = _ from f1)
    cases (show r2 = _ from f3)
    have s3 := same_upd (o := HO.tup [V.int (i : Nat), V.ref ta]) nT
    have gT := upd_same (H := H2) (a := TT) (o := HO.tup [V.int (i : Nat), V.ref ta])
    have gt := s3 _ _ (tp _ _ gt)
    have f2 := Dh.mono s3 _ _ (Dh.tups tp _ _ kx f2)
    have ga := s3 _ _ ga
    have da := DhAll.mono s3 _ _ da
    have b3 : ButL [pa] H (upd H2 TT (HO.tup [V.int (i : Nat), V.ref ta])) := b2.trans (Same.but s3)
    generalize upd H2 TT (HO.tup [V.int (i : Nat), V.ref ta]) = H4 at *
    clear b2 tp
    have gp := b3 _ _ (by simpa using npa) hc.g
    have gf4 := b3 _ _ (by simpa using nfa) gf
    refine ⟨TT, _, rfl, SqT.of gT, rfl, ?_⟩
    refine ⟨_, _, rfl, ?_⟩
    refine ⟨_, _, rfl, ?_⟩
    refine ⟨ta, _, rfl, SqT.of gt, rfl, ?_⟩
    refine ⟨_, _, rfl, ?_⟩
    refine ⟨_, _, rfl, ?_⟩
    walk_at "go"
    rw [List.length_map]
    refine ifD (fun c => ?_) (fun c => ?_)
    · have il : i < fs.length := by omega
      walk_at "go"
      refine ⟨fa, _, _, _, rfl, rfl, SqL.of gf4, atI_nat (by rw [List.getElem?_map, List.getElem?_eq_getElem il]; rfl), ?_⟩
      walk_at "go"
      have hfv : (fs.drop i).headD 0 = fs[i] := by rw [List.drop_eq_getElem_cons il]; rfl
      have ee2 : endW (fateP (fs[i]) k e pm) (ws.drop (i + 1)) (fs.drop (i + 1)) = endW perm ws fs := by
        rw [← ee]
        show _ = endW (fateP ((fs.drop i).headD 0) k e pm) (ws.drop (i + 1)) (fs.drop i).tail
        rw [hfv, List.tail_drop]
      generalize (fs[i] : Int) = fv at *
      refine un ?_
      walk_at "go"
      refine ifEq (fun c1 => ?_) (fun c1 => ?_)
      · walk_at "go"
        refine ⟨_, _, _, _, _, rfl, gp, S.cl, S.n1, dv_p, ?_⟩
        walk_at "go"
        refine ⟨pa, _, k, k.toNat, rfl, rfl, ga, ix_ok bx.1 (by rw [da.len, la]; exact bx.2), ?_⟩
        have bp := ButL.put (l := [pa]) (H := H4) (p := pa) (o := HO.lst (pv'.set k.toNat u2)) (by simp)
        have tp2 := bp.tups (nt0 ga)
        refine ob ⟨pm.set k.toNat e, _, b3.trans bp, upd_same, DhAll.set (DhAll.tups tp2 _ _ (kp_noL ka) da) (Dh.tups tp2 _ _ kx f2), fun d hd => ?_, by rw [List.length_set, la], ?_, _, _, _, _, rfl⟩
        · rcases List.mem_or_eq_of_mem_set hd with hd | hd
          · exact ka d hd
          · rw [hd]
            exact kx
        · rw [← ee2]
          unfold fateP
          rw [if_pos c1]
      refine un ?_
      walk_at "go"
      refine ifEq (fun c2 => ?_) (fun c2 => ?_)
      · walk_at "go"
        refine ⟨_, _, _, _, _, rfl, gp, S.cl, S.n1, dv_p, ?_⟩
        walk_at "go"
        refine ⟨pa, _, k, k.toNat, rfl, rfl, ga, ix_ok bx.1 (by rw [da.len, la]; exact bx.2), ?_⟩
        have bp := ButL.put (l := [pa]) (H := H4) (p := pa) (o := HO.lst (pv'.set k.toNat V.non)) (by simp)
        have tp2 := bp.tups (nt0 ga)
        refine ob ⟨pm.set k.toNat PyData.none, _, b3.trans bp, upd_same, DhAll.set (DhAll.tups tp2 _ _ (kp_noL ka) da) rfl, fun d hd => ?_, by rw [List.length_set, la], ?_, _, _, _, _, rfl⟩
        · rcases List.mem_or_eq_of_mem_set hd with hd | hd
          · exact ka d hd
          · rw [hd]
            rfl
        · rw [← ee2]
          unfold fateP
          rw [if_neg c1, if_pos c2]
      · walk_at "go"
        refine ob ⟨pm, pv', b3, ga, da, ka, la, ?_, _, _, _, _, rfl⟩
        rw [← ee2]
        unfold fateP
        rw [if_neg c1, if_neg c2]
    · walk_at "go"
      have hfv : (fs.drop i).headD 0 = 0 := by rw [List.drop_of_length_le (by omega)]; rfl
      have ee2 : endW (fateP (0) k e pm) (ws.drop (i + 1)) (fs.drop (i + 1)) = endW perm ws fs := by
        rw [← ee]
        show _ = endW (fateP ((fs.drop i).headD 0) k e pm) (ws.drop (i + 1)) (fs.drop i).tail
        rw [hfv, List.tail_drop]
      refine un ?_
      walk_at "go"
      refine un ?_
      walk_at "go"
      refine ob ⟨pm, pv', b3, ga, da, ka, la, ?_, _, _, _, _, rfl⟩
      rw [← ee2]
      rfl
  · intro σ H2 h
    obtain ⟨pm, pv', b2, ga, da, ka, la, ee, y2, y3, y4, y5, rfl⟩ := unob h
    rw [wl, List.drop_length] at ee
    exact kk _ _ ⟨pm, pv', b2, ga, da, ka, la, ee, _, _, _, _, rfl⟩
theorem ok_barrier {f : Addr} {fd : FuncData} (F : C8.Fun K "barrier" "Device.barrier" s_Device_barrier f fd) (M : Meth K C "barrier" f) (b : Binds K fd ["self"] []) (S : STxt K mg C) (T : TxtE mg) (m_end_writes : C8.Met P w K mg base 1 C "_end_writes" (spEndW C) []) : C8.Met P w K mg base 2 C "barrier" (spBarr C) [] := by
  refine C8.met0 S.cl M F b sc_Device_barrier (fun vs H Q E h => ?_) (fun cdv A outer s H vs Q E hr h => ?_)
  · obtain ⟨p, pa, wa, dx, pvs, us, perm, ws, rfl, _⟩ := h
    rfl
  obtain ⟨p, pa, wa, dx, pvs, us, perm, ws, rfl, hc, bd, q⟩ := h
  refine ⟨_, (pss_one (ps_expr (C8.pe_mt m_end_writes hr (by omega) (pv 0) (pa_cons (pe_op op_rep (pe_lst (pa_cons pe_int pa_nil)) (pe_callB (lenQ K rfl) (by rfl) T.len PySem.boot_len (pa_cons (pe_fld (pv 0) rfl) pa_nil))) pa_nil)))), ?_⟩
  have wl := hc.dw.len
  rw [List.length_map] at wl
  have nw := hc.nw
  walk_at "go"
  refine ⟨p, dx, _, rfl, hc.g, dv_no2, ?_⟩
  walk_at "go"
  refine ⟨sz, fun l1 nl1 => ?_⟩
  have s1 := same_upd (o := HO.lst [V.int 1]) nl1
  have gl1 := upd_same (H := H) (a := l1) (o := HO.lst [V.int 1])
  show _
  generalize upd H l1 (HO.lst [V.int 1]) = H1 at *
  have hc1 := hc.same s1
  walk_at "go"
  refine ⟨_, _, _, _, _, rfl, hc1.g, S.cl, S.n2, dv_w, ?_⟩
  walk_at "go"
  refine ⟨wa, us, rfl, .inl (SqL.of hc1.w), ?_⟩
  walk_at "go"
  refine ⟨l1, us.length, [V.int 1], rfl, rfl, gl1, by omega, by omega, (by rw [Int.toNat_natCast, List.length_singleton, sizeLine_eq]; omega), fun fa nfa => ?_⟩
  rw [Int.toNat_natCast, rep_ints, wl]
  have s2 := s1.trans (same_upd (o := HO.lst ((List.replicate ws.length (1 : Int)).map V.int)) nfa)
  have gf := upd_same (H := H1) (a := fa) (o := HO.lst ((List.replicate ws.length (1 : Int)).map V.int))
  have nfa0 := s1.free nfa
  show _
  generalize upd H1 fa (HO.lst ((List.replicate ws.length (1 : Int)).map V.int)) = H2 at *
  walk_at "go"
  refine ⟨p, pa, wa, dx, fa, pvs, us, perm, ws, _, rfl, hc.same s2, gf, (ne_of_none hc.a nfa0).symm, bd, fun pv' wb H3 h3 nb b3 => ?_⟩
  exact q pv' wb H3 h3 (s2.free nb) (ButL.trans (Same.but s2) b3)
theorem ok_crash {f : Addr} {fd : FuncData} (F : C8.Fun K "crash" "Device.crash" s_Device_crash f fd) (M : Meth K C "crash" f) (b : Binds K fd ["self", "fates"] []) (S : STxt K mg C) (m_end_writes : C8.Met P w K mg base 1 C "_end_writes" (spEndW C) []) : C8.Met P w K mg base 2 C "crash" (spEndW C) [] := by
  refine C8.met0 S.cl M F b sc_Device_crash (fun vs H Q E h => ?_) (fun cdv A outer s H vs Q E hr h => ?_)
  · obtain ⟨p, pa, wa, dx, fa, pvs, us, perm, ws, fs, rfl, _⟩ := h
    rfl
  obtain ⟨p, pa, wa, dx, fa, pvs, us, perm, ws, fs, rfl, hc, gf, nfa, bd, q⟩ := h
  refine ⟨_, (pss_one (ps_expr (C8.pe_mt m_end_writes hr (by omega) (pv 0) (pa_cons (pv 1) pa_nil)))), ?_⟩
  walk_at "go"
  refine ⟨p, dx, _, rfl, hc.g, dv_no2, ?_⟩
  walk_at "go"
  exact ⟨p, pa, wa, dx, fa, pvs, us, perm, ws, fs, rfl, hc, gf, nfa, bd, q⟩
end

end

section

-- a condition of an operator
local macro_rules | `(tactic| walk_at "cond") => `(tactic| first
  | (show (0 : Int) < _; omega)
  | (show CDiv _ _; constructor <;> (first | decide | omega))
  | (show CMul _ _; first | (refine cmul_l ?_; constructor <;> (first | decide | omega)) | (refine cmul_r ?_; constructor <;> (first | decide | omega)))
  | (show CPow _ _; exact (by refine ⟨by decide, by decide, by decide⟩))
  | (show CDivW _ _; exact ⟨by decide, by decide +kernel⟩))
local macro_rules | `(tactic| walk_at "sq") => `(tactic| first | assumption | exact Dh.mono (same_upd (by assumption)) _ _ (by assumption) | exact .inl (.inl (.inl (by assumption))) | exact .inr (.inl (.inl (by assumption))) | exact SqL.of (by assumption) | exact .inl (by assumption) | exact .inl (SqL.of (by assumption)) | exact SqT.of (by assumption) | exact .inr (SqT.of (by assumption)))
local macro_rules | `(tactic| walk_at "st") => `(tactic| first
  | refine ⟨_, rfl, ?_⟩
  | refine ⟨_, _, rfl, rfl, ?_⟩
  | refine .inl ⟨_, rfl, ?_⟩
  | refine ⟨rfl, ?_⟩
  | refine ⟨_, _, rfl, by walk_at "sq", ?_⟩
  | refine ⟨.inl ⟨rfl, _, SqL.of (by assumption)⟩, ?_⟩
  | refine ⟨by walk_at "cond", ?_⟩
  | (refine' ifBT ?hh ?_; (case hh => first | rfl | assumption))
  | (refine' ifBF ?hh ?_; (case hh => first | rfl | assumption)))
local macro_rules | `(tactic| walk_at "go") => `(tactic| repeat walk_at "st")
local macro_rules | `(tactic| walk_at "yes") => `(tactic| (refine' ifT ?hh ?_; (case hh => first | rfl | decide +kernel)))
local macro_rules | `(tactic| walk_at "no") => `(tactic| (refine' ifF ?hh ?_; (case hh => first | decide +kernel | (intro z; cases z; done))))

/-! ### contents, fates -/
abbrev s_device_content : Stmt := topS 20
theorem sc_device_content : FnScope ["_law_number_here", "_law_salt", "_law_thing", "_law_way"] ["_law_number_here", "_law_salt"] (C8.fnScope s_device_content) := C8.fnScope_by (by decide +kernel)
theorem fold_cps (c : Array Nat) : ∀ (n : Nat) (a : Array Nat), ((List.replicate n c).foldl (· ++ ·) a).size = a.size + n * c.size
  | 0, a => by simp
  | n + 1, a => by
    rw [List.replicate_succ, List.foldl_cons, fold_cps c n, Array.size_append, Nat.succ_mul]
    omega
def rMulS : R2 := fun x y H Q => ∃ (i : Str) (n : Int), x = .str i ∧ y = .int n ∧ 0 ≤ n ∧ n ≤ 100 ∧ i.length ≤ 100 ∧ ∀ z : Str, z.length ≤ 10000 → Q (.str z) H
theorem op_mulS {X : Cx} : OpR X (binaryOp .Mult) rMulS := by
  intro pins s σ H x y v u Q I rx ry h
  obtain ⟨i, n, rfl, rfl, n0, n1, hi, q⟩ := h
  obtain ⟨t, rfl⟩ := rx
  obtain ⟨t', rfl⟩ := ry
  refine PySem.P.mul_str ?_ (fun a b c => ?_) (fun a b => ?_) ?_
  · rw [decide_eq_false (by omega), decide_eq_false (by omega)]
    rfl
  · have : (i.length : Int) ≤ (2 ^ 63 - 1) / n := Int.le_ediv_of_mul_le (by omega) (by
      have h1 : (i.length : Int) * n ≤ 100 * 100 := Int.mul_le_mul (by omega) n1 n0 (by decide)
      omega)
    omega
  · unfold Builtin.Str.tooLong
    rw [decide_eq_false]
    rw [sizeLine_eq]
    have h1 : i.length * n.toNat ≤ 100 * 100 := Nat.mul_le_mul hi (by omega)
    omega
  · have fin : ∀ (z : Str) (t : Tok), z.length ≤ 10000 → ∃ v' H', Inv X pins σ H' { s with toks := s.toks + 1 } ∧ RelV v' (.str z t) ∧ Q v' H' := fun z t hz => ⟨.str z, H, I.tok _, ⟨_, rfl⟩, q z hz⟩
    split
    · exact ⟨by decide, fin _ _ (by decide)⟩
    · split
      · exact ⟨.str i, H, I, ⟨_, rfl⟩, q i (by omega)⟩
      · have hl : (⟨(List.replicate n.toNat i.cps).foldl (· ++ ·) #[]⟩ : Str).length ≤ 10000 := by
          show ((List.replicate n.toNat i.cps).foldl (· ++ ·) #[]).size ≤ 10000
          rw [fold_cps]
          have h1 : n.toNat * i.cps.size ≤ 100 * 100 := Nat.mul_le_mul (by omega) hi
          simp only [List.size_toArray, List.length_nil]
          omega
        exact ⟨by rw [sizeLine_eq]; omega, fin _ _ hl⟩
/-- no lists, few and not deep -/
def Nice (d : PyData) : Prop := noL d = true ∧ Dle 6 d
def Nic (n : Nat) (d : PyData) : Prop := noL d = true ∧ Dle n d
theorem Dle.succ : ∀ (n : Nat) (d : PyData), Dle n d → Dle (n + 1) d
  | 0, _, h => h.elim
  | n + 1, .list ds, h => ⟨h.1, fun d m => Dle.succ n d (h.2 d m)⟩
  | n + 1, .tuple ds, h => ⟨h.1, fun d m => Dle.succ n d (h.2 d m)⟩
  | n + 1, .dict _, h => h.elim
  | n + 1, .none, h => h
  | n + 1, .bool _, h => h
  | n + 1, .int _, h => h
  | n + 1, .str _, h => h
theorem Nic.succ {n : Nat} {d : PyData} (h : Nic n d) : Nic (n + 1) d := ⟨h.1, Dle.succ _ _ h.2⟩
theorem noLs_of : ∀ {ds : List PyData}, (∀ d ∈ ds, noL d = true) → noLs ds = true
  | [], _ => rfl
  | d :: ds, h => by
    show (noL d && noLs ds) = true
    rw [h d List.mem_cons_self, noLs_of fun x hx => h x (List.mem_cons_of_mem _ hx)]
    rfl
theorem Nic.tup {n : Nat} {ds : List PyData} (l : ds.length ≤ 100000) (h : ∀ d ∈ ds, Nic n d) : Nic (n + 1) (.tuple ds) := ⟨noLs_of fun d m => (h d m).1, l, fun d m => (h d m).2⟩
theorem Nic.t0 {n : Nat} : Nic (n + 1) (.tuple []) := Nic.tup (by decide) (by simp)
theorem Nic.t1 {n : Nat} {a : PyData} (h : Nic n a) : Nic (n + 1) (.tuple [a]) := Nic.tup (by simp) (by simpa using h)
theorem Nic.t2 {n : Nat} {a b : PyData} (h : Nic n a) (h2 : Nic n b) : Nic (n + 1) (.tuple [a, b]) := Nic.tup (by simp) (by simpa using ⟨h, h2⟩)
theorem Nic.t3 {n : Nat} {a b c : PyData} (h : Nic n a) (h2 : Nic n b) (h3 : Nic n c) : Nic (n + 1) (.tuple [a, b, c]) := Nic.tup (by simp) (by simpa using ⟨h, h2, h3⟩)
theorem Nic.i {n : Nat} {i : Int} : Nic (n + 1) (.int i) := ⟨rfl, trivial⟩
theorem Nic.s {n : Nat} {i : Str} : Nic (n + 1) (.str i) := ⟨rfl, trivial⟩
theorem Nic.n {n : Nat} : Nic (n + 1) .none := ⟨rfl, trivial⟩
theorem dh0 {H : Hp} {p : Addr} (g : H p = some (.tup [])) : Dh H (.tuple []) (.ref p) := ⟨p, [], rfl, g, rfl⟩
theorem dh1 {H : Hp} {p : Addr} {x : V} {d : PyData} (g : H p = some (.tup [x])) (h : Dh H d x) : Dh H (.tuple [d]) (.ref p) := ⟨p, _, rfl, g, _, _, rfl, h, rfl⟩
theorem dh2 {H : Hp} {p : Addr} {x y : V} {d e : PyData} (g : H p = some (.tup [x, y])) (h : Dh H d x) (h2 : Dh H e y) : Dh H (.tuple [d, e]) (.ref p) := ⟨p, _, rfl, g, _, _, rfl, h, _, _, rfl, h2, rfl⟩
theorem dh3 {H : Hp} {p : Addr} {x y z : V} {d e f : PyData} (g : H p = some (.tup [x, y, z])) (h : Dh H d x) (h2 : Dh H e y) (h3 : Dh H f z) : Dh H (.tuple [d, e, f]) (.ref p) := ⟨p, _, rfl, g, _, _, rfl, h, _, _, rfl, h2, _, _, rfl, h3, rfl⟩
def spCont : Sp := fun vs H Q _ => ∃ (n s : Int), vs = [.int n, .int s] ∧ 0 ≤ n ∧ n ≤ 100000 ∧ 0 ≤ s ∧ s ≤ 1000000 ∧ ∀ v d H', Same H H' → Dh H' d v → Nice d → Q v H'
section
variable {P : Program} {w : World} {K : PySem.W.Frag} {mg : Str → Option Value} {base : Heap}
theorem ok_content {f : Addr} {fd : FuncData} (D : Def K mg "_law_device_content" s_device_content f fd) (b : Binds K fd ["_law_number_here", "_law_salt"] []) (T : Txt mg) : Cal P w K mg base 1 "_law_device_content" spCont [] := by
  refine cal0 D b .nil sc_device_content (fun vs H Q E h => ?_) (fun cdv A outer s H vs Q E hr h => ?_)
  · obtain ⟨n, s, rfl, _⟩ := h
    rfl
  obtain ⟨n, s, rfl, n0, n1, s0, s1, q⟩ := h
  refine ⟨_, (pss_cons (ps_set (i := 2) sc_device_content.nd rfl (.inl rfl) (pe_ix (ixL K rfl) (pe_lst (pa_cons (pv 1) (pa_cons (pe_op op_sub pe_int (pv 1)) (pa_cons (pe_op op_add_str pe_str (pe_op op_mulS pe_str (pe_op op_mod (pe_callTy call_int1 (by rfl) T.int (by decide +kernel) (pa_cons (pv 1) pa_nil)) pe_int))) (pa_cons pe_non (pa_cons (pe_op op_add (pe_op op_pow pe_int pe_int) (pv 1)) (pa_cons pe_str (pa_cons (pe_tup pa_nil) (pa_cons (pe_tup (pa_cons (pv 1) (pa_cons pe_non pa_nil))) pa_nil))))))))) (pe_op op_mod (pe_callTy call_int1 (by rfl) T.int (by decide +kernel) (pa_cons (pv 0) pa_nil)) pe_int) (fun _ _ => rfl)))
      (pss_cons (ps_set (i := 3) sc_device_content.nd rfl (.inl rfl) (pe_op op_mod (pe_callTy call_int1 (by rfl) T.int (by decide +kernel) (pa_cons (pe_op op_fdiv (pv 0) pe_int) pa_nil)) pe_int))
      (pss_cons (ps_mk (ps_if (pt_cmpR op_eq (pv 3) pe_int (nomark _))
      (pss_one (ps_ret (pe_tup pa_nil)))
      pss_nil))
      (pss_cons (ps_mk (ps_if (pt_cmpR op_eq (pv 3) pe_int (nomark _))
      (pss_one (ps_ret (pe_tup (pa_cons (pv 2) pa_nil))))
      pss_nil))
      (pss_cons (ps_mk (ps_if (pt_cmpR op_eq (pv 3) pe_int (nomark _))
      (pss_one (ps_ret (pe_tup (pa_cons (pv 1) (pa_cons (pv 2) (pa_cons pe_str pa_nil))))))
      pss_nil))
      (pss_cons (ps_mk (ps_if (pt_cmpR op_eq (pv 3) pe_int (nomark _))
      (pss_one (ps_ret (pe_tup (pa_cons (pe_tup (pa_cons (pv 2) pa_nil)) (pa_cons (pe_tup pa_nil) (pa_cons (pe_tup (pa_cons (pe_tup (pa_cons (pv 1) (pa_cons pe_str pa_nil))) (pa_cons pe_non pa_nil))) pa_nil))))))
      pss_nil))
      (pss_cons (ps_mk (ps_if (pt_cmpR op_eq (pv 3) pe_int (nomark _))
      (pss_one (ps_ret (pe_tup (pa_cons pe_str (pa_cons (pv 1) (pa_cons pe_int pa_nil))))))
      pss_nil))
      (pss_one (ps_ret (pe_tup (pa_cons (pv 2) (pa_cons (pv 2) (pa_cons (pe_tup (pa_cons (pe_tup (pa_cons (pe_tup (pa_cons (pv 2) pa_nil)) pa_nil)) pa_nil)) pa_nil))))))))))))), ?_⟩
  walk_at "go"
  refine ⟨by omega, by omega, by decide +kernel, fun z hz => ?_⟩
  refine ⟨_, z, rfl, rfl, by rw [sizeLine_eq]; have : ("b" : Str).length = 1 := (by decide +kernel); omega, ?_⟩
  walk_at "go"
  dsimp only
  walk_at "go"
  refine ⟨sz, fun p0 np0 => ?_⟩
  have s2 := same_upd (o := HO.tup []) np0
  have g0 := upd_same (H := H) (a := p0) (o := HO.tup [])
  show _
  generalize upd H p0 (HO.tup []) = H1 at *
  dsimp only
  walk_at "go"
  refine ⟨sz, fun p1 np1 => ?_⟩
  have s3 := same_upd (o := HO.tup [V.int s, V.non]) np1
  have g1 := upd_same (H := H1) (a := p1) (o := HO.tup [V.int s, V.non])
  have g0 := s3 _ _ g0
  have s2 := s2.trans s3
  show _
  generalize upd H1 p1 (HO.tup [V.int s, V.non]) = H2 at *
  dsimp only
  walk_at "go"
  refine ⟨sz, fun l nl => ?_⟩
  obtain ⟨ls, els⟩ : ∃ ls, ls = [V.int s, V.int (0 - s), V.str ("b" ++ z), V.non, V.int (10 ^ Int.toNat 20 + s), V.str "", V.ref p0, V.ref p1] := ⟨_, rfl⟩
  have s4 := same_upd (o := HO.lst ls) nl
  have gl := upd_same (H := H2) (a := l) (o := HO.lst ls)
  have g0 := s4 _ _ g0
  have g1 := s4 _ _ g1
  have s5 := s2.trans s4
  rw [← els]
  generalize upd H2 l (HO.lst ls) = H3 at *
  clear s2 s4 np0 np1 nl
  have pick : ∀ m : Int, 0 ≤ m → m < 8 → ∃ x d, atI ls m = some x ∧ Dh H3 d x ∧ Nic 2 d := fun m h0 h1 => by
    have : m = 0 ∨ m = 1 ∨ m = 2 ∨ m = 3 ∨ m = 4 ∨ m = 5 ∨ m = 6 ∨ m = 7 := by omega
    rw [els]
    rcases this with rfl | rfl | rfl | rfl | rfl | rfl | rfl | rfl
    · exact ⟨_, .int _, rfl, rfl, Nic.i⟩
    · exact ⟨_, .int _, rfl, rfl, Nic.i⟩
    · exact ⟨_, .str _, rfl, rfl, Nic.s⟩
    · exact ⟨_, .none, rfl, rfl, Nic.n⟩
    · exact ⟨_, .int _, rfl, rfl, Nic.i⟩
    · exact ⟨_, .str _, rfl, rfl, Nic.s⟩
    · exact ⟨_, _, rfl, dh0 g0, Nic.t0⟩
    · exact ⟨_, .tuple [.int s, .none], rfl, dh2 g1 rfl rfl, Nic.t2 Nic.i Nic.n⟩
  obtain ⟨x, d, ax, dx, nx⟩ := pick (n % 8) (by omega) (by omega)
  walk_at "go"
  refine ⟨l, _, _, x, rfl, rfl, SqL.of gl, ax, ?_⟩
  clear g0 g1 gl pick ax els
  walk_at "go"
  refine un ?_
  walk_at "go"
  refine ifEq (fun c => ?_) (fun c => ?_)
  · walk_at "go"
    refine ⟨sz, fun p np => ?_⟩
    exact q _ (.tuple []) _ (s5.trans (same_upd np)) (dh0 upd_same) Nic.t0
  clear c
  refine un ?_
  walk_at "go"
  refine ifEq (fun c => ?_) (fun c => ?_)
  · walk_at "go"
    refine ⟨sz, fun p np => ?_⟩
    have s6 := same_upd (o := HO.tup [x]) np
    exact q _ (.tuple [d]) _ (s5.trans s6) (dh1 upd_same (Dh.mono s6 _ _ dx)) (Nic.t1 nx.succ.succ.succ)
  clear c
  refine un ?_
  walk_at "go"
  refine ifEq (fun c => ?_) (fun c => ?_)
  · walk_at "go"
    refine ⟨sz, fun p np => ?_⟩
    have s6 := same_upd (o := HO.tup [V.int s, x, V.str "c"]) np
    exact q _ (.tuple [.int s, d, .str "c"]) _ (s5.trans s6) (dh3 upd_same rfl (Dh.mono s6 _ _ dx) rfl) (Nic.t3 Nic.i nx.succ.succ.succ Nic.s)
  clear c
  refine un ?_
  walk_at "go"
  refine ifEq (fun c => ?_) (fun c => ?_)
  · walk_at "go"
    refine ⟨sz, fun p1 np1 => ?_⟩
    have s6 := same_upd (o := HO.tup [x]) np1
    have d1 : Dh (upd H3 p1 (HO.tup [x])) (.tuple [d]) (.ref p1) := dh1 upd_same (Dh.mono s6 _ _ dx)
    show _
    generalize upd H3 p1 (HO.tup [x]) = H4 at *
    try dsimp only
    walk_at "go"
    refine ⟨sz, fun p2 np2 => ?_⟩
    have s7 := same_upd (o := HO.tup []) np2
    have d2 : Dh (upd H4 p2 (HO.tup [])) (.tuple []) (.ref p2) := dh0 upd_same
    show _
    generalize upd H4 p2 (HO.tup []) = H5 at *
    try dsimp only
    walk_at "go"
    refine ⟨sz, fun p3 np3 => ?_⟩
    have s8 := same_upd (o := HO.tup [V.int s, V.str "c"]) np3
    have d3 : Dh (upd H5 p3 (HO.tup [V.int s, V.str "c"])) (.tuple [.int s, .str "c"]) (.ref p3) := dh2 upd_same rfl rfl
    show _
    generalize upd H5 p3 (HO.tup [V.int s, V.str "c"]) = H6 at *
    try dsimp only
    walk_at "go"
    refine ⟨sz, fun p4 np4 => ?_⟩
    have s9 := same_upd (o := HO.tup [V.ref p3, V.non]) np4
    have d4 : Dh (upd H6 p4 (HO.tup [V.ref p3, V.non])) (.tuple [.tuple [.int s, .str "c"], .none]) (.ref p4) := dh2 upd_same (Dh.mono s9 _ _ d3) rfl
    show _
    generalize upd H6 p4 (HO.tup [V.ref p3, V.non]) = H7 at *
    try dsimp only
    walk_at "go"
    refine ⟨sz, fun p5 np5 => ?_⟩
    have s10 := same_upd (o := HO.tup [V.ref p1, V.ref p2, V.ref p4]) np5
    exact q _ (.tuple [.tuple [d], .tuple [], .tuple [.tuple [.int s, .str "c"], .none]]) _ (s5.trans (s6.trans (s7.trans (s8.trans (s9.trans s10))))) (dh3 upd_same (Dh.mono (s7.trans (s8.trans (s9.trans s10))) _ _ d1) (Dh.mono (s8.trans (s9.trans s10)) _ _ d2) (Dh.mono s10 _ _ d4)) (Nic.t3 (Nic.t1 nx.succ.succ) Nic.t0 (Nic.t2 (Nic.t2 Nic.i Nic.s) Nic.n))
  clear c
  refine un ?_
  walk_at "go"
  refine ifEq (fun c => ?_) (fun c => ?_)
  · walk_at "go"
    refine ⟨sz, fun p np => ?_⟩
    exact q _ (.tuple [.str "root", .int s, .int 0]) _ (s5.trans (same_upd np)) (dh3 upd_same rfl rfl rfl) (Nic.t3 Nic.s Nic.i Nic.i)
  clear c
  walk_at "go"
  refine ⟨sz, fun p1 np1 => ?_⟩
  have s6 := same_upd (o := HO.tup [x]) np1
  have d1 : Dh (upd H3 p1 (HO.tup [x])) (.tuple [d]) (.ref p1) := dh1 upd_same (Dh.mono s6 _ _ dx)
  show _
  generalize upd H3 p1 (HO.tup [x]) = H4 at *
  try dsimp only
  walk_at "go"
  refine ⟨sz, fun p2 np2 => ?_⟩
  have s7 := same_upd (o := HO.tup [V.ref p1]) np2
  have d2 : Dh (upd H4 p2 (HO.tup [V.ref p1])) (.tuple [.tuple [d]]) (.ref p2) := dh1 upd_same (Dh.mono s7 _ _ d1)
  show _
  generalize upd H4 p2 (HO.tup [V.ref p1]) = H5 at *
  try dsimp only
  walk_at "go"
  refine ⟨sz, fun p3 np3 => ?_⟩
  have s8 := same_upd (o := HO.tup [V.ref p2]) np3
  have d3 : Dh (upd H5 p3 (HO.tup [V.ref p2])) (.tuple [.tuple [.tuple [d]]]) (.ref p3) := dh1 upd_same (Dh.mono s8 _ _ d2)
  show _
  generalize upd H5 p3 (HO.tup [V.ref p2]) = H6 at *
  try dsimp only
  walk_at "go"
  refine ⟨sz, fun p4 np4 => ?_⟩
  have s9 := same_upd (o := HO.tup [x, x, V.ref p3]) np4
  have sx := s6.trans (s7.trans (s8.trans s9))
  exact q _ (.tuple [d, d, .tuple [.tuple [.tuple [d]]]]) _ (s5.trans sx) (dh3 upd_same (Dh.mono sx _ _ dx) (Dh.mono sx _ _ dx) (Dh.mono s9 _ _ d3)) (Nic.t3 nx.succ.succ.succ nx.succ.succ.succ (Nic.t1 (Nic.t1 (Nic.t1 nx))))
end

end

section

-- a condition of an operator
local macro_rules | `(tactic| walk_at "cond") => `(tactic| first
  | (show (0 : Int) < _; omega)
  | (show CDiv _ _; constructor <;> (first | decide | omega))
  | (show CMul _ _; first | (refine cmul_l ?_; constructor <;> (first | decide | omega)) | (refine cmul_r ?_; constructor <;> (first | decide | omega)))
  | (show CPow _ _; exact (by refine ⟨by decide, by decide, by decide⟩))
  | (show CDivW _ _; exact ⟨by decide, by decide +kernel⟩))
local macro_rules | `(tactic| walk_at "sq") => `(tactic| first | assumption | exact Dh.mono (same_upd (by assumption)) _ _ (by assumption) | exact .inl (.inl (.inl (by assumption))) | exact .inr (.inl (.inl (by assumption))) | exact SqL.of (by assumption) | exact .inl (by assumption) | exact .inl (SqL.of (by assumption)) | exact SqT.of (by assumption) | exact .inr (SqT.of (by assumption)))
local macro_rules | `(tactic| walk_at "st") => `(tactic| first
  | refine ⟨_, rfl, ?_⟩
  | refine ⟨_, _, rfl, rfl, ?_⟩
  | refine .inl ⟨_, rfl, ?_⟩
  | refine ⟨rfl, ?_⟩
  | refine ⟨_, _, rfl, by walk_at "sq", ?_⟩
  | refine ⟨.inl ⟨rfl, _, SqL.of (by assumption)⟩, ?_⟩
  | refine ⟨by walk_at "cond", ?_⟩
  | (refine' ifBT ?hh ?_; (case hh => first | rfl | assumption))
  | (refine' ifBF ?hh ?_; (case hh => first | rfl | assumption)))
local macro_rules | `(tactic| walk_at "go") => `(tactic| repeat walk_at "st")
local macro_rules | `(tactic| walk_at "yes") => `(tactic| (refine' ifT ?hh ?_; (case hh => first | rfl | decide +kernel)))
local macro_rules | `(tactic| walk_at "no") => `(tactic| (refine' ifF ?hh ?_; (case hh => first | decide +kernel | (intro z; cases z; done))))

/-! ### fates -/
abbrev s_device_fates : Stmt := topS 21
theorem sc_device_fates : FnScope ["_law_number_here", "_law_many", "_law_kind", "_law_k", "_law_powers"] ["_law_number_here", "_law_many"] (C8.fnScope s_device_fates) := C8.fnScope_by (by decide +kernel)
def spFates : Sp := fun vs H Q _ => ∃ (n m : Int), vs = [.int n, .int m] ∧ 0 ≤ n ∧ n ≤ 100000 ∧ 0 ≤ m ∧ m ≤ 1000 ∧ ∀ (fa : Addr) (fs : List Int) (H' : Hp), Same H H' → H fa = none → H' fa = some (.lst (fs.map V.int)) → fs.length ≤ 2000 → Q (.ref fa) H'
section
variable {P : Program} {w : World} {K : PySem.W.Frag} {mg : Str → Option Value} {base : Heap}
theorem ok_fates {f : Addr} {fd : FuncData} (D : Def K mg "_law_device_fates" s_device_fates f fd) (b : Binds K fd ["_law_number_here", "_law_many"] []) (T : Txt mg) : Cal P w K mg base 1 "_law_device_fates" spFates [] := by
  refine cal0 D b .nil sc_device_fates (fun vs H Q E h => ?_) (fun cdv A outer s H vs Q E hr h => ?_)
  · obtain ⟨n, m, rfl, _⟩ := h
    rfl
  obtain ⟨n, m, rfl, n0, n1, m0, m1, q⟩ := h
  refine ⟨_, (pss_cons (ps_set (i := 2) sc_device_fates.nd rfl (.inr rfl) (pe_op op_mod (pe_callTy call_int1 (by rfl) T.int (by decide +kernel) (pa_cons (pv 0) pa_nil)) pe_int))
      (pss_cons (ps_mk (ps_if (pt_cmpR op_eq (pv 2) pe_int (nomark _))
      (pss_one (ps_ret (pe_lst pa_nil)))
      pss_nil))
      (pss_cons (ps_mk (ps_if (PW.pt (pw_or (pt_cmpR op_eq (pv 2) pe_int (nomark _)) (pw_or1 (pt_cmpR op_eq (pv 2) pe_int (nomark _)))))
      (pss_one (ps_ret (pe_lc (own := [("_law_k", 3)]) (g := gName 3) (tt := tYes) rfl sc_device_fates.nd (pi_range1 (by rfl) T.range (pa_cons (pv 1) pa_nil)) (blkOk_by (own := [("_law_k", 3)]) (N := ["_law_number_here", "_law_many", "_law_kind", "_law_k", "_law_powers"]) (sc := C8.fnScope s_device_fates) (by decide +kernel)) (fun _ _ _ _ _ => (pg_name (i := 3) sc_device_fates.nd rfl (.inl rfl))) (fun _ _ _ _ _ => pts_nil) (fun _ _ _ _ _ => (pe_op op_sub pe_int (pv 2))))))
      pss_nil))
      (pss_cons (ps_set (i := 4) sc_device_fates.nd rfl (.inr rfl) (pe_lst (pa_cons pe_int (pa_cons pe_int (pa_cons pe_int (pa_cons pe_int (pa_cons pe_int (pa_cons pe_int pa_nil))))))))
      (pss_one (ps_ret (pe_lc (own := [("_law_k", 3)]) (g := gName 3) (tt := tYes) rfl sc_device_fates.nd (pi_range1 (by rfl) T.range (pa_cons (pe_op op_sub (pe_op op_add (pv 1) (pe_op op_mod (pe_callTy call_int1 (by rfl) T.int (by decide +kernel) (pa_cons (pe_op op_fdiv (pv 0) pe_int) pa_nil)) pe_int)) pe_int) pa_nil)) (blkOk_by (own := [("_law_k", 3)]) (N := ["_law_number_here", "_law_many", "_law_kind", "_law_k", "_law_powers"]) (sc := C8.fnScope s_device_fates) (by decide +kernel)) (fun _ _ _ _ _ => (pg_name (i := 3) sc_device_fates.nd rfl (.inl rfl))) (fun _ _ _ _ _ => pts_nil) (fun _ _ _ _ _ => (pe_op op_mod (pe_callTy call_int1 (by rfl) T.int (by decide +kernel) (pa_cons (pe_op op_fdiv (pv 0) (pe_ix (ixL K rfl) (pv 4) (pe_op op_mod (pe_callTy call_int1 (by rfl) T.int (by decide +kernel) (pa_cons (pv 3) pa_nil)) pe_int) (fun _ _ => rfl))) pa_nil)) pe_int))))))))), ?_⟩
  walk_at "go"
  refine un ?_
  walk_at "go"
  refine ifEq (fun c => ?_) (fun c => ?_)
  · walk_at "go"
    refine ⟨sz, fun l nl => ?_⟩
    exact q l [] _ (same_upd nl) nl upd_same (by simp)
  clear c
  refine jnS (M := fun σ H' => H' = H ∧ σ = [sI n, sI m, sI (n % 5), none, none]) ?_ (fun N kk => ?_)
  rotate_left
  · walk_at "go"
    refine ifEq (fun c => ?_) (fun c => ?_)
    · walk_at "go"
      refine ⟨by omega, by omega, fun L nL => lc_range (lo := 0) (n := m.toNat) (fun j H' => Ob (Same H H' ∧ ∃ fs : List Int, H' L = some (.lst (fs.map V.int)) ∧ fs.length = j)) (ob ⟨same_upd nL, [], upd_same, rfl⟩) ?_ ?_⟩
      · intro j H1 hj h
        obtain ⟨s1, fs, g1, l1⟩ := unob h
        refine ⟨rfl, ?_⟩
        walk_at "go"
        refine ⟨_, g1, sz5 (by rw [List.length_map]; omega), ob ⟨same_put s1 nL, fs ++ [3 - n % 5], ?_, by rw [List.length_append, l1]; rfl⟩⟩
        rw [upd_same, List.map_append]
        rfl
      · intro H1 h
        obtain ⟨s1, fs, g1, l1⟩ := unob h
        exact q L fs H1 s1 nL g1 (by omega)
    · walk_at "go"
      refine ifEq (fun c => ?_) (fun c => ?_)
      · walk_at "go"
        refine ⟨by omega, by omega, fun L nL => lc_range (lo := 0) (n := m.toNat) (fun j H' => Ob (Same H H' ∧ ∃ fs : List Int, H' L = some (.lst (fs.map V.int)) ∧ fs.length = j)) (ob ⟨same_upd nL, [], upd_same, rfl⟩) ?_ ?_⟩
        · intro j H1 hj h
          obtain ⟨s1, fs, g1, l1⟩ := unob h
          refine ⟨rfl, ?_⟩
          walk_at "go"
          refine ⟨_, g1, sz5 (by rw [List.length_map]; omega), ob ⟨same_put s1 nL, fs ++ [3 - n % 5], ?_, by rw [List.length_append, l1]; rfl⟩⟩
          rw [upd_same, List.map_append]
          rfl
        · intro H1 h
          obtain ⟨s1, fs, g1, l1⟩ := unob h
          exact q L fs H1 s1 nL g1 (by omega)
      · exact kk _ _ ⟨rfl, rfl⟩
  rintro σ H2 ⟨rfl, rfl⟩
  walk_at "go"
  refine ⟨sz, fun po npo => ?_⟩
  have s0 := same_upd (o := HO.lst [V.int 1, V.int 3, V.int 9, V.int 27, V.int 81, V.int 243]) npo
  have gp := upd_same (H := H2) (a := po) (o := HO.lst [V.int 1, V.int 3, V.int 9, V.int 27, V.int 81, V.int 243])
  show _
  generalize upd H2 po (HO.lst [V.int 1, V.int 3, V.int 9, V.int 27, V.int 81, V.int 243]) = H3 at *
  walk_at "go"
  refine ⟨by omega, by omega, fun L nL => lc_range (lo := 0) (n := (m + n / 5 % 4 - 1).toNat) (fun j H' => Ob (Same H2 H' ∧ H' po = some (HO.lst [V.int 1, V.int 3, V.int 9, V.int 27, V.int 81, V.int 243]) ∧ ∃ fs : List Int, H' L = some (.lst (fs.map V.int)) ∧ fs.length = j)) (ob ⟨s0.trans (same_upd nL), same_upd nL _ _ gp, [], upd_same, rfl⟩) ?_ ?_⟩
  · intro j H1 hj h
    obtain ⟨s2, g2, fs, g1, l1⟩ := unob h
    clear h
    refine ⟨rfl, ?_⟩
    rw [Int.zero_add]
    have npL : po ≠ L := ne_of_none gp nL
    obtain ⟨pw, ap, pw0⟩ : ∃ pw : Int, atI [V.int 1, V.int 3, V.int 9, V.int 27, V.int 81, V.int 243] ((j : Int) % 6) = some (.int pw) ∧ (0 < pw ∧ pw < 1000) := by
      have : (j : Int) % 6 = 0 ∨ (j : Int) % 6 = 1 ∨ (j : Int) % 6 = 2 ∨ (j : Int) % 6 = 3 ∨ (j : Int) % 6 = 4 ∨ (j : Int) % 6 = 5 := by omega
      rcases this with e | e | e | e | e | e <;> rw [e] <;> exact ⟨_, rfl, by decide⟩
    walk_at "go"
    refine ⟨po, _, _, _, rfl, rfl, SqL.of g2, ap, ?_⟩
    walk_at "go"
    refine ⟨_, g1, sz5 (by rw [List.length_map]; omega), ob ⟨same_put s2 (s0.free nL), (by rw [upd_ne npL]; exact g2), fs ++ [n / pw % 3], ?_, by rw [List.length_append, l1]; rfl⟩⟩
    rw [upd_same, List.map_append]
    rfl
  · intro H1 h
    obtain ⟨s1, _, fs, g1, l1⟩ := unob h
    exact q L fs H1 s1 (s0.free nL) g1 (by omega)
end

end

section

-- a condition of an operator
local macro_rules | `(tactic| walk_at "cond") => `(tactic| first
  | (show (0 : Int) < _; omega)
  | (show CDiv _ _; constructor <;> (first | decide | omega))
  | (show CMul _ _; first | (refine cmul_l ?_; constructor <;> (first | decide | omega)) | (refine cmul_r ?_; constructor <;> (first | decide | omega)))
  | (show CPow _ _; exact (by refine ⟨by decide, by decide, by decide⟩))
  | (show CDivW _ _; exact ⟨by decide, by decide +kernel⟩))
local macro_rules | `(tactic| walk_at "sq") => `(tactic| first | assumption | exact Dh.mono (same_upd (by assumption)) _ _ (by assumption) | exact .inl (.inl (.inl (by assumption))) | exact .inr (.inl (.inl (by assumption))) | exact SqL.of (by assumption) | exact .inl (by assumption) | exact .inl (SqL.of (by assumption)) | exact SqT.of (by assumption) | exact .inr (SqT.of (by assumption)))
local macro_rules | `(tactic| walk_at "st") => `(tactic| first
  | refine ⟨_, rfl, ?_⟩
  | refine ⟨_, _, rfl, rfl, ?_⟩
  | refine .inl ⟨_, rfl, ?_⟩
  | refine ⟨rfl, ?_⟩
  | refine ⟨_, _, rfl, by walk_at "sq", ?_⟩
  | refine ⟨.inl ⟨rfl, _, SqL.of (by assumption)⟩, ?_⟩
  | refine ⟨by walk_at "cond", ?_⟩
  | (refine' ifBT ?hh ?_; (case hh => first | rfl | assumption))
  | (refine' ifBF ?hh ?_; (case hh => first | rfl | assumption)))
local macro_rules | `(tactic| walk_at "go") => `(tactic| repeat walk_at "st")
local macro_rules | `(tactic| walk_at "yes") => `(tactic| (refine' ifT ?hh ?_; (case hh => first | rfl | decide +kernel)))
local macro_rules | `(tactic| walk_at "no") => `(tactic| (refine' ifF ?hh ?_; (case hh => first | decide +kernel | (intro z; cases z; done))))

/-! ### a dictionary page -> mark, as the law keeps it -/
structure KOk (kvs : List (Key × V)) (n : Nat) : Prop where
  len : kvs.length ≤ n
  nd : (kvs.map (·.1)).Nodup
  ki : ∀ kv ∈ kvs, ∃ i : Int, kv.1 = .inl i
theorem KOk.le {kvs : List (Key × V)} {n m : Nat} (h : KOk kvs n) (l : n ≤ m) : KOk kvs m := ⟨Nat.le_trans h.len l, h.nd, h.ki⟩
theorem KOk.nil {n : Nat} : KOk [] n := ⟨Nat.zero_le _, List.nodup_nil, by simp⟩
theorem put_keys (kvs : List (Key × V)) (k : Key) (v : V) : (putK kvs k v).map (·.1) = if (kvs.any fun kv => decide (kv.1 = k)) = true then kvs.map (·.1) else kvs.map (·.1) ++ [k] := by
  unfold putK
  split
  · rw [List.map_map]
    refine List.map_congr_left fun kv _ => ?_
    show (if kv.1 = k then (kv.1, v) else kv).1 = kv.1
    split <;> rfl
  · rw [List.map_append]
    rfl
theorem KOk.put {kvs : List (Key × V)} {n : Nat} (h : KOk kvs n) (i : Int) (v : V) : KOk (putK kvs (.inl i) v) (n + 1) := by
  have e := put_keys kvs (.inl i) v
  refine ⟨?_, ?_, fun kv hkv => ?_⟩
  · have hl := h.len
    unfold putK
    split
    · rw [List.length_map]
      omega
    · rw [List.length_append, List.length_singleton]
      omega
  · rw [e]
    split
    · exact h.nd
    · rename_i c
      refine List.nodup_append.mpr ⟨h.nd, List.pairwise_singleton _ _, fun a ha b hb z => c ?_⟩
      rw [List.mem_singleton.mp hb] at z
      obtain ⟨kv, hkv, rfl⟩ := List.mem_map.mp ha
      exact List.any_eq_true.mpr ⟨kv, hkv, decide_eq_true z⟩
  · have hm : kv.1 ∈ (putK kvs (.inl i) v).map (·.1) := List.mem_map.mpr ⟨kv, hkv, rfl⟩
    rw [e] at hm
    split at hm
    · obtain ⟨kw, hkw, f⟩ := List.mem_map.mp hm
      rw [← f]
      exact h.ki kw hkw
    · rcases List.mem_append.mp hm with hm | hm
      · obtain ⟨kw, hkw, f⟩ := List.mem_map.mp hm
        rw [← f]
        exact h.ki kw hkw
      · exact ⟨i, List.mem_singleton.mp hm⟩

/-! ### the plain device: failure, due -/
abbrev s_device_failure : Stmt := topS 22
theorem sc_device_failure : FnScope ["_law_plain", "_law_fates", "_law_k", "_law_pair", "_law_fate"] ["_law_plain", "_law_fates"] (C8.fnScope s_device_failure) := C8.fnScope_by (by decide +kernel)
abbrev s_device_due : Stmt := topS 23
theorem sc_device_due : FnScope ["_law_plain", "_law_block", "_law_found", "_law_pair"] ["_law_plain", "_law_block"] (C8.fnScope s_device_due) := C8.fnScope_by (by decide +kernel)
def pD (n : Nat) (ka wl : Addr) : List (Key × V) := [(.inr "count", .int n), (.inr "kept", .ref ka), (.inr "wait", .ref wl)]
theorem pD_c {n : Nat} {ka wl : Addr} : valV (pD n ka wl) (.inr "count") = some (.int n) := by kernel_rfl
theorem pD_k {n : Nat} {ka wl : Addr} : valV (pD n ka wl) (.inr "kept") = some (.ref ka) := by kernel_rfl
theorem pD_w {n : Nat} {ka wl : Addr} : valV (pD n ka wl) (.inr "wait") = some (.ref wl) := by kernel_rfl
theorem pD_pw {n : Nat} {ka wl wm : Addr} : putK (pD n ka wl) (.inr "wait") (.ref wm) = pD n ka wm := by kernel_rfl
structure KR (H : Hp) (kvs : List (Key × V)) (n m : Nat) (perm : List PyData) : Prop where
  ok : KOk kvs m
  ri : ∀ kv ∈ kvs, ∀ i : Int, kv.1 = .inl i → 0 ≤ i ∧ i < n
  v : ∀ b : Int, 0 ≤ b → b < n → Dh H (perm.getD b.toNat .none) ((valV kvs (.inl b)).getD .non)
  pn : perm.length = n
  kp : ∀ d ∈ perm, Nice d
theorem getD_in {perm : List PyData} (h : ∀ d ∈ perm, Nice d) (i : Nat) : Nice (perm.getD i .none) := by
  rw [List.getD_eq_getElem?_getD]
  by_cases c : i < perm.length
  · rw [List.getElem?_eq_getElem c]
    exact h _ (List.getElem_mem c)
  · rw [List.getElem?_eq_none (by omega)]
    exact ⟨rfl, trivial⟩
theorem KR.tups {H H' : Hp} {kvs : List (Key × V)} {n m : Nat} {perm : List PyData} (h : KR H kvs n m perm) (s : ∀ a us, H a = some (.tup us) → H' a = some (.tup us)) : KR H' kvs n m perm :=
  ⟨h.ok, h.ri, fun b b0 b1 => Dh.tups s _ _ (getD_in h.kp _).1 (h.v b b0 b1), h.pn, h.kp⟩
theorem KR.put {H : Hp} {kvs : List (Key × V)} {n m : Nat} {perm : List PyData} (h : KR H kvs n m perm) {b : Int} (b0 : 0 ≤ b) (b1 : b < n) {d : PyData} {v : V} (hv : Dh H d v) (hd : Nice d) : KR H (putK kvs (.inl b) v) n (m + 1) (perm.set b.toNat d) := by
  refine ⟨h.ok.put b v, fun kv hkv i e => ?_, fun c c0 c1 => ?_, by rw [List.length_set, h.pn], fun x hx => ?_⟩
  · have hm : kv.1 ∈ (putK kvs (.inl b) v).map (·.1) := List.mem_map.mpr ⟨kv, hkv, rfl⟩
    rw [put_keys] at hm
    have old : kv.1 ∈ kvs.map (·.1) → 0 ≤ i ∧ i < n := fun z => by
      obtain ⟨kw, hkw, f⟩ := List.mem_map.mp z
      exact h.ri kw hkw i (by rw [f]; exact e)
    split at hm
    · exact old hm
    · rcases List.mem_append.mp hm with hm | hm
      · exact old hm
      · have z := List.mem_singleton.mp hm
        rw [e] at z
        have := Sum.inl.inj z
        omega
  · have pn := h.pn
    rw [valV_put]
    by_cases e : c = b
    · rw [e, if_pos rfl, List.getD_eq_getElem?_getD, List.getElem?_set_self (by omega)]
      exact hv
    · rw [if_neg (fun z => e (Sum.inl.inj z)), List.getD_eq_getElem?_getD, List.getElem?_set_ne (by omega), ← List.getD_eq_getElem?_getD]
      exact h.v c c0 c1
  · rcases List.mem_or_eq_of_mem_set hx with hx | hx
    · exact h.kp x hx
    · rw [hx]
      exact hd
structure PlAt (H : Hp) (d ka wl : Addr) (kvs : List (Key × V)) (us : List V) (n m : Nat) (perm : List PyData) (ws : List (Int × PyData)) : Prop where
  g : H d = some (.dK (pD n ka wl))
  k : H ka = some (.dK kvs)
  r : KR H kvs n m perm
  w : H wl = some (.lst us)
  dw : DhAll H (ws.map wD) us
  ne : d ≠ ka
  kw : ∀ x ∈ ws, (0 ≤ x.1 ∧ x.1 < n) ∧ Nice x.2
  sm : m + ws.length ≤ 1000
theorem PlAt.but {H H' : Hp} {d ka wl : Addr} {kvs : List (Key × V)} {us : List V} {n m : Nat} {perm : List PyData} {ws : List (Int × PyData)} {l : List Addr} (h : PlAt H d ka wl kvs us n m perm ws) (b : ButL l H H') (nt : NTup H l) (n1 : d ∉ l) (n2 : ka ∉ l) (n3 : wl ∉ l) : PlAt H' d ka wl kvs us n m perm ws :=
  ⟨b _ _ n1 h.g, b _ _ n2 h.k, h.r.tups (b.tups nt), b _ _ n3 h.w, DhAll.tups (b.tups nt) _ _ (kw_noL fun x hx => (h.kw x hx).2.1) h.dw, h.ne, h.kw, h.sm⟩
theorem ntup_nil {H : Hp} : NTup H [] := fun x hx => (by cases hx)
theorem PlAt.same {H H' : Hp} {d ka wl : Addr} {kvs : List (Key × V)} {us : List V} {n m : Nat} {perm : List PyData} {ws : List (Int × PyData)} (h : PlAt H d ka wl kvs us n m perm ws) (s : Same H H') : PlAt H' d ka wl kvs us n m perm ws :=
  h.but (l := []) (Same.but s) ntup_nil (by simp) (by simp) (by simp)
def spFail : Sp := fun vs H Q _ => ∃ (d ka wl fa : Addr) (kvs : List (Key × V)) (us : List V) (n m : Nat) (perm : List PyData) (ws : List (Int × PyData)) (fs : List Int), vs = [.ref d, .ref fa] ∧ PlAt H d ka wl kvs us n m perm ws ∧ H fa = some (.lst (fs.map V.int)) ∧ fs.length ≤ 100000 ∧
  ∀ kvs' wm H', PlAt H' d ka wm kvs' [] n (m + ws.length) (endW perm ws fs) [] → H wm = none → ButL [d, ka] H H' → Q .non H'
def spDue : Sp := fun vs H Q _ => ∃ (d ka wl : Addr) (kvs : List (Key × V)) (us : List V) (n m : Nat) (perm : List PyData) (ws : List (Int × PyData)) (b : Int), vs = [.ref d, .int b] ∧ PlAt H d ka wl kvs us n m perm ws ∧ 0 ≤ b ∧ b < n ∧
  ∀ v, Dh H (lastW b ws (perm.getD b.toNat .none)) v → Q v H
section
variable {P : Program} {w : World} {K : PySem.W.Frag} {mg : Str → Option Value} {base : Heap}
theorem ok_due {f : Addr} {fd : FuncData} (D : Def K mg "_law_device_due" s_device_due f fd) (b : Binds K fd ["_law_plain", "_law_block"] []) (T : Txt mg) : Cal P w K mg base 1 "_law_device_due" spDue [] := by
  refine cal0 D b .nil sc_device_due (fun vs H Q E h => ?_) (fun cdv A outer s H vs Q E hr h => ?_)
  · obtain ⟨d, ka, wl, kvs, us, n, m, perm, ws, b, rfl, _⟩ := h
    rfl
  obtain ⟨d, ka, wl, kvs, us, n, m, perm, ws, b, rfl, hp, b0, b1, q⟩ := h
  refine ⟨_, (pss_cons (ps_set (i := 2) sc_device_due.nd rfl (.inl rfl) (pe_dget1 (hu_of hr) (pe_dget (hu_of hr) (pv 0) pe_str (fun _ _ => rfl)) (pv 1) ⟨rfl, rfl, rfl, rfl⟩))
      (pss_cons (ps_mk (ps_for PassesOwn.never rfl (pi_list (pe_dget (hu_of hr) (pv 0) pe_str (fun _ _ => rfl))) (pg_name (i := 3) sc_device_due.nd rfl (.inl rfl))
      (pss_one (ps_mk (ps_if (pt_cmpR op_eq (pe_ix (ixT K rfl) (pv 3) pe_int (fun _ _ => rfl)) (pv 1) (nomark _))
      (pss_one (ps_set (i := 2) sc_device_due.nd rfl (.inl rfl) (pe_ix (ixT K rfl) (pv 3) pe_int (fun _ _ => rfl))))
      pss_nil)))))
      (pss_one (ps_ret (pv 2))))), ?_⟩
  have gw := hp.w
  have wl' := hp.dw.len
  rw [List.length_map] at wl'
  have sm := hp.sm
  have dv := hp.r.v b b0 b1
  walk_at "go"
  refine ⟨d, _, rfl, pD_k ▸ DGet.k (k := Sum.inr "kept") hp.g, ?_⟩
  refine ⟨ka, rfl, .inl ⟨_, .inl hp.k⟩, ?_⟩
  walk_at "go"
  refine ⟨_, DGet.k (k := .inl b) hp.k, ?_⟩
  generalize (valV kvs (Sum.inl b)).getD V.non = v0 at *
  walk_at "go"
  refine jnS (M := fun σ H' => H' = H ∧ ∃ v, Dh H (lastW b ws (perm.getD b.toNat .none)) v ∧ ∃ y3, σ = [sR d, sI b, some v, y3]) ?_ (fun N kk => ?_)
  · rintro σ H2 ⟨e2, v, hv, y3, rfl⟩
    subst e2
    walk_at "go"
    exact q v hv
  walk_at "go"
  refine ⟨d, _, rfl, pD_w ▸ DGet.k (k := Sum.inr "wait") hp.g, ?_⟩
  walk_at "go"
  refine ⟨⟨_, SqL.of gw⟩, for_list (K := K) (a := wl) (xs := us) (fun i σ H' => Ob (H' = H ∧ ∃ v e, Dh H e v ∧ lastW b (ws.drop i) e = lastW b ws (perm.getD b.toNat .none) ∧ ∃ y3, σ = [sR d, sI b, some v, y3])) (ob ⟨rfl, v0, _, dv, rfl, none, rfl⟩) (fun i σ H' _ h => by rw [(unob h).1]; exact SqL.of gw) ?_ ?_⟩
  · intro i v σ H2 hi h
    obtain ⟨e2, v1, d1, hv1, ed, y3, rfl⟩ := unob h
    subst e2
    clear h kk
    have hil : i < ws.length := by
      rw [← wl']
      exact (List.getElem?_eq_some_iff.mp hi).1
    obtain ⟨vt, et, dt⟩ := hp.dw.get (i := i) (d := wD ws[i]) (by rw [List.getElem?_map, List.getElem?_eq_getElem hil]; rfl)
    rw [hi] at et
    obtain rfl := Option.some.inj et
    rw [List.drop_eq_getElem_cons hil] at ed
    generalize ws[i] = x at *
    obtain ⟨k, e⟩ := x
    obtain ⟨ta, ts, rfl, gt, u1, r1, rfl, f1, u2, r2, rfl, f2, f3⟩ := dt
    cases (show u1 = _ from f1)
    cases (show r2 = _ from f3)
    have a0 : atI [V.int k, u2] 0 = some (.int k) := rfl
    have a1 : atI [V.int k, u2] 1 = some u2 := rfl
    walk_at "go"
    refine un ?_
    walk_at "go"
    refine ⟨_, _, _, _, rfl, rfl, SqT.of gt, a0, ?_⟩
    walk_at "go"
    refine ifEq (fun c => ?_) (fun c => ?_)
    · walk_at "go"
      refine ⟨_, _, _, _, rfl, rfl, SqT.of gt, a1, ?_⟩
      walk_at "go"
      refine ob ⟨rfl, u2, e, f2, ?_, _, rfl⟩
      rw [← ed]
      show _ = lastW b (ws.drop (i + 1)) (if k = b then e else d1)
      rw [if_pos c]
    · walk_at "go"
      refine ob ⟨rfl, v1, d1, hv1, ?_, _, rfl⟩
      rw [← ed]
      show _ = lastW b (ws.drop (i + 1)) (if k = b then e else d1)
      rw [if_neg c]
  · intro σ H2 h
    obtain ⟨e2, v, e, hv, ed, y3, rfl⟩ := unob h
    subst e2
    rw [wl', List.drop_length] at ed
    exact kk _ _ ⟨rfl, v, by rw [← ed]; exact hv, _, rfl⟩
theorem ok_failure {f : Addr} {fd : FuncData} (D : Def K mg "_law_device_failure" s_device_failure f fd) (b : Binds K fd ["_law_plain", "_law_fates"] []) (T : Txt mg) : Cal P w K mg base 1 "_law_device_failure" spFail [] := by
  refine cal0 D b .nil sc_device_failure (fun vs H Q E h => ?_) (fun cdv A outer s H vs Q E hr h => ?_)
  · obtain ⟨d, ka, wl, fa, kvs, us, n, m, perm, ws, fs, rfl, _⟩ := h
    rfl
  obtain ⟨d, ka, wl, fa, kvs, us, n, m, perm, ws, fs, rfl, hp, gf, lf, q⟩ := h
  refine ⟨_, (pss_cons (ps_mk (ps_for PassesOwn.never rfl (pi_range1 (by rfl) T.range (pa_cons (pe_callB (lenQ K rfl) (by rfl) T.len PySem.boot_len (pa_cons (pe_dget (hu_of hr) (pv 0) pe_str (fun _ _ => rfl)) pa_nil)) pa_nil)) (pg_name (i := 2) sc_device_failure.nd rfl (.inl rfl))
      (pss_cons (ps_set (i := 3) sc_device_failure.nd rfl (.inl rfl) (pe_ix (ixL K rfl) (pe_dget (hu_of hr) (pv 0) pe_str (fun _ _ => rfl)) (pv 2) (fun _ _ => rfl)))
      (pss_cons (ps_set (i := 4) sc_device_failure.nd rfl (.inl rfl) pe_int)
      (pss_cons (ps_mk (ps_if (pt_cmpR op_lt (pv 2) (pe_callB (lenQ K rfl) (by rfl) T.len PySem.boot_len (pa_cons (pv 1) pa_nil)) (nomark _))
      (pss_one (ps_set (i := 4) sc_device_failure.nd rfl (.inl rfl) (pe_ix (ixL K rfl) (pv 1) (pv 2) (fun _ _ => rfl))))
      pss_nil))
      (pss_cons (ps_mk (ps_if (pt_cmpR op_eq (pv 4) pe_int (nomark _))
      (pss_one (ps_dput (hu_of hr) (pe_dget (hu_of hr) (pv 0) pe_str (fun _ _ => rfl)) (pe_ix (ixT K rfl) (pv 3) pe_int (fun _ _ => rfl)) (pe_ix (ixT K rfl) (pv 3) pe_int (fun _ _ => rfl)) rfl))
      pss_nil))
      (pss_one (ps_mk (ps_if (pt_cmpR op_eq (pv 4) pe_int (nomark _))
      (pss_one (ps_dput (hu_of hr) (pe_dget (hu_of hr) (pv 0) pe_str (fun _ _ => rfl)) (pe_ix (ixT K rfl) (pv 3) pe_int (fun _ _ => rfl)) pe_non rfl))
      pss_nil)))))))))
      (pss_one (ps_dput (hu_of hr) (pv 0) pe_str (pe_lst pa_nil) rfl))), ?_⟩
  have gw := hp.w
  have wl' := hp.dw.len
  rw [List.length_map] at wl'
  have sm := hp.sm
  walk_at "go"
  refine jnS (M := fun σ H' => ∃ pm kv', ButL [ka] H H' ∧ H' ka = some (.dK kv') ∧ KR H' kv' n (m + ws.length) pm ∧ pm = endW perm ws fs ∧ ∃ y2 y3 y4, σ = [sR d, sR fa, y2, y3, y4]) ?_ (fun N kk => ?_)
  · rintro σ H2 ⟨pm, kv', b2, gk, kr, e, y2, y3, y4, rfl⟩
    have gp := b2 _ _ (by simpa using hp.ne) hp.g
    walk_at "go"
    refine ⟨sz, fun wm nwm => ?_⟩
    have s3 := same_upd (o := HO.lst []) nwm
    have gwm := upd_same (H := H2) (a := wm) (o := HO.lst [])
    have gp := s3 _ _ gp
    have ndw : d ≠ wm := ne_of_none (by assumption) nwm
    have nkw : ka ≠ wm := ne_of_none gk nwm
    have gk := s3 _ _ gk
    have nwm0 : H wm = none := by
      cases e : H wm with
      | none => rfl
      | some o =>
        have := b2 wm o (by simpa using nkw.symm) e
        rw [nwm] at this
        cases this
    have kr := kr.tups fun a us e => s3 _ _ e
    generalize upd H2 wm (HO.lst []) = H3 at *
    walk_at "go"
    refine ⟨d, _, rfl, DPut.k (k := Sum.inr "wait") gp (by show 3 < _; decide +kernel), ?_⟩
    rw [pD_pw]
    have bp : ButL [d] H3 (upd H3 d (HO.dK (pD n ka wm))) := ButL.put (by simp)
    have ntp : NTup H3 [d] := fun x hx us' z => by
      rw [List.mem_singleton.mp hx, gp] at z
      cases z
    refine q kv' wm _ ⟨upd_same, by rw [upd_ne hp.ne.symm]; exact gk, by rw [← e]; exact kr.tups (bp.tups ntp), by rw [upd_ne ndw.symm]; exact gwm, rfl, hp.ne, by simp, by simpa using sm⟩ nwm0 fun c o n e => ?_
    have n1 : c ≠ d := fun z => n (by simp [z])
    have n2 : c ≠ ka := fun z => n (by simp [z])
    rw [upd_ne n1]
    exact s3 _ _ (b2 c o (by simpa using n2) e)
  walk_at "go"
  refine ⟨d, _, rfl, pD_w ▸ DGet.k (k := Sum.inr "wait") hp.g, ?_⟩
  walk_at "go"
  rw [wl']
  refine ⟨by omega, by omega, for_range (lo := 0) (n := ws.length) (fun i σ H' => Ob (∃ pm kv', ButL [ka] H H' ∧ H' ka = some (.dK kv') ∧ KR H' kv' n (m + i) pm ∧ endW pm (ws.drop i) (fs.drop i) = endW perm ws fs ∧ ∃ y2 y3 y4, σ = [sR d, sR fa, y2, y3, y4])) (ob ⟨perm, kvs, fun _ _ _ e => e, hp.k, hp.r, rfl, none, none, none, rfl⟩) ?_ (fun σ H2 h => ?_)⟩
  rotate_left
  · obtain ⟨pm, kv', b2, gk, kr, ee, y2, y3, y4, rfl⟩ := unob h
    rw [List.drop_length] at ee
    exact kk _ _ ⟨pm, kv', b2, gk, kr, ee, _, _, _, rfl⟩
  intro i σ H2 hil h
  obtain ⟨pm, kv', b2, gk, kr, ee, y2, y3, y4, rfl⟩ := unob h
  clear h kk q
  rw [Int.zero_add]
  have nk : d ∉ [ka] := by simpa using hp.ne
  have gd2 := b2 _ _ nk hp.g
  have nwk : wl ∉ [ka] := fun z => by
    have := hp.w
    rw [List.mem_singleton.mp z, hp.k] at this
    cases this
  have nfk : fa ∉ [ka] := fun z => by
    have := gf
    rw [List.mem_singleton.mp z, hp.k] at this
    cases this
  have nt : NTup H [ka] := fun x hx us' z => by
    rw [List.mem_singleton.mp hx, hp.k] at z
    cases z
  have nt2 : NTup H2 [ka] := fun x hx us' z => by
    rw [List.mem_singleton.mp hx, gk] at z
    cases z
  have gw2 := b2 _ _ nwk gw
  have gf2 := b2 _ _ nfk gf
  have lk := kr.ok.len
  obtain ⟨vt, et, dt⟩ := hp.dw.get (i := i) (d := wD ws[i]) (by rw [List.getElem?_map, List.getElem?_eq_getElem hil]; rfl)
  have av : atI us (i : Int) = some vt := atI_nat et
  have bx := hp.kw _ (List.getElem_mem hil)
  rw [List.drop_eq_getElem_cons hil] at ee
  generalize ws[i] = x at *
  obtain ⟨k, e⟩ := x
  obtain ⟨ta, ts, rfl, gt, u1, r1, rfl, f1, u2, r2, rfl, f2, f3⟩ := dt
  cases (show u1 = _ from f1)
  cases (show r2 = _ from f3)
  have gt2 := b2.tups nt _ _ gt
  have f2 := Dh.tups (b2.tups nt) _ _ bx.2.1 f2
  have a0 : atI [V.int k, u2] 0 = some (.int k) := rfl
  have a1 : atI [V.int k, u2] 1 = some u2 := rfl
  walk_at "go"
  refine ⟨d, _, rfl, pD_w ▸ DGet.k (k := Sum.inr "wait") gd2, ?_⟩
  walk_at "go"
  refine ⟨_, _, _, _, rfl, rfl, SqL.of gw2, av, ?_⟩
  walk_at "go"
  refine jnS (M := fun σ H' => H' = H2 ∧ σ = [sR d, sR fa, sI i, sR ta, sI ((fs.drop i).headD 0)]) ?_ (fun N kk => ?_)
  rotate_left
  · walk_at "go"
    rw [List.length_map]
    refine ifD (fun c => ?_) (fun c => ?_)
    · have il : i < fs.length := by omega
      have hfv : (fs.drop i).headD 0 = fs[i] := by rw [List.drop_eq_getElem_cons il]; rfl
      walk_at "go"
      refine ⟨fa, _, _, _, rfl, rfl, SqL.of gf2, atI_nat (by rw [List.getElem?_map, List.getElem?_eq_getElem il]; rfl), ?_⟩
      walk_at "go"
      exact kk _ _ ⟨rfl, by rw [hfv]; rfl⟩
    · have hfv : (fs.drop i).headD 0 = 0 := by rw [List.drop_of_length_le (by omega)]; rfl
      exact kk _ _ ⟨rfl, by rw [hfv]; rfl⟩
  rintro σ H3 ⟨e3, rfl⟩
  subst e3
  have ee2 : endW (fateP ((fs.drop i).headD 0) k e pm) (ws.drop (i + 1)) (fs.drop (i + 1)) = endW perm ws fs := by
    rw [← ee]
    show _ = endW (fateP ((fs.drop i).headD 0) k e pm) (ws.drop (i + 1)) (fs.drop i).tail
    rw [List.tail_drop]
  generalize (fs.drop i).headD 0 = fv at *
  clear ee
  refine jnS (M := fun σ H' => ∃ pm2 kv2, ButL [ka] H3 H' ∧ H' ka = some (.dK kv2) ∧ KR H' kv2 n (m + (i + 1)) pm2 ∧ pm2 = (if fv = 1 then pm.set k.toNat e else pm) ∧ (fv = 2 → kv2.length ≤ m + i ∧ KR H' kv2 n (m + i) pm2) ∧ σ = [sR d, sR fa, sI i, sR ta, sI fv]) ?_ (fun N kk => ?_)
  rotate_left
  · walk_at "go"
    refine ifEq (fun c => ?_) (fun c => ?_)
    · walk_at "go"
      refine ⟨_, _, _, _, rfl, rfl, SqT.of gt2, a1, ?_⟩
      walk_at "go"
      refine ⟨d, _, rfl, pD_k ▸ DGet.k (k := Sum.inr "kept") gd2, ?_⟩
      walk_at "go"
      refine ⟨_, _, _, _, rfl, rfl, SqT.of gt2, a0, ?_⟩
      refine ⟨ka, _, rfl, DPut.k (k := Sum.inl k) gk (sz5 (by omega)), ?_⟩
      have bp := ButL.put (l := [ka]) (H := H3) (p := ka) (o := HO.dK (putK kv' (.inl k) u2)) (by simp)
      exact kk _ _ ⟨_, _, bp, upd_same, (kr.tups (bp.tups nt2)).put bx.1.1 bx.1.2 (Dh.tups (bp.tups nt2) _ _ bx.2.1 f2) bx.2, by rw [if_pos c], fun z => by omega, rfl⟩
    · exact kk _ _ ⟨pm, kv', fun _ _ _ e => e, gk, ⟨kr.ok.le (by omega), kr.ri, kr.v, kr.pn, kr.kp⟩, by rw [if_neg c], fun _ => ⟨lk, kr⟩, rfl⟩
  rintro σ H4 ⟨pm2, kv2, b4, gk4, kr4, epm, two, rfl⟩
  have gd4 := b4 _ _ nk gd2
  have gt4 := b4.tups nt2 _ _ gt2
  refine un ?_
  walk_at "go"
  refine ifEq (fun c => ?_) (fun c => ?_)
  · obtain ⟨lk4, kr5⟩ := two c
    have nt4 : NTup H4 [ka] := fun x hx us' z => by
      rw [List.mem_singleton.mp hx, gk4] at z
      cases z
    walk_at "go"
    refine ⟨d, _, rfl, pD_k ▸ DGet.k (k := Sum.inr "kept") gd4, ?_⟩
    walk_at "go"
    refine ⟨_, _, _, _, rfl, rfl, SqT.of gt4, a0, ?_⟩
    refine ⟨ka, _, rfl, DPut.k (k := Sum.inl k) gk4 (sz5 (by omega)), ?_⟩
    have bp := ButL.put (l := [ka]) (H := H4) (p := ka) (o := HO.dK (putK kv2 (.inl k) V.non)) (by simp)
    refine ob ⟨_, _, (b2.trans b4).trans bp, upd_same, (kr5.tups (bp.tups nt4)).put (d := .none) bx.1.1 bx.1.2 rfl ⟨rfl, trivial⟩, ?_, _, _, _, rfl⟩
    rw [← ee2, epm, if_neg (by omega)]
    unfold fateP
    rw [if_neg (by omega), if_pos c]
  · refine ob ⟨pm2, kv2, b2.trans b4, gk4, kr4, ?_, _, _, _, rfl⟩
    rw [← ee2, epm]
    unfold fateP
    rw [if_neg c]
end

end

section

-- a condition of an operator
local macro_rules | `(tactic| walk_at "cond") => `(tactic| first
  | (show (0 : Int) < _; omega)
  | (show CDiv _ _; constructor <;> (first | decide | omega))
  | (show CMul _ _; first | (refine cmul_l ?_; constructor <;> (first | decide | omega)) | (refine cmul_r ?_; constructor <;> (first | decide | omega)))
  | (show CPow _ _; exact (by refine ⟨by decide, by decide, by decide⟩))
  | (show CDivW _ _; exact ⟨by decide, by decide +kernel⟩))
local macro_rules | `(tactic| walk_at "sq") => `(tactic| first | assumption | exact Dh.mono (same_upd (by assumption)) _ _ (by assumption) | exact .inl (.inl (.inl (by assumption))) | exact .inr (.inl (.inl (by assumption))) | exact SqL.of (by assumption) | exact .inl (by assumption) | exact .inl (SqL.of (by assumption)) | exact SqT.of (by assumption) | exact .inr (SqT.of (by assumption)))
local macro_rules | `(tactic| walk_at "st") => `(tactic| first
  | refine ⟨_, rfl, ?_⟩
  | refine ⟨_, _, rfl, rfl, ?_⟩
  | refine .inl ⟨_, rfl, ?_⟩
  | refine ⟨rfl, ?_⟩
  | refine ⟨_, _, rfl, by walk_at "sq", ?_⟩
  | refine ⟨.inl ⟨rfl, _, SqL.of (by assumption)⟩, ?_⟩
  | refine ⟨by walk_at "cond", ?_⟩
  | (refine' ifBT ?hh ?_; (case hh => first | rfl | assumption))
  | (refine' ifBF ?hh ?_; (case hh => first | rfl | assumption)))
local macro_rules | `(tactic| walk_at "go") => `(tactic| repeat walk_at "st")
local macro_rules | `(tactic| walk_at "yes") => `(tactic| (refine' ifT ?hh ?_; (case hh => first | rfl | decide +kernel)))
local macro_rules | `(tactic| walk_at "no") => `(tactic| (refine' ifF ?hh ?_; (case hh => first | decide +kernel | (intro z; cases z; done))))

/-! ### holds -/
abbrev s_device_holds : Stmt := topS 24
theorem sc_device_holds : FnScope ["_law_device", "_law_plain", "_law_looked", "_law_pair", "_law_due", "_law_turn", "_law_told", "_law_block"] ["_law_device", "_law_plain"] (C8.fnScope s_device_holds) := C8.fnScope_by (by decide +kernel)
theorem dh_ints {H : Hp} : ∀ (ns : List Int), DhAll H (ns.map PyData.int) (ns.map V.int)
  | [] => rfl
  | n :: ns => ⟨.int n, ns.map V.int, rfl, rfl, dh_ints ns⟩
theorem dh_li {H : Hp} {p : Addr} {ns : List Int} (g : H p = some (.lst (ns.map V.int))) : Dh H (.list (ns.map PyData.int)) (.ref p) := ⟨p, _, rfl, g, dh_ints ns⟩
theorem dle_li {n : Nat} {ns : List Int} (h : ns.length ≤ 100000) : Dle (n + 2) (.list (ns.map PyData.int)) := ⟨by rw [List.length_map]; exact h, fun d m => by
  obtain ⟨i, _, rfl⟩ := List.mem_map.mp m
  exact trivial⟩
structure Ad where
  p : Addr
  pa : Addr
  wa : Addr
  dx : Addr
  d : Addr
  ka : Addr
  wl : Addr
def Ad.l (A : Ad) : List Addr := [A.p, A.pa, A.wa, A.d, A.ka, A.wl]
structure St (C : Addr) (H : Hp) (A : Ad) (n m : Nat) (perm : List PyData) (ws : List (Int × PyData)) : Prop where
  dv : ∃ pvs us, DvAt C H A.p A.pa A.wa A.dx pvs us perm ws
  pl : ∃ kvs us, PlAt H A.d A.ka A.wl kvs us n m perm ws
  w2 : A.wa ≠ A.wl
  a2 : A.pa ≠ A.wl
  n2 : 2 ≤ n
  n3 : n ≤ 1000
def spHolds (C : Addr) : Sp := fun vs H Q _ => ∃ (A : Ad) (n m : Nat) (perm : List PyData) (ws : List (Int × PyData)), vs = [.ref A.p, .ref A.d] ∧ St C H A n m perm ws ∧ ∀ H', Same H H' → Q (.bl true) H'
theorem lastW_nice (b : Int) : ∀ (ws : List (Int × PyData)) {d : PyData}, Nice d → (∀ x ∈ ws, Nice x.2) → Nice (lastW b ws d)
  | [], _, h, _ => h
  | (k, e) :: ws, d, h, hw => by
    show Nice (lastW b ws (if k = b then e else d))
    refine lastW_nice b ws ?_ fun x hx => hw x (List.mem_cons_of_mem _ hx)
    split
    · exact hw _ List.mem_cons_self
    · exact h
section
variable {P : Program} {w : World} {K : PySem.W.Frag} {mg : Str → Option Value} {base : Heap} {C DD : Addr}
theorem ok_holds {f : Addr} {fd : FuncData} (D : Def K mg "_law_device_holds" s_device_holds f fd) (b : Binds K fd ["_law_device", "_law_plain"] []) (T : Txt mg) (c_same : Cal P w K mg base 7 "_law_same" (spSame 6) []) (c_device_due : Cal P w K mg base 1 "_law_device_due" spDue [])
    (e_read : MetE P w K mg base 5 C "read" (spRead C DD)) (m_pending : C8.Met P w K mg base 1 C "pending" (spPend C) []) : Cal P w K mg base 8 "_law_device_holds" (spHolds C) [] := by
  refine cal0 D b .nil sc_device_holds (fun vs H Q E h => ?_) (fun cdv A0 outer s H vs Q E hr h => ?_)
  · obtain ⟨A, n, m, perm, ws, rfl, _⟩ := h
    rfl
  obtain ⟨A, n, m, perm, ws, rfl, hs, q⟩ := h
  refine ⟨_, (pss_cons (ps_set (i := 2) sc_device_holds.nd rfl (.inl rfl) (pe_op op_cat (pe_op op_cat (pe_lst (pa_cons pe_int (pa_cons pe_int (pa_cons (pe_op op_sub (pe_dget (hu_of hr) (pv 1) pe_str (fun _ _ => rfl)) pe_int) pa_nil)))) (pe_callTy (call_list_dK rfl) (by rfl) T.list (by decide +kernel) (pa_cons (pe_dget (hu_of hr) (pv 1) pe_str (fun _ _ => rfl)) pa_nil))) (pe_lc (own := [("_law_pair", 3)]) (g := gName 3) (tt := tYes) rfl sc_device_holds.nd (pi_list (pe_dget (hu_of hr) (pv 1) pe_str (fun _ _ => rfl))) (blkOk_by (own := [("_law_pair", 3)]) (N := ["_law_device", "_law_plain", "_law_looked", "_law_pair", "_law_due", "_law_turn", "_law_told", "_law_block"]) (sc := C8.fnScope s_device_holds) (by decide +kernel)) (fun _ _ _ _ _ => (pg_name (i := 3) sc_device_holds.nd rfl (.inl rfl))) (fun _ _ _ _ _ => pts_nil) (fun _ _ _ _ _ => (pe_ix (ixT K rfl) (pv 3) pe_int (fun _ _ => rfl))))))
      (pss_cons (ps_mk (ps_if (pt_cmpR op_lt (pe_dget (hu_of hr) (pv 1) pe_str (fun _ _ => rfl)) pe_int (nomark _))
      (pss_one (ps_set (i := 2) sc_device_holds.nd rfl (.inl rfl) (pe_listRg rfl (by rfl) T.list (prg_1 (by rfl) T.range (pe_dget (hu_of hr) (pv 1) pe_str (fun _ _ => rfl))))))
      pss_nil))
      (pss_cons (ps_setLc (i := 4) (own := [("_law_pair", 3)]) (g := gName 3) (tt := tYes) rfl sc_device_holds.nd rfl rfl (sw_true rfl rfl rfl (by decide +kernel)) (pi_list (pe_dget (hu_of hr) (pv 1) pe_str (fun _ _ => rfl))) (blkOk_by (own := [("_law_pair", 3)]) (N := ["_law_device", "_law_plain", "_law_looked", "_law_pair", "_law_due", "_law_turn", "_law_told", "_law_block"]) (sc := C8.fnScope s_device_holds) (by decide +kernel)) (fun _ _ _ _ _ => (pg_name (i := 3) sc_device_holds.nd rfl (.inl rfl))) (fun _ _ _ _ _ => pts_nil) (fun _ _ _ _ _ => (pe_ix (ixT K rfl) (pv 3) pe_int (fun _ _ => rfl))))
      (pss_cons (ps_mk (ps_for PassesOwn.never rfl (pi_range1 (by rfl) T.range (pa_cons pe_int pa_nil)) (pg_name (i := 5) sc_device_holds.nd rfl (.inl rfl))
      (pss_cons (ps_set (i := 6) sc_device_holds.nd rfl (.inl rfl) (C8.pe_mt0 m_pending hr (by omega) (pv 0)))
      (pss_cons (ps_mk (ps_if (pt_not (pt_val (C8.pe_c c_same hr (by omega) (by rfl) (pa_cons (pv 6) (pa_cons (pv 4) pa_nil)))))
      (pss_one (ps_ret pe_bl))
      pss_nil))
      (pss_one (ps_expr (pe_bm PySem.F.plainAttrs_list PySem.F.slot_list_append PySem.F.type_list_append mt_append (pv 6) (pa_cons pe_int pa_nil))))))))
      (pss_one (ps_ret (pe_cmpR op_eq (pe_callB (lenQ K rfl) (by rfl) T.len PySem.boot_len (pa_cons (pe_lc (own := [("_law_block", 7)]) (g := gName 7) rfl sc_device_holds.nd (pi_list (pv 2)) (blkOk_by (own := [("_law_block", 7)]) (N := ["_law_device", "_law_plain", "_law_looked", "_law_pair", "_law_due", "_law_turn", "_law_told", "_law_block"]) (sc := C8.fnScope s_device_holds) (by decide +kernel)) (fun _ _ _ _ _ => (pg_name (i := 7) sc_device_holds.nd rfl (.inl rfl))) (fun _ _ _ _ _ => (pts_one (pt_not (pt_val (C8.pe_c c_same hr (by omega) (by rfl) (pa_cons (pe_mE e_read takes0 hr (by omega) (pv 0) (pa_cons (pv 7) pa_nil)) (pa_cons (C8.pe_c c_device_due hr (by omega) (by rfl) (pa_cons (pv 1) (pa_cons (pv 7) pa_nil))) pa_nil))))))) (fun _ _ _ _ _ => (pv 7))) pa_nil)) pe_int (nomark _)))))))), ?_⟩
  have n2 := hs.n2
  have n3 := hs.n3
  obtain ⟨pvs, us, hc⟩ := hs.dv
  obtain ⟨kvs, ud, hp⟩ := hs.pl
  have sm := hp.sm
  have gw := hp.w
  have wl' := hp.dw.len
  rw [List.length_map] at wl'
  have lk := hp.r.ok.len
  walk_at "go"
  refine ⟨A.d, _, rfl, pD_c ▸ DGet.k (k := Sum.inr "count") hp.g, ?_⟩
  walk_at "go"
  refine ⟨sz, fun L1 nL1 => ?_⟩
  have s1 := same_upd (o := HO.lst [V.int 0, V.int 1, V.int ((n : Int) - 1)]) nL1
  have gL1 := upd_same (H := H) (a := L1) (o := HO.lst [V.int 0, V.int 1, V.int ((n : Int) - 1)])
  show _
  generalize upd H L1 (HO.lst [V.int 0, V.int 1, V.int ((n : Int) - 1)]) = H1 at *
  have hp1 := hp.same s1
  try dsimp only
  walk_at "go"
  refine ⟨A.d, _, rfl, pD_k ▸ DGet.k (k := Sum.inr "kept") hp1.g, ?_⟩
  walk_at "go"
  refine ⟨A.ka, kvs, rfl, hp1.k, fun L2 nL2 => ?_⟩
  obtain ⟨ks, eks⟩ : ∃ ks, ks = kvs.map fun kv => kV kv.1 := ⟨_, rfl⟩
  rw [← eks]
  have lks : ks.length ≤ 1000 := by
    rw [eks, List.length_map]
    omega
  have iks : ∀ v ∈ ks, ∃ i : Int, v = .int i ∧ 0 ≤ i ∧ i < n := fun v hv => by
    rw [eks] at hv
    obtain ⟨kv, hkv, rfl⟩ := List.mem_map.mp hv
    obtain ⟨i, ei⟩ := hp.r.ok.ki kv hkv
    have := hp.r.ri kv hkv i ei
    exact ⟨i, by rw [ei]; rfl, this⟩
  have s2 := s1.trans (same_upd (o := HO.lst ks) nL2)
  have gL2 := upd_same (H := H1) (a := L2) (o := HO.lst ks)
  have gL1 := same_upd (o := HO.lst ks) nL2 _ _ gL1
  show _
  generalize upd H1 L2 (HO.lst ks) = H2 at *
  try dsimp only
  walk_at "go"
  refine ⟨L1, L2, _, _, rfl, rfl, gL1, gL2, Nat.le_of_lt (sz5 (by show 3 + _ ≤ _; omega)), fun L3 nL3 => ?_⟩
  obtain ⟨xs, exs⟩ : ∃ xs, xs = [V.int 0, V.int 1, V.int ((n : Int) - 1)] ++ ks := ⟨_, rfl⟩
  rw [← exs]
  have lxs : xs.length ≤ 1003 := by
    rw [exs, List.length_append]
    show 3 + _ ≤ _
    omega
  have ixs : ∀ v ∈ xs, ∃ i : Int, v = .int i ∧ 0 ≤ i ∧ i < n := fun v hv => by
    rw [exs] at hv
    rcases List.mem_append.mp hv with hv | hv
    · simp only [List.mem_cons, List.not_mem_nil, or_false] at hv
      rcases hv with rfl | rfl | rfl
      · exact ⟨_, rfl, by omega, by omega⟩
      · exact ⟨_, rfl, by omega, by omega⟩
      · exact ⟨_, rfl, by omega, by omega⟩
    · exact iks v hv
  have s3 := s2.trans (same_upd (o := HO.lst xs) nL3)
  have gL3 := upd_same (H := H2) (a := L3) (o := HO.lst xs)
  show _
  generalize upd H2 L3 (HO.lst xs) = H3 at *
  clear exs eks gL1 gL2 iks lks nL1 nL2 s1 s2 hp1
  have hp3 := hp.same s3
  have gw3 := hp3.w
  try dsimp only
  walk_at "go"
  refine ⟨A.d, _, rfl, pD_w ▸ DGet.k (k := Sum.inr "wait") hp3.g, ?_⟩
  walk_at "go"
  refine ⟨⟨_, SqL.of gw3⟩, fun L4 nL4 => lc_list (K := K) (a := A.wl) (xs := ud) (fun i H' => Ob (Same H3 H' ∧ H' L4 = some (.lst (((ws.take i).map (·.1)).map V.int)))) (ob ⟨same_upd nL4, upd_same⟩) (fun i H' _ h => SqL.of ((unob h).1 _ _ gw3)) ?_ ?_⟩
  · intro i v H7 hi h
    obtain ⟨s7, g7⟩ := unob h
    clear h
    have hil : i < ws.length := by
      rw [← wl']
      exact (List.getElem?_eq_some_iff.mp hi).1
    obtain ⟨vt, et, dt⟩ := hp3.dw.get (i := i) (d := wD ws[i]) (by rw [List.getElem?_map, List.getElem?_eq_getElem hil]; rfl)
    rw [hi] at et
    obtain rfl := Option.some.inj et
    have ek : ((ws.take (i + 1)).map (·.1)).map V.int = ((ws.take i).map (·.1)).map V.int ++ [V.int ws[i].1] := by
      rw [List.take_add_one, List.getElem?_eq_getElem hil, List.map_append, List.map_append]
      rfl
    rw [ek]
    generalize ws[i] = x at *
    obtain ⟨k, e⟩ := x
    obtain ⟨ta, ts, rfl, gt, u1, r1, rfl, f1, u2, r2, rfl, f2, f3⟩ := dt
    cases (show u1 = _ from f1)
    cases (show r2 = _ from f3)
    have gt2 := s7 _ _ gt
    have a0 : atI [V.int k, u2] 0 = some (.int k) := rfl
    walk_at "go"
    refine ⟨_, _, _, _, rfl, rfl, SqT.of gt2, a0, ?_⟩
    refine ⟨_, g7, sz5 (by rw [List.length_map, List.length_map, List.length_take]; omega), ob ⟨same_put s7 nL4, upd_same⟩⟩
  intro H4 h
  obtain ⟨s7, gL4⟩ := unob h
  rw [wl', List.take_length] at gL4
  clear h
  have gL3 := s7 _ _ gL3
  have s4 := s3.trans s7
  clear s7 hp3 gw3 s3 nL3 nL4
  try dsimp only
  walk_at "go"
  refine ⟨L3, L4, _, _, rfl, rfl, gL3, gL4, Nat.le_of_lt (sz5 (by rw [List.length_map, List.length_map]; omega)), fun L5 nL5 => ?_⟩
  obtain ⟨ys, eys⟩ : ∃ ys, ys = xs ++ (ws.map (·.1)).map V.int := ⟨_, rfl⟩
  rw [← eys]
  have lys : ys.length ≤ 2003 := by
    rw [eys, List.length_append, List.length_map, List.length_map]
    omega
  have iys : ∀ v ∈ ys, ∃ i : Int, v = .int i ∧ 0 ≤ i ∧ i < n := fun v hv => by
    rw [eys] at hv
    rcases List.mem_append.mp hv with hv | hv
    · exact ixs v hv
    · obtain ⟨i, hi, rfl⟩ := List.mem_map.mp hv
      obtain ⟨x, hx, rfl⟩ := List.mem_map.mp hi
      exact ⟨_, rfl, (hp.kw x hx).1⟩
  have s5 := s4.trans (same_upd (o := HO.lst ys) nL5)
  have gL5 := upd_same (H := H4) (a := L5) (o := HO.lst ys)
  show _
  generalize upd H4 L5 (HO.lst ys) = H5 at *
  clear eys gL3 gL4 ixs lxs s4 nL5
  have hp5 := hp.same s5
  try dsimp only
  walk_at "go"
  refine jnS (M := fun σ H' => Same H H' ∧ ∃ L zs y3, H' L = some (.lst zs) ∧ zs.length ≤ 2003 ∧ (∀ v ∈ zs, ∃ i : Int, v = .int i ∧ 0 ≤ i ∧ i < n) ∧ σ = [sR A.p, sR A.d, sR L, y3, none, none, none, none]) ?_ (fun N kk => ?_)
  rotate_left
  · walk_at "go"
    refine ⟨A.d, _, rfl, pD_c ▸ DGet.k (k := Sum.inr "count") hp5.g, ?_⟩
    walk_at "go"
    refine ifD (fun c => ?_) (fun c => ?_)
    · walk_at "go"
      refine ⟨A.d, _, rfl, pD_c ▸ DGet.k (k := Sum.inr "count") hp5.g, ?_⟩
      refine ⟨_, rfl, ?_⟩
      refine ⟨⟨by omega, by omega, by omega, by omega, by omega⟩, fun R nR => ?_⟩
      refine kk _ _ ⟨s5.trans (same_upd nR), R, _, _, upd_same, by rw [rgV_length]; omega, fun v hv => ?_, rfl⟩
      unfold rgV at hv
      obtain ⟨i, hi, rfl⟩ := List.mem_map.mp hv
      have := List.mem_range.mp hi
      exact ⟨_, rfl, by omega, by omega⟩
    · exact kk _ _ ⟨s5, L5, ys, _, gL5, lys, iys, rfl⟩
  clear s5 gL5 hp5 iys lys
  rintro σ H6 ⟨s6, L, zs, y3, gL, lz, iz, rfl⟩
  have hp6 := hp.same s6
  have hc6 := hc.same s6
  have gw6 := hp6.w
  walk_at "go"
  refine ⟨A.d, _, rfl, pD_w ▸ DGet.k (k := Sum.inr "wait") hp6.g, ?_⟩
  walk_at "go"
  refine ⟨⟨_, SqL.of gw6⟩, fun L7 nL7 => lc_list (K := K) (a := A.wl) (xs := ud) (fun i H' => Ob (Same H6 H' ∧ H' L7 = some (.lst (((ws.take i).map (·.1)).map V.int)))) (ob ⟨same_upd nL7, upd_same⟩) (fun i H' _ h => SqL.of ((unob h).1 _ _ gw6)) ?_ ?_⟩
  · intro i v H7 hi h
    obtain ⟨s7, g7⟩ := unob h
    clear h
    have hil : i < ws.length := by
      rw [← wl']
      exact (List.getElem?_eq_some_iff.mp hi).1
    obtain ⟨vt, et, dt⟩ := hp6.dw.get (i := i) (d := wD ws[i]) (by rw [List.getElem?_map, List.getElem?_eq_getElem hil]; rfl)
    rw [hi] at et
    obtain rfl := Option.some.inj et
    have ek : ((ws.take (i + 1)).map (·.1)).map V.int = ((ws.take i).map (·.1)).map V.int ++ [V.int ws[i].1] := by
      rw [List.take_add_one, List.getElem?_eq_getElem hil, List.map_append, List.map_append]
      rfl
    rw [ek]
    generalize ws[i] = x at *
    obtain ⟨k, e⟩ := x
    obtain ⟨ta, ts, rfl, gt, u1, r1, rfl, f1, u2, r2, rfl, f2, f3⟩ := dt
    cases (show u1 = _ from f1)
    cases (show r2 = _ from f3)
    have gt2 := s7 _ _ gt
    have a0 : atI [V.int k, u2] 0 = some (.int k) := rfl
    walk_at "go"
    refine ⟨_, _, _, _, rfl, rfl, SqT.of gt2, a0, ?_⟩
    refine ⟨_, g7, sz5 (by rw [List.length_map, List.length_map, List.length_take]; omega), ob ⟨same_put s7 nL7, upd_same⟩⟩
  intro H8 h
  obtain ⟨s7, gL7⟩ := unob h
  rw [wl', List.take_length] at gL7
  clear h
  have gL := s7 _ _ gL
  have s8 := s6.trans s7
  clear s7 hp6 gw6 hc6 s6 nL7
  have hp8 := hp.same s8
  have hc8 := hc.same s8
  try dsimp only
  walk_at "go"
  obtain ⟨bs, ebs⟩ : ∃ bs, bs = ws.map (·.1) := ⟨_, rfl⟩
  rw [← ebs] at gL7
  have lbs : bs.length ≤ 1000 := by
    rw [ebs, List.length_map]
    omega
  walk_at "go"
  refine jnS (M := fun σ H' => Same H8 H' ∧ ∃ y5 y6 y3, σ = [sR A.p, sR A.d, sR L, y3, sR L7, y5, y6, none]) ?_ (fun N kk => ?_)
  rotate_left
  · walk_at "go"
    refine ⟨by omega, by omega, for_range (lo := 0) (n := 2) (fun i σ H' => Ob (Same H8 H' ∧ ∃ y5 y6 y3, σ = [sR A.p, sR A.d, sR L, y3, sR L7, y5, y6, none])) (ob ⟨same_rfl, none, none, _, rfl⟩) ?_ (fun σ H' h => ?_)⟩
    rotate_left
    · obtain ⟨s9, y5, y6, y3, rfl⟩ := unob h
      exact kk _ _ ⟨s9, _, _, _, rfl⟩
    intro i σ H9 hi h
    obtain ⟨s9, y5, y6, y3, rfl⟩ := unob h
    clear h kk
    have hc9 := hc8.same s9
    walk_at "go"
    refine ⟨A.p, A.dx, _, rfl, hc9.g, dv_no6, ?_⟩
    walk_at "go"
    refine ⟨A.p, A.pa, A.wa, A.dx, pvs, us, perm, ws, rfl, hc9, fun l H10 s10 nl gl => ?_⟩
    rw [← ebs] at gl
    have gL7' := s10 _ _ (s9 _ _ gL7)
    refine un ?_
    walk_at "go"
    refine ⟨_, _, .list (bs.map .int), .list (bs.map .int), rfl, dh_li gl, dh_li gL7', dle_li (by omega), fun b H11 hb s11 => ?_⟩
    obtain rfl := hb.mpr rfl
    have gl := s11 _ _ gl
    walk_at "go"
    refine ⟨l, _, _, rfl, rfl, gl, sz5 (by rw [List.length_map]; omega), ?_⟩
    exact ob ⟨same_put (s9.trans (s10.trans s11)) (s9.free nl), _, _, _, rfl⟩
  clear gL7 lbs ebs
  rintro σ H9 ⟨s9, y5, y6, y3, rfl⟩
  have hp9 := hp8.same s9
  have hc9 := hc8.same s9
  have gL9 := s9 _ _ gL
  have s10 := s8.trans s9
  clear hp8 hc8 gL s9 s8
  walk_at "go"
  refine ⟨⟨_, SqL.of gL9⟩, fun R nR => lc_list (K := K) (a := L) (xs := zs) (fun i H' => Ob (Same H9 H' ∧ H' R = some (.lst []))) (ob ⟨same_upd nR, upd_same⟩) (fun i H' _ h => SqL.of ((unob h).1 _ _ gL9)) ?_ ?_⟩
  · intro i v H11 hi h
    obtain ⟨s11, g11⟩ := unob h
    clear h
    obtain ⟨bk, rfl, b0, b1⟩ := iz v (List.mem_of_getElem? hi)
    have hc11 := hc9.same s11
    have hp11 := hp9.same s11
    have pl := hp11.r.pn
    have nk := getD_in hp11.r.kp bk.toNat
    walk_at "go"
    refine ⟨A.p, A.dx, _, rfl, hc11.g, dv_no3, ?_⟩
    walk_at "go"
    refine ⟨A.p, A.pa, A.wa, A.dx, pvs, us, perm, ws, bk, rfl, hc11, by omega, by omega, fun _ v1 d1 => ?_, fun z => absurd ⟨b0, by omega⟩ z⟩
    walk_at "go"
    refine ⟨A.d, A.ka, A.wl, kvs, ud, n, m, perm, ws, bk, rfl, hp11, b0, b1, fun v2 d2 => ?_⟩
    walk_at "go"
    refine ⟨v1, v2, _, _, rfl, d1, d2, (lastW_nice bk ws nk fun x hx => (hp11.kw x hx).2).2, fun b H12 hb s12 => ?_⟩
    obtain rfl := hb.mpr rfl
    walk_at "go"
    exact ob ⟨s11.trans s12, s12 _ _ g11⟩
  intro H11 h
  obtain ⟨s11, g11⟩ := unob h
  walk_at "go"
  exact q _ (s10.trans s11)
end

end

section

-- a condition of an operator
local macro_rules | `(tactic| walk_at "cond") => `(tactic| first
  | (show (0 : Int) < _; omega)
  | (show CDiv _ _; constructor <;> (first | decide | omega))
  | (show CMul _ _; first | (refine cmul_l ?_; constructor <;> (first | decide | omega)) | (refine cmul_r ?_; constructor <;> (first | decide | omega)))
  | (show CPow _ _; exact (by refine ⟨by decide, by decide, by decide⟩))
  | (show CDivW _ _; exact ⟨by decide, by decide +kernel⟩))
local macro_rules | `(tactic| walk_at "sq") => `(tactic| first | assumption | exact Dh.mono (same_upd (by assumption)) _ _ (by assumption) | exact .inl (.inl (.inl (by assumption))) | exact .inr (.inl (.inl (by assumption))) | exact SqL.of (by assumption) | exact .inl (by assumption) | exact .inl (SqL.of (by assumption)) | exact SqT.of (by assumption) | exact .inr (SqT.of (by assumption)))
local macro_rules | `(tactic| walk_at "st") => `(tactic| first
  | refine ⟨_, rfl, ?_⟩
  | refine ⟨_, _, rfl, rfl, ?_⟩
  | refine .inl ⟨_, rfl, ?_⟩
  | refine ⟨rfl, ?_⟩
  | refine ⟨_, _, rfl, by walk_at "sq", ?_⟩
  | refine ⟨.inl ⟨rfl, _, SqL.of (by assumption)⟩, ?_⟩
  | refine ⟨by walk_at "cond", ?_⟩
  | (refine' ifBT ?hh ?_; (case hh => first | rfl | assumption))
  | (refine' ifBF ?hh ?_; (case hh => first | rfl | assumption)))
local macro_rules | `(tactic| walk_at "go") => `(tactic| repeat walk_at "st")
local macro_rules | `(tactic| walk_at "yes") => `(tactic| (refine' ifT ?hh ?_; (case hh => first | rfl | decide +kernel)))
local macro_rules | `(tactic| walk_at "no") => `(tactic| (refine' ifF ?hh ?_; (case hh => first | decide +kernel | (intro z; cases z; done))))

/-! ### refuses -/
abbrev s_device_refuses : Stmt := topS 25
theorem sc_device_refuses : FnScope ["_law_device", "_law_block", "_law_content", "_law_told", "e", "_law_others"] ["_law_device", "_law_block", "_law_content"] (C8.fnScope s_device_refuses) := C8.fnScope_by (by decide +kernel)
/-- a method of a built-in, the written part by a letter (for an except clause) -/
theorem pe_bmK {X : Cx} (K : PySem.W.Frag) (hK : X.K = K) {o e : Expr} {es : List Expr} {to : TE} {t : TA} {name : Str} {apos cpos : Pos} {T id : String} {r : V → List V → Hp → VK → Prop} (pa : PlainAttrs T) (slot : Slot T name id) (hty : typeOf (.builtin id) = pure (.type "method_descriptor")) (hm : MtR X id r) (ho : PE X o to) (ha : PA X (e :: es) t)
    (hbase : attributeBase o name X.env (eval o X.env) = eval o X.env := by rfl)
    (hfew : ((backTo cpos (starEach (e :: es) X.env)).all (fun x => !x.1) && (backToKw cpos (keywordEach [] X.env)).all (fun x => x.1.isSome)
      && decide ((e :: es).length + ([] : List Keyword).length + (if ([] : List Keyword).isEmpty then 0 else 1) < 30)) = true := by rfl)
    (hline : (apos.endLine == cpos.line) = true := by rfl) (hs : starEach (e :: es) X.env = (false, eval e X.env) :: starEach es X.env := by rfl) (hplain : (backTo cpos (starEach es X.env)).any (·.1) = false := by rfl) :
    PE X (.Call (.Attribute o name apos) (e :: es) [] cpos) (tBM K T r to t) := by
  subst hK
  exact pe_bm pa slot hty hm ho ha hbase hfew hline hs hplain
/-- what the top says of the errors -/
structure ETx (K : PySem.W.Frag) (mg : Str → Option Value) (D AE PgE U DN BF LE ME FE CE : Addr) : Prop where
  mB : mg "BadRange" = some (.ref D)
  mA : mg "AccessError" = some (.ref AE)
  mP : mg "PagesError" = some (.ref PgE)
  mU : mg "Unmapped" = some (.ref U)
  mD : mg "Denied" = some (.ref DN)
  mBF : mg "BeyondFile" = some (.ref BF)
  mL : mg "LimitError" = some (.ref LE)
  mM : mg "MissingError" = some (.ref ME)
  mF : mg "FileError" = some (.ref FE)
  mC : mg "CodeError" = some (.ref CE)
  zV : mg "ValueError" = none
  zI : mg "isinstance" = none
  xc : ExcC K D
  xf : XfC K D
  nS : PySem.W.findIn K (.ref D) "start" = some none
  nE : PySem.W.findIn K (.ref D) "end" = some none
  eDD : PySem.W.exmOne K (.ref D) (.ref D) = some true
  eDA : PySem.W.exmOne K (.ref D) (.ref AE) = some true
  iDD : PySem.W.kitOne K (.ref D) (.ref D) = some true
  iDP : PySem.W.kitOne K (.ref D) (.ref PgE) = some true
  iDV : PySem.W.kitOne K (.ref D) (.type "ValueError") = some true
  iDN : PySem.W.kitAny K (.ref D) [.ref U, .ref DN, .ref BF, .ref LE, .ref ME, .ref FE, .ref CE] = some false
theorem br_start {i j : Int} : (brF i j).lookup ("start" : Str) = some (.int i) := by kernel_rfl
theorem br_end {i j : Int} : (brF i j).lookup ("end" : Str) = some (.int j) := by kernel_rfl
def spRefu (C : Addr) : Sp := fun vs H Q _ => ∃ (p pa wa dx : Addr) (pvs us : List V) (perm : List PyData) (ws : List (Int × PyData)) (b : Int) (v : V) (d : PyData), vs = [.ref p, .int b, v] ∧ DvAt C H p pa wa dx pvs us perm ws ∧ -(10 ^ 8) ≤ b ∧ b ≤ 10 ^ 8 ∧ Dh H d v ∧ noL d = true ∧ ws.length < 1000 ∧ ¬ (0 ≤ b ∧ b < perm.length) ∧
  ∀ H', Same H H' → Q (.bl true) H'
section
variable {P : Program} {w : World} {K : PySem.W.Frag} {mg : Str → Option Value} {base : Heap} {C DD AE PgE U DN BF LE ME FE CE : Addr}
theorem ok_refuses {f : Addr} {fd : FuncData} (Df : Def K mg "_law_device_refuses" s_device_refuses f fd) (b : Binds K fd ["_law_device", "_law_block", "_law_content"] []) (T : Txt mg) (TE : ETx K mg DD AE PgE U DN BF LE ME FE CE) (c_same : Cal P w K mg base 7 "_law_same" (spSame 6) [])
    (e_read : MetE P w K mg base 5 C "read" (spRead C DD)) (e_write : MetE P w K mg base 5 C "write" (spWrite C DD)) : Cal P w K mg base 8 "_law_device_refuses" (spRefu C) [] := by
  refine cal0 Df b .nil sc_device_refuses (fun vs H Q E h => ?_) (fun cdv A outer s H vs Q E hr h => ?_)
  · obtain ⟨p, pa, wa, dx, pvs, us, perm, ws, b, v, d, rfl, _⟩ := h
    rfl
  obtain ⟨p, pa, wa, dx, pvs, us, perm, ws, b, v, d, rfl, hc, b0, b1, hv, hd, hw, out, q⟩ := h
  refine ⟨_, (pss_cons (ps_set (i := 3) sc_device_refuses.nd rfl (.inl rfl) (pe_lst pa_nil))
      (pss_cons (ps_mk (ps_try_m (i := 4) rfl rfl sc_device_refuses.nd rfl rfl ⟨rfl, by decide, Or.inl TE.mB⟩ takes0 (fun W pn xe tk _ =>
      (pss_one (ps_expr (pe_mE e_read tk hr (by omega) (pv 0) (pa_cons (pv 1) pa_nil)))))
      (fun a oe cls d pn hz hf =>
      (pss_one (ps_expr (pe_bmK K rfl PySem.F.plainAttrs_list PySem.F.slot_list_append PySem.F.type_list_append mt_append (pv 3) (pa_cons (pe_tup (pa_cons (pe_xf TE.xf TE.nS hz hf (pv 4)) (pa_cons (pe_xf TE.xf TE.nE hz hf (pv 4)) pa_nil))) pa_nil)))))))
      (pss_cons (ps_mk (ps_try_m (i := 4) rfl rfl sc_device_refuses.nd rfl rfl ⟨rfl, by decide, Or.inl TE.mA⟩ takes0 (fun W pn xe tk _ =>
      (pss_one (ps_expr (pe_mE e_write tk hr (by omega) (pv 0) (pa_cons (pv 1) (pa_cons (pv 2) pa_nil))))))
      (fun a oe cls d pn hz hf =>
      (pss_cons (ps_set (i := 5) sc_device_refuses.nd rfl (.inl rfl) (pe_callB (call_isXT K rfl TE.xc hz hf) (by rfl) T.isinstance (by decide +kernel) (pa_cons (pv 4) (pa_cons (pe_tup (pa_cons (pe_glob (v := V.ref U) (by rfl) TE.mU rfl) (pa_cons (pe_glob (v := V.ref DN) (by rfl) TE.mD rfl) (pa_cons (pe_glob (v := V.ref BF) (by rfl) TE.mBF rfl) (pa_cons (pe_glob (v := V.ref LE) (by rfl) TE.mL rfl) (pa_cons (pe_glob (v := V.ref ME) (by rfl) TE.mM rfl) (pa_cons (pe_glob (v := V.ref FE) (by rfl) TE.mF rfl) (pa_cons (pe_glob (v := V.ref CE) (by rfl) TE.mC rfl) pa_nil)))))))) pa_nil))))
      (pss_one (ps_mk (ps_if (PW.pt (pw_and (pt_val (pe_callB (call_isX K rfl TE.xc hz hf) (by rfl) T.isinstance (by decide +kernel) (pa_cons (pv 4) (pa_cons (pe_glob (v := V.ref DD) (by rfl) TE.mB rfl) pa_nil)))) (pw_and (pt_val (pe_callB (call_isX K rfl TE.xc hz hf) (by rfl) T.isinstance (by decide +kernel) (pa_cons (pv 4) (pa_cons (pe_glob (v := V.ref PgE) (by rfl) TE.mP rfl) pa_nil)))) (pw_and (pt_val (pe_callB (call_isX K rfl TE.xc hz hf) (by rfl) T.isinstance (by decide +kernel) (pa_cons (pv 4) (pa_cons (pe_bltn (v := .ty "ValueError") (by rfl) TE.zV (by decide +kernel) rfl) pa_nil)))) (pw_and1 (pt_not (pt_val (pv 5))))))))
      (pss_one (ps_expr (pe_bmK K rfl PySem.F.plainAttrs_list PySem.F.slot_list_append PySem.F.type_list_append mt_append (pv 3) (pa_cons (pe_tup (pa_cons (pe_xf TE.xf TE.nS hz hf (pv 4)) (pa_cons (pe_xf TE.xf TE.nE hz hf (pv 4)) pa_nil))) pa_nil))))
      pss_nil)))))))
      (pss_one (ps_ret (C8.pe_c c_same hr (by omega) (by rfl) (pa_cons (pv 3) (pa_cons (pe_lst (pa_cons (pe_tup (pa_cons (pv 1) (pa_cons (pe_op op_add (pv 1) pe_int) pa_nil))) (pa_cons (pe_tup (pa_cons (pv 1) (pa_cons (pe_op op_add (pv 1) pe_int) pa_nil))) pa_nil))) pa_nil)))))))), ?_⟩
  walk_at "go"
  refine ⟨sz, fun L nL => ?_⟩
  have nL0 := nL
  have s1 := same_upd (o := HO.lst []) nL
  have gL := upd_same (H := H) (a := L) (o := HO.lst [])
  show _
  generalize upd H L (HO.lst []) = H1 at *
  try dsimp only
  walk_at "go"
  refine jnS (M := fun σ H' => ∃ r1, Same H H' ∧ H' L = some (.lst [.ref r1]) ∧ H' r1 = some (.tup [.int b, .int (b + 1)]) ∧ σ = [sR p, sI b, some v, sR L, none, none]) ?_ (fun N kk => ?_)
  rotate_left
  · intro W hW
    have key : ∀ d, H1 d = none → W (.ref DD) (some d) [sR p, sI b, some v, sR L, none, none] (upd H1 d (.xd (brF b (b + 1)))) := fun d nd => hW _ _ _ _ (catch_yes TE.eDD fun a na => by
      have s2 := s1.trans (same_upd (o := HO.xd (brF b (b + 1))) nd)
      have gd := upd_same (H := H1) (a := d) (o := HO.xd (brF b (b + 1)))
      have gL := same_upd (o := HO.xd (brF b (b + 1))) nd _ _ gL
      clear hW
      generalize upd H1 d (HO.xd (brF b (b + 1))) = H2 at *
      walk_at "go"
      refine ⟨d, _, .int b, rfl, gd, br_start, ?_⟩
      walk_at "go"
      refine ⟨d, _, .int (b + 1), rfl, gd, br_end, ?_⟩
      walk_at "go"
      refine ⟨sz, fun r nr => ?_⟩
      have s3 := s2.trans (same_upd (o := HO.tup [V.int b, V.int (b + 1)]) nr)
      have gL3 := same_upd (o := HO.tup [V.int b, V.int (b + 1)]) nr _ _ gL
      have nrL : r ≠ L := (ne_of_none gL nr).symm
      have gr := upd_same (H := H2) (a := r) (o := HO.tup [V.int b, V.int (b + 1)])
      show _
      generalize upd H2 r (HO.tup [V.int b, V.int (b + 1)]) = H3 at *
      walk_at "go"
      refine ⟨L, _, _, rfl, rfl, gL3, sz5 (by simp), ?_⟩
      exact kk _ _ ⟨r, same_put s3 nL, upd_same, by rw [upd_ne nrL]; exact gr, rfl⟩)
    have hc1 := hc.same s1
    walk_at "go"
    refine ⟨p, dx, _, rfl, hc1.g, dv_no3, ?_⟩
    walk_at "go"
    exact ⟨p, pa, wa, dx, pvs, us, perm, ws, b, rfl, hc1, b0, b1, fun z => absurd z out, fun _ d nd => key d nd⟩
  clear gL nL s1
  rintro σ H2 ⟨r1, s2, gL2, g1, rfl⟩
  have nrL : r1 ≠ L := fun z => by
    rw [z, gL2] at g1
    cases g1
  refine jnS (M := fun σ H' => ∃ r1 r2, Same H H' ∧ H' L = some (.lst [.ref r1, .ref r2]) ∧ H' r1 = some (.tup [.int b, .int (b + 1)]) ∧ H' r2 = some (.tup [.int b, .int (b + 1)]) ∧ ∃ y5, σ = [sR p, sI b, some v, sR L, none, y5]) ?_ (fun N kk => ?_)
  rotate_left
  · intro W hW
    have key : ∀ d, H2 d = none → W (.ref DD) (some d) [sR p, sI b, some v, sR L, none, none] (upd H2 d (.xd (brF b (b + 1)))) := fun d nd => hW _ _ _ _ (catch_yes TE.eDA fun a na => by
      have sx := same_upd (o := HO.xd (brF b (b + 1))) nd
      have s3 := s2.trans sx
      have gd := upd_same (H := H2) (a := d) (o := HO.xd (brF b (b + 1)))
      have gL := sx _ _ gL2
      have g1 := sx _ _ g1
      clear hW
      generalize upd H2 d (HO.xd (brF b (b + 1))) = H3 at *
      walk_at "go"
      refine ⟨sz, fun tp ntp => ?_⟩
      have st := same_upd (o := HO.tup [V.ref U, V.ref DN, V.ref BF, V.ref LE, V.ref ME, V.ref FE, V.ref CE]) ntp
      walk_at "go"
      refine ⟨d, tp, _, _, false, _, rfl, rfl, upd_same, .cons (.own U) (.cons (.own DN) (.cons (.own BF) (.cons (.own LE) (.cons (.own ME) (.cons (.own FE) (.cons (.own CE) .nil)))))), st _ _ gd, TE.iDN, ?_⟩
      have gd := st _ _ gd
      have gL := st _ _ gL
      have g1 := st _ _ g1
      have s4 := s3.trans st
      clear sx s3
      generalize upd H3 tp (HO.tup [V.ref U, V.ref DN, V.ref BF, V.ref LE, V.ref ME, V.ref FE, V.ref CE]) = H4 at *
      walk_at "go"
      refine un ?_
      walk_at "go"
      refine ⟨d, _, _, true, _, rfl, rfl, .own DD, gd, TE.iDD, ?_⟩
      walk_at "go"
      refine ⟨d, _, _, true, _, rfl, rfl, .own PgE, gd, TE.iDP, ?_⟩
      walk_at "go"
      refine ⟨d, _, _, true, _, rfl, rfl, .ty "ValueError", gd, TE.iDV, ?_⟩
      walk_at "go"
      refine ⟨d, _, .int b, rfl, gd, br_start, ?_⟩
      walk_at "go"
      refine ⟨d, _, .int (b + 1), rfl, gd, br_end, ?_⟩
      walk_at "go"
      refine ⟨sz, fun r nr => ?_⟩
      have s5 := s4.trans (same_upd (o := HO.tup [V.int b, V.int (b + 1)]) nr)
      have gL3 := same_upd (o := HO.tup [V.int b, V.int (b + 1)]) nr _ _ gL
      have g1 := same_upd (o := HO.tup [V.int b, V.int (b + 1)]) nr _ _ g1
      have nr2 : r ≠ L := (ne_of_none gL nr).symm
      have gr := upd_same (H := H4) (a := r) (o := HO.tup [V.int b, V.int (b + 1)])
      show _
      generalize upd H4 r (HO.tup [V.int b, V.int (b + 1)]) = H5 at *
      walk_at "go"
      refine ⟨L, _, _, rfl, rfl, gL3, sz5 (by simp), ?_⟩
      exact kk _ _ ⟨r1, r, same_put s5 nL0, upd_same, by rw [upd_ne nrL]; exact g1, by rw [upd_ne nr2]; exact gr, _, rfl⟩)
    have hc2 := hc.same s2
    walk_at "go"
    refine ⟨p, dx, _, rfl, hc2.g, dv_no4, ?_⟩
    walk_at "go"
    exact ⟨p, pa, wa, dx, pvs, us, perm, ws, b, v, d, rfl, hc2, b0, b1, Dh.mono s2 _ _ hv, hd, hw, fun z => absurd z out, fun _ d nd => key d nd⟩
  clear gL2 g1 nrL s2
  rintro σ H3 ⟨r1, r2, s3, gL, g1, g2, y5, rfl⟩
  walk_at "go"
  refine ⟨sz, fun t1 nt1 => ?_⟩
  have s4 := same_upd (o := HO.tup [V.int b, V.int (b + 1)]) nt1
  have h1 := upd_same (H := H3) (a := t1) (o := HO.tup [V.int b, V.int (b + 1)])
  have gL := s4 _ _ gL
  have g1 := s4 _ _ g1
  have g2 := s4 _ _ g2
  have s3 := s3.trans s4
  show _
  generalize upd H3 t1 (HO.tup [V.int b, V.int (b + 1)]) = H4 at *
  clear s4 nt1
  try dsimp only
  walk_at "go"
  refine ⟨sz, fun t2 nt2 => ?_⟩
  have s4 := same_upd (o := HO.tup [V.int b, V.int (b + 1)]) nt2
  have h2 := upd_same (H := H4) (a := t2) (o := HO.tup [V.int b, V.int (b + 1)])
  have gL := s4 _ _ gL
  have g1 := s4 _ _ g1
  have g2 := s4 _ _ g2
  have h1 := s4 _ _ h1
  have s3 := s3.trans s4
  show _
  generalize upd H4 t2 (HO.tup [V.int b, V.int (b + 1)]) = H5 at *
  clear s4 nt2
  try dsimp only
  walk_at "go"
  refine ⟨sz, fun t3 nt3 => ?_⟩
  have s4 := same_upd (o := HO.lst [V.ref t1, V.ref t2]) nt3
  have h3 := upd_same (H := H5) (a := t3) (o := HO.lst [V.ref t1, V.ref t2])
  have gL := s4 _ _ gL
  have g1 := s4 _ _ g1
  have g2 := s4 _ _ g2
  have h1 := s4 _ _ h1
  have h2 := s4 _ _ h2
  have s3 := s3.trans s4
  show _
  generalize upd H5 t3 (HO.lst [V.ref t1, V.ref t2]) = H6 at *
  clear s4 nt3
  try dsimp only
  have one : ∀ r, H6 r = some (.tup [.int b, .int (b + 1)]) → Dh H6 (.tuple [.int b, .int (b + 1)]) (.ref r) := fun r g => dh2 g rfl rfl
  have two : ∀ L r1 r2, H6 L = some (.lst [.ref r1, .ref r2]) → H6 r1 = some (.tup [.int b, .int (b + 1)]) → H6 r2 = some (.tup [.int b, .int (b + 1)]) → Dh H6 (.list [.tuple [.int b, .int (b + 1)], .tuple [.int b, .int (b + 1)]]) (.ref L) := fun L r1 r2 g a c => ⟨L, _, rfl, g, _, _, rfl, one _ a, _, _, rfl, one _ c, rfl⟩
  walk_at "go"
  refine ⟨.ref L, .ref t3, _, _, rfl, two _ _ _ gL g1 g2, two _ _ _ h3 h1 h2, ⟨by simp, fun x hx => ?_⟩, fun bb H7 hb s7 => ?_⟩
  · simp only [List.mem_cons, List.not_mem_nil, or_false, or_self] at hx
    rw [hx]
    exact (Nic.t2 (n := 4) Nic.i Nic.i).2
  · obtain rfl := hb.mpr rfl
    exact q _ (s3.trans s7)
end

end

section

-- a condition of an operator
local macro_rules | `(tactic| walk_at "cond") => `(tactic| first
  | (show (0 : Int) < _; omega)
  | (show CDiv _ _; constructor <;> (first | decide | omega))
  | (show CMul _ _; first | (refine cmul_l ?_; constructor <;> (first | decide | omega)) | (refine cmul_r ?_; constructor <;> (first | decide | omega)))
  | (show CPow _ _; exact (by refine ⟨by decide, by decide, by decide⟩))
  | (show CDivW _ _; exact ⟨by decide, by decide +kernel⟩))
local macro_rules | `(tactic| walk_at "sq") => `(tactic| first | assumption | exact Dh.mono (same_upd (by assumption)) _ _ (by assumption) | exact .inl (.inl (.inl (by assumption))) | exact .inr (.inl (.inl (by assumption))) | exact SqL.of (by assumption) | exact .inl (by assumption) | exact .inl (SqL.of (by assumption)) | exact SqT.of (by assumption) | exact .inr (SqT.of (by assumption)))
local macro_rules | `(tactic| walk_at "st") => `(tactic| first
  | refine ⟨_, rfl, ?_⟩
  | refine ⟨_, _, rfl, rfl, ?_⟩
  | refine .inl ⟨_, rfl, ?_⟩
  | refine ⟨rfl, ?_⟩
  | refine ⟨_, _, rfl, by walk_at "sq", ?_⟩
  | refine ⟨.inl ⟨rfl, _, SqL.of (by assumption)⟩, ?_⟩
  | refine ⟨by walk_at "cond", ?_⟩
  | (refine' ifBT ?hh ?_; (case hh => first | rfl | assumption))
  | (refine' ifBF ?hh ?_; (case hh => first | rfl | assumption)))
local macro_rules | `(tactic| walk_at "go") => `(tactic| repeat walk_at "st")
local macro_rules | `(tactic| walk_at "yes") => `(tactic| (refine' ifT ?hh ?_; (case hh => first | rfl | decide +kernel)))
local macro_rules | `(tactic| walk_at "no") => `(tactic| (refine' ifF ?hh ?_; (case hh => first | decide +kernel | (intro z; cases z; done))))

local macro_rules | `(tactic| walk_at "st") => `(tactic| refine ⟨_, _, _, _, _, rfl, by assumption, by assumption, by omega, by omega, by omega, by omega, by omega, ?_⟩)
local macro_rules | `(tactic| walk_at "st") => `(tactic| refine ⟨_, _, _, _, _, rfl, Same.seq (by assumption) (by assumption), by assumption, by omega, by omega, by omega, by omega, by omega, ?_⟩)

/-! ### call -/
abbrev s_device_call : Stmt := topS 26
theorem sc_device_call : FnScope ["_law_device", "_law_plain", "_law_kind", "_law_block", "_law_content", "_law_fates", "_law_pair", "_law_passed"] ["_law_device", "_law_plain", "_law_kind", "_law_block", "_law_content", "_law_fates"] (C8.fnScope s_device_call) := C8.fnScope_by (by decide +kernel)
theorem ne_ho {H : Hp} {x y : Addr} {o u : HO} (g : H x = some o) (h : H y = some u) (n : o ≠ u) : x ≠ y := fun z => by
  rw [z, h] at g
  exact n (Option.some.inj g).symm
theorem nin2 {α : Type} {x a b : α} (h : x ≠ a) (i : x ≠ b) : x ∉ [a, b] := by simp [h, i]
theorem ntup2 {H : Hp} {a b : Addr} {o u : HO} (g : H a = some o) (h : H b = some u) (n : ∀ us, o ≠ .tup us) (m : ∀ us, u ≠ .tup us) : NTup H [a, b] := fun x hx us z => by
  simp only [List.mem_cons, List.not_mem_nil, or_false] at hx
  rcases hx with rfl | rfl
  · rw [g] at z
    exact n us (Option.some.inj z)
  · rw [h] at z
    exact m us (Option.some.inj z)
theorem St.same {C : Addr} {H H' : Hp} {A : Ad} {n m : Nat} {perm : List PyData} {ws : List (Int × PyData)} (h : St C H A n m perm ws) (s : Same H H') : St C H' A n m perm ws := by
  obtain ⟨⟨_, _, h1⟩, ⟨_, _, h2⟩, h3, h4, h5, h6⟩ := h
  exact ⟨⟨_, _, h1.same s⟩, ⟨_, _, h2.same s⟩, h3, h4, h5, h6⟩
def spCall (C : Addr) : Sp := fun vs H Q _ => ∃ (A : Ad) (n m : Nat) (perm : List PyData) (ws : List (Int × PyData)) (kd b : Int) (v : V) (d : PyData) (fa : Addr) (fs : List Int), vs = [.ref A.p, .ref A.d, .int kd, .int b, v, .ref fa] ∧ St C H A n m perm ws ∧ -(10 ^ 8) ≤ b ∧ b ≤ 10 ^ 8 ∧ Dh H d v ∧ Nice d ∧ H fa = some (.lst (fs.map V.int)) ∧ fs.length ≤ 2000 ∧ fa ∉ A.l ∧ m + ws.length < 1000 ∧
  ∀ (A' : Ad) m' perm' ws' H', St C H' A' n m' perm' ws' → A'.p = A.p → A'.d = A.d → (∀ x ∈ A'.l, x ∈ A.l ∨ H x = none) → m' + ws'.length ≤ m + ws.length + 1 → ButL A.l H H' → Q (.bl true) H'
theorem end_st {C : Addr} {H1 H2 H3 H4 : Hp} {A : Ad} {n m : Nat} {perm pm : List PyData} {ws : List (Int × PyData)} {kv' : List (Key × V)} {pv' : List V} {wm wb : Addr} (hs : St C H1 A n m perm ws) (s2 : Same H1 H2) (h3 : PlAt H3 A.d A.ka wm kv' [] n (m + ws.length) pm []) (nm : H2 wm = none) (b3 : ButL [A.d, A.ka] H2 H3) (h4 : DvAt C H4 A.p A.pa wb A.dx pv' [] pm []) (nb : H3 wb = none) (b4 : ButL [A.p, A.pa] H3 H4) :
    St C H4 { A with wa := wb, wl := wm } n (m + ws.length) pm [] ∧ (∀ x ∈ ({ A with wa := wb, wl := wm } : Ad).l, x ∈ A.l ∨ H1 x = none) ∧ ButL A.l H1 H4 := by
  obtain ⟨⟨pvs, us, hc⟩, ⟨kvs, ud, hp⟩, e1, e2, n2, n3⟩ := hs
  have hc2 := hc.same s2
  have hp2 := hp.same s2
  have hc3 := hc2.but b3 (ntup2 hp2.g hp2.k (fun _ z => by cases z) (fun _ z => by cases z)) (nin2 (ne_ho hc.g hp.g (fun z => by cases z)) (ne_ho hc.g hp.k (fun z => by cases z))) (nin2 (ne_ho hc.a hp.g (fun z => by cases z)) (ne_ho hc.a hp.k (fun z => by cases z))) (nin2 (ne_ho hc.w hp.g (fun z => by cases z)) (ne_ho hc.w hp.k (fun z => by cases z)))
  have npm : wm ≠ A.pa := (ne_of_none hc2.a nm).symm
  have h5 := h3.but b4 (ntup2 hc3.g hc3.a (fun _ z => by cases z) (fun _ z => by cases z)) (nin2 (ne_ho h3.g hc3.g (fun z => by cases z)) (ne_ho h3.g hc3.a (fun z => by cases z))) (nin2 (ne_ho h3.k hc3.g (fun z => by cases z)) (ne_ho h3.k hc3.a (fun z => by cases z))) (nin2 (ne_ho h3.w hc3.g (fun z => by cases z)) npm)
  have nb1 : H1 wb = none := by
    cases e : H1 wb with
    | none => rfl
    | some o =>
      have k1 : wb ≠ A.d := (ne_of_none h3.g nb).symm
      have k2 : wb ≠ A.ka := (ne_of_none h3.k nb).symm
      have := b3 wb o (nin2 k1 k2) (s2 _ _ e)
      rw [nb] at this
      cases this
  refine ⟨⟨⟨_, _, h4⟩, ⟨_, _, h5⟩, (ne_of_none h3.w nb).symm, npm.symm, n2, n3⟩, fun x hx => ?_, (Same.but s2).trans ((b3.mono fun x hx => ?_).trans (b4.mono fun x hx => ?_))⟩
  · simp only [Ad.l, List.mem_cons, List.not_mem_nil, or_false] at hx ⊢
    rcases hx with rfl | rfl | rfl | rfl | rfl | rfl
    · simp
    · simp
    · exact .inr nb1
    · simp
    · simp
    · exact .inr (s2.free nm)
  · simp only [Ad.l, List.mem_cons, List.not_mem_nil, or_false] at hx ⊢
    rcases hx with rfl | rfl <;> simp
  · simp only [Ad.l, List.mem_cons, List.not_mem_nil, or_false] at hx ⊢
    rcases hx with rfl | rfl <;> simp
section
variable {P : Program} {w : World} {K : PySem.W.Frag} {mg : Str → Option Value} {base : Heap} {C DD : Addr}
theorem ok_call {f : Addr} {fd : FuncData} (D : Def K mg "_law_device_call" s_device_call f fd) (b : Binds K fd ["_law_device", "_law_plain", "_law_kind", "_law_block", "_law_content", "_law_fates"] []) (T : Txt mg) (c_same : Cal P w K mg base 7 "_law_same" (spSame 6) []) (c_device_due : Cal P w K mg base 1 "_law_device_due" spDue [])
    (c_device_failure : Cal P w K mg base 1 "_law_device_failure" spFail []) (c_device_refuses : Cal P w K mg base 8 "_law_device_refuses" (spRefu C) [])
    (e_read : MetE P w K mg base 5 C "read" (spRead C DD)) (e_write : MetE P w K mg base 5 C "write" (spWrite C DD)) (m_barrier : C8.Met P w K mg base 2 C "barrier" (spBarr C) []) (m_crash : C8.Met P w K mg base 2 C "crash" (spEndW C) []) : Cal P w K mg base 9 "_law_device_call" (spCall C) [] := by
  refine cal0 D b .nil sc_device_call (fun vs H Q E h => ?_) (fun cdv A0 outer s H vs Q E hr h => ?_)
  · obtain ⟨A, n, m, perm, ws, kd, b, v, d, fa, fs, rfl, _⟩ := h
    rfl
  obtain ⟨A, n, m, perm, ws, kd, b, v, d, fa, fs, rfl, hs, b0, b1, hv, hd, gf, lf, nf, hm, q⟩ := h
  refine ⟨_, (pss_cons (ps_mk (ps_if (PW.pt (pw_and (pt_cmpR op_lt (pv 2) pe_int (nomark _)) (pw_and1 (PW.pt (pw_or (pt_cmpR op_lt (pv 3) pe_int (nomark _)) (pw_or1 (pt_cmpR op_ge (pv 3) (pe_dget (hu_of hr) (pv 1) pe_str (fun _ _ => rfl)) (nomark _))))))))
      (pss_one (ps_ret (C8.pe_c c_device_refuses hr (by omega) (by rfl) (pa_cons (pv 0) (pa_cons (pv 3) (pa_cons (pv 4) pa_nil))))))
      pss_nil))
      (pss_cons (ps_mk (ps_if (pt_cmpR op_lt (pv 2) pe_int (nomark _))
      (pss_cons (ps_expr (pe_bm PySem.F.plainAttrs_list PySem.F.slot_list_append PySem.F.type_list_append mt_append (pe_dget (hu_of hr) (pv 1) pe_str (fun _ _ => rfl)) (pa_cons (pe_tup (pa_cons (pv 3) (pa_cons (pv 4) pa_nil))) pa_nil)))
      (pss_one (ps_ret (pe_cmpR op_isN (pe_mE e_write takes0 hr (by omega) (pv 0) (pa_cons (pv 3) (pa_cons (pv 4) pa_nil))) pe_non (nomark _)))))
      pss_nil))
      (pss_cons (ps_mk (ps_if (pt_cmpR op_lt (pv 2) pe_int (nomark _))
      (pss_one (ps_ret (C8.pe_c c_same hr (by omega) (by rfl) (pa_cons (pe_mE e_read takes0 hr (by omega) (pv 0) (pa_cons (pv 3) pa_nil)) (pa_cons (C8.pe_c c_device_due hr (by omega) (by rfl) (pa_cons (pv 1) (pa_cons (pv 3) pa_nil))) pa_nil)))))
      pss_nil))
      (pss_cons (ps_mk (ps_if (pt_cmpR op_lt (pv 2) pe_int (nomark _))
      (pss_cons (ps_expr (C8.pe_c c_device_failure hr (by omega) (by rfl) (pa_cons (pv 1) (pa_cons (pe_lc (own := [("_law_pair", 6)]) (g := gName 6) (tt := tYes) rfl sc_device_call.nd (pi_list (pe_dget (hu_of hr) (pv 1) pe_str (fun _ _ => rfl))) (blkOk_by (own := [("_law_pair", 6)]) (N := ["_law_device", "_law_plain", "_law_kind", "_law_block", "_law_content", "_law_fates", "_law_pair", "_law_passed"]) (sc := C8.fnScope s_device_call) (by decide +kernel)) (fun _ _ _ _ _ => (pg_name (i := 6) sc_device_call.nd rfl (.inl rfl))) (fun _ _ _ _ _ => pts_nil) (fun _ _ _ _ _ => pe_int)) pa_nil))))
      (pss_one (ps_ret (pe_cmpR op_isN (C8.pe_mt0 m_barrier hr (by omega) (pv 0) ) pe_non (nomark _)))))
      pss_nil))
      (pss_cons (ps_set (i := 7) sc_device_call.nd rfl (.inl rfl) (pe_callTy (listQ K rfl) (by rfl) T.list (by decide +kernel) (pa_cons (pv 5) pa_nil)))
      (pss_cons (ps_expr (C8.pe_c c_device_failure hr (by omega) (by rfl) (pa_cons (pv 1) (pa_cons (pv 5) pa_nil))))
      (pss_one (ps_ret (pe_and (pe_cmpR op_isN (C8.pe_mt m_crash hr (by omega) (pv 0) (pa_cons (pv 7) pa_nil)) pe_non (nomark _)) (pe_one (C8.pe_c c_same hr (by omega) (by rfl) (pa_cons (pv 7) (pa_cons (pv 5) pa_nil))))))))))))), ?_⟩
  have n2 := hs.n2
  have n3 := hs.n3
  obtain ⟨pvs, us, hc⟩ := hs.dv
  obtain ⟨kvs, ud, hp⟩ := hs.pl
  have sm := hp.sm
  have gw := hp.w
  have wl' := hp.dw.len
  rw [List.length_map] at wl'
  have pn := hp.r.pn
  obtain ⟨Al, eAl⟩ : ∃ l, l = A.l := ⟨_, rfl⟩
  have mp : A.p ∈ A.l := by simp [Ad.l]
  have mpa : A.pa ∈ A.l := by simp [Ad.l]
  have mwa : A.wa ∈ A.l := by simp [Ad.l]
  have md : A.d ∈ A.l := by simp [Ad.l]
  have mka : A.ka ∈ A.l := by simp [Ad.l]
  have mwl : A.wl ∈ A.l := by simp [Ad.l]
  have fin : ∀ H', Same H H' → Q (.bl true) H' := fun H' s => q A m perm ws H' (hs.same s) rfl rfl (fun x hx => .inl hx) (by omega) (Same.but s)
  have kpd := ne_ho hp.g hc.g (fun z => by cases z)
  have kppa := ne_ho hc.g hc.a (fun z => by cases z)
  have kpwa := ne_ho hc.g hc.w (fun z => by cases z)
  have kpka := ne_ho hc.g hp.k (fun z => by cases z)
  have kpwl := ne_ho hc.g hp.w (fun z => by cases z)
  have kad := ne_ho hc.a hp.g (fun z => by cases z)
  have kaka := ne_ho hc.a hp.k (fun z => by cases z)
  have kwd := ne_ho hc.w hp.g (fun z => by cases z)
  have kwka := ne_ho hc.w hp.k (fun z => by cases z)
  have ldd := ne_ho hp.w hp.g (fun z => by cases z)
  have ldk := ne_ho hp.w hp.k (fun z => by cases z)
  have e1 := hs.w2
  have e2 := hs.a2
  have e3 := hc.ne
  have e4 := hp.ne
  walk_at "go"
  refine jnS (M := fun σ H' => H' = H ∧ (kd < 8 → 0 ≤ b ∧ b < n) ∧ σ = [sR A.p, sR A.d, sI kd, sI b, some v, sR fa, none, none]) ?_ (fun N kk => ?_)
  rotate_left
  · have ref : ¬ (0 ≤ b ∧ b < (n : Int)) → spRefu C [.ref A.p, .int b, v] H Q C8.E0 := fun out => ⟨A.p, A.pa, A.wa, A.dx, pvs, us, perm, ws, b, v, d, rfl, hc, b0, b1, hv, hd.1, by omega, by rw [pn]; exact out, fin⟩
    walk_at "go"
    refine ifD (fun c1 => ?_) (fun c1 => ?_)
    · walk_at "go"
      refine ifD (fun c2 => ?_) (fun c2 => ?_)
      · walk_at "go"
        exact ref (by omega)
      · walk_at "go"
        refine ⟨A.d, _, rfl, pD_c ▸ DGet.k (k := Sum.inr "count") hp.g, ?_⟩
        walk_at "go"
        refine ifD (fun c3 => ?_) (fun c3 => ?_)
        · walk_at "go"
          exact ref (by omega)
        · exact kk _ _ ⟨rfl, fun _ => by omega, rfl⟩
    · exact kk _ _ ⟨rfl, fun z => absurd z c1, rfl⟩
  rintro σ H1 ⟨e, rng, rfl⟩
  subst e
  refine un ?_
  walk_at "go"
  refine ifD (fun c1 => ?_) (fun c1 => ?_)
  · have rg := rng (by omega)
    walk_at "go"
    refine ⟨A.d, _, rfl, pD_w ▸ DGet.k (k := Sum.inr "wait") hp.g, ?_⟩
    walk_at "go"
    refine ⟨sz, fun t nt => ?_⟩
    have s2 := same_upd (o := HO.tup [V.int b, v]) nt
    have gt := upd_same (H := H1) (a := t) (o := HO.tup [V.int b, v])
    show _
    generalize upd H1 t (HO.tup [V.int b, v]) = H2 at *
    have hc2 := hc.same s2
    have hp2 := hp.same s2
    have gw2 := hp2.w
    try dsimp only
    walk_at "go"
    refine ⟨A.wl, _, _, rfl, rfl, gw2, sz5 (by omega), ?_⟩
    have b3 : ButL [A.wl] H2 (upd H2 A.wl (HO.lst (ud ++ [V.ref t]))) := ButL.put (by simp)
    have nt3 : NTup H2 [A.wl] := fun x hx us' z => by
      rw [List.mem_singleton.mp hx, gw2] at z
      cases z
    have hc3 := hc2.but b3 nt3 (by simpa using kpwl) (by simpa using e2) (by simpa using e1)
    have tp3 := b3.tups nt3
    have hv3 := Dh.tups tp3 _ _ hd.1 (Dh.mono s2 _ _ hv)
    have hp3 : PlAt (upd H2 A.wl (HO.lst (ud ++ [V.ref t]))) A.d A.ka A.wl kvs (ud ++ [V.ref t]) n m perm (ws ++ [(b, d)]) := by
      refine ⟨b3 _ _ (by simpa using ldd.symm) hp2.g, b3 _ _ (by simpa using ldk.symm) hp2.k, hp2.r.tups tp3, upd_same, ?_, hp.ne, fun x hx => ?_, by rw [List.length_append]; show m + (ws.length + 1) ≤ _; omega⟩
      · rw [List.map_append]
        exact DhAll.snoc (DhAll.tups tp3 _ _ (kw_noL fun x hx => (hp.kw x hx).2.1) hp2.dw) (dh2 (tp3 _ _ gt) rfl hv3)
      · rcases List.mem_append.mp hx with hx | hx
        · exact hp.kw x hx
        · rw [List.mem_singleton.mp hx]
          exact ⟨rg, hd⟩
    have bb : ButL A.l H1 (upd H2 A.wl (HO.lst (ud ++ [V.ref t]))) := (Same.but s2).trans (b3.mono fun x hx => by rw [List.mem_singleton.mp hx]; exact mwl)
    show _
    generalize upd H2 A.wl (HO.lst (ud ++ [V.ref t])) = H3 at *
    walk_at "go"
    refine ⟨A.p, A.dx, _, rfl, hc3.g, dv_no4, ?_⟩
    walk_at "go"
    refine ⟨A.p, A.pa, A.wa, A.dx, pvs, us, perm, ws, b, v, d, rfl, hc3, b0, b1, hv3, hd.1, by omega, fun _ us' H4 h4 b4 => ?_, fun z => absurd ⟨rg.1, by omega⟩ z⟩
    walk_at "go"
    have b4' : ButL [A.wa] H3 H4 := fun c o n e => b4 c o (by simpa using n) e
    refine q A m perm (ws ++ [(b, d)]) H4 ⟨⟨_, _, h4⟩, ⟨_, _, hp3.but b4' (fun x hx us' z => ?_) (by simpa using kwd.symm) (by simpa using kwka.symm) (by simpa using e1.symm)⟩, e1, e2, n2, n3⟩ rfl rfl (fun x hx => .inl hx) (by rw [List.length_append]; show m + (ws.length + 1) ≤ _; omega) (bb.trans (b4'.mono fun x hx => by rw [List.mem_singleton.mp hx]; exact mwa))
    rw [List.mem_singleton.mp hx, hc3.w] at z
    cases z
  refine un ?_
  walk_at "go"
  refine ifD (fun c2 => ?_) (fun c2 => ?_)
  · have rg := rng c2
    walk_at "go"
    refine ⟨A.p, A.dx, _, rfl, hc.g, dv_no3, ?_⟩
    walk_at "go"
    refine ⟨A.p, A.pa, A.wa, A.dx, pvs, us, perm, ws, b, rfl, hc, by omega, by omega, fun _ v1 d1 => ?_, fun z => absurd ⟨rg.1, by omega⟩ z⟩
    walk_at "go"
    refine ⟨A.d, A.ka, A.wl, kvs, ud, n, m, perm, ws, b, rfl, hp, rg.1, rg.2, fun v2 d2 => ?_⟩
    walk_at "go"
    refine ⟨v1, v2, _, _, rfl, d1, d2, (lastW_nice b ws (getD_in hp.r.kp _) fun x hx => (hp.kw x hx).2).2, fun bb H12 hb s12 => ?_⟩
    obtain rfl := hb.mpr rfl
    exact fin _ s12
  clear rng
  refine un ?_
  walk_at "go"
  refine ifD (fun c3 => ?_) (fun c3 => ?_)
  · walk_at "go"
    refine ⟨A.d, _, rfl, pD_w ▸ DGet.k (k := Sum.inr "wait") hp.g, ?_⟩
    walk_at "go"
    refine ⟨⟨_, SqL.of gw⟩, fun R nR => lc_list (K := K) (a := A.wl) (xs := ud) (fun i H' => Ob (Same H1 H' ∧ H' R = some (.lst ((List.replicate i (1 : Int)).map V.int)))) (ob ⟨same_upd nR, upd_same⟩) (fun i H' _ h => SqL.of ((unob h).1 _ _ gw)) ?_ ?_⟩
    · intro i x H2 hi h
      obtain ⟨s2, g2⟩ := unob h
      have hil := (List.getElem?_eq_some_iff.mp hi).1
      clear h
      walk_at "go"
      refine ⟨_, g2, sz5 (by rw [List.length_map, List.length_replicate]; omega), ob ⟨same_put s2 nR, ?_⟩⟩
      rw [upd_same, List.replicate_succ', List.map_append]
      rfl
    intro H2 h
    obtain ⟨s2, gR⟩ := unob h
    rw [wl'] at gR
    clear h
    try dsimp only
    walk_at "go"
    refine ⟨A.d, A.ka, A.wl, R, kvs, ud, n, m, perm, ws, _, rfl, hp.same s2, gR, by rw [List.length_replicate]; omega, fun kv' wm H3 h3 nm b3 => ?_⟩
    have hp2 := hp.same s2
    have hc3 := (hc.same s2).but b3 (ntup2 hp2.g hp2.k (fun _ z => by cases z) (fun _ z => by cases z)) (nin2 kpd.symm kpka) (nin2 kad kaka) (nin2 kwd kwka)
    walk_at "go"
    refine ⟨A.p, A.dx, _, rfl, hc3.g, dv_no5, ?_⟩
    walk_at "go"
    refine ⟨A.p, A.pa, A.wa, A.dx, pvs, us, perm, ws, rfl, hc3, fun x hx => by rw [pn]; exact (hp.kw x hx).1, fun pv' wb H4 h4 nb b4 => ?_⟩
    walk_at "go"
    obtain ⟨z1, z2, z3⟩ := end_st hs s2 h3 nm b3 h4 nb b4
    exact q _ _ _ _ _ z1 rfl rfl z2 (by simp) z3
  walk_at "go"
  intro L nL
  have s2 := same_upd (o := HO.lst (fs.map V.int)) nL
  have gL := upd_same (H := H1) (a := L) (o := HO.lst (fs.map V.int))
  show _
  generalize upd H1 L (HO.lst (fs.map V.int)) = H2 at *
  have hp2 := hp.same s2
  have gf2 := s2 _ _ gf
  walk_at "go"
  refine ⟨A.d, A.ka, A.wl, fa, kvs, ud, n, m, perm, ws, fs, rfl, hp2, gf2, by omega, fun kv' wm H3 h3 nm b3 => ?_⟩
  have hc3 := (hc.same s2).but b3 (ntup2 hp2.g hp2.k (fun _ z => by cases z) (fun _ z => by cases z)) (nin2 kpd.symm kpka) (nin2 kad kaka) (nin2 kwd kwka)
  have lL3 := b3 _ _ (nin2 (ne_ho gL hp2.g (fun z => by cases z)) (ne_ho gL hp2.k (fun z => by cases z))) gL
  have gf3 := b3 _ _ (nin2 (ne_ho gf hp.g (fun z => by cases z)) (ne_ho gf hp.k (fun z => by cases z))) gf2
  walk_at "go"
  refine ⟨A.p, A.dx, _, rfl, hc3.g, dv_no7, ?_⟩
  walk_at "go"
  have nLa : L ≠ A.pa := (ne_of_none hc.a nL).symm
  refine ⟨A.p, A.pa, A.wa, A.dx, L, pvs, us, perm, ws, fs, rfl, hc3, lL3, nLa, fun x hx => by rw [pn]; exact (hp.kw x hx).1, fun pv' wb H4 h4 nb b4 => ?_⟩
  have lL4 := b4 _ _ (nin2 (ne_ho lL3 hc3.g (fun z => by cases z)) nLa) lL3
  have gf4 := b4 _ _ (nin2 (ne_ho gf hc.g (fun z => by cases z)) (fun z => nf (by rw [z]; exact mpa))) gf3
  walk_at "go"
  refine ⟨.ref L, .ref fa, .list (fs.map .int), .list (fs.map .int), rfl, dh_li lL4, dh_li gf4, dle_li (by omega), fun bb H5 hb s5 => ?_⟩
  obtain rfl := hb.mpr rfl
  obtain ⟨z1, z2, z3⟩ := end_st hs s2 h3 nm b3 h4 nb b4
  exact q _ _ _ _ _ (z1.same s5) rfl rfl z2 (by simp) (z3.trans (Same.but s5))
end

end

section

-- a condition of an operator
local macro_rules | `(tactic| walk_at "cond") => `(tactic| first
  | (show (0 : Int) < _; omega)
  | (show CDiv _ _; constructor <;> (first | decide | omega))
  | (show CMul _ _; first | (refine cmul_l ?_; constructor <;> (first | decide | omega)) | (refine cmul_r ?_; constructor <;> (first | decide | omega)))
  | (show CPow _ _; exact (by refine ⟨by decide, by decide, by decide⟩))
  | (show CDivW _ _; exact ⟨by decide, by decide +kernel⟩))
local macro_rules | `(tactic| walk_at "sq") => `(tactic| first | assumption | exact Dh.mono (same_upd (by assumption)) _ _ (by assumption) | exact .inl (.inl (.inl (by assumption))) | exact .inr (.inl (.inl (by assumption))) | exact SqL.of (by assumption) | exact .inl (by assumption) | exact .inl (SqL.of (by assumption)) | exact SqT.of (by assumption) | exact .inr (SqT.of (by assumption)))
local macro_rules | `(tactic| walk_at "st") => `(tactic| first
  | refine ⟨_, rfl, ?_⟩
  | refine ⟨_, _, rfl, rfl, ?_⟩
  | refine .inl ⟨_, rfl, ?_⟩
  | refine ⟨rfl, ?_⟩
  | refine ⟨_, _, rfl, by walk_at "sq", ?_⟩
  | refine ⟨.inl ⟨rfl, _, SqL.of (by assumption)⟩, ?_⟩
  | refine ⟨by walk_at "cond", ?_⟩
  | (refine' ifBT ?hh ?_; (case hh => first | rfl | assumption))
  | (refine' ifBF ?hh ?_; (case hh => first | rfl | assumption)))
local macro_rules | `(tactic| walk_at "go") => `(tactic| repeat walk_at "st")
local macro_rules | `(tactic| walk_at "yes") => `(tactic| (refine' ifT ?hh ?_; (case hh => first | rfl | decide +kernel)))
local macro_rules | `(tactic| walk_at "no") => `(tactic| (refine' ifF ?hh ?_; (case hh => first | decide +kernel | (intro z; cases z; done))))

local macro_rules | `(tactic| walk_at "st") => `(tactic| refine ⟨_, _, _, _, _, rfl, by assumption, by assumption, by omega, by omega, by omega, by omega, by omega, ?_⟩)
local macro_rules | `(tactic| walk_at "st") => `(tactic| refine ⟨_, _, _, _, _, rfl, Same.seq (by assumption) (by assumption), by assumption, by omega, by omega, by omega, by omega, by omega, ?_⟩)

/-! ### law -/
abbrev s_law : Stmt := topS 27
theorem sc_law : FnScope ["_law_script", "_law_counts", "_law_devices", "_law_plains", "_law_k", "_law_ends", "_law_at", "_law_who", "_law_count", "_law_number_here", "_law_block", "_law_content", "_law_fates"] ["_law_script"] (C8.fnScope s_law) := C8.fnScope_by (by decide +kernel)
structure TxtM (mg : Str → Option Value) : Prop where
  min : mg "min" = none
def spLaw (K : PySem.W.Frag) : Sp := fun vs H Q _ => ∃ (a : Addr) (ns : List Int), vs = [.ref a] ∧ SqL K H a (ns.map V.int) ∧ ns.length ≤ 63 ∧ ∀ H', Q (.bl true) H'
theorem nin_new {H : Hp} {l : List Addr} {y : Addr} (h : ∀ x ∈ l, ∃ o, H x = some o) (n : H y = none) : y ∉ l := fun z => by
  obtain ⟨o, e⟩ := h y z
  rw [n] at e
  cases e
theorem nin_old {H : Hp} {l : List Addr} {y : Addr} {o : HO} (h : ∀ x ∈ l, H x = none) (n : H y = some o) : y ∉ l := fun z => by
  rw [h y z] at n
  cases n
theorem same_but {l : List Addr} {H H0 H' : Hp} (s : Same H H0) (f : ∀ x ∈ l, H x = none) (b : ButL l H0 H') : Same H H' := fun c o e => b c o (nin_old f e) (s c o e)
theorem St.pres {C : Addr} {H : Hp} {A : Ad} {n m : Nat} {perm : List PyData} {ws : List (Int × PyData)} (h : St C H A n m perm ws) : ∀ x ∈ A.l, ∃ o, H x = some o ∧ ∀ us, o ≠ .tup us := by
  obtain ⟨⟨_, _, hc⟩, ⟨_, _, hp⟩, _⟩ := h
  intro x hx
  simp only [Ad.l, List.mem_cons, List.not_mem_nil, or_false] at hx
  rcases hx with rfl | rfl | rfl | rfl | rfl | rfl
  · exact ⟨_, hc.g, fun _ z => by cases z⟩
  · exact ⟨_, hc.a, fun _ z => by cases z⟩
  · exact ⟨_, hc.w, fun _ z => by cases z⟩
  · exact ⟨_, hp.g, fun _ z => by cases z⟩
  · exact ⟨_, hp.k, fun _ z => by cases z⟩
  · exact ⟨_, hp.w, fun _ z => by cases z⟩
theorem St.pr {C : Addr} {H : Hp} {A : Ad} {n m : Nat} {perm : List PyData} {ws : List (Int × PyData)} (h : St C H A n m perm ws) : ∀ x ∈ A.l, ∃ o, H x = some o := fun x hx => by
  obtain ⟨o, e, _⟩ := h.pres x hx
  exact ⟨o, e⟩
theorem St.nt {C : Addr} {H : Hp} {A : Ad} {n m : Nat} {perm : List PyData} {ws : List (Int × PyData)} (h : St C H A n m perm ws) : NTup H A.l := fun x hx us z => by
  obtain ⟨o, e, k⟩ := h.pres x hx
  rw [e] at z
  exact k us (Option.some.inj z)
theorem St.but {C : Addr} {H H' : Hp} {A : Ad} {n m : Nat} {perm : List PyData} {ws : List (Int × PyData)} {l : List Addr} (h : St C H A n m perm ws) (b : ButL l H H') (nt : NTup H l) (c : ∀ x ∈ A.l, x ∉ l) : St C H' A n m perm ws := by
  obtain ⟨⟨_, _, hc⟩, ⟨_, _, hp⟩, h3, h4, h5, h6⟩ := h
  exact ⟨⟨_, _, hc.but b nt (c _ (by simp [Ad.l])) (c _ (by simp [Ad.l])) (c _ (by simp [Ad.l]))⟩, ⟨_, _, hp.but b nt (c _ (by simp [Ad.l])) (c _ (by simp [Ad.l])) (c _ (by simp [Ad.l]))⟩, h3, h4, h5, h6⟩
structure Two (C : Addr) (H0 H : Hp) (n : Nat → Nat) (A : Nat → Ad) (Lc Ld Lp : Addr) (j : Nat) : Prop where
  s : Same H0 H
  gc : H Lc = some (.lst [.int (n 0), .int (n 1)])
  gd : H Ld = some (.lst [.ref (A 0).p, .ref (A 1).p])
  gp : H Lp = some (.lst [.ref (A 0).d, .ref (A 1).d])
  st : ∀ i, i < 2 → ∃ m perm ws, St C H (A i) (n i) m perm ws ∧ m + ws.length ≤ j
  fr : ∀ i, i < 2 → ∀ x ∈ (A i).l, H0 x = none
  cr : ∀ i k, i < 2 → k < 2 → i ≠ k → ∀ x ∈ (A i).l, x ∉ (A k).l
  nc : ∀ i, i < 2 → Lc ∉ (A i).l
  nd : ∀ i, i < 2 → Ld ∉ (A i).l
  np : ∀ i, i < 2 → Lp ∉ (A i).l
  nn : ∀ i, i < 2 → 2 ≤ n i ∧ n i ≤ 600
theorem Two.same {C : Addr} {H0 H H' : Hp} {n : Nat → Nat} {A : Nat → Ad} {Lc Ld Lp : Addr} {j : Nat} (h : Two C H0 H n A Lc Ld Lp j) (s : Same H H') : Two C H0 H' n A Lc Ld Lp j :=
  ⟨h.s.trans s, s _ _ h.gc, s _ _ h.gd, s _ _ h.gp, fun i hi => by
    obtain ⟨m, perm, ws, z, l⟩ := h.st i hi
    exact ⟨m, perm, ws, z.same s, l⟩, h.fr, h.cr, h.nc, h.nd, h.np, h.nn⟩
theorem Two.step {C : Addr} {H0 H H' : Hp} {n : Nat → Nat} {A : Nat → Ad} {Lc Ld Lp : Addr} {j i m' m : Nat} {A' : Ad} {perm perm' : List PyData} {ws ws' : List (Int × PyData)} (h : Two C H0 H n A Lc Ld Lp j) (hi : i < 2) (hs : St C H (A i) (n i) m perm ws) (hs' : St C H' A' (n i) m' perm' ws') (ep : A'.p = (A i).p) (ed : A'.d = (A i).d)
    (fp : ∀ x ∈ A'.l, x ∈ (A i).l ∨ H x = none) (hm : m' + ws'.length ≤ j + 1) (b : ButL (A i).l H H') : Two C H0 H' n (fun k => if k = i then A' else A k) Lc Ld Lp (j + 1) := by
  have epk : ∀ k, (if k = i then A' else A k).p = (A k).p := fun k => by
    split
    · rename_i c
      rw [c, ep]
    · rfl
  have edk : ∀ k, (if k = i then A' else A k).d = (A k).d := fun k => by
    split
    · rename_i c
      rw [c, ed]
    · rfl
  have new : ∀ y o, H y = some o → y ∉ (A i).l → y ∉ A'.l := fun y o e n z => (fp y z).elim n fun w => by
    rw [e] at w
    cases w
  refine ⟨same_but h.s (h.fr i hi) b, b _ _ (h.nc i hi) h.gc, ?_, ?_, fun k hk => ?_, fun k hk x hx => ?_, fun k l hk hl ne x hx => ?_, fun k hk => ?_, fun k hk => ?_, fun k hk => ?_, h.nn⟩
  · rw [b _ _ (h.nd i hi) h.gd]
    show _ = some (HO.lst [V.ref (if 0 = i then A' else A 0).p, V.ref (if 1 = i then A' else A 1).p])
    rw [epk, epk]
  · rw [b _ _ (h.np i hi) h.gp]
    show _ = some (HO.lst [V.ref (if 0 = i then A' else A 0).d, V.ref (if 1 = i then A' else A 1).d])
    rw [edk, edk]
  · by_cases c : k = i
    · rw [if_pos c, c]
      exact ⟨_, _, _, hs', hm⟩
    · rw [if_neg c]
      obtain ⟨m2, p2, w2, z, l⟩ := h.st k hk
      exact ⟨m2, p2, w2, z.but b hs.nt (h.cr k i hk hi c), by omega⟩
  · by_cases c : k = i
    · rw [if_pos c] at hx
      exact (fp x hx).elim (h.fr i hi x) h.s.free
    · rw [if_neg c] at hx
      exact h.fr k hk x hx
  · by_cases c : k = i
    · rw [if_pos c] at hx
      rw [if_neg (by omega)]
      rcases fp x hx with z | z
      · exact h.cr i l hi hl (by omega) x z
      · obtain ⟨_, _, _, zz, _⟩ := h.st l hl
        exact nin_new zz.pr z
    · rw [if_neg c] at hx
      by_cases c2 : l = i
      · rw [if_pos c2]
        obtain ⟨_, _, _, zz, _⟩ := h.st k hk
        obtain ⟨o, e⟩ := zz.pr x hx
        exact new x o e (h.cr k i hk hi c x hx)
      · rw [if_neg c2]
        exact h.cr k l hk hl ne x hx
  · by_cases c : k = i
    · rw [if_pos c]
      exact new _ _ h.gc (h.nc i hi)
    · rw [if_neg c]
      exact h.nc k hk
  · by_cases c : k = i
    · rw [if_pos c]
      exact new _ _ h.gd (h.nd i hi)
    · rw [if_neg c]
      exact h.nd k hk
  · by_cases c : k = i
    · rw [if_pos c]
      exact new _ _ h.gp (h.np i hi)
    · rw [if_neg c]
      exact h.np k hk
/-- the plain devices, as they are made -/
structure Plns (H7 H : Hp) (Lp : Addr) (n : Nat → Nat) (DK : Nat → Addr × Addr × Addr) (j : Nat) : Prop where
  s : Same H7 H
  nL : H7 Lp = none
  gp : H Lp = some (.lst ((List.range j).map fun i => V.ref (DK i).1))
  g : ∀ i, i < j → H (DK i).1 = some (.dK (pD (n i) (DK i).2.1 (DK i).2.2)) ∧ H (DK i).2.1 = some (.dK []) ∧ H (DK i).2.2 = some (.lst [])
  fr : ∀ i, i < j → H7 (DK i).1 = none ∧ H7 (DK i).2.1 = none ∧ H7 (DK i).2.2 = none
  ne : ∀ i, i < j → (DK i).1 ≠ (DK i).2.1
  cr : ∀ i k, i < j → k < j → i ≠ k → (DK i).1 ≠ (DK k).1 ∧ (DK i).1 ≠ (DK k).2.1 ∧ (DK i).2.1 ≠ (DK k).1 ∧ (DK i).2.1 ≠ (DK k).2.1 ∧ (DK i).2.2 ≠ (DK k).2.2
  nl : ∀ i, i < j → (DK i).2.2 ≠ Lp
theorem Plns.zero {H7 : Hp} {Lp : Addr} {n : Nat → Nat} {DK : Nat → Addr × Addr × Addr} (h : H7 Lp = none) : Plns H7 (upd H7 Lp (.lst [])) Lp n DK 0 :=
  ⟨same_upd h, h, upd_same, fun i h => absurd h (Nat.not_lt_zero i), fun i h => absurd h (Nat.not_lt_zero i), fun i h => absurd h (Nat.not_lt_zero i), fun i _ h => absurd h (Nat.not_lt_zero i), fun i h => absurd h (Nat.not_lt_zero i)⟩
theorem Plns.snoc {H7 H8 H11 : Hp} {Lp d ka wl : Addr} {n : Nat → Nat} {DK : Nat → Addr × Addr × Addr} {j : Nat} (h : Plns H7 H8 Lp n DK j) (s : Same H8 H11) (nd : H8 d = none) (nka : H8 ka = none) (nwl : H8 wl = none) (gdd : H11 d = some (.dK [])) (gka : H11 ka = some (.dK [])) (gwl : H11 wl = some (.lst [])) (ndk : d ≠ ka) (hj : j ≤ 1000) :
    ∃ acc, upd H11 d (.dK (pD (n j) ka wl)) Lp = some (.lst acc) ∧ acc.length < sizeLine ∧ Ob (∃ DK', Plns H7 (upd (upd H11 d (.dK (pD (n j) ka wl))) Lp (.lst (acc ++ [.ref d]))) Lp n DK' (j + 1)) := by
  have e1 : Lp ≠ d := ne_of_none h.gp nd
  have e2 : Lp ≠ ka := ne_of_none h.gp nka
  have e3 : Lp ≠ wl := ne_of_none h.gp nwl
  have e4 : wl ≠ d := ne_ho gwl gdd (fun z => by cases z)
  refine ⟨_, by rw [upd_ne e1]; exact s _ _ h.gp, sz5 (by rw [List.length_map, List.length_range]; omega), ob ⟨fun i => if i = j then (d, ka, wl) else DK i, same_put (same_put (h.s.trans s) (h.s.free nd)) h.nL, h.nL, ?_, fun i hi => ?_, fun i hi => ?_, fun i hi => ?_, fun i k hi hk ne => ?_, fun i hi => ?_⟩⟩
  · have q1 : (List.range j).map (fun i => V.ref (DK i).1) = (List.range j).map (fun i => V.ref (if i = j then (d, ka, wl) else DK i).1) := List.map_congr_left fun i hi => by
      have := List.mem_range.mp hi
      rw [if_neg (by omega)]
    rw [upd_same, q1, List.range_succ, List.map_append]
    show some (HO.lst (_ ++ [V.ref d])) = some (HO.lst (_ ++ [V.ref (if j = j then (d, ka, wl) else DK j).1]))
    rw [if_pos rfl]
  · by_cases c : i = j
    · rw [if_pos c, c]
      refine ⟨?_, ?_, ?_⟩
      · rw [upd_ne e1.symm, upd_same]
      · rw [upd_ne e2.symm, upd_ne ndk.symm]
        exact gka
      · rw [upd_ne e3.symm, upd_ne e4]
        exact gwl
    · rw [if_neg c]
      obtain ⟨g1, g2, g3⟩ := h.g i (by omega)
      refine ⟨?_, ?_, ?_⟩
      · rw [upd_ne (ne_ho g1 h.gp (fun z => by cases z)), upd_ne (ne_of_none g1 nd)]
        exact s _ _ g1
      · rw [upd_ne (ne_ho g2 h.gp (fun z => by cases z)), upd_ne (ne_of_none g2 nd)]
        exact s _ _ g2
      · rw [upd_ne (h.nl i (by omega)), upd_ne (ne_of_none g3 nd)]
        exact s _ _ g3
  · by_cases c : i = j
    · rw [if_pos c]
      exact ⟨h.s.free nd, h.s.free nka, h.s.free nwl⟩
    · rw [if_neg c]
      exact h.fr i (by omega)
  · by_cases c : i = j
    · rw [if_pos c]
      exact ndk
    · rw [if_neg c]
      exact h.ne i (by omega)
  · by_cases c : i = j
    · rw [if_pos c, if_neg (by omega)]
      obtain ⟨g1, g2, g3⟩ := h.g k (by omega)
      exact ⟨(ne_of_none g1 nd).symm, (ne_of_none g2 nd).symm, (ne_of_none g1 nka).symm, (ne_of_none g2 nka).symm, (ne_of_none g3 nwl).symm⟩
    · rw [if_neg c]
      by_cases c2 : k = j
      · rw [if_pos c2]
        obtain ⟨g1, g2, g3⟩ := h.g i (by omega)
        exact ⟨ne_of_none g1 nd, ne_of_none g1 nka, ne_of_none g2 nd, ne_of_none g2 nka, ne_of_none g3 nwl⟩
      · rw [if_neg c2]
        exact h.cr i k (by omega) (by omega) ne
  · by_cases c : i = j
    · rw [if_pos c]
      exact e3.symm
    · rw [if_neg c]
      exact h.nl i (by omega)
theorem st_new {C : Addr} {H8 : Hp} {p pa wa dx d ka wl : Addr} {n : Nat} (hc : DvAt C H8 p pa wa dx (List.replicate n V.non) [] (List.replicate n .none) []) (g : H8 d = some (.dK (pD n ka wl))) (gk : H8 ka = some (.dK [])) (gw : H8 wl = some (.lst [])) (ne : d ≠ ka) (w2 : wa ≠ wl) (a2 : pa ≠ wl) (n2 : 2 ≤ n) (n3 : n ≤ 600) :
    St C H8 ⟨p, pa, wa, dx, d, ka, wl⟩ n 0 (List.replicate n .none) [] := by
  refine ⟨⟨_, _, hc⟩, ⟨[], [], g, gk, ⟨KOk.nil, fun kv h => (by cases h), fun b b0 b1 => ?_, List.length_replicate, fun x hx => ?_⟩, gw, rfl, ne, fun x hx => (by cases hx), by simp⟩, w2, a2, n2, by omega⟩
  · rw [List.getD_eq_getElem?_getD, List.getElem?_replicate]
    split <;> rfl
  · rw [List.eq_of_mem_replicate hx]
    exact ⟨rfl, trivial⟩
theorem nin3 {α : Type} {x a b c : α} (h : x ≠ a) (i : x ≠ b) (j : x ≠ c) : x ∉ [a, b, c] := by simp [h, i, j]
theorem two_new {C : Addr} {H H2 H4 H6 H7 H8 : Hp} {n0 n1 : Nat} {p0 pa0 wa0 dx0 p1 pa1 wa1 dx1 Lc Ld Lp : Addr} {DK : Nat → Addr × Addr × Addr} (s2 : Same H H2) (gc : H2 Lc = some (.lst [.int n0, .int n1])) (np0 : H2 p0 = none) (npa0 : H2 pa0 = none) (nwa0 : H2 wa0 = none) (s24 : Same H2 H4) (hc0 : DvAt C H4 p0 pa0 wa0 dx0 (List.replicate n0 V.non) [] (List.replicate n0 .none) [])
    (np1 : H4 p1 = none) (npa1 : H4 pa1 = none) (nwa1 : H4 wa1 = none) (s46 : Same H4 H6) (hc1 : DvAt C H6 p1 pa1 wa1 dx1 (List.replicate n1 V.non) [] (List.replicate n1 .none) []) (nLd : H6 Ld = none) (s67 : Same H6 H7) (gd : H7 Ld = some (.lst [.ref p0, .ref p1])) (hP : Plns H7 H8 Lp (fun i => if i = 0 then n0 else n1) DK 2) (k0 : 2 ≤ n0) (k1 : n0 ≤ 600) (k2 : 2 ≤ n1) (k3 : n1 ≤ 600) :
    Two C H H8 (fun i => if i = 0 then n0 else n1) (fun i => if i = 0 then ⟨p0, pa0, wa0, dx0, (DK 0).1, (DK 0).2.1, (DK 0).2.2⟩ else ⟨p1, pa1, wa1, dx1, (DK 1).1, (DK 1).2.1, (DK 1).2.2⟩) Lc Ld Lp 0 := by
  obtain ⟨g1, g2, g3⟩ := hP.g 0 (by decide)
  obtain ⟨h1, h2, h3⟩ := hP.g 1 (by decide)
  obtain ⟨f1, f2, f3⟩ := hP.fr 0 (by decide)
  obtain ⟨e1, e2, e3⟩ := hP.fr 1 (by decide)
  obtain ⟨c1, c2, c3, c4, c5⟩ := hP.cr 0 1 (by decide) (by decide) (by decide)
  have s47 := s46.trans s67
  have s27 := s24.trans s47
  have s78 := hP.s
  have d0 := hc0.same s47
  have d1 := hc1.same s67
  have st0 : St C H8 ⟨p0, pa0, wa0, dx0, (DK 0).1, (DK 0).2.1, (DK 0).2.2⟩ n0 0 (List.replicate n0 .none) [] := st_new (d0.same s78) g1 g2 g3 (hP.ne 0 (by decide)) (ne_of_none d0.w f3) (ne_of_none d0.a f3) k0 k1
  have st1 : St C H8 ⟨p1, pa1, wa1, dx1, (DK 1).1, (DK 1).2.1, (DK 1).2.2⟩ n1 0 (List.replicate n1 .none) [] := st_new (d1.same s78) h1 h2 h3 (hP.ne 1 (by decide)) (ne_of_none d1.w e3) (ne_of_none d1.a e3) k2 k3
  have pr0 : ∀ x ∈ [p0, pa0, wa0], ∃ o, H4 x = some o := fun x hx => by
    simp only [List.mem_cons, List.not_mem_nil, or_false] at hx
    rcases hx with rfl | rfl | rfl
    · exact ⟨_, hc0.g⟩
    · exact ⟨_, hc0.a⟩
    · exact ⟨_, hc0.w⟩
  have pr1 : ∀ x ∈ [p1, pa1, wa1], ∃ o, H6 x = some o := fun x hx => by
    simp only [List.mem_cons, List.not_mem_nil, or_false] at hx
    rcases hx with rfl | rfl | rfl
    · exact ⟨_, hc1.g⟩
    · exact ⟨_, hc1.a⟩
    · exact ⟨_, hc1.w⟩
  have q0 : ∀ x ∈ [(DK 0).1, (DK 0).2.1, (DK 0).2.2], H7 x = none := fun x hx => by
    simp only [List.mem_cons, List.not_mem_nil, or_false] at hx
    rcases hx with rfl | rfl | rfl
    · exact f1
    · exact f2
    · exact f3
  have q1 : ∀ x ∈ [(DK 1).1, (DK 1).2.1, (DK 1).2.2], H7 x = none := fun x hx => by
    simp only [List.mem_cons, List.not_mem_nil, or_false] at hx
    rcases hx with rfl | rfl | rfl
    · exact e1
    · exact e2
    · exact e3
  have r0 : ∀ x ∈ [p0, pa0, wa0], H2 x = none := fun x hx => by
    simp only [List.mem_cons, List.not_mem_nil, or_false] at hx
    rcases hx with rfl | rfl | rfl <;> assumption
  have r1 : ∀ x ∈ [p1, pa1, wa1], H4 x = none := fun x hx => by
    simp only [List.mem_cons, List.not_mem_nil, or_false] at hx
    rcases hx with rfl | rfl | rfl <;> assumption
  have sp : ∀ {x a b c d e f : Addr}, x ∈ [a, b, c, d, e, f] → x ∈ [a, b, c] ∨ x ∈ [d, e, f] := fun {x a b c d e f} h => by
    rcases List.mem_append.mp (show x ∈ [a, b, c] ++ [d, e, f] from h) with h | h
    · exact .inl h
    · exact .inr h
  have c0 : ∀ x ∈ [(DK 0).1, (DK 0).2.1, (DK 0).2.2], x ∉ [(DK 1).1, (DK 1).2.1, (DK 1).2.2] := fun x hx => by
    simp only [List.mem_cons, List.not_mem_nil, or_false] at hx
    rcases hx with rfl | rfl | rfl
    · exact nin3 c1 c2 (ne_ho g1 h3 (fun z => by cases z))
    · exact nin3 c3 c4 (ne_ho g2 h3 (fun z => by cases z))
    · exact nin3 (ne_ho g3 h1 (fun z => by cases z)) (ne_ho g3 h2 (fun z => by cases z)) c5
  have cr : ∀ x ∈ [p0, pa0, wa0, (DK 0).1, (DK 0).2.1, (DK 0).2.2], x ∉ [p1, pa1, wa1, (DK 1).1, (DK 1).2.1, (DK 1).2.2] := fun x hx hy => by
    rcases sp hx with hx | hx
    · obtain ⟨o, e⟩ := pr0 x hx
      rcases sp hy with hy | hy
      · rw [r1 x hy] at e
        cases e
      · have e := s47 _ _ e
        rw [q1 x hy] at e
        cases e
    · rcases sp hy with hy | hy
      · obtain ⟨o, e⟩ := pr1 x hy
        have e := s67 _ _ e
        rw [q0 x hx] at e
        cases e
      · exact c0 x hx hy
  have fr0 : ∀ x ∈ [p0, pa0, wa0, (DK 0).1, (DK 0).2.1, (DK 0).2.2], H2 x = none := fun x hx => (sp hx).elim (r0 x) fun z => s27.free (q0 x z)
  have fr1 : ∀ x ∈ [p1, pa1, wa1, (DK 1).1, (DK 1).2.1, (DK 1).2.2], H2 x = none := fun x hx => (sp hx).elim (fun z => s24.free (r1 x z)) fun z => s27.free (q1 x z)
  have lp : ∀ (o1 : HO) y, H8 y = some o1 → H7 Lp = none → True := fun _ _ _ _ => trivial
  refine ⟨s2.trans (s27.trans s78), s78 _ _ (s27 _ _ gc), s78 _ _ gd, hP.gp, fun i hi => ?_, fun i hi x hx => ?_, fun i k hi hk ne x hx => ?_, fun i hi => ?_, fun i hi => ?_, fun i hi => ?_, fun i hi => ?_⟩
  · by_cases c : i = 0
    · rw [if_pos c, if_pos c]
      exact ⟨_, _, _, st0, by simp⟩
    · rw [if_neg c, if_neg c]
      exact ⟨_, _, _, st1, by simp⟩
  · by_cases c : i = 0
    · rw [if_pos c] at hx
      exact s2.free (fr0 x hx)
    · rw [if_neg c] at hx
      exact s2.free (fr1 x hx)
  · by_cases c : i = 0
    · rw [if_pos c] at hx
      rw [if_neg (by omega)]
      exact cr x hx
    · rw [if_neg c] at hx
      rw [if_pos (by omega)]
      exact fun z => cr x z hx
  · by_cases c : i = 0
    · rw [if_pos c]
      exact nin_old fr0 gc
    · rw [if_neg c]
      exact nin_old fr1 gc
  · have k : ∀ o y, H6 y = some o → Ld ≠ y := fun o y e => (ne_of_none e nLd).symm
    have k2 : ∀ y, H7 y = none → Ld ≠ y := fun y e => ne_of_none gd e
    by_cases c : i = 0
    · rw [if_pos c]
      intro z
      rcases sp z with z | z
      · obtain ⟨o, e⟩ := pr0 _ z
        exact k _ _ (s46 _ _ e) rfl
      · exact k2 _ (q0 _ z) rfl
    · rw [if_neg c]
      intro z
      rcases sp z with z | z
      · obtain ⟨o, e⟩ := pr1 _ z
        exact k _ _ e rfl
      · exact k2 _ (q1 _ z) rfl
  · have k : ∀ o y, H7 y = some o → Lp ≠ y := fun o y e => (ne_of_none e hP.nL).symm
    by_cases c : i = 0
    · rw [if_pos c]
      intro z
      rcases sp z with z | z
      · obtain ⟨o, e⟩ := pr0 _ z
        exact k _ _ (s47 _ _ e) rfl
      · exact nin3 (ne_ho hP.gp g1 (fun z => by cases z)) (ne_ho hP.gp g2 (fun z => by cases z)) (hP.nl 0 (by decide)).symm z
    · rw [if_neg c]
      intro z
      rcases sp z with z | z
      · obtain ⟨o, e⟩ := pr1 _ z
        exact k _ _ (s67 _ _ e) rfl
      · exact nin3 (ne_ho hP.gp h1 (fun z => by cases z)) (ne_ho hP.gp h2 (fun z => by cases z)) (hP.nl 1 (by decide)).symm z
  · by_cases c : i = 0
    · rw [if_pos c]
      exact ⟨k0, k1⟩
    · rw [if_neg c]
      exact ⟨k2, k3⟩
section
variable {P : Program} {w : World} {K : PySem.W.Frag} {mg : Str → Option Value} {base : Heap} {C : Addr}
theorem ok_law {f : Addr} {fd : FuncData} (D : Def K mg "law" s_law f fd) (T : Txt mg) (TM : TxtM mg) (c_number : Cal P w K mg base 1 "_law_number" (spNum K) []) (c_Device : C8.Mak P w K mg base 1 "Device" C (spDvI C) []) (c_device_content : Cal P w K mg base 1 "_law_device_content" spCont []) (c_device_fates : Cal P w K mg base 1 "_law_device_fates" spFates []) (c_device_call : Cal P w K mg base 9 "_law_device_call" (spCall C) []) (c_device_holds : Cal P w K mg base 8 "_law_device_holds" (spHolds C) []) : FnOk P w K mg base C8.CX0 10 f fd ["_law_script"] (spLaw K) := by
  refine C8.fn0 D.fn sc_law (fun vs H Q E h => ?_) (fun cdv A0 outer s H vs Q E hr h => ?_)
  · obtain ⟨a, ns, rfl, _⟩ := h
    rfl
  obtain ⟨a, ns, rfl, hS, hl, q0⟩ := h
  refine ⟨_, (pss_cons (ps_set (i := 1) sc_law.nd rfl (.inr rfl) (pe_lst (pa_cons (pe_op op_add pe_int (C8.pe_c c_number hr (by omega) (by rfl) (pa_cons (pv 0) (pa_cons pe_int (pa_cons pe_int (pa_cons pe_int pa_nil)))))) (pa_cons (pe_ix (ixL K rfl) (pe_lst (pa_cons pe_int (pa_cons pe_int (pa_cons pe_int (pa_cons pe_int (pa_cons pe_int (pa_cons pe_int (pa_cons pe_int (pa_cons pe_int pa_nil))))))))) (C8.pe_c c_number hr (by omega) (by rfl) (pa_cons (pv 0) (pa_cons pe_int (pa_cons pe_int (pa_cons pe_int pa_nil))))) (fun _ _ => rfl)) pa_nil))))
      (pss_cons (ps_set (i := 2) sc_law.nd rfl (.inl rfl) (pe_lst (pa_cons (C8.pe_mk c_Device hr (by omega) (by rfl) (pa_cons (pe_ix (ixL K rfl) (pv 1) pe_int (fun _ _ => rfl)) pa_nil)) (pa_cons (C8.pe_mk c_Device hr (by omega) (by rfl) (pa_cons (pe_ix (ixL K rfl) (pv 1) pe_int (fun _ _ => rfl)) pa_nil)) pa_nil))))
      (pss_cons (ps_setLc (i := 3) (own := [("_law_k", 4)]) (g := gName 4) (tt := tYes) rfl sc_law.nd rfl rfl (sw_true rfl rfl rfl (by decide +kernel)) (pi_range1 (by rfl) T.range (pa_cons pe_int pa_nil)) (blkOk_by (own := [("_law_k", 4)]) (N := ["_law_script", "_law_counts", "_law_devices", "_law_plains", "_law_k", "_law_ends", "_law_at", "_law_who", "_law_count", "_law_number_here", "_law_block", "_law_content", "_law_fates"]) (sc := C8.fnScope s_law) (by decide +kernel)) (fun _ _ _ _ _ => (pg_name (i := 4) sc_law.nd rfl (.inl rfl))) (fun _ _ _ _ _ => pts_nil) (fun _ _ _ _ _ => (pe_disp (pps_cons pe_str (pe_ix (ixL K rfl) (pv 1) (pv 4) (fun _ _ => rfl)) (pps_cons pe_str pe_dnewK (pps_cons pe_str (pe_lst pa_nil) pps_nil))) (by rfl) (by rfl) (fun z => by cases z) (by decide))))
      (pss_cons (ps_set (i := 5) sc_law.nd rfl (.inl rfl) (pe_op op_add pe_int (C8.pe_c c_number hr (by omega) (by rfl) (pa_cons (pv 0) (pa_cons pe_int (pa_cons pe_int (pa_cons pe_int pa_nil)))))))
      (pss_cons (ps_mk (ps_for PassesOwn.never rfl (pi_range2 (by rfl) T.range (pa_cons pe_int (pa_cons (pe_op op_add (pv 5) pe_int) pa_nil))) (pg_name (i := 6) sc_law.nd rfl (.inl rfl))
      (pss_cons (ps_set (i := 7) sc_law.nd rfl (.inl rfl) (C8.pe_c c_number hr (by omega) (by rfl) (pa_cons (pv 0) (pa_cons (pv 6) (pa_cons pe_int (pa_cons pe_int pa_nil))))))
      (pss_cons (ps_set (i := 8) sc_law.nd rfl (.inl rfl) (pe_ix (ixL K rfl) (pv 1) (pv 7) (fun _ _ => rfl)))
      (pss_cons (ps_set (i := 9) sc_law.nd rfl (.inl rfl) (C8.pe_c c_number hr (by omega) (by rfl) (pa_cons (pv 0) (pa_cons (pv 6) (pa_cons pe_int (pa_cons pe_int pa_nil))))))
      (pss_cons (ps_set (i := 10) sc_law.nd rfl (.inl rfl) (pe_op op_mod (pe_callTy call_int1 (by rfl) T.int (by decide +kernel) (pa_cons (pe_op op_add (pe_op op_mul (pe_op op_fdiv (pv 9) pe_int) pe_int) (pv 6)) pa_nil)) (pv 8)))
      (pss_cons (ps_mk (ps_if (pt_cmpR op_eq (pe_op op_mod (pe_callTy call_int1 (by rfl) T.int (by decide +kernel) (pa_cons (pv 9) pa_nil)) pe_int) pe_int (nomark _))
      (pss_one (ps_set (i := 10) sc_law.nd rfl (.inl rfl) (pe_ix (ixL K rfl) (pe_lst (pa_cons (pe_un un_neg pe_int) (pa_cons (pv 8) (pa_cons (pe_op op_add (pv 8) pe_int) (pa_cons (pe_op op_sub pe_int (pv 8)) (pa_cons (pe_op op_add (pv 8) pe_int) pa_nil)))))) (pe_op op_mod (pe_callTy call_int1 (by rfl) T.int (by decide +kernel) (pa_cons (pe_op op_fdiv (pv 9) pe_int) pa_nil)) pe_int) (fun _ _ => rfl))))
      pss_nil))
      (pss_cons (ps_mk (ps_if (PW.pt (pw_and (pt_cmpR op_gt (pe_op op_mod (pe_callTy call_int1 (by rfl) T.int (by decide +kernel) (pa_cons (pv 9) pa_nil)) pe_int) pe_int (nomark _)) (pw_and1 (pt_cmpR op_lt (pe_op op_mod (pe_callTy call_int1 (by rfl) T.int (by decide +kernel) (pa_cons (pv 9) pa_nil)) pe_int) pe_int (nomark _)))))
      (pss_one (ps_set (i := 10) sc_law.nd rfl (.inl rfl) (pe_op op_mod (pe_callTy call_int1 (by rfl) T.int (by decide +kernel) (pa_cons (pe_op op_fdiv (pv 9) pe_int) pa_nil)) (pe_callB (call_min2 rfl) (by rfl) TM.min (by decide +kernel) (pa_cons pe_int (pa_cons (pv 8) pa_nil))))))
      pss_nil))
      (pss_cons (ps_set (i := 11) sc_law.nd rfl (.inl rfl) (C8.pe_c c_device_content hr (by omega) (by rfl) (pa_cons (C8.pe_c c_number hr (by omega) (by rfl) (pa_cons (pv 0) (pa_cons (pv 6) (pa_cons pe_int (pa_cons pe_int pa_nil))))) (pa_cons (C8.pe_c c_number hr (by omega) (by rfl) (pa_cons (pv 0) (pa_cons (pv 6) (pa_cons pe_int (pa_cons pe_int pa_nil))))) pa_nil))))
      (pss_cons (ps_set (i := 12) sc_law.nd rfl (.inl rfl) (C8.pe_c c_device_fates hr (by omega) (by rfl) (pa_cons (C8.pe_c c_number hr (by omega) (by rfl) (pa_cons (pv 0) (pa_cons (pv 6) (pa_cons pe_int (pa_cons pe_int pa_nil))))) (pa_cons (pe_callB (lenQ K rfl) (by rfl) T.len PySem.boot_len (pa_cons (pe_dget (hu_of hr) (pe_ix (ixL K rfl) (pv 3) (pv 7) (fun _ _ => rfl)) pe_str (fun _ _ => rfl)) pa_nil)) pa_nil))))
      (pss_cons (ps_mk (ps_if (pt_not (pt_val (C8.pe_c c_device_call hr (by omega) (by rfl) (pa_cons (pe_ix (ixL K rfl) (pv 2) (pv 7) (fun _ _ => rfl)) (pa_cons (pe_ix (ixL K rfl) (pv 3) (pv 7) (fun _ _ => rfl)) (pa_cons (C8.pe_c c_number hr (by omega) (by rfl) (pa_cons (pv 0) (pa_cons (pv 6) (pa_cons pe_int (pa_cons pe_int pa_nil))))) (pa_cons (pv 10) (pa_cons (pv 11) (pa_cons (pv 12) pa_nil)))))))))
      (pss_one (ps_ret pe_bl))
      pss_nil))
      (pss_one (ps_mk (ps_if (pt_not (pt_val (C8.pe_c c_device_holds hr (by omega) (by rfl) (pa_cons (pe_ix (ixL K rfl) (pv 2) (pv 7) (fun _ _ => rfl)) (pa_cons (pe_ix (ixL K rfl) (pv 3) (pv 7) (fun _ _ => rfl)) pa_nil)))))
      (pss_one (ps_ret pe_bl))
      pss_nil))))))))))))))
      (pss_cons (ps_mk (ps_for PassesOwn.never rfl (pi_range1 (by rfl) T.range (pa_cons pe_int pa_nil)) (pg_name (i := 7) sc_law.nd rfl (.inl rfl))
      (pss_cons (ps_set (i := 12) sc_law.nd rfl (.inl rfl) (C8.pe_c c_device_fates hr (by omega) (by rfl) (pa_cons (C8.pe_c c_number hr (by omega) (by rfl) (pa_cons (pv 0) (pa_cons (pe_op op_add (pe_op op_add (pv 5) pe_int) (pv 7)) (pa_cons pe_int (pa_cons pe_int pa_nil))))) (pa_cons (pe_callB (lenQ K rfl) (by rfl) T.len PySem.boot_len (pa_cons (pe_dget (hu_of hr) (pe_ix (ixL K rfl) (pv 3) (pv 7) (fun _ _ => rfl)) pe_str (fun _ _ => rfl)) pa_nil)) pa_nil))))
      (pss_cons (ps_mk (ps_if (pt_not (pt_val (C8.pe_c c_device_holds hr (by omega) (by rfl) (pa_cons (pe_ix (ixL K rfl) (pv 2) (pe_op op_sub pe_int (pv 7)) (fun _ _ => rfl)) (pa_cons (pe_ix (ixL K rfl) (pv 3) (pe_op op_sub pe_int (pv 7)) (fun _ _ => rfl)) pa_nil)))))
      (pss_one (ps_ret pe_bl))
      pss_nil))
      (pss_one (ps_mk (ps_if (pt_not (pt_val (C8.pe_c c_device_call hr (by omega) (by rfl) (pa_cons (pe_ix (ixL K rfl) (pv 2) (pv 7) (fun _ _ => rfl)) (pa_cons (pe_ix (ixL K rfl) (pv 3) (pv 7) (fun _ _ => rfl)) (pa_cons pe_int (pa_cons pe_int (pa_cons (pe_tup pa_nil) (pa_cons (pv 12) pa_nil)))))))))
      (pss_one (ps_ret pe_bl))
      pss_nil)))))))
      (pss_one (ps_ret (pe_and (C8.pe_c c_device_holds hr (by omega) (by rfl) (pa_cons (pe_ix (ixL K rfl) (pv 2) pe_int (fun _ _ => rfl)) (pa_cons (pe_ix (ixL K rfl) (pv 3) pe_int (fun _ _ => rfl)) pa_nil))) (pe_one (C8.pe_c c_device_holds hr (by omega) (by rfl) (pa_cons (pe_ix (ixL K rfl) (pv 2) pe_int (fun _ _ => rfl)) (pa_cons (pe_ix (ixL K rfl) (pv 3) pe_int (fun _ _ => rfl)) pa_nil))))))))))))), ?_⟩
  have a0 : 0 ≤ num ns 0 0 8 := num_nn (by decide)
  have a1 : num ns 0 0 8 < 8 := num_lt (by decide)
  have b0 : 0 ≤ num ns 0 1 8 := num_nn (by decide)
  have b1 : num ns 0 1 8 < 8 := num_lt (by decide)
  walk_at "go"
  refine ⟨sz, fun l1 nl1 => ?_⟩
  have s1 := same_upd (o := HO.lst [V.int 2, V.int 3, V.int 5, V.int 9, V.int 600, V.int 7, V.int 4, V.int 600]) nl1
  have g1 := upd_same (H := H) (a := l1) (o := HO.lst [V.int 2, V.int 3, V.int 5, V.int 9, V.int 600, V.int 7, V.int 4, V.int 600])
  show _
  generalize upd H l1 (HO.lst [V.int 2, V.int 3, V.int 5, V.int 9, V.int 600, V.int 7, V.int 4, V.int 600]) = H1 at *
  have hS1 := s1.seq hS
  try dsimp only
  walk_at "go"
  obtain ⟨n1, an, n10, n11⟩ : ∃ n1 : Nat, atI [V.int 2, V.int 3, V.int 5, V.int 9, V.int 600, V.int 7, V.int 4, V.int 600] (num ns 0 1 8) = some (.int n1) ∧ 2 ≤ n1 ∧ n1 ≤ 600 := by
    generalize num ns 0 1 8 = m at *
    have : m = 0 ∨ m = 1 ∨ m = 2 ∨ m = 3 ∨ m = 4 ∨ m = 5 ∨ m = 6 ∨ m = 7 := by omega
    rcases this with rfl | rfl | rfl | rfl | rfl | rfl | rfl | rfl
    · exact ⟨2, rfl, by decide, by decide⟩
    · exact ⟨3, rfl, by decide, by decide⟩
    · exact ⟨5, rfl, by decide, by decide⟩
    · exact ⟨9, rfl, by decide, by decide⟩
    · exact ⟨600, rfl, by decide, by decide⟩
    · exact ⟨7, rfl, by decide, by decide⟩
    · exact ⟨4, rfl, by decide, by decide⟩
    · exact ⟨600, rfl, by decide, by decide⟩
  refine ⟨_, _, _, _, rfl, rfl, SqL.of g1, an, ?_⟩
  try dsimp only
  walk_at "go"
  obtain ⟨n0, en0⟩ : ∃ n0 : Nat, 2 + num ns 0 0 8 = (n0 : Int) := ⟨(2 + num ns 0 0 8).toNat, by omega⟩
  rw [en0]
  refine ⟨sz, fun Lc nLc => ?_⟩
  have s2 := s1.trans (same_upd (o := HO.lst [V.int n0, V.int n1]) nLc)
  have gc := upd_same (H := H1) (a := Lc) (o := HO.lst [V.int n0, V.int n1])
  have nLc0 := s1.free nLc
  show _
  generalize upd H1 Lc (HO.lst [V.int n0, V.int n1]) = H2 at *
  clear g1 nl1 hS1 s1 an b0 b1
  have at0 : atI [V.int n0, V.int n1] 0 = some (.int n0) := rfl
  have at1 : atI [V.int n0, V.int n1] 1 = some (.int n1) := rfl
  walk_at "go"
  refine ⟨_, _, _, _, rfl, rfl, SqL.of gc, at0, ?_⟩
  try dsimp only
  walk_at "go"
  intro p0 dx0 np0 ndx0 npx0
  have sC0 : Same H2 (upd (upd H2 dx0 (.own p0)) p0 (.ins C dx0 [])) := (same_upd ndx0).trans (same_upd (by rw [upd_ne npx0.symm]; exact np0))
  refine ⟨p0, dx0, n0, rfl, upd_same, by omega, fun pa0 wa0 H4 hc0o npa0 nwa0 b4 => ⟨rfl, ?_⟩⟩
  have s24 : Same H2 H4 := fun b o e => b4 _ _ (ne_of_none e np0) (sC0 _ _ e)
  have npa0 := sC0.free npa0
  have nwa0 := sC0.free nwa0
  have gc4 := s24 _ _ gc
  clear sC0 b4 ndx0 npx0
  try dsimp only
  walk_at "go"
  refine ⟨_, _, _, _, rfl, rfl, SqL.of gc4, at1, ?_⟩
  try dsimp only
  walk_at "go"
  intro p1 dx1 np1 ndx1 npx1
  have sC1 : Same H4 (upd (upd H4 dx1 (.own p1)) p1 (.ins C dx1 [])) := (same_upd ndx1).trans (same_upd (by rw [upd_ne npx1.symm]; exact np1))
  refine ⟨p1, dx1, n1, rfl, upd_same, by omega, fun pa1 wa1 H6 hc1o npa1 nwa1 b6 => ⟨rfl, ?_⟩⟩
  have s46 : Same H4 H6 := fun b o e => b6 _ _ (ne_of_none e np1) (sC1 _ _ e)
  have npa1 := sC1.free npa1
  have nwa1 := sC1.free nwa1
  have hc0 := hc0o.same s46
  have gc6 := s46 _ _ gc4
  clear sC1 b6 ndx1 npx1 gc4
  try dsimp only
  walk_at "go"
  refine ⟨sz, fun Ld nLd => ?_⟩
  have s67 := same_upd (o := HO.lst [V.ref p0, V.ref p1]) nLd
  have gd := upd_same (H := H6) (a := Ld) (o := HO.lst [V.ref p0, V.ref p1])
  show _
  generalize upd H6 Ld (HO.lst [V.ref p0, V.ref p1]) = H7 at *
  have hc0 := hc0.same s67
  have hc1 := hc1o.same s67
  have gc7 := s67 _ _ gc6
  walk_at "go"
  refine ⟨by omega, by omega, fun Lp nLp => lc_range (lo := 0) (n := 2) (fun j H' => Ob (∃ DK : Nat → Addr × Addr × Addr, Plns H7 H' Lp (fun i => if i = 0 then n0 else n1) DK j)) (ob ⟨fun _ => (Lp, Lp, Lp), Plns.zero nLp⟩) ?_ ?_⟩
  · intro j H8 hj h
    obtain ⟨DK, hP⟩ := unob h
    clear h
    refine ⟨rfl, ?_⟩
    rw [Int.zero_add]
    have gc8 := hP.s _ _ gc7
    have atj : atI [V.int n0, V.int n1] ((j : Nat) : Int) = some (.int ((if j = 0 then n0 else n1 : Nat))) := by
      have : j = 0 ∨ j = 1 := by omega
      rcases this with rfl | rfl <;> rfl
    intro d nd
    have t0 := same_upd (o := HO.dK []) nd
    have gdd := upd_same (H := H8) (a := d) (o := HO.dK [])
    show _
    generalize upd H8 d (HO.dK []) = H9 at *
    have gc9 := t0 _ _ gc8
    walk_at "go"
    refine ⟨_, _, _, _, rfl, rfl, SqL.of gc9, atj, ?_⟩
    try dsimp only
    walk_at "go"
    intro ka nka
    have t1 := same_upd (o := HO.dK []) nka
    have gka := upd_same (H := H9) (a := ka) (o := HO.dK [])
    have ndk : d ≠ ka := ne_of_none gdd nka
    have gdd := t1 _ _ gdd
    show _
    generalize upd H9 ka (HO.dK []) = H10 at *
    try dsimp only
    walk_at "go"
    refine ⟨sz, fun wl nwl => ?_⟩
    have t2 := same_upd (o := HO.lst []) nwl
    have gwl := upd_same (H := H10) (a := wl) (o := HO.lst [])
    have gdd := t2 _ _ gdd
    have gka := t2 _ _ gka
    show _
    generalize upd H10 wl (HO.lst []) = H11 at *
    try dsimp only
    refine ⟨gdd, pD (if j = 0 then n0 else n1) ka wl, rfl, (by show 3 ≤ 15; decide), ?_⟩
    have em : mergeK [] (pD (if j = 0 then n0 else n1) ka wl) = pD (if j = 0 then n0 else n1) ka wl := by kernel_rfl
    rw [em]
    exact hP.snoc (n := fun i => if i = 0 then n0 else n1) (t0.trans (t1.trans t2)) nd (t0.free nka) (t0.free (t1.free nwl)) gdd gka gwl ndk (by omega)
  intro H8 h
  obtain ⟨DK, hP⟩ := unob h
  clear h
  have hT := two_new s2 gc np0 npa0 nwa0 s24 hc0o np1 npa1 nwa1 s46 hc1o nLd s67 gd hP (by omega) (by omega) n10 n11
  clear s2 gc np0 npa0 nwa0 s24 hc0 hc1 hc0o hc1o np1 npa1 nwa1 s46 nLd s67 gd hP gc6 gc7 at0 at1
  generalize (fun i => if i = 0 then n0 else n1) = n at *
  generalize (fun i => if i = 0 then (⟨p0, pa0, wa0, dx0, (DK 0).1, (DK 0).2.1, (DK 0).2.2⟩ : Ad) else ⟨p1, pa1, wa1, dx1, (DK 1).1, (DK 1).2.1, (DK 1).2.2⟩) = A at *
  have hS8 := hT.s.seq hS
  try dsimp only
  walk_at "go"
  have e0 : 0 ≤ num ns 0 5 42 := num_nn (by decide)
  have e1 : num ns 0 5 42 < 42 := num_lt (by decide)
  obtain ⟨en, een⟩ : ∃ en : Int, en = 1 + num ns 0 5 42 := ⟨_, rfl⟩
  dsimp only
  rw [← een]
  walk_at "go"
  refine jnS (M := fun σ H' => ∃ A2, Two C H H' n A2 Lc Ld Lp en.toNat ∧ ∃ y4 y6 y7 y8 y9 y10 y11 y12, σ = [sR a, sR Lc, sR Ld, sR Lp, y4, sI en, y6, y7, y8, y9, y10, y11, y12]) ?_ (fun N kk => ?_)
  rotate_left
  · walk_at "go"
    refine ⟨_, _, rfl, ⟨by omega, by omega, by omega, by omega⟩, for_range (lo := 1) (n := (en + 1 - 1).toNat) (fun j σ H' => Ob (∃ A2, Two C H H' n A2 Lc Ld Lp j ∧ ∃ y4 y6 y7 y8 y9 y10 y11 y12, σ = [sR a, sR Lc, sR Ld, sR Lp, y4, sI en, y6, y7, y8, y9, y10, y11, y12])) (ob ⟨A, hT, _, _, _, _, _, _, _, _, rfl⟩) ?_ (fun σ H' h => ?_)⟩
    rotate_left
    · rw [show (en + 1 - 1).toNat = en.toNat by omega] at h
      exact kk _ _ (unob h)
    intro j σ H9 hj h
    obtain ⟨A2, h2, y4, y6, y7, y8, y9, y10, y11, y12, rfl⟩ := unob h
    clear h kk hT hS8
    have hS9 := h2.s.seq hS
    obtain ⟨i, hi, ei⟩ : ∃ i : Nat, i < 2 ∧ num ns (1 + (j : Int)) 15 2 = (i : Int) := by
      have d0 : 0 ≤ num ns (1 + (j : Int)) 15 2 := num_nn (by decide)
      have d1 : num ns (1 + (j : Int)) 15 2 < 2 := num_lt (by decide)
      exact ⟨(num ns (1 + (j : Int)) 15 2).toNat, by omega, by omega⟩
    have ac : ∀ f : Nat → V, atI [f 0, f 1] ((i : Nat) : Int) = some (f i) := fun f => by
      have : i = 0 ∨ i = 1 := by omega
      rcases this with rfl | rfl <;> rfl
    obtain ⟨m, perm, ws, st, lw⟩ := h2.st i hi
    obtain ⟨nn0, nn1⟩ := h2.nn i hi
    have k0 : 0 ≤ num ns (1 + (j : Int)) 3 1000 := num_nn (by decide)
    have k1 : num ns (1 + (j : Int)) 3 1000 < 1000 := num_lt (by decide)
    walk_at "go"
    rw [ei]
    refine ⟨_, _, _, _, rfl, rfl, SqL.of h2.gc, ac (fun k => V.int (n k)), ?_⟩
    walk_at "go"
    obtain ⟨nh, enh⟩ : ∃ nh, nh = num ns (1 + (j : Int)) 3 1000 := ⟨_, rfl⟩
    rw [← enh] at k0 k1 ⊢
    walk_at "go"
    obtain ⟨b0, eb0⟩ : ∃ b0 : Int, b0 = (nh / 9 * 7 + (1 + (j : Int))) % (n i : Int) := ⟨_, rfl⟩
    have hb0 : 0 ≤ b0 := by
      rw [eb0]
      exact Int.emod_nonneg _ (by omega)
    have hb1 : b0 < (n i : Int) := by
      rw [eb0]
      exact Int.emod_lt_of_pos _ (by omega)
    show gName 10 (V.int ((nh / 9 * 7 + (1 + (j : Int))) % (n i : Int))) _ _ _
    rw [← eb0]
    clear eb0
    walk_at "go"
    refine jnS (M := fun σ H' => ∃ b, -10000 ≤ b ∧ b ≤ 10000 ∧ Same H9 H' ∧ σ = [sR a, sR Lc, sR Ld, sR Lp, y4, sI en, sI (1 + (j : Int)), sI i, sI (n i), sI nh, sI b, y11, y12]) ?_ (fun N kk => ?_)
    rotate_left
    · walk_at "go"
      refine ifEq (fun c => ?_) (fun c => ?_)
      · walk_at "go"
        refine ⟨sz, fun l nl => ?_⟩
        have sl := same_upd (o := HO.lst [V.int (-1), V.int (n i), V.int ((n i : Int) + 1), V.int (0 - (n i : Int)), V.int ((n i : Int) + 1000)]) nl
        have gl := upd_same (H := H9) (a := l) (o := HO.lst [V.int (-1), V.int (n i), V.int ((n i : Int) + 1), V.int (0 - (n i : Int)), V.int ((n i : Int) + 1000)])
        show _
        generalize upd H9 l (HO.lst [V.int (-1), V.int (n i), V.int ((n i : Int) + 1), V.int (0 - (n i : Int)), V.int ((n i : Int) + 1000)]) = H10 at *
        obtain ⟨b', ab, hb2, hb3⟩ : ∃ b' : Int, atI [V.int (-1), V.int (n i), V.int ((n i : Int) + 1), V.int (0 - (n i : Int)), V.int ((n i : Int) + 1000)] (nh / 9 % 5) = some (.int b') ∧ -10000 ≤ b' ∧ b' ≤ 10000 := by
          have : nh / 9 % 5 = 0 ∨ nh / 9 % 5 = 1 ∨ nh / 9 % 5 = 2 ∨ nh / 9 % 5 = 3 ∨ nh / 9 % 5 = 4 := by omega
          rcases this with e | e | e | e | e <;> rw [e]
          · exact ⟨_, rfl, by omega, by omega⟩
          · exact ⟨_, rfl, by omega, by omega⟩
          · exact ⟨_, rfl, by omega, by omega⟩
          · exact ⟨_, rfl, by omega, by omega⟩
          · exact ⟨_, rfl, by omega, by omega⟩
        walk_at "go"
        refine ⟨_, _, _, _, rfl, rfl, SqL.of gl, ab, ?_⟩
        exact kk _ _ ⟨b', hb2, hb3, sl, rfl⟩
      · exact kk _ _ ⟨b0, by omega, by omega, same_rfl, rfl⟩
    clear hb0 hb1 b0
    rintro σ H10 ⟨b1, hb0, hb1, s10, rfl⟩
    walk_at "go"
    refine jnS (M := fun σ H' => ∃ b, -10000 ≤ b ∧ b ≤ 10000 ∧ H' = H10 ∧ σ = [sR a, sR Lc, sR Ld, sR Lp, y4, sI en, sI (1 + (j : Int)), sI i, sI (n i), sI nh, sI b, y11, y12]) ?_ (fun N kk => ?_)
    rotate_left
    · walk_at "go"
      refine ifD (fun c => ?_) (fun c => ?_)
      · walk_at "go"
        refine ifD (fun c2 => ?_) (fun c2 => ?_)
        · repeat (first | refine ⟨_, _, rfl, ?_⟩ | walk_at "st")
          obtain ⟨mn, emn⟩ : ∃ mn : Int, mn = (if (n i : Int) < 3 then (n i : Int) else 3) := ⟨_, rfl⟩
          have mn0 : 0 < mn := by
            rw [emn]
            split <;> omega
          have mn1 : mn ≤ 600 := by
            rw [emn]
            split <;> omega
          rw [← emn]
          walk_at "go"
          have z0 := Int.emod_nonneg (nh / 9) (show mn ≠ 0 by omega)
          have z1 := Int.emod_lt_of_pos (nh / 9) mn0
          exact kk _ _ ⟨nh / 9 % mn, by omega, by omega, rfl, rfl⟩
        · exact kk _ _ ⟨b1, hb0, hb1, rfl, rfl⟩
      · exact kk _ _ ⟨b1, hb0, hb1, rfl, rfl⟩
    clear hb0 hb1 b1
    rintro σ H11 ⟨b, hb0, hb1, e11, rfl⟩
    subst e11
    have h10 := h2.same s10
    have hS10 := h10.s.seq hS
    clear h2 hS9 st
    have m0 : 0 ≤ num ns (1 + (j : Int)) 1 1000 := num_nn (by decide)
    have m1 : num ns (1 + (j : Int)) 1 1000 < 1000 := num_lt (by decide)
    have m2 : 0 ≤ num ns (1 + (j : Int)) 2 1000 := num_nn (by decide)
    have m3 : num ns (1 + (j : Int)) 2 1000 < 1000 := num_lt (by decide)
    walk_at "go"
    refine ⟨by omega, m2, by omega, fun v d H12 s12 dv nd => ?_⟩
    have h12 := h10.same s12
    have hS12 := h12.s.seq hS
    obtain ⟨m, perm, ws, st, lw⟩ := h12.st i hi
    obtain ⟨pvs, us, hc⟩ := id st.dv
    obtain ⟨kvs, ud, hp⟩ := id st.pl
    have wl' := hp.dw.len
    rw [List.length_map] at wl'
    clear h10 hS10 m0 m1 m2 m3
    have m0 : 0 ≤ num ns (1 + (j : Int)) 6 1000 := num_nn (by decide)
    have m1 : num ns (1 + (j : Int)) 6 1000 < 1000 := num_lt (by decide)
    walk_at "go"
    refine ⟨_, _, _, _, rfl, rfl, SqL.of h12.gp, ac (fun k => V.ref (A2 k).d), ?_⟩
    try dsimp only
    walk_at "go"
    refine ⟨(A2 i).d, _, rfl, pD_w ▸ DGet.k (k := Sum.inr "wait") hp.g, ?_⟩
    walk_at "go"
    refine ⟨_, _, rfl, .inl (SqL.of hp.w), ?_⟩
    try dsimp only
    rw [wl']
    walk_at "go"
    refine ⟨by omega, by omega, by omega, fun fa fs H13 s13 nfa gfa lfs => ?_⟩
    have h13 := h12.same s13
    have hS13 := h13.s.seq hS
    have st13 := st.same s13
    have dv13 := Dh.mono s13 _ _ dv
    have nfA : fa ∉ (A2 i).l := nin_new st.pr nfa
    clear h12 hS12 st hc hp m0 m1 dv nfa
    walk_at "go"
    refine un ?_
    walk_at "go"
    refine ⟨_, _, _, _, rfl, rfl, SqL.of h13.gd, ac (fun k => V.ref (A2 k).p), ?_⟩
    try dsimp only
    walk_at "go"
    refine ⟨_, _, _, _, rfl, rfl, SqL.of h13.gp, ac (fun k => V.ref (A2 k).d), ?_⟩
    try dsimp only
    walk_at "go"
    refine ⟨A2 i, n i, m, perm, ws, _, b, v, d, fa, fs, rfl, st13, by omega, by omega, dv13, nd, gfa, lfs, nfA, by omega, fun A' m' perm' ws' H14 st14 ep ed fp lm b14 => ?_⟩
    have h14 := h13.step hi st13 st14 ep ed fp (by omega) b14
    have hS14 := h14.s.seq hS
    walk_at "go"
    refine un ?_
    walk_at "go"
    refine ⟨_, _, _, _, rfl, rfl, SqL.of h14.gd, ac (fun k => V.ref (if k = i then A' else A2 k).p), ?_⟩
    try dsimp only
    walk_at "go"
    refine ⟨_, _, _, _, rfl, rfl, SqL.of h14.gp, ac (fun k => V.ref (if k = i then A' else A2 k).d), ?_⟩
    try dsimp only
    walk_at "go"
    refine ⟨A', n i, m', perm', ws', (by rw [if_pos rfl]; rfl), st14, fun H15 s15 => ?_⟩
    walk_at "go"
    exact ob ⟨_, h14.same s15, _, _, _, _, _, _, _, _, rfl⟩
  rintro σ H9 ⟨A2, h2, y4, y6, y7, y8, y9, y10, y11, y12, rfl⟩
  clear hT hS8
  walk_at "go"
  refine jnS (M := fun σ H' => ∃ A2, Two C H H' n A2 Lc Ld Lp (en.toNat + 2) ∧ ∃ y4 y6 y7 y8 y9 y10 y11 y12, σ = [sR a, sR Lc, sR Ld, sR Lp, y4, sI en, y6, y7, y8, y9, y10, y11, y12]) ?_ (fun N kk => ?_)
  rotate_left
  · walk_at "go"
    refine ⟨by omega, by omega, for_range (lo := 0) (n := 2) (fun i σ H' => Ob (∃ A2, Two C H H' n A2 Lc Ld Lp (en.toNat + i) ∧ ∃ y4 y6 y7 y8 y9 y10 y11 y12, σ = [sR a, sR Lc, sR Ld, sR Lp, y4, sI en, y6, y7, y8, y9, y10, y11, y12])) (ob ⟨A2, h2, _, _, _, _, _, _, _, _, rfl⟩) ?_ (fun σ H' h => kk _ _ (unob h))⟩
    intro i σ H10 hi h
    clear h2 A2 kk
    obtain ⟨A2, h2, y4, y6, y7, y8, y9, y10, y11, y12, rfl⟩ := unob h
    clear h
    rw [Int.zero_add]
    have hS10 := h2.s.seq hS
    have ac : ∀ f : Nat → V, atI [f 0, f 1] ((i : Nat) : Int) = some (f i) := fun f => by
      have : i = 0 ∨ i = 1 := by omega
      rcases this with rfl | rfl <;> rfl
    have ad : ∀ f : Nat → V, atI [f 0, f 1] (1 - ((i : Nat) : Int)) = some (f (1 - i)) := fun f => by
      have : i = 0 ∨ i = 1 := by omega
      rcases this with rfl | rfl <;> rfl
    obtain ⟨m, perm, ws, st, lw⟩ := h2.st i hi
    obtain ⟨pvs, us, hc⟩ := id st.dv
    obtain ⟨kvs, ud, hp⟩ := id st.pl
    have wl' := hp.dw.len
    rw [List.length_map] at wl'
    have m0 : 0 ≤ num ns (en + 1 + (i : Int)) 6 1000 := num_nn (by decide)
    have m1 : num ns (en + 1 + (i : Int)) 6 1000 < 1000 := num_lt (by decide)
    walk_at "go"
    refine ⟨_, _, _, _, rfl, rfl, SqL.of h2.gp, ac (fun k => V.ref (A2 k).d), ?_⟩
    try dsimp only
    walk_at "go"
    refine ⟨(A2 i).d, _, rfl, pD_w ▸ DGet.k (k := Sum.inr "wait") hp.g, ?_⟩
    walk_at "go"
    refine ⟨_, _, rfl, .inl (SqL.of hp.w), ?_⟩
    try dsimp only
    rw [wl']
    walk_at "go"
    refine ⟨by omega, by omega, by omega, fun fa fs H13 s13 nfa gfa lfs => ?_⟩
    have h13 := h2.same s13
    have hS13 := h13.s.seq hS
    have nfA : fa ∉ (A2 i).l := nin_new st.pr nfa
    obtain ⟨m2, perm2, ws2, st2, _⟩ := h13.st (1 - i) (by omega)
    try dsimp only
    walk_at "go"
    refine un ?_
    walk_at "go"
    refine ⟨_, _, _, _, rfl, rfl, SqL.of h13.gd, ad (fun k => V.ref (A2 k).p), ?_⟩
    try dsimp only
    walk_at "go"
    refine ⟨_, _, _, _, rfl, rfl, SqL.of h13.gp, ad (fun k => V.ref (A2 k).d), ?_⟩
    try dsimp only
    walk_at "go"
    refine ⟨A2 (1 - i), n (1 - i), m2, perm2, ws2, rfl, st2, fun H14 s14 => ?_⟩
    have h14 := h13.same s14
    have st14 := (st.same s13).same s14
    have gfa14 := s14 _ _ gfa
    walk_at "go"
    refine un ?_
    walk_at "go"
    refine ⟨_, _, _, _, rfl, rfl, SqL.of h14.gd, ac (fun k => V.ref (A2 k).p), ?_⟩
    try dsimp only
    walk_at "go"
    refine ⟨_, _, _, _, rfl, rfl, SqL.of h14.gp, ac (fun k => V.ref (A2 k).d), ?_⟩
    try dsimp only
    walk_at "go"
    refine ⟨sz, fun t nt => ?_⟩
    have s15 := same_upd (o := HO.tup []) nt
    have gt := upd_same (H := H14) (a := t) (o := HO.tup [])
    show _
    generalize upd H14 t (HO.tup []) = H15 at *
    try dsimp only
    walk_at "go"
    refine ⟨A2 i, n i, m, perm, ws, 11, 0, .ref t, .tuple [], fa, fs, rfl, st14.same s15, by decide, by decide, dh0 gt, Nic.t0, s15 _ _ gfa14, lfs, nfA, by omega, fun A' m' perm' ws' H16 st16 ep ed fp lm b16 => ?_⟩
    have h16 := (h14.same s15).step hi (st14.same s15) st16 ep ed fp (by omega) b16
    walk_at "go"
    exact ob ⟨_, h16, _, _, _, _, _, _, _, _, rfl⟩
  rintro σ H10 ⟨A3, h3, z4, z6, z7, z8, z9, z10, z11, z12, rfl⟩
  clear h2 A2
  walk_at "go"
  obtain ⟨m0, perm0, ws0, st0, _⟩ := h3.st 0 (by omega)
  refine ⟨_, _, _, .ref (A3 0).p, rfl, rfl, SqL.of h3.gd, rfl, ?_⟩
  try dsimp only
  walk_at "go"
  refine ⟨_, _, _, .ref (A3 0).d, rfl, rfl, SqL.of h3.gp, rfl, ?_⟩
  try dsimp only
  walk_at "go"
  refine ⟨A3 0, n 0, m0, perm0, ws0, rfl, st0, fun H11 s11 => ?_⟩
  have h4 := h3.same s11
  obtain ⟨m1, perm1, ws1, st1, _⟩ := h4.st 1 (by omega)
  walk_at "go"
  refine ⟨_, _, _, .ref (A3 1).p, rfl, rfl, SqL.of h4.gd, rfl, ?_⟩
  try dsimp only
  walk_at "go"
  refine ⟨_, _, _, .ref (A3 1).d, rfl, rfl, SqL.of h4.gp, rfl, ?_⟩
  try dsimp only
  walk_at "go"
  exact ⟨A3 1, n 1, m1, perm1, ws1, rfl, st1, fun H12 s12 => q0 _⟩
end

end

/-- what the written part says, asked one by one -/
theorem own_mk {P : Program} {K : PySem.W.Frag} {h : Heap} {mg : Str → Option Value} (X : K.In h) (G : h.Ns mainGlobals mg) {st : Stmt} {qn : Str} {D f cc c N : Addr} {oc ccl cl dV kV doc pm ctv : Value} {od an cdd cld dd : Option Addr} {osl ccs csl : Array (Option Value)} {vs : Array Value} {file : Str} {tf : Tok}
    {nm q : Str} {bs bm : List Value} {sn : List Str} {sub : List Value} {ab : Bool} {col : Option Bool} {k0 k1 k2 k3 k5 : Option Value} {ar : Arg}
    (iC : PySem.W.findIn K (.ref D) "__init__" = some (some (.ref f))) (tI : PySem.W.typeIn K (.ref f) = some (.type "function"))
    (lF : K.lookup f = some ⟨oc, od, .func (PySem.W.fnX "__init__" qn (C8.fnArgs st) (C8.fnBody st) (C8.fnScope st) [("__class__", cc)] dV kV doc pm an (.ref c) ctv), osl⟩)
    (cF : PySem.W.codeIn K (.ref c) qn = true) (lc : K.lookup c = some ⟨ccl, cdd, .fields vs, ccs⟩) (hv : vs[2]? = some (.str file tf)) (hf : ((P.main.file : Str) == file) = true) (tp : (P.main.scope.names.lookup ("super" : Str)).isSome = false)
    (lcc : K.lookup cc = some ⟨cl, cld, .cell (some (.ref D)), csl⟩) (zs : PySem.W.nsIn K mainGlobals "super" = some none) (hp : ((C8.fnArgs st).posonlyargs ++ (C8.fnArgs st).args).head? = some ar) (ha : ar.arg = "self")
    (sk : (C8.fnScope st).names.lookup ("super" : Str) = some .globalImplicit)
    (lD : K.lookup D = some (excClassObj nm q D N bs bm true sn sub ab col dd k0 k1 k2 k3 k5 "ValueError.__new__")) (rb : PySem.HandSPX.refsVE bm = true)
    (sa : PySem.W.findIn K (.ref D) "__setattr__" = some (some (.builtin "object.__setattr__"))) (ex : PySem.W.subIn K (.ref D) (.type "BaseException") = some true) (ty : PySem.W.typeIn K (.ref D) = some (.type "type")) (kC : PySem.W.keepIn K (.ref D) = true)
    (mr : PySem.W.mroIn K D (.ref D) = some true) (ini : PySem.W.ks_superIn K D D "__init__" = some (some (.builtin "ValueError.__init__"))) (ve : PySem.W.subIn K (.ref D) (.type "ValueError") = some true) (any : PySem.W.nsIn K cStatics "thirdparty.any" = some none) :
    SupAt P K mg (NF.of st "__init__" qn [("__class__", cc)] c) f D cc "self" dV kV doc pm ctv an ∧ OexC K D := by
  have O : OexC K D := ⟨⟨nm, q, N, bs, bm, sn, sub, ab, col, dd, k0, k1, k2, k3, k5, lD, rb⟩, sa, ex, ty, kC⟩
  exact ⟨⟨⟨_, _, _, lF⟩, rfl, cF, ⟨_, _, _, _, _, _, lc, hv, hf⟩, tp, ⟨_, _, _, lcc⟩, PySem.W.mg_none_of X G zs, ⟨ar, hp, ha⟩, sk, O, mr, ini, ve, any⟩, O⟩

section

-- a condition of an operator
local macro_rules | `(tactic| walk_at "cond") => `(tactic| first
  | (show (0 : Int) < _; omega)
  | (show CDiv _ _; constructor <;> (first | decide | omega))
  | (show CMul _ _; first | (refine cmul_l ?_; constructor <;> (first | decide | omega)) | (refine cmul_r ?_; constructor <;> (first | decide | omega)))
  | (show CPow _ _; exact (by refine ⟨by decide, by decide, by decide⟩))
  | (show CDivW _ _; exact ⟨by decide, by decide +kernel⟩))
local macro_rules | `(tactic| walk_at "sq") => `(tactic| first | assumption | exact Dh.mono (same_upd (by assumption)) _ _ (by assumption) | exact .inl (.inl (.inl (by assumption))) | exact .inr (.inl (.inl (by assumption))) | exact SqL.of (by assumption) | exact .inl (by assumption) | exact .inl (SqL.of (by assumption)) | exact SqT.of (by assumption) | exact .inr (SqT.of (by assumption)))
local macro_rules | `(tactic| walk_at "st") => `(tactic| first
  | refine ⟨_, rfl, ?_⟩
  | refine ⟨_, _, rfl, rfl, ?_⟩
  | refine .inl ⟨_, rfl, ?_⟩
  | refine ⟨rfl, ?_⟩
  | refine ⟨_, _, rfl, by walk_at "sq", ?_⟩
  | refine ⟨.inl ⟨rfl, _, SqL.of (by assumption)⟩, ?_⟩
  | refine ⟨by walk_at "cond", ?_⟩
  | (refine' ifBT ?hh ?_; (case hh => first | rfl | assumption))
  | (refine' ifBF ?hh ?_; (case hh => first | rfl | assumption)))
local macro_rules | `(tactic| walk_at "go") => `(tactic| repeat walk_at "st")
local macro_rules | `(tactic| walk_at "yes") => `(tactic| (refine' ifT ?hh ?_; (case hh => first | rfl | decide +kernel)))
local macro_rules | `(tactic| walk_at "no") => `(tactic| (refine' ifF ?hh ?_; (case hh => first | decide +kernel | (intro z; cases z; done))))

theorem all_mk {l : PySem.W.OpenLaw} {w : World} {K : PySem.W.Frag} {h : Heap} {mg : Str → Option Value} {fa : Addr} (X : K.In h) (G : h.Ns mainGlobals mg) (hfa : mg "law" = some (.ref fa))
    {CV : Addr} (aCV : PySem.W.nsIn K mainGlobals "Device" = some (some (.ref CV)))
    {od_m_init an_m_init : Option Addr} {sl_m_init : Array (Option Value)} {f_m_init : Addr} {oc_m_init kV_m_init dc_m_init pm_m_init cd_m_init ct_m_init : Value}
    (a_m_init : PySem.W.findIn K (.ref CV) "__init__" = some (some (.ref f_m_init))) (i_m_init : PySem.W.isFn K (.ref f_m_init) = true)
    (l_m_init : K.lookup f_m_init = some ⟨oc_m_init, od_m_init, .func (PySem.W.fnOf "__init__" "Device.__init__" (C8.fnArgs s_Device___init__) (C8.fnBody s_Device___init__) (C8.fnScope s_Device___init__) .none kV_m_init dc_m_init pm_m_init an_m_init cd_m_init ct_m_init), sl_m_init⟩)
    (c_m_init : PySem.W.codeIn K cd_m_init "Device.__init__" = true) (k_m_init : PySem.W.keepIn K (.ref f_m_init) = true)
    {od_m_write an_m_write : Option Addr} {sl_m_write : Array (Option Value)} {f_m_write : Addr} {oc_m_write kV_m_write dc_m_write pm_m_write cd_m_write ct_m_write : Value}
    (a_m_write : PySem.W.findIn K (.ref CV) "write" = some (some (.ref f_m_write))) (i_m_write : PySem.W.isFn K (.ref f_m_write) = true)
    (l_m_write : K.lookup f_m_write = some ⟨oc_m_write, od_m_write, .func (PySem.W.fnOf "write" "Device.write" (C8.fnArgs s_Device_write) (C8.fnBody s_Device_write) (C8.fnScope s_Device_write) .none kV_m_write dc_m_write pm_m_write an_m_write cd_m_write ct_m_write), sl_m_write⟩)
    (c_m_write : PySem.W.codeIn K cd_m_write "Device.write" = true) (k_m_write : PySem.W.keepIn K (.ref f_m_write) = true)
    {od_m_read an_m_read : Option Addr} {sl_m_read : Array (Option Value)} {f_m_read : Addr} {oc_m_read kV_m_read dc_m_read pm_m_read cd_m_read ct_m_read : Value}
    (a_m_read : PySem.W.findIn K (.ref CV) "read" = some (some (.ref f_m_read))) (i_m_read : PySem.W.isFn K (.ref f_m_read) = true)
    (l_m_read : K.lookup f_m_read = some ⟨oc_m_read, od_m_read, .func (PySem.W.fnOf "read" "Device.read" (C8.fnArgs s_Device_read) (C8.fnBody s_Device_read) (C8.fnScope s_Device_read) .none kV_m_read dc_m_read pm_m_read an_m_read cd_m_read ct_m_read), sl_m_read⟩)
    (c_m_read : PySem.W.codeIn K cd_m_read "Device.read" = true) (k_m_read : PySem.W.keepIn K (.ref f_m_read) = true)
    {od_m_barrier an_m_barrier : Option Addr} {sl_m_barrier : Array (Option Value)} {f_m_barrier : Addr} {oc_m_barrier kV_m_barrier dc_m_barrier pm_m_barrier cd_m_barrier ct_m_barrier : Value}
    (a_m_barrier : PySem.W.findIn K (.ref CV) "barrier" = some (some (.ref f_m_barrier))) (i_m_barrier : PySem.W.isFn K (.ref f_m_barrier) = true)
    (l_m_barrier : K.lookup f_m_barrier = some ⟨oc_m_barrier, od_m_barrier, .func (PySem.W.fnOf "barrier" "Device.barrier" (C8.fnArgs s_Device_barrier) (C8.fnBody s_Device_barrier) (C8.fnScope s_Device_barrier) .none kV_m_barrier dc_m_barrier pm_m_barrier an_m_barrier cd_m_barrier ct_m_barrier), sl_m_barrier⟩)
    (c_m_barrier : PySem.W.codeIn K cd_m_barrier "Device.barrier" = true) (k_m_barrier : PySem.W.keepIn K (.ref f_m_barrier) = true)
    {od_m_pending an_m_pending : Option Addr} {sl_m_pending : Array (Option Value)} {f_m_pending : Addr} {oc_m_pending kV_m_pending dc_m_pending pm_m_pending cd_m_pending ct_m_pending : Value}
    (a_m_pending : PySem.W.findIn K (.ref CV) "pending" = some (some (.ref f_m_pending))) (i_m_pending : PySem.W.isFn K (.ref f_m_pending) = true)
    (l_m_pending : K.lookup f_m_pending = some ⟨oc_m_pending, od_m_pending, .func (PySem.W.fnOf "pending" "Device.pending" (C8.fnArgs s_Device_pending) (C8.fnBody s_Device_pending) (C8.fnScope s_Device_pending) .none kV_m_pending dc_m_pending pm_m_pending an_m_pending cd_m_pending ct_m_pending), sl_m_pending⟩)
    (c_m_pending : PySem.W.codeIn K cd_m_pending "Device.pending" = true) (k_m_pending : PySem.W.keepIn K (.ref f_m_pending) = true)
    {od_m_crash an_m_crash : Option Addr} {sl_m_crash : Array (Option Value)} {f_m_crash : Addr} {oc_m_crash kV_m_crash dc_m_crash pm_m_crash cd_m_crash ct_m_crash : Value}
    (a_m_crash : PySem.W.findIn K (.ref CV) "crash" = some (some (.ref f_m_crash))) (i_m_crash : PySem.W.isFn K (.ref f_m_crash) = true)
    (l_m_crash : K.lookup f_m_crash = some ⟨oc_m_crash, od_m_crash, .func (PySem.W.fnOf "crash" "Device.crash" (C8.fnArgs s_Device_crash) (C8.fnBody s_Device_crash) (C8.fnScope s_Device_crash) .none kV_m_crash dc_m_crash pm_m_crash an_m_crash cd_m_crash ct_m_crash), sl_m_crash⟩)
    (c_m_crash : PySem.W.codeIn K cd_m_crash "Device.crash" = true) (k_m_crash : PySem.W.keepIn K (.ref f_m_crash) = true)
    {od_m_check_block an_m_check_block : Option Addr} {sl_m_check_block : Array (Option Value)} {f_m_check_block : Addr} {oc_m_check_block kV_m_check_block dc_m_check_block pm_m_check_block cd_m_check_block ct_m_check_block : Value}
    (a_m_check_block : PySem.W.findIn K (.ref CV) "_check_block" = some (some (.ref f_m_check_block))) (i_m_check_block : PySem.W.isFn K (.ref f_m_check_block) = true)
    (l_m_check_block : K.lookup f_m_check_block = some ⟨oc_m_check_block, od_m_check_block, .func (PySem.W.fnOf "_check_block" "Device._check_block" (C8.fnArgs s_Device__check_block) (C8.fnBody s_Device__check_block) (C8.fnScope s_Device__check_block) .none kV_m_check_block dc_m_check_block pm_m_check_block an_m_check_block cd_m_check_block ct_m_check_block), sl_m_check_block⟩)
    (c_m_check_block : PySem.W.codeIn K cd_m_check_block "Device._check_block" = true) (k_m_check_block : PySem.W.keepIn K (.ref f_m_check_block) = true)
    {od_m_end_writes an_m_end_writes : Option Addr} {sl_m_end_writes : Array (Option Value)} {f_m_end_writes : Addr} {oc_m_end_writes kV_m_end_writes dc_m_end_writes pm_m_end_writes cd_m_end_writes ct_m_end_writes : Value}
    (a_m_end_writes : PySem.W.findIn K (.ref CV) "_end_writes" = some (some (.ref f_m_end_writes))) (i_m_end_writes : PySem.W.isFn K (.ref f_m_end_writes) = true)
    (l_m_end_writes : K.lookup f_m_end_writes = some ⟨oc_m_end_writes, od_m_end_writes, .func (PySem.W.fnOf "_end_writes" "Device._end_writes" (C8.fnArgs s_Device__end_writes) (C8.fnBody s_Device__end_writes) (C8.fnScope s_Device__end_writes) .none kV_m_end_writes dc_m_end_writes pm_m_end_writes an_m_end_writes cd_m_end_writes ct_m_end_writes), sl_m_end_writes⟩)
    (c_m_end_writes : PySem.W.codeIn K cd_m_end_writes "Device._end_writes" = true) (k_m_end_writes : PySem.W.keepIn K (.ref f_m_end_writes) = true)
    (pgCV : PySem.W.plainGet K CV Str.empty = true) (hdCV : PySem.W.hasDictIn K CV = true) (poCV : PySem.W.plainOver K CV = true) (saCV : PySem.W.findIn K (.ref CV) "__setattr__" = some (some (.builtin "object.__setattr__"))) (mkCV : PySem.W.makesIn K CV = true) (kcCV : PySem.W.keepIn K (.ref CV) = true)
    (nLV : PySem.W.findIn K (.ref CV) "_permanent" = some none)
    (nRV : PySem.W.findIn K (.ref CV) "_writes" = some none)
    (hgs : PySem.W.specialIn K (.builtin "object.__class__") "__get__" = some (some (.builtin "getset_descriptor.__get__"))) (htk : PySem.W.takesIn K (.builtin "object.__class__") = some true)
    {D fD ccD cD ND : Addr} {ocD cclD clD kVD docD pmD ctvD : Value} {odD anD cddD cldD ddD : Option Addr} {oslD ccsD cslD : Array (Option Value)} {vsD : Array Value} {fileD : Str} {tfD : Tok}
    {nmD qD : Str} {bsD bmD : List Value} {snD : List Str} {subD : List Value} {abD : Bool} {colD : Option Bool} {k0D k1D k2D k3D k5D : Option Value}
    (aD : PySem.W.nsIn K mainGlobals "BadRange" = some (some (.ref D)))
    (iCD : PySem.W.findIn K (.ref D) "__init__" = some (some (.ref fD))) (tID : PySem.W.typeIn K (.ref fD) = some (.type "function"))
    (lFD : K.lookup fD = some ⟨ocD, odD, .func (PySem.W.fnX "__init__" "BadRange.__init__" (C8.fnArgs s_BadRange_init) (C8.fnBody s_BadRange_init) (C8.fnScope s_BadRange_init) [("__class__", ccD)] .none kVD docD pmD anD (.ref cD) ctvD), oslD⟩)
    (cFD : PySem.W.codeIn K (.ref cD) "BadRange.__init__" = true) (lcD : K.lookup cD = some ⟨cclD, cddD, .fields vsD, ccsD⟩) (x_hvD : vsD[2]? = some (.str fileD tfD)) (x_hfD : ((l.prog.main.file : Str) == fileD) = true) (x_tpD : (l.prog.main.scope.names.lookup ("super" : Str)).isSome = false)
    (lccD : K.lookup ccD = some ⟨clD, cldD, .cell (some (.ref D)), cslD⟩) (zsuperD : PySem.W.nsIn K mainGlobals "super" = some none)
    (lDD : K.lookup D = some (excClassObj nmD qD D ND bsD bmD true snD subD abD colD ddD k0D k1D k2D k3D k5D "ValueError.__new__")) (x_rbD : PySem.HandSPX.refsVE bmD = true)
    (saD : PySem.W.findIn K (.ref D) "__setattr__" = some (some (.builtin "object.__setattr__"))) (exD : PySem.W.subIn K (.ref D) (.type "BaseException") = some true) (tyD : PySem.W.typeIn K (.ref D) = some (.type "type")) (kCD : PySem.W.keepIn K (.ref D) = true)
    (mrD : PySem.W.mroIn K D (.ref D) = some true) (x_iniD : PySem.W.ks_superIn K D D "__init__" = some (some (.builtin "ValueError.__init__"))) (veD : PySem.W.subIn K (.ref D) (.type "ValueError") = some true) (anyD : PySem.W.nsIn K cStatics "thirdparty.any" = some none)
    (nD_start : PySem.W.findIn K (.ref D) "start" = some none)
    (nD_end : PySem.W.findIn K (.ref D) "end" = some none)
    (hgaD : PySem.W.findIn K (.ref D) "__getattribute__" = some (some (.builtin "BaseException.__getattribute__")))
    (hgtD : PySem.W.findIn K (.ref D) "__getattr__" = some none)
    (hclD : PySem.W.findIn K (.ref D) "__class__" = some (some (.builtin "object.__class__")))
    (hhdD : PySem.W.hasDictIn K D = true) (hobD : PySem.W.mroIn K D (.type "object") = some true)
    {AE PgE U DN BF LE ME FE CE : Addr}
    (aAE : PySem.W.nsIn K mainGlobals "AccessError" = some (some (.ref AE)))
    (aPgE : PySem.W.nsIn K mainGlobals "PagesError" = some (some (.ref PgE)))
    (aU : PySem.W.nsIn K mainGlobals "Unmapped" = some (some (.ref U)))
    (aDN : PySem.W.nsIn K mainGlobals "Denied" = some (some (.ref DN)))
    (aBF : PySem.W.nsIn K mainGlobals "BeyondFile" = some (some (.ref BF)))
    (aLE : PySem.W.nsIn K mainGlobals "LimitError" = some (some (.ref LE)))
    (aME : PySem.W.nsIn K mainGlobals "MissingError" = some (some (.ref ME)))
    (aFE : PySem.W.nsIn K mainGlobals "FileError" = some (some (.ref FE)))
    (aCE : PySem.W.nsIn K mainGlobals "CodeError" = some (some (.ref CE)))
    (zValueError : PySem.W.nsIn K mainGlobals "ValueError" = some none)
    (x_eDD : PySem.W.exmOne K (.ref D) (.ref D) = some true)
    (x_eDA : PySem.W.exmOne K (.ref D) (.ref AE) = some true)
    (x_iDD : PySem.W.kitOne K (.ref D) (.ref D) = some true)
    (x_iDP : PySem.W.kitOne K (.ref D) (.ref PgE) = some true)
    (x_iDV : PySem.W.kitOne K (.ref D) (.type "ValueError") = some true)
    (x_iDN : PySem.W.kitAny K (.ref D) [.ref U, .ref DN, .ref BF, .ref LE, .ref ME, .ref FE, .ref CE] = some false)
    {od_check_range an_check_range : Option Addr} {sl_check_range : Array (Option Value)} {f_check_range : Addr} {oc_check_range kV_check_range dc_check_range pm_check_range cd_check_range ct_check_range : Value}
    (a_check_range : PySem.W.nsIn K mainGlobals "check_range" = some (some (.ref f_check_range)))
    (l_check_range : K.lookup f_check_range = some ⟨oc_check_range, od_check_range, .func (PySem.W.fnOf "check_range" "check_range" (C8.fnArgs s_check_range) (C8.fnBody s_check_range) (C8.fnScope s_check_range) .none kV_check_range dc_check_range pm_check_range an_check_range cd_check_range ct_check_range), sl_check_range⟩)
    (c_check_range : PySem.W.codeIn K cd_check_range "check_range" = true) (k_check_range : PySem.W.keepIn K (.ref f_check_range) = true)
    {od_number an_number : Option Addr} {sl_number : Array (Option Value)} {f_number : Addr} {oc_number kV_number dc_number pm_number cd_number ct_number : Value}
    (a_number : PySem.W.nsIn K mainGlobals "_law_number" = some (some (.ref f_number)))
    (l_number : K.lookup f_number = some ⟨oc_number, od_number, .func (PySem.W.fnOf "_law_number" "_law_number" (C8.fnArgs s_number) (C8.fnBody s_number) (C8.fnScope s_number) .none kV_number dc_number pm_number an_number cd_number ct_number), sl_number⟩)
    (c_number : PySem.W.codeIn K cd_number "_law_number" = true) (k_number : PySem.W.keepIn K (.ref f_number) = true)
    {od_is_whole an_is_whole : Option Addr} {sl_is_whole : Array (Option Value)} {f_is_whole : Addr} {oc_is_whole kV_is_whole dc_is_whole pm_is_whole cd_is_whole ct_is_whole : Value}
    (a_is_whole : PySem.W.nsIn K mainGlobals "_law_is_whole" = some (some (.ref f_is_whole)))
    (l_is_whole : K.lookup f_is_whole = some ⟨oc_is_whole, od_is_whole, .func (PySem.W.fnOf "_law_is_whole" "_law_is_whole" (C8.fnArgs s_is_whole) (C8.fnBody s_is_whole) (C8.fnScope s_is_whole) .none kV_is_whole dc_is_whole pm_is_whole an_is_whole cd_is_whole ct_is_whole), sl_is_whole⟩)
    (c_is_whole : PySem.W.codeIn K cd_is_whole "_law_is_whole" = true) (k_is_whole : PySem.W.keepIn K (.ref f_is_whole) = true)
    {od_same an_same : Option Addr} {sl_same : Array (Option Value)} {f_same : Addr} {oc_same kV_same dc_same pm_same cd_same ct_same : Value}
    (a_same : PySem.W.nsIn K mainGlobals "_law_same" = some (some (.ref f_same)))
    (l_same : K.lookup f_same = some ⟨oc_same, od_same, .func (PySem.W.fnOf "_law_same" "_law_same" (C8.fnArgs s_same) (C8.fnBody s_same) (C8.fnScope s_same) .none kV_same dc_same pm_same an_same cd_same ct_same), sl_same⟩)
    (c_same : PySem.W.codeIn K cd_same "_law_same" = true) (k_same : PySem.W.keepIn K (.ref f_same) = true)
    {od_device_content an_device_content : Option Addr} {sl_device_content : Array (Option Value)} {f_device_content : Addr} {oc_device_content kV_device_content dc_device_content pm_device_content cd_device_content ct_device_content : Value}
    (a_device_content : PySem.W.nsIn K mainGlobals "_law_device_content" = some (some (.ref f_device_content)))
    (l_device_content : K.lookup f_device_content = some ⟨oc_device_content, od_device_content, .func (PySem.W.fnOf "_law_device_content" "_law_device_content" (C8.fnArgs s_device_content) (C8.fnBody s_device_content) (C8.fnScope s_device_content) .none kV_device_content dc_device_content pm_device_content an_device_content cd_device_content ct_device_content), sl_device_content⟩)
    (c_device_content : PySem.W.codeIn K cd_device_content "_law_device_content" = true) (k_device_content : PySem.W.keepIn K (.ref f_device_content) = true)
    {od_device_fates an_device_fates : Option Addr} {sl_device_fates : Array (Option Value)} {f_device_fates : Addr} {oc_device_fates kV_device_fates dc_device_fates pm_device_fates cd_device_fates ct_device_fates : Value}
    (a_device_fates : PySem.W.nsIn K mainGlobals "_law_device_fates" = some (some (.ref f_device_fates)))
    (l_device_fates : K.lookup f_device_fates = some ⟨oc_device_fates, od_device_fates, .func (PySem.W.fnOf "_law_device_fates" "_law_device_fates" (C8.fnArgs s_device_fates) (C8.fnBody s_device_fates) (C8.fnScope s_device_fates) .none kV_device_fates dc_device_fates pm_device_fates an_device_fates cd_device_fates ct_device_fates), sl_device_fates⟩)
    (c_device_fates : PySem.W.codeIn K cd_device_fates "_law_device_fates" = true) (k_device_fates : PySem.W.keepIn K (.ref f_device_fates) = true)
    {od_device_failure an_device_failure : Option Addr} {sl_device_failure : Array (Option Value)} {f_device_failure : Addr} {oc_device_failure kV_device_failure dc_device_failure pm_device_failure cd_device_failure ct_device_failure : Value}
    (a_device_failure : PySem.W.nsIn K mainGlobals "_law_device_failure" = some (some (.ref f_device_failure)))
    (l_device_failure : K.lookup f_device_failure = some ⟨oc_device_failure, od_device_failure, .func (PySem.W.fnOf "_law_device_failure" "_law_device_failure" (C8.fnArgs s_device_failure) (C8.fnBody s_device_failure) (C8.fnScope s_device_failure) .none kV_device_failure dc_device_failure pm_device_failure an_device_failure cd_device_failure ct_device_failure), sl_device_failure⟩)
    (c_device_failure : PySem.W.codeIn K cd_device_failure "_law_device_failure" = true) (k_device_failure : PySem.W.keepIn K (.ref f_device_failure) = true)
    {od_device_due an_device_due : Option Addr} {sl_device_due : Array (Option Value)} {f_device_due : Addr} {oc_device_due kV_device_due dc_device_due pm_device_due cd_device_due ct_device_due : Value}
    (a_device_due : PySem.W.nsIn K mainGlobals "_law_device_due" = some (some (.ref f_device_due)))
    (l_device_due : K.lookup f_device_due = some ⟨oc_device_due, od_device_due, .func (PySem.W.fnOf "_law_device_due" "_law_device_due" (C8.fnArgs s_device_due) (C8.fnBody s_device_due) (C8.fnScope s_device_due) .none kV_device_due dc_device_due pm_device_due an_device_due cd_device_due ct_device_due), sl_device_due⟩)
    (c_device_due : PySem.W.codeIn K cd_device_due "_law_device_due" = true) (k_device_due : PySem.W.keepIn K (.ref f_device_due) = true)
    {od_device_holds an_device_holds : Option Addr} {sl_device_holds : Array (Option Value)} {f_device_holds : Addr} {oc_device_holds kV_device_holds dc_device_holds pm_device_holds cd_device_holds ct_device_holds : Value}
    (a_device_holds : PySem.W.nsIn K mainGlobals "_law_device_holds" = some (some (.ref f_device_holds)))
    (l_device_holds : K.lookup f_device_holds = some ⟨oc_device_holds, od_device_holds, .func (PySem.W.fnOf "_law_device_holds" "_law_device_holds" (C8.fnArgs s_device_holds) (C8.fnBody s_device_holds) (C8.fnScope s_device_holds) .none kV_device_holds dc_device_holds pm_device_holds an_device_holds cd_device_holds ct_device_holds), sl_device_holds⟩)
    (c_device_holds : PySem.W.codeIn K cd_device_holds "_law_device_holds" = true) (k_device_holds : PySem.W.keepIn K (.ref f_device_holds) = true)
    {od_device_refuses an_device_refuses : Option Addr} {sl_device_refuses : Array (Option Value)} {f_device_refuses : Addr} {oc_device_refuses kV_device_refuses dc_device_refuses pm_device_refuses cd_device_refuses ct_device_refuses : Value}
    (a_device_refuses : PySem.W.nsIn K mainGlobals "_law_device_refuses" = some (some (.ref f_device_refuses)))
    (l_device_refuses : K.lookup f_device_refuses = some ⟨oc_device_refuses, od_device_refuses, .func (PySem.W.fnOf "_law_device_refuses" "_law_device_refuses" (C8.fnArgs s_device_refuses) (C8.fnBody s_device_refuses) (C8.fnScope s_device_refuses) .none kV_device_refuses dc_device_refuses pm_device_refuses an_device_refuses cd_device_refuses ct_device_refuses), sl_device_refuses⟩)
    (c_device_refuses : PySem.W.codeIn K cd_device_refuses "_law_device_refuses" = true) (k_device_refuses : PySem.W.keepIn K (.ref f_device_refuses) = true)
    {od_device_call an_device_call : Option Addr} {sl_device_call : Array (Option Value)} {f_device_call : Addr} {oc_device_call kV_device_call dc_device_call pm_device_call cd_device_call ct_device_call : Value}
    (a_device_call : PySem.W.nsIn K mainGlobals "_law_device_call" = some (some (.ref f_device_call)))
    (l_device_call : K.lookup f_device_call = some ⟨oc_device_call, od_device_call, .func (PySem.W.fnOf "_law_device_call" "_law_device_call" (C8.fnArgs s_device_call) (C8.fnBody s_device_call) (C8.fnScope s_device_call) .none kV_device_call dc_device_call pm_device_call an_device_call cd_device_call ct_device_call), sl_device_call⟩)
    (c_device_call : PySem.W.codeIn K cd_device_call "_law_device_call" = true) (k_device_call : PySem.W.keepIn K (.ref f_device_call) = true)
    {od_law an_law : Option Addr} {sl_law : Array (Option Value)} {f_law : Addr} {oc_law kV_law dc_law pm_law cd_law ct_law : Value}
    (a_law : PySem.W.nsIn K mainGlobals "law" = some (some (.ref f_law)))
    (l_law : K.lookup f_law = some ⟨oc_law, od_law, .func (PySem.W.fnOf "law" "law" (C8.fnArgs s_law) (C8.fnBody s_law) (C8.fnScope s_law) .none kV_law dc_law pm_law an_law cd_law ct_law), sl_law⟩)
    (c_law : PySem.W.codeIn K cd_law "law" = true) (k_law : PySem.W.keepIn K (.ref f_law) = true)
    (z_len : PySem.W.nsIn K mainGlobals "len" = some none)
    (z_abs : PySem.W.nsIn K mainGlobals "abs" = some none)
    (z_int : PySem.W.nsIn K mainGlobals "int" = some none)
    (z_range : PySem.W.nsIn K mainGlobals "range" = some none)
    (z_isinstance : PySem.W.nsIn K mainGlobals "isinstance" = some none)
    (z_bool : PySem.W.nsIn K mainGlobals "bool" = some none)
    (z_str : PySem.W.nsIn K mainGlobals "str" = some none)
    (z_list : PySem.W.nsIn K mainGlobals "list" = some none)
    (z_tuple : PySem.W.nsIn K mainGlobals "tuple" = some none)
    (z_min : PySem.W.nsIn K mainGlobals "min" = some none)
    (z_enumerate : PySem.W.nsIn K mainGlobals "enumerate" = some none) :
    ∃ fd : FuncData, (∀ (s : Shared) (v : Value), BindsTo s fd ⟨[v], []⟩ [("_law_script", v)]) ∧ ∀ base : Heap, K.In base → base.Ns mainGlobals mg → FnOk l.prog w K mg base C8.CX0 10 fa fd ["_law_script"] (spLaw K) := by
  have e := hfa.symm.trans (PySem.W.mg_of X G a_law)
  cases e
  have T : Txt mg := ⟨PySem.W.mg_none_of X G z_len, PySem.W.mg_none_of X G z_abs, PySem.W.mg_none_of X G z_int, PySem.W.mg_none_of X G z_range, PySem.W.mg_none_of X G z_isinstance, PySem.W.mg_none_of X G z_bool, PySem.W.mg_none_of X G z_str, PySem.W.mg_none_of X G z_list, PySem.W.mg_none_of X G z_tuple⟩
  have T9 : Txt mg := ⟨PySem.W.mg_none_of X G z_len, PySem.W.mg_none_of X G z_abs, PySem.W.mg_none_of X G z_int, PySem.W.mg_none_of X G z_range, PySem.W.mg_none_of X G z_isinstance, PySem.W.mg_none_of X G z_bool, PySem.W.mg_none_of X G z_str, PySem.W.mg_none_of X G z_list, PySem.W.mg_none_of X G z_tuple⟩
  have F_m_init : C8.Fun K "__init__" "Device.__init__" s_Device___init__ f_m_init _ := ⟨oc_m_init, od_m_init, .none, kV_m_init, dc_m_init, pm_m_init, an_m_init, cd_m_init, ct_m_init, sl_m_init, rfl, l_m_init, c_m_init⟩
  have b_m_init := F_m_init.binds (ps := ["self", "blocks"]) rfl fun _ _ _ _ _ _ us hl => match us, hl with | [_, _], _ => rfl
  have F_m_write : C8.Fun K "write" "Device.write" s_Device_write f_m_write _ := ⟨oc_m_write, od_m_write, .none, kV_m_write, dc_m_write, pm_m_write, an_m_write, cd_m_write, ct_m_write, sl_m_write, rfl, l_m_write, c_m_write⟩
  have b_m_write := F_m_write.binds (ps := ["self", "block", "content"]) rfl fun _ _ _ _ _ _ us hl => match us, hl with | [_, _, _], _ => rfl
  have F_m_read : C8.Fun K "read" "Device.read" s_Device_read f_m_read _ := ⟨oc_m_read, od_m_read, .none, kV_m_read, dc_m_read, pm_m_read, an_m_read, cd_m_read, ct_m_read, sl_m_read, rfl, l_m_read, c_m_read⟩
  have b_m_read := F_m_read.binds (ps := ["self", "block"]) rfl fun _ _ _ _ _ _ us hl => match us, hl with | [_, _], _ => rfl
  have F_m_barrier : C8.Fun K "barrier" "Device.barrier" s_Device_barrier f_m_barrier _ := ⟨oc_m_barrier, od_m_barrier, .none, kV_m_barrier, dc_m_barrier, pm_m_barrier, an_m_barrier, cd_m_barrier, ct_m_barrier, sl_m_barrier, rfl, l_m_barrier, c_m_barrier⟩
  have b_m_barrier := F_m_barrier.binds (ps := ["self"]) rfl fun _ _ _ _ _ _ us hl => match us, hl with | [_], _ => rfl
  have F_m_pending : C8.Fun K "pending" "Device.pending" s_Device_pending f_m_pending _ := ⟨oc_m_pending, od_m_pending, .none, kV_m_pending, dc_m_pending, pm_m_pending, an_m_pending, cd_m_pending, ct_m_pending, sl_m_pending, rfl, l_m_pending, c_m_pending⟩
  have b_m_pending := F_m_pending.binds (ps := ["self"]) rfl fun _ _ _ _ _ _ us hl => match us, hl with | [_], _ => rfl
  have F_m_crash : C8.Fun K "crash" "Device.crash" s_Device_crash f_m_crash _ := ⟨oc_m_crash, od_m_crash, .none, kV_m_crash, dc_m_crash, pm_m_crash, an_m_crash, cd_m_crash, ct_m_crash, sl_m_crash, rfl, l_m_crash, c_m_crash⟩
  have b_m_crash := F_m_crash.binds (ps := ["self", "fates"]) rfl fun _ _ _ _ _ _ us hl => match us, hl with | [_, _], _ => rfl
  have F_m_check_block : C8.Fun K "_check_block" "Device._check_block" s_Device__check_block f_m_check_block _ := ⟨oc_m_check_block, od_m_check_block, .none, kV_m_check_block, dc_m_check_block, pm_m_check_block, an_m_check_block, cd_m_check_block, ct_m_check_block, sl_m_check_block, rfl, l_m_check_block, c_m_check_block⟩
  have b_m_check_block := F_m_check_block.binds (ps := ["self", "block"]) rfl fun _ _ _ _ _ _ us hl => match us, hl with | [_, _], _ => rfl
  have F_m_end_writes : C8.Fun K "_end_writes" "Device._end_writes" s_Device__end_writes f_m_end_writes _ := ⟨oc_m_end_writes, od_m_end_writes, .none, kV_m_end_writes, dc_m_end_writes, pm_m_end_writes, an_m_end_writes, cd_m_end_writes, ct_m_end_writes, sl_m_end_writes, rfl, l_m_end_writes, c_m_end_writes⟩
  have b_m_end_writes := F_m_end_writes.binds (ps := ["self", "fates"]) rfl fun _ _ _ _ _ _ us hl => match us, hl with | [_, _], _ => rfl
  have S : STxt K mg CV := ⟨⟨pgCV, hdCV, poCV, saCV⟩, nLV, nRV, PySem.W.mg_of X G aCV⟩
  obtain ⟨U_D, O_D⟩ := own_mk (P := l.prog) X G iCD tID lFD cFD lcD x_hvD x_hfD x_tpD lccD zsuperD rfl rfl rfl lDD x_rbD saD exD tyD kCD mrD x_iniD veD anyD
  have b_D : Binds K (PySem.W.fnX "__init__" "BadRange.__init__" (C8.fnArgs s_BadRange_init) (C8.fnBody s_BadRange_init) (C8.fnScope s_BadRange_init) [("__class__", ccD)] .none kVD docD pmD anD (.ref cD) ctvD) ["self", "start", "end"] [] := .all fun us hl => match us, hl with | [_, _, _], _ => rfl
  have xc_D : ExcC K D := ⟨hgaD, hgtD, exD, hhdD, hclD, hgs, htk, hobD⟩
  have xf_D : XfC K D := ⟨hgaD, hgtD, exD, hhdD⟩
  have TE : ETx K mg D AE PgE U DN BF LE ME FE CE := ⟨PySem.W.mg_of X G aD, PySem.W.mg_of X G aAE, PySem.W.mg_of X G aPgE, PySem.W.mg_of X G aU, PySem.W.mg_of X G aDN, PySem.W.mg_of X G aBF, PySem.W.mg_of X G aLE, PySem.W.mg_of X G aME, PySem.W.mg_of X G aFE, PySem.W.mg_of X G aCE, PySem.W.mg_none_of X G zValueError, PySem.W.mg_none_of X G z_isinstance, xc_D, xf_D, nD_start, nD_end, x_eDD, x_eDA, x_iDD, x_iDP, x_iDV, x_iDN⟩
  have TN : TxtE mg := ⟨PySem.W.mg_none_of X G z_len, PySem.W.mg_none_of X G z_enumerate⟩
  have TM : TxtM mg := ⟨PySem.W.mg_none_of X G z_min⟩
  have D_check_range : Def K mg "check_range" s_check_range f_check_range _ := ⟨⟨oc_check_range, od_check_range, .none, kV_check_range, dc_check_range, pm_check_range, an_check_range, cd_check_range, ct_check_range, sl_check_range, rfl, l_check_range, c_check_range⟩, PySem.W.mg_of X G a_check_range, k_check_range⟩
  have b_check_range := D_check_range.fn.binds (ps := ["start", "end", "limit"]) rfl fun _ _ _ _ _ _ us hl => match us, hl with | [_, _, _], _ => rfl
  have D_number : Def K mg "_law_number" s_number f_number _ := ⟨⟨oc_number, od_number, .none, kV_number, dc_number, pm_number, an_number, cd_number, ct_number, sl_number, rfl, l_number, c_number⟩, PySem.W.mg_of X G a_number, k_number⟩
  have b_number := D_number.fn.binds (ps := ["_law_script", "_law_at", "_law_k", "_law_size"]) rfl fun _ _ _ _ _ _ us hl => match us, hl with | [_, _, _, _], _ => rfl
  have D_is_whole : Def K mg "_law_is_whole" s_is_whole f_is_whole _ := ⟨⟨oc_is_whole, od_is_whole, .none, kV_is_whole, dc_is_whole, pm_is_whole, an_is_whole, cd_is_whole, ct_is_whole, sl_is_whole, rfl, l_is_whole, c_is_whole⟩, PySem.W.mg_of X G a_is_whole, k_is_whole⟩
  have b_is_whole := D_is_whole.fn.binds (ps := ["_law_told"]) rfl fun _ _ _ _ _ _ us hl => match us, hl with | [_], _ => rfl
  have D_same : Def K mg "_law_same" s_same f_same _ := ⟨⟨oc_same, od_same, .none, kV_same, dc_same, pm_same, an_same, cd_same, ct_same, sl_same, rfl, l_same, c_same⟩, PySem.W.mg_of X G a_same, k_same⟩
  have b_same := D_same.fn.binds (ps := ["_law_told", "_law_due"]) rfl fun _ _ _ _ _ _ us hl => match us, hl with | [_, _], _ => rfl
  have D_device_content : Def K mg "_law_device_content" s_device_content f_device_content _ := ⟨⟨oc_device_content, od_device_content, .none, kV_device_content, dc_device_content, pm_device_content, an_device_content, cd_device_content, ct_device_content, sl_device_content, rfl, l_device_content, c_device_content⟩, PySem.W.mg_of X G a_device_content, k_device_content⟩
  have b_device_content := D_device_content.fn.binds (ps := ["_law_number_here", "_law_salt"]) rfl fun _ _ _ _ _ _ us hl => match us, hl with | [_, _], _ => rfl
  have D_device_fates : Def K mg "_law_device_fates" s_device_fates f_device_fates _ := ⟨⟨oc_device_fates, od_device_fates, .none, kV_device_fates, dc_device_fates, pm_device_fates, an_device_fates, cd_device_fates, ct_device_fates, sl_device_fates, rfl, l_device_fates, c_device_fates⟩, PySem.W.mg_of X G a_device_fates, k_device_fates⟩
  have b_device_fates := D_device_fates.fn.binds (ps := ["_law_number_here", "_law_many"]) rfl fun _ _ _ _ _ _ us hl => match us, hl with | [_, _], _ => rfl
  have D_device_failure : Def K mg "_law_device_failure" s_device_failure f_device_failure _ := ⟨⟨oc_device_failure, od_device_failure, .none, kV_device_failure, dc_device_failure, pm_device_failure, an_device_failure, cd_device_failure, ct_device_failure, sl_device_failure, rfl, l_device_failure, c_device_failure⟩, PySem.W.mg_of X G a_device_failure, k_device_failure⟩
  have b_device_failure := D_device_failure.fn.binds (ps := ["_law_plain", "_law_fates"]) rfl fun _ _ _ _ _ _ us hl => match us, hl with | [_, _], _ => rfl
  have D_device_due : Def K mg "_law_device_due" s_device_due f_device_due _ := ⟨⟨oc_device_due, od_device_due, .none, kV_device_due, dc_device_due, pm_device_due, an_device_due, cd_device_due, ct_device_due, sl_device_due, rfl, l_device_due, c_device_due⟩, PySem.W.mg_of X G a_device_due, k_device_due⟩
  have b_device_due := D_device_due.fn.binds (ps := ["_law_plain", "_law_block"]) rfl fun _ _ _ _ _ _ us hl => match us, hl with | [_, _], _ => rfl
  have D_device_holds : Def K mg "_law_device_holds" s_device_holds f_device_holds _ := ⟨⟨oc_device_holds, od_device_holds, .none, kV_device_holds, dc_device_holds, pm_device_holds, an_device_holds, cd_device_holds, ct_device_holds, sl_device_holds, rfl, l_device_holds, c_device_holds⟩, PySem.W.mg_of X G a_device_holds, k_device_holds⟩
  have b_device_holds := D_device_holds.fn.binds (ps := ["_law_device", "_law_plain"]) rfl fun _ _ _ _ _ _ us hl => match us, hl with | [_, _], _ => rfl
  have D_device_refuses : Def K mg "_law_device_refuses" s_device_refuses f_device_refuses _ := ⟨⟨oc_device_refuses, od_device_refuses, .none, kV_device_refuses, dc_device_refuses, pm_device_refuses, an_device_refuses, cd_device_refuses, ct_device_refuses, sl_device_refuses, rfl, l_device_refuses, c_device_refuses⟩, PySem.W.mg_of X G a_device_refuses, k_device_refuses⟩
  have b_device_refuses := D_device_refuses.fn.binds (ps := ["_law_device", "_law_block", "_law_content"]) rfl fun _ _ _ _ _ _ us hl => match us, hl with | [_, _, _], _ => rfl
  have D_device_call : Def K mg "_law_device_call" s_device_call f_device_call _ := ⟨⟨oc_device_call, od_device_call, .none, kV_device_call, dc_device_call, pm_device_call, an_device_call, cd_device_call, ct_device_call, sl_device_call, rfl, l_device_call, c_device_call⟩, PySem.W.mg_of X G a_device_call, k_device_call⟩
  have b_device_call := D_device_call.fn.binds (ps := ["_law_device", "_law_plain", "_law_kind", "_law_block", "_law_content", "_law_fates"]) rfl fun _ _ _ _ _ _ us hl => match us, hl with | [_, _, _, _, _, _], _ => rfl
  have D_law : Def K mg "law" s_law fa _ := ⟨⟨oc_law, od_law, .none, kV_law, dc_law, pm_law, an_law, cd_law, ct_law, sl_law, rfl, l_law, c_law⟩, PySem.W.mg_of X G a_law, k_law⟩
  refine ⟨PySem.W.fnOf "law" "law" (C8.fnArgs s_law) (C8.fnBody s_law) (C8.fnScope s_law) .none kV_law dc_law pm_law an_law cd_law ct_law, fun s v => .of_eq rfl, fun base _ _ => ?_⟩
  have F_BR := ok_BadRange (w := w) (base := base) (F := NF.of s_BadRange_init "__init__" "BadRange.__init__" [("__class__", ccD)] cD) U_D nD_start nD_end
  have e_check := ok_check F_BR O_D iCD tID b_D (PySem.W.mg_of X G aD) D_check_range b_check_range
  have c_number := ok_number (P := l.prog) (w := w) (base := base) D_number b_number T9
  have c_whole := ok_whole (P := l.prog) (w := w) (base := base) D_is_whole b_is_whole T9
  have c_same := ok_same D_same b_same T9 c_whole 6
  have c_Dev := ok_init (P := l.prog) (w := w) (base := base) F_m_init ⟨mkCV, a_m_init, i_m_init, kcCV⟩ b_m_init S
  have e_cb := ok_cb F_m_check_block ⟨a_m_check_block, i_m_check_block, k_m_check_block⟩ b_m_check_block S TN e_check
  have e_write := ok_write F_m_write ⟨a_m_write, i_m_write, k_m_write⟩ b_m_write S e_cb
  have e_read := ok_read F_m_read ⟨a_m_read, i_m_read, k_m_read⟩ b_m_read S e_cb
  have m_pend := ok_pending (P := l.prog) (w := w) (base := base) F_m_pending ⟨a_m_pending, i_m_pending, k_m_pending⟩ b_m_pending S
  have m_end := ok_end_writes (P := l.prog) (w := w) (base := base) F_m_end_writes ⟨a_m_end_writes, i_m_end_writes, k_m_end_writes⟩ b_m_end_writes S TN
  have m_barr := ok_barrier F_m_barrier ⟨a_m_barrier, i_m_barrier, k_m_barrier⟩ b_m_barrier S TN m_end
  have m_crash := ok_crash F_m_crash ⟨a_m_crash, i_m_crash, k_m_crash⟩ b_m_crash S m_end
  have c_cont := ok_content (P := l.prog) (w := w) (base := base) D_device_content b_device_content T9
  have c_fates := ok_fates (P := l.prog) (w := w) (base := base) D_device_fates b_device_fates T9
  have c_fail := ok_failure (P := l.prog) (w := w) (base := base) D_device_failure b_device_failure T9
  have c_due := ok_due (P := l.prog) (w := w) (base := base) D_device_due b_device_due T9
  have c_holds := ok_holds D_device_holds b_device_holds T9 c_same c_due e_read m_pend
  have c_ref := ok_refuses D_device_refuses b_device_refuses T9 TE c_same e_read e_write
  have c_call := ok_call D_device_call b_device_call T9 c_same c_due c_fail c_ref e_read e_write m_barr m_crash
  exact ok_law D_law T9 TM c_number c_Dev c_cont c_fates c_call c_holds

end

end Lw
open PySem PySem.W PyProof.Rows
set_option maxRecDepth 100000 in
set_option maxHeartbeats 0 in
theorem PySem.Challenge.cw_lentpages_k29_device_holds : PySem.Challenge.rw_lentpages_k29_device.Holds := by
  w_on; o_law; k_head; (case hw => w_witness2)
  k_fill
  refine L2.walk_of (l := PySem.Challenge.rw_lentpages_k29_device) (n := 63) (k := 10) (x := "_law_script") (CX := fun _ => C8.CX0) (sp := fun w => Lw.spLaw _) rfl (by decide) rfl ⟨rfl, by decide, by decide⟩ (fun w h Y => by first | exact PySem.W.kIn_of Y | exact PySem.W.km_in_of Y) ?F (fun _ _ a ns hl _ hS => ⟨a, ns, rfl, hS, hl, fun _ => rfl⟩) (fun _ _ _ _ _ h => h)
  case F =>
    intro w mg fa h KX G hmg
    refine' Lw.all_mk KX G hmg ?aCV ?a_m_init ?i_m_init ?l_m_init ?c_m_init ?k_m_init ?a_m_write ?i_m_write ?l_m_write ?c_m_write ?k_m_write ?a_m_read ?i_m_read ?l_m_read ?c_m_read ?k_m_read ?a_m_barrier ?i_m_barrier ?l_m_barrier ?c_m_barrier ?k_m_barrier ?a_m_pending ?i_m_pending ?l_m_pending ?c_m_pending ?k_m_pending ?a_m_crash ?i_m_crash ?l_m_crash ?c_m_crash ?k_m_crash ?a_m_check_block ?i_m_check_block ?l_m_check_block ?c_m_check_block ?k_m_check_block ?a_m_end_writes ?i_m_end_writes ?l_m_end_writes ?c_m_end_writes ?k_m_end_writes ?pgCV ?hdCV ?poCV ?saCV ?mkCV ?kcCV ?nLV ?nRV ?hgs ?htk ?aD ?iCD ?tID ?lFD ?cFD ?lcD ?x_hvD ?x_hfD ?x_tpD ?lccD ?zsuperD ?lDD ?x_rbD ?saD ?exD ?tyD ?kCD ?mrD ?x_iniD ?veD ?anyD ?nD_start ?nD_end ?hgaD ?hgtD ?hclD ?hhdD ?hobD ?aAE ?aPgE ?aU ?aDN ?aBF ?aLE ?aME ?aFE ?aCE ?zValueError ?x_eDD ?x_eDA ?x_iDD ?x_iDP ?x_iDV ?x_iDN ?a_check_range ?l_check_range ?c_check_range ?k_check_range ?a_number ?l_number ?c_number ?k_number ?a_is_whole ?l_is_whole ?c_is_whole ?k_is_whole ?a_same ?l_same ?c_same ?k_same ?a_device_content ?l_device_content ?c_device_content ?k_device_content ?a_device_fates ?l_device_fates ?c_device_fates ?k_device_fates ?a_device_failure ?l_device_failure ?c_device_failure ?k_device_failure ?a_device_due ?l_device_due ?c_device_due ?k_device_due ?a_device_holds ?l_device_holds ?c_device_holds ?k_device_holds ?a_device_refuses ?l_device_refuses ?c_device_refuses ?k_device_refuses ?a_device_call ?l_device_call ?c_device_call ?k_device_call ?a_law ?l_law ?c_law ?k_law ?z_len ?z_abs ?z_int ?z_range ?z_isinstance ?z_bool ?z_str ?z_list ?z_tuple ?z_min ?z_enumerate
    (case aCV => k_is)
    (case a_m_init => k_is)
    (case i_m_init => k_is)
    (case l_m_init => k_is)
    (case c_m_init => k_is)
    (case k_m_init => k_is)
    (case a_m_write => k_is)
    (case i_m_write => k_is)
    (case l_m_write => k_is)
    (case c_m_write => k_is)
    (case k_m_write => k_is)
    (case a_m_read => k_is)
    (case i_m_read => k_is)
    (case l_m_read => k_is)
    (case c_m_read => k_is)
    (case k_m_read => k_is)
    (case a_m_barrier => k_is)
    (case i_m_barrier => k_is)
    (case l_m_barrier => k_is)
    (case c_m_barrier => k_is)
    (case k_m_barrier => k_is)
    (case a_m_pending => k_is)
    (case i_m_pending => k_is)
    (case l_m_pending => k_is)
    (case c_m_pending => k_is)
    (case k_m_pending => k_is)
    (case a_m_crash => k_is)
    (case i_m_crash => k_is)
    (case l_m_crash => k_is)
    (case c_m_crash => k_is)
    (case k_m_crash => k_is)
    (case a_m_check_block => k_is)
    (case i_m_check_block => k_is)
    (case l_m_check_block => k_is)
    (case c_m_check_block => k_is)
    (case k_m_check_block => k_is)
    (case a_m_end_writes => k_is)
    (case i_m_end_writes => k_is)
    (case l_m_end_writes => k_is)
    (case c_m_end_writes => k_is)
    (case k_m_end_writes => k_is)
    (case pgCV => k_is)
    (case hdCV => k_is)
    (case poCV => k_is)
    (case saCV => k_is)
    (case mkCV => k_is)
    (case kcCV => k_is)
    (case nLV => k_is)
    (case nRV => k_is)
    (case hgs => k_is)
    (case htk => k_is)
    (case aD => k_is)
    (case iCD => k_is)
    (case tID => k_is)
    (case lFD => k_is)
    (case cFD => k_is)
    (case lcD => k_is)
    (case x_hvD => first | k_is | rfl | decide +kernel)
    (case x_hfD => first | k_is | rfl | decide +kernel)
    (case x_tpD => first | k_is | rfl | decide +kernel)
    (case lccD => k_is)
    (case zsuperD => k_is)
    (case lDD => k_is)
    (case x_rbD => first | k_is | rfl | decide +kernel)
    (case saD => k_is)
    (case exD => k_is)
    (case tyD => k_is)
    (case kCD => k_is)
    (case mrD => k_is)
    (case x_iniD => first | k_is | rfl | decide +kernel)
    (case veD => k_is)
    (case anyD => k_is)
    (case nD_start => k_is)
    (case nD_end => k_is)
    (case hgaD => k_is)
    (case hgtD => k_is)
    (case hclD => k_is)
    (case hhdD => k_is)
    (case hobD => k_is)
    (case aAE => k_is)
    (case aPgE => k_is)
    (case aU => k_is)
    (case aDN => k_is)
    (case aBF => k_is)
    (case aLE => k_is)
    (case aME => k_is)
    (case aFE => k_is)
    (case aCE => k_is)
    (case zValueError => k_is)
    (case x_eDD => first | k_is | rfl | decide +kernel)
    (case x_eDA => first | k_is | rfl | decide +kernel)
    (case x_iDD => first | k_is | rfl | decide +kernel)
    (case x_iDP => first | k_is | rfl | decide +kernel)
    (case x_iDV => first | k_is | rfl | decide +kernel)
    (case x_iDN => first | k_is | rfl | decide +kernel)
    (case a_check_range => k_is)
    (case l_check_range => k_is)
    (case c_check_range => k_is)
    (case k_check_range => k_is)
    (case a_number => k_is)
    (case l_number => k_is)
    (case c_number => k_is)
    (case k_number => k_is)
    (case a_is_whole => k_is)
    (case l_is_whole => k_is)
    (case c_is_whole => k_is)
    (case k_is_whole => k_is)
    (case a_same => k_is)
    (case l_same => k_is)
    (case c_same => k_is)
    (case k_same => k_is)
    (case a_device_content => k_is)
    (case l_device_content => k_is)
    (case c_device_content => k_is)
    (case k_device_content => k_is)
    (case a_device_fates => k_is)
    (case l_device_fates => k_is)
    (case c_device_fates => k_is)
    (case k_device_fates => k_is)
    (case a_device_failure => k_is)
    (case l_device_failure => k_is)
    (case c_device_failure => k_is)
    (case k_device_failure => k_is)
    (case a_device_due => k_is)
    (case l_device_due => k_is)
    (case c_device_due => k_is)
    (case k_device_due => k_is)
    (case a_device_holds => k_is)
    (case l_device_holds => k_is)
    (case c_device_holds => k_is)
    (case k_device_holds => k_is)
    (case a_device_refuses => k_is)
    (case l_device_refuses => k_is)
    (case c_device_refuses => k_is)
    (case k_device_refuses => k_is)
    (case a_device_call => k_is)
    (case l_device_call => k_is)
    (case c_device_call => k_is)
    (case k_device_call => k_is)
    (case a_law => k_is)
    (case l_law => k_is)
    (case c_law => k_is)
    (case k_law => k_is)
    (case z_len => k_is)
    (case z_abs => k_is)
    (case z_int => k_is)
    (case z_range => k_is)
    (case z_isinstance => k_is)
    (case z_bool => k_is)
    (case z_str => k_is)
    (case z_list => k_is)
    (case z_tuple => k_is)
    (case z_min => k_is)
    (case z_enumerate => k_is)
