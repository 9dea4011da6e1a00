import PyProof.Rows.All
import Wide.All
import OpenK.AllK
import Wide.FinOn
import HandS.ForMost
import HandS.Codes
import HandS.IsInst
import HandS.Wide
import HandS.Conv
import HandS.DictTup
import PyProof.DictMoreH
import HandS.TupLen
import HandS.Zip
import HandS.Walk
import HandS.Style
import HandS.Rev
import HandS.Lambda
import HandS.EndTab
import HandS.NestedK
import HandS.SortKw
import KE.KMinKey
import PySem.Challenge.RW_lentpages_k23_page_ins
set_option Elab.async false
set_option linter.all false
set_option maxRecDepth 100000
set_option maxHeartbeats 4000000
namespace Lw
open PySem PySem.Spec PyProof.Rows L2 LamX
open C8 (Def Cal cal0 pe_c)
def topS (i : Nat) : Stmt := PySem.Challenge.pw_lentpages_k23_page_ins.main.body.getD i (.Pass ⟨0, 0, 0, 0⟩)

/-! ### data in the heap, tracked -/
mutual
def Dh (H : Hp) : PyData → V → Prop
  | .none, x => x = .non
  | .bool b, x => x = .bl b
  | .int i, x => x = .int i
  | .str s, x => x = .str s
  | .list ds, x => ∃ a xs, x = .ref a ∧ H a = some (.lst xs) ∧ DhAll H ds xs
  | .tuple ds, x => ∃ a xs, x = .ref a ∧ H a = some (.tup xs) ∧ DhAll H ds xs
  | .dict _, _ => False
def DhAll (H : Hp) : List PyData → List V → Prop
  | [], xs => xs = []
  | d :: ds, xs => ∃ v vs, xs = v :: vs ∧ Dh H d v ∧ DhAll H ds vs
end
mutual
theorem Dh.mono {H H' : Hp} (s : Same H H') : ∀ (d : PyData) (x : V), Dh H d x → Dh H' d x
  | .none, x, h => h
  | .bool b, x, h => h
  | .int i, x, h => h
  | .str i, x, h => h
  | .list ds, x, h => by
    obtain ⟨a, xs, e, g, r⟩ := h
    exact ⟨a, xs, e, s _ _ g, DhAll.mono s ds xs r⟩
  | .tuple ds, x, h => by
    obtain ⟨a, xs, e, g, r⟩ := h
    exact ⟨a, xs, e, s _ _ g, DhAll.mono s ds xs r⟩
  | .dict _, x, h => False.elim h
theorem DhAll.mono {H H' : Hp} (s : Same H H') : ∀ (ds : List PyData) (xs : List V), DhAll H ds xs → DhAll H' ds xs
  | [], xs, h => h
  | d :: ds, xs, h => by
    obtain ⟨v, vs, e, g, r⟩ := h
    exact ⟨v, vs, e, Dh.mono s d v g, DhAll.mono s ds vs r⟩
end
theorem DhAll.len {H : Hp} : ∀ {ds : List PyData} {xs : List V}, DhAll H ds xs → xs.length = ds.length
  | [], xs, h => by
    cases (show xs = [] from h)
    rfl
  | d :: ds, xs, h => by
    obtain ⟨v, vs, e, g, r⟩ := h
    rw [e, List.length_cons, List.length_cons, DhAll.len r]
theorem DhAll.get {H : Hp} : ∀ {ds : List PyData} {xs : List V} {i : Nat} {d : PyData}, DhAll H ds xs → ds[i]? = some d → ∃ x, xs[i]? = some x ∧ Dh H d x
  | [], xs, i, d, h, e => by simp at e
  | d' :: ds, xs, 0, d, h, e => by
    obtain ⟨v, vs, e', g, r⟩ := h
    simp at e
    subst e
    exact ⟨v, by rw [e']; rfl, g⟩
  | d' :: ds, xs, i + 1, d, h, e => by
    obtain ⟨v, vs, e', g, r⟩ := h
    obtain ⟨x, h1, h2⟩ := DhAll.get (i := i) (d := d) r (by simpa using e)
    exact ⟨x, by rw [e']; simpa using h1, h2⟩
mutual
theorem Dh.dp {K : PySem.W.Frag} {H : Hp} : ∀ (d : PyData) (x : V), Dh H d x → Dp K H x d
  | .none, x, h => by
    cases (show x = .non from h)
    exact .non
  | .bool b, x, h => by
    cases (show x = .bl b from h)
    exact .bl b
  | .int i, x, h => by
    cases (show x = .int i from h)
    exact .int i
  | .str i, x, h => by
    cases (show x = .str i from h)
    exact .str i
  | .list ds, x, h => by
    obtain ⟨a, xs, e, g, r⟩ := h
    rw [e]
    exact .lst (SqL.of g) (DhAll.dp ds xs r)
  | .tuple ds, x, h => by
    obtain ⟨a, xs, e, g, r⟩ := h
    rw [e]
    exact .tup (SqT.of g) (DhAll.dp ds xs r)
  | .dict _, x, h => False.elim h
theorem DhAll.dp {K : PySem.W.Frag} {H : Hp} : ∀ (ds : List PyData) (xs : List V), DhAll H ds xs → DpAll K H xs ds
  | [], xs, h => by
    cases (show xs = [] from h)
    exact .nil
  | d :: ds, xs, h => by
    obtain ⟨v, vs, e, g, r⟩ := h
    rw [e]
    exact .cons (Dh.dp d v g) (DhAll.dp ds vs r)
end
/-- a datum's type -/
def tyN : PyData → String
  | .none => "NoneType"
  | .bool _ => "bool"
  | .int _ => "int"
  | .str _ => "str"
  | .list _ => "list"
  | .tuple _ => "tuple"
  | .dict _ => "dict"
theorem Dh.ty {K : PySem.W.Frag} {H : Hp} : ∀ {d : PyData} {x : V}, Dh H d x → TyX K H x (.type (tyN d))
  | .none, x, h => by
    cases (show x = .non from h)
    exact .base .non
  | .bool b, x, h => by
    cases (show x = .bl b from h)
    exact .base (.bl b)
  | .int i, x, h => by
    cases (show x = .int i from h)
    exact .base (.int i)
  | .str i, x, h => by
    cases (show x = .str i from h)
    exact .base (.str i)
  | .list ds, x, h => by
    obtain ⟨a, xs, e, g, r⟩ := h
    rw [e]
    exact .base (.lst g)
  | .tuple ds, x, h => by
    obtain ⟨a, xs, e, g, r⟩ := h
    rw [e]
    exact .base (.tup g)
  | .dict _, x, h => False.elim h
/-- at most n lists and tuples in one another, none of them long -/
def Dle : Nat → PyData → Prop
  | 0, _ => False
  | n + 1, .list ds => ds.length ≤ 100000 ∧ ∀ d ∈ ds, Dle n d
  | n + 1, .tuple ds => ds.length ≤ 100000 ∧ ∀ d ∈ ds, Dle n d
  | _, .dict _ => False
  | _, _ => True
theorem same_upd {H : Hp} {p : Addr} {o : HO} (h : H p = none) : Same H (upd H p o) := fun b x e => by
  rw [upd_ne (ne_of_none e h)]
  exact e
theorem same_rfl {H : Hp} : Same H H := fun _ _ e => e
/-- what is asked of the top's names -/
structure Txt (mg : Str → Option Value) : Prop where
  len : mg "len" = none
  abs : mg "abs" = none
  int : mg "int" = none
  range : mg "range" = none
  isinstance : mg "isinstance" = none
  bool : mg "bool" = none
  str : mg "str" = none
  list : mg "list" = none
  tuple : mg "tuple" = none
abbrev sI (i : Int) : Option V := some (.int i)
abbrev sR (a : Addr) : Option V := some (.ref a)
abbrev sS (x : Str) : Option V := some (.str x)
abbrev sB (b : Bool) : Option V := some (.bl b)

/-! ### steps of a reading -/
theorem ifD {p : Prop} [Decidable p] {A B : Prop} (a : p → A) (b : ¬ p → B) : if decide p = true then A else B := by
  by_cases h : p
  · rw [if_pos (decide_eq_true h)]
    exact a h
  · rw [if_neg (fun z => h (of_decide_eq_true z))]
    exact b h
theorem ifEq {x y : Int} {A B : Prop} (a : x = y → A) (b : x ≠ y → B) : if decide (V.int x = V.int y) = true then A else B :=
  ifD (fun h => a (V.int.inj h)) (fun h => b (fun z => h (congrArg V.int z)))
theorem ifT {p : Prop} [Decidable p] {A B : Prop} (h : p) (a : A) : if decide p = true then A else B := by
  rw [if_pos (decide_eq_true h)]
  exact a
theorem ifF {p : Prop} [Decidable p] {A B : Prop} (h : ¬ p) (b : B) : if decide p = true then A else B := by
  rw [if_neg (fun z => h (of_decide_eq_true z))]
  exact b
theorem ifEqT {x y : Int} {A B : Prop} (h : x = y) (a : A) : if decide (V.int x = V.int y) = true then A else B := ifT (congrArg V.int h) a
theorem ifEqF {x y : Int} {A B : Prop} (h : x ≠ y) (b : B) : if decide (V.int x = V.int y) = true then A else B := ifF (fun z => h (V.int.inj z)) b
theorem cmul_l {i j : Int} (h : -(2 ^ 64) < i ∧ i < 2 ^ 64) : CMul i j := .inl h
theorem cmul_r {i j : Int} (h : -(2 ^ 64) < j ∧ j < 2 ^ 64) : CMul i j := .inr h
/-- a statement that the steps stop at -/
@[irreducible] def tMk (t : TS) : TS := t
theorem tMk_eq (t : TS) : tMk t = t := by
  unfold tMk
  rfl
theorem ps_mk {X : Cx} {s : Stmt} {t : TS} (h : PS X s t) : PS X s (tMk t) := by
  rw [tMk_eq]
  exact h
theorem un {t : TS} {D : Ends} {σ : L2.St} {H : Hp} (h : t D σ H) : tMk t D σ H := by
  rw [tMk_eq]
  exact h
/-- what follows, said once -/
theorem jn {t : TS} {D : Ends} {σ : L2.St} {H : Hp} (M : L2.St → Hp → Prop) (h2 : ∀ σ H, M σ H → D.nx σ H) (h1 : ∀ N : L2.St → Hp → Prop, (∀ σ H, M σ H → N σ H) → t { D with nx := N } σ H) : tMk t D σ H := by
  rw [tMk_eq]
  exact h1 D.nx h2
/-- a wish that the steps stop at -/
@[irreducible] def Ob (p : Prop) : Prop := p
theorem ob {p : Prop} (h : p) : Ob p := by
  unfold Ob
  exact h
theorem unob {p : Prop} (h : Ob p) : p := by
  unfold Ob at h
  exact h
theorem atI_getD {ns : List Int} {j : Int} (h0 : 0 ≤ j) (h1 : j < (ns.length : Int)) : atI (ns.map V.int) j = some (.int (ns.getD j.toNat 0)) := by
  have e : j = ((j.toNat : Nat) : Int) := by omega
  have hj : j.toNat < ns.length := by omega
  have q : atI (ns.map V.int) ((j.toNat : Nat) : Int) = some (.int (ns.getD j.toNat 0)) := atI_nat (by
    rw [List.getElem?_map, List.getElem?_eq_getElem hj, List.getD_eq_getElem?_getD, List.getElem?_eq_getElem hj]
    rfl)
  rw [← e] at q
  exact q
theorem sz {n : Nat} (h : n ≤ 1000 := by first | decide | simp) : n ≤ sizeLine := Nat.le_of_lt (small1000 h)
theorem sz5 {n : Nat} (h : n ≤ 1000000) : n < sizeLine := by
  rw [sizeLine_eq]
  omega
theorem take_succ_eq {α : Type} {xs ys : List α} {i : Nat} {x y : α} (hx : xs[i]? = some x) (hy : ys[i]? = some y) : xs.take (i + 1) = ys.take (i + 1) ↔ xs.take i = ys.take i ∧ x = y := by
  rw [List.take_add_one, List.take_add_one, hx, hy]
  constructor
  · intro h
    have h1 := List.append_inj' h rfl
    refine ⟨h1.1, ?_⟩
    have h2 := h1.2
    simpa using h2
  · rintro ⟨h1, rfl⟩
    rw [h1]
-- size2
theorem ifN {b : Bool} {A B : Prop} (h : if b = true then B else A) : if (!b) = true then A else B := by
  cases b
  · exact h
  · exact h
theorem ifNe {x y : Int} {A B : Prop} (a : x ≠ y → A) (b : x = y → B) : if (!decide (V.int x = V.int y)) = true then A else B := ifN (ifEq b a)
theorem ixAny {K : PySem.W.Frag} {H : Hp} {a : Addr} {xs : List V} {i : Int} {v : V} {Q : VK} (h : SqL K H a xs ∨ SqT K H a xs) (e : atI xs i = some v) (q : Q v H) : rIx K (.ref a) (.int i) H Q := by
  rcases h with h | h
  · exact .inl ⟨a, xs, i, v, rfl, rfl, h, e, q⟩
  · exact .inr (.inl ⟨a, xs, i, v, rfl, rfl, h, e, q⟩)
theorem sameT {K : PySem.W.Frag} {H H' : Hp} {a : Addr} {xs : List V} (s : Same H H') (h : SqT K H a xs) : SqT K H' a xs := by
  rcases h with (g | ⟨o, g⟩) | g
  · exact .inl (.inl (s _ _ g))
  · exact .inl (.inr ⟨o, s _ _ g⟩)
  · exact .inr g
theorem sqAny {K : PySem.W.Frag} {H H' : Hp} {a : Addr} {xs : List V} (s : Same H H') (h : SqL K H a xs ∨ SqT K H a xs) : SqL K H' a xs ∨ SqT K H' a xs := h.imp (fun z => s.seq z) (fun z => sameT s z)
theorem same_put {H H1 : Hp} {D : Addr} {o : HO} (s : Same H H1) (h : H D = none) : Same H (upd H1 D o) := fun b x e => by
  rw [upd_ne (ne_of_none e h)]
  exact s b x e

/-! ### rules that say the written part by a letter -/
theorem ixL {X : Cx} (K : PySem.W.Frag) (h : X.K = K) : IxR X (rIxL K) := by
  subst h
  exact ix_list
theorem ixT {X : Cx} (K : PySem.W.Frag) (h : X.K = K) : IxR X (rIxT K) := by
  subst h
  exact ix_tup
theorem ixA {X : Cx} (K : PySem.W.Frag) (h : X.K = K) : IxR X (rIx K) := by
  subst h
  exact ix_seq
def rLen (K : PySem.W.Frag) : List V → Hp → VK → Prop := fun xs H Q => ∃ p ys, xs = [.ref p] ∧ (SqL K H p ys ∨ SqT K H p ys) ∧ Q (.int ys.length) H
theorem lenQ {X : Cx} (K : PySem.W.Frag) (h : X.K = K) : CallR X (.builtin "len") (rLen K) := by
  subst h
  exact call_len_seq
def isB : PyData → Bool
  | .bool _ => true
  | _ => false
def isI : PyData → Bool
  | .int _ => true
  | _ => false
def isS : PyData → Bool
  | .str _ => true
  | _ => false
def isL : PyData → Bool
  | .list _ => true
  | _ => false
def isT : PyData → Bool
  | .tuple _ => true
  | _ => false
theorem kit_B {K : PySem.W.Frag} : ∀ (d : PyData), PySem.W.kitOne K (.type (tyN d)) (.type "bool") = some (isB d)
  | .none => kit_ty (show kitB "NoneType" "bool" = some false by decide +kernel)
  | .bool _ => kit_ty (show kitB "bool" "bool" = some true by decide +kernel)
  | .int _ => kit_ty (show kitB "int" "bool" = some false by decide +kernel)
  | .str _ => kit_ty (show kitB "str" "bool" = some false by decide +kernel)
  | .list _ => kit_ty (show kitB "list" "bool" = some false by decide +kernel)
  | .tuple _ => kit_ty (show kitB "tuple" "bool" = some false by decide +kernel)
  | .dict _ => kit_ty (show kitB "dict" "bool" = some false by decide +kernel)
theorem kit_I {K : PySem.W.Frag} : ∀ (d : PyData), PySem.W.kitOne K (.type (tyN d)) (.type "int") = some (isI d || isB d)
  | .none => kit_ty (show kitB "NoneType" "int" = some false by decide +kernel)
  | .bool _ => kit_ty (show kitB "bool" "int" = some true by decide +kernel)
  | .int _ => kit_ty (show kitB "int" "int" = some true by decide +kernel)
  | .str _ => kit_ty (show kitB "str" "int" = some false by decide +kernel)
  | .list _ => kit_ty (show kitB "list" "int" = some false by decide +kernel)
  | .tuple _ => kit_ty (show kitB "tuple" "int" = some false by decide +kernel)
  | .dict _ => kit_ty (show kitB "dict" "int" = some false by decide +kernel)
theorem kit_S {K : PySem.W.Frag} : ∀ (d : PyData), PySem.W.kitOne K (.type (tyN d)) (.type "str") = some (isS d)
  | .none => kit_ty (show kitB "NoneType" "str" = some false by decide +kernel)
  | .bool _ => kit_ty (show kitB "bool" "str" = some false by decide +kernel)
  | .int _ => kit_ty (show kitB "int" "str" = some false by decide +kernel)
  | .str _ => kit_ty (show kitB "str" "str" = some true by decide +kernel)
  | .list _ => kit_ty (show kitB "list" "str" = some false by decide +kernel)
  | .tuple _ => kit_ty (show kitB "tuple" "str" = some false by decide +kernel)
  | .dict _ => kit_ty (show kitB "dict" "str" = some false by decide +kernel)
theorem kit_L {K : PySem.W.Frag} : ∀ (d : PyData), PySem.W.kitOne K (.type (tyN d)) (.type "list") = some (isL d)
  | .none => kit_ty (show kitB "NoneType" "list" = some false by decide +kernel)
  | .bool _ => kit_ty (show kitB "bool" "list" = some false by decide +kernel)
  | .int _ => kit_ty (show kitB "int" "list" = some false by decide +kernel)
  | .str _ => kit_ty (show kitB "str" "list" = some false by decide +kernel)
  | .list _ => kit_ty (show kitB "list" "list" = some true by decide +kernel)
  | .tuple _ => kit_ty (show kitB "tuple" "list" = some false by decide +kernel)
  | .dict _ => kit_ty (show kitB "dict" "list" = some false by decide +kernel)
theorem kit_T {K : PySem.W.Frag} : ∀ (d : PyData), PySem.W.kitOne K (.type (tyN d)) (.type "tuple") = some (isT d)
  | .none => kit_ty (show kitB "NoneType" "tuple" = some false by decide +kernel)
  | .bool _ => kit_ty (show kitB "bool" "tuple" = some false by decide +kernel)
  | .int _ => kit_ty (show kitB "int" "tuple" = some false by decide +kernel)
  | .str _ => kit_ty (show kitB "str" "tuple" = some false by decide +kernel)
  | .list _ => kit_ty (show kitB "list" "tuple" = some false by decide +kernel)
  | .tuple _ => kit_ty (show kitB "tuple" "tuple" = some true by decide +kernel)
  | .dict _ => kit_ty (show kitB "dict" "tuple" = some false by decide +kernel)
theorem kit_LT {K : PySem.W.Frag} (d : PyData) : PySem.W.kitAny K (.type (tyN d)) [.type "list", .type "tuple"] = some (isL d || isT d) := by
  refine kitAny_cons (kit_L d) (fun h => ?_) (fun h => by rw [h]; rfl)
  rw [h]
  refine kitAny_cons (kit_T d) (fun h => by rw [h]; rfl) (fun h => by rw [h]; rfl)
/-- isinstance of a datum -/
def rIsD (T : String) (g : PyData → Bool) : List V → Hp → VK → Prop := fun xs H Q => ∃ x d, xs = [x, .ty T] ∧ Dh H d x ∧ Q (.bl (g d)) H
theorem isOf {X : Cx} {T : String} {g : PyData → Bool} (h : ∀ d, PySem.W.kitOne X.K (.type (tyN d)) (.type T) = some (g d)) : CallR X (.builtin "isinstance") (rIsD T g) := by
  intro pins s σ H xs us Q I r z
  obtain ⟨x, d, rfl, hx, q⟩ := z
  exact call_isi pins s σ H _ us Q I r ⟨_, _, _, _, _, rfl, .ty T, hx.ty, h d, q⟩
theorem is_bool {X : Cx} : CallR X (.builtin "isinstance") (rIsD "bool" isB) := isOf kit_B
theorem is_int {X : Cx} : CallR X (.builtin "isinstance") (rIsD "int" fun d => isI d || isB d) := isOf kit_I
theorem is_str {X : Cx} : CallR X (.builtin "isinstance") (rIsD "str" isS) := isOf kit_S
theorem is_list {X : Cx} : CallR X (.builtin "isinstance") (rIsD "list" isL) := isOf kit_L
theorem is_tuple {X : Cx} : CallR X (.builtin "isinstance") (rIsD "tuple" isT) := isOf kit_T
/-- isinstance(x, (list, tuple)) of a datum -/
def rIsLT : List V → Hp → VK → Prop := fun xs H Q => ∃ x d p, xs = [x, .ref p] ∧ H p = some (.tup [.ty "list", .ty "tuple"]) ∧ Dh H d x ∧ Q (.bl (isL d || isT d)) H
theorem is_lt {X : Cx} : CallR X (.builtin "isinstance") rIsLT := by
  intro pins s σ H xs us Q I r z
  obtain ⟨x, d, p, rfl, hp, hx, q⟩ := z
  exact call_isiT pins s σ H _ us Q I r ⟨_, _, _, _, _, _, rfl, hp, .cons (.ty "list") (.cons (.ty "tuple") .nil), hx.ty, kit_LT d, q⟩
theorem ifBT {b : Bool} {A B : Prop} (h : b = true) (a : A) : if b = true then A else B := by
  rw [if_pos h]
  exact a
theorem ifBF {b : Bool} {A B : Prop} (h : b = false) (q : B) : if b = true then A else B := by
  rw [h, if_neg Bool.false_ne_true]
  exact q
theorem inQ {X : Cx} (K : PySem.W.Frag) (h : X.K = K) : OpR X (compareOp .In) (rIn K false) := by
  subst h
  exact op_in_seq
theorem notInQ {X : Cx} (K : PySem.W.Frag) (h : X.K = K) : OpR X (compareOp .NotIn) (rIn K true) := by
  subst h
  exact op_notIn_seq
theorem eqQ {X : Cx} (K : PySem.W.Frag) (h : X.K = K) (hu : X.A.units + 64 < cLine) : OpR X (compareOp .Eq) (rEqD K) := by
  subst h
  exact op_eqD hu
theorem neQ {X : Cx} (K : PySem.W.Frag) (h : X.K = K) (hu : X.A.units + 64 < cLine) : OpR X (compareOp .NotEq) (rNeD K) := by
  subst h
  exact op_neD hu
def rLst (K : PySem.W.Frag) : List V → Hp → VK → Prop := fun xs H Q => ∃ p ys, xs = [.ref p] ∧ (SqL K H p ys ∨ SqT K H p ys) ∧ ∀ l, H l = none → Q (.ref l) (upd H l (.lst ys))
theorem listQ {X : Cx} (K : PySem.W.Frag) (h : X.K = K) : CallR X (.type "list") (rLst K) := by
  subst h
  exact call_list_of

/-- what follows a wrapped statement, said once -/
theorem jnS {a b : TS} {D : Ends} {σ : L2.St} {H : Hp} (M : L2.St → Hp → Prop) (h2 : ∀ σ H, M σ H → b D σ H) (h1 : ∀ N : L2.St → Hp → Prop, (∀ σ H, M σ H → N σ H) → a { D with nx := N } σ H) : tSeq (tMk a) b D σ H := by
  rw [tMk_eq]
  exact h1 (b D) h2

section

-- a condition of an operator
local macro_rules | `(tactic| walk_at "cond") => `(tactic| first
  | (show (0 : Int) < _; omega)
  | (show CDiv _ _; constructor <;> (first | decide | omega))
  | (show CMul _ _; first | (refine cmul_l ?_; constructor <;> (first | decide | omega)) | (refine cmul_r ?_; constructor <;> (first | decide | omega)))
  | (show CPow _ _; exact (by refine ⟨by decide, by decide, by decide⟩))
  | (show CDivW _ _; exact ⟨by decide, by decide +kernel⟩))
local macro_rules | `(tactic| walk_at "sq") => `(tactic| first | assumption | exact Dh.mono (same_upd (by assumption)) _ _ (by assumption) | exact .inl (.inl (.inl (by assumption))) | exact .inr (.inl (.inl (by assumption))) | exact SqL.of (by assumption) | exact .inl (by assumption) | exact .inl (SqL.of (by assumption)) | exact SqT.of (by assumption) | exact .inr (SqT.of (by assumption)))
local macro_rules | `(tactic| walk_at "st") => `(tactic| first
  | refine ⟨_, rfl, ?_⟩
  | refine ⟨_, _, rfl, rfl, ?_⟩
  | refine .inl ⟨_, rfl, ?_⟩
  | refine ⟨rfl, ?_⟩
  | refine ⟨_, _, rfl, by walk_at "sq", ?_⟩
  | refine ⟨.inl ⟨rfl, _, SqL.of (by assumption)⟩, ?_⟩
  | refine ⟨by walk_at "cond", ?_⟩
  | (refine' ifBT ?hh ?_; (case hh => first | rfl | assumption))
  | (refine' ifBF ?hh ?_; (case hh => first | rfl | assumption)))
local macro_rules | `(tactic| walk_at "go") => `(tactic| repeat walk_at "st")
local macro_rules | `(tactic| walk_at "yes") => `(tactic| (refine' ifT ?hh ?_; (case hh => first | rfl | decide +kernel)))
local macro_rules | `(tactic| walk_at "no") => `(tactic| (refine' ifF ?hh ?_; (case hh => first | decide +kernel | (intro z; cases z; done))))

/-! ### a lambda of one parameter, called in the def that made it -/
/-- its names: the parameter, captured ones, globals -/
structure Lam1 (sc scope : Scope) (a : Str) : Prop where
  kind : scope.kind = .function
  co : scope.isCoroutine = false
  gen : scope.isGenerator = false
  par : scope.names.lookup a = some .local
  own : ∀ y ∈ scope.names, (y.2 = .local → y.1 = a) ∧ y.2 ≠ .cell
  free : ∀ y ∈ scope.names, y.2 = .free → sc.names.lookup y.1 = some .cell ∨ sc.names.lookup y.1 = some .free
def oneCx (X : Cx) (s : Shared) (H : Hp) (scope : Scope) (f c' : Addr) (a : Str) : Cx := { lamCx X X.A.in1 X.stack s H C8.E0 scope f c' with N := X.N ++ [a] }
section
variable {X : Cx} {pins : List (Addr × Obj)} {σ : L2.St} {H : Hp} {s : Shared} {scope : Scope} {a : Str}
theorem Lam1.has (L : Lam1 X.env.scope scope a) (ok : X.Ok) (y : Str × NameKind) (hy : y ∈ scope.names) (e : y.2 = .free) : ∃ c, X.env.cells.lookup y.1 = some c :=
  ok.has _ ((L.free y hy e).elim .inl .inr)
theorem Lam1.cell_of (L : Lam1 X.env.scope scope a) (ok : X.Ok) {y : Str} {c : Addr} (e : (cloFrom X.env.cells scope.names []).lookup y = some c) : X.env.cells.lookup y = some c := by
  rcases cloFrom_mem (PySem.mem_of_lookup e) with hm | ⟨h1, h2⟩
  · cases hm
  · obtain ⟨c1, hc⟩ := L.has ok _ h1 rfl
    have hc : X.env.cells.lookup y = some c1 := hc
    rw [h2, hc]
    rfl
theorem one_start {f c' : Addr} {v : V} {u : Value} {h₁ : Heap} {tk : Nat} (I : Inv X pins σ H s) (L : Lam1 X.env.scope scope a) (na : a ∉ X.N) (hd : X.A.handled = none) (rv : RelV v u)
    (hns : h₁.Ns s.heap.objs.size fun y => ([(a, u)] : List (Str × Value)).reverse.lookup y) (kp : ∀ b o, s.heap.get? b = some o → h₁.get? b = some o) : Inv (oneCx X s H scope f c' a) [] (σ ++ [some v]) H { s with heap := h₁, toks := tk } := by
  have e0 := I.env0.in1
  have has : ∀ {y}, scope.names.lookup y = some .free → ∃ c, (cloFrom X.env.cells scope.names []).lookup y = some c := fun {y} hl => mem_lookup (cloFrom_has (cells := X.env.cells) (acc := []) (show (y, NameKind.free) ∈ scope.names from PySem.mem_of_lookup hl))
  have ce : ∀ {c : Addr} {w : Option Value}, s.heap.IsCell c w → h₁.IsCell c w := fun ⟨o, ho, hd⟩ => ⟨o, kp _ _ ho, hd⟩
  have nx : ∀ b : Addr, b ∉ (oneCx X s H scope f c' a).ex := fun b z => absurd (show b ∈ ([] : List Addr) from z) (by simp)
  refine { ok := ⟨?mod, ?kind, rfl, rfl, ?above, ?inj, ?has, ?cab, ?hd, ?frames, .inr ⟨rfl, rfl⟩, ?exf, ?bs, ?bsz, ?noex, ?exfs, ?funs, ?frf⟩, os := rfl, bare := e0.bare, base := Un.kept kp, loc := ⟨_, hns, ?loc⟩, cell := ?cell, free := ?free, freeC := ?freeC, pin := ?pin, hok := e0.hok.kept kp, len := ?len }
  case mod => exact e0.mod
  case kind => exact L.kind
  case above => exact Nat.le_refl _
  case inj => exact fun x y c e1 e2 => I.ok.inj x y c (L.cell_of I.ok e1) (L.cell_of I.ok e2)
  case has =>
    intro y hy
    rcases (show scope.names.lookup y = some .cell ∨ scope.names.lookup y = some .free from hy) with hy | hy
    · exact absurd rfl (L.own _ (PySem.mem_of_lookup hy)).2
    · exact has hy
  case cab =>
    intro y c z _
    have z : false = true := z
    cases z
  case hd => exact fun _ => hd
  case frames => exact Around.frames_deeper e0.frames
  case exf => exact fun b z => absurd z (nx b)
  case bs => exact e0.bs
  case bsz => exact e0.bsz
  case noex => exact fun b _ _ => nx b
  case exfs => exact fun b z => absurd z (nx b)
  case funs => exact e0.funs
  case frf => exact e0.frf
  case loc =>
    intro i x v' e1 e2 e3
    have e1 : (X.N ++ [a])[i]? = some x := e1
    have ln := I.len
    by_cases hi : i < X.N.length
    · rw [List.getElem?_append_left hi] at e1
      rw [List.getElem?_append_left (by omega)] at e2
      have xa : x ≠ a := fun z => na (by rw [← z]; exact List.mem_of_getElem? e1)
      have k : scope.names.lookup x = some .free := by
        rcases (show scope.names.lookup x = some .local ∨ scope.names.lookup x = some .cell ∨ scope.names.lookup x = some .free from e3) with k | k | k
        · exact absurd ((L.own _ (PySem.mem_of_lookup k)).1 rfl) xa
        · exact absurd rfl (L.own _ (PySem.mem_of_lookup k)).2
        · exact k
      have fr := L.free _ (PySem.mem_of_lookup k) rfl
      obtain ⟨m, hn, hl⟩ := I.loc
      obtain ⟨w', r, q⟩ := hl i x v' e1 e2 (fr.elim (fun z => .inr (.inl z)) fun z => .inr (.inr z))
      obtain ⟨c2, h2⟩ := has k
      refine ⟨w', r, .inr ⟨.inr k, c2, h2, ?_⟩⟩
      rcases q with ⟨k', _⟩ | ⟨_, c3, e', z⟩
      · have k' : X.env.scope.names.lookup x = some .local := k'
        rcases fr with k2 | k2 <;> rw [show X.env.scope.names.lookup x = _ from k2] at k' <;> cases k'
      · rw [L.cell_of I.ok h2] at e'
        cases e'
        exact ce z
    · rw [List.getElem?_append_right (by omega)] at e1 e2
      rw [ln] at e2
      have hz : i - X.N.length = 0 := by
        have := (List.getElem?_eq_some_iff.mp e1).1
        simp at this
        omega
      rw [hz] at e1 e2
      cases e1
      cases e2
      refine ⟨u, rv, .inl ⟨L.par, ?_⟩⟩
      show List.lookup a [(a, u)] = some u
      simp
  case cell =>
    intro y c e
    obtain ⟨w', z⟩ := I.cell y c (L.cell_of I.ok e)
    exact ⟨w', ce z⟩
  case free => exact e0.hok.fresh (Nat.le_refl _)
  case freeC => exact fun y c e => I.freeC y c (L.cell_of I.ok e)
  case pin => exact fun q hq => absurd (show q ∈ ([] : List (Addr × Obj)) ++ [] from hq) (by simp)
  case len =>
    show (σ ++ [some v]).length = (X.N ++ [a]).length
    rw [List.length_append, List.length_append, I.len]
    rfl
end

end

section

-- a condition of an operator
local macro_rules | `(tactic| walk_at "cond") => `(tactic| first
  | (show (0 : Int) < _; omega)
  | (show CDiv _ _; constructor <;> (first | decide | omega))
  | (show CMul _ _; first | (refine cmul_l ?_; constructor <;> (first | decide | omega)) | (refine cmul_r ?_; constructor <;> (first | decide | omega)))
  | (show CPow _ _; exact (by refine ⟨by decide, by decide, by decide⟩))
  | (show CDivW _ _; exact ⟨by decide, by decide +kernel⟩))
local macro_rules | `(tactic| walk_at "sq") => `(tactic| first | assumption | exact Dh.mono (same_upd (by assumption)) _ _ (by assumption) | exact .inl (.inl (.inl (by assumption))) | exact .inr (.inl (.inl (by assumption))) | exact SqL.of (by assumption) | exact .inl (by assumption) | exact .inl (SqL.of (by assumption)) | exact SqT.of (by assumption) | exact .inr (SqT.of (by assumption)))
local macro_rules | `(tactic| walk_at "st") => `(tactic| first
  | refine ⟨_, rfl, ?_⟩
  | refine ⟨_, _, rfl, rfl, ?_⟩
  | refine .inl ⟨_, rfl, ?_⟩
  | refine ⟨rfl, ?_⟩
  | refine ⟨_, _, rfl, by walk_at "sq", ?_⟩
  | refine ⟨.inl ⟨rfl, _, SqL.of (by assumption)⟩, ?_⟩
  | refine ⟨by walk_at "cond", ?_⟩
  | (refine' ifBT ?hh ?_; (case hh => first | rfl | assumption))
  | (refine' ifBF ?hh ?_; (case hh => first | rfl | assumption)))
local macro_rules | `(tactic| walk_at "go") => `(tactic| repeat walk_at "st")
local macro_rules | `(tactic| walk_at "yes") => `(tactic| (refine' ifT ?hh ?_; (case hh => first | rfl | decide +kernel)))
local macro_rules | `(tactic| walk_at "no") => `(tactic| (refine' ifF ?hh ?_; (case hh => first | decide +kernel | (intro z; cases z; done))))

section
variable {X : Cx} {pins : List (Addr × Obj)} {σ : L2.St} {H : Hp} {s : Shared} {scope : Scope} {a : Str}
/-- the lambda called by a built-in of the def that made it -/
theorem one_call {f c' : Addr} {params : Arguments} {body : Expr} {pm ctv u : Value} {v : V} {k : Nat} {tb : TE} {Q : VK} (I : Inv X pins σ H s) (L : Lam1 X.env.scope scope a) (na : a ∉ X.N) (hr : Room (k + 1) X.A)
    (hf : s.heap.get? f = some (PySem.W.kla_obj "<lambda>" (X.env.qual ++ "<lambda>") params body scope (cloFrom X.env.cells scope.names []) pm c' ctv)) (hco : H c' = some (CodeO c' (X.env.qual ++ "<lambda>")))
    (hbind : bindArgs (PySem.W.kla_fn "<lambda>" (X.env.qual ++ "<lambda>") params body scope (cloFrom X.env.cells scope.names []) pm (.ref c') ctv) ⟨[u], []⟩ = pure [(a, u)]) (rv : RelV v u)
    (hbody : PE (oneCx X s H scope f c' a) body tb) (h : tb (σ ++ [some v]) H Q) : wpAny (model X.prog X.w) X.A.in1 (call (.ref f) [u]) (fun r s' => EP X pins σ Q r s') (fun _ _ => False) s := by
  obtain ⟨⟨oc, vs, t, g1, g2, g3⟩, _, _⟩ := I.hok c' _ hco
  have rc : codeAny (model X.prog X.w) X.A.in1 (.call (.ref f) ⟨[u], []⟩) (CR (L2.CX X.prog X.w) X.stack X.prog X.w H s Q C8.E0) s := by
    refine PySem.W.kla_callFunE (hr.in1).depth hf rfl L.co L.gen rfl ⟨c', oc, vs, t, rfl, g1, g2, g3⟩ ?_
    rw [hbind]
    refine wpAny_pure (wpAny_newFunctionEnv (fun y hy => (L.own y hy).2) (fun y hy => ?_) (fun h₁ hns hsb => ⟨I.nolimit.fresh _ hsb, ?_⟩) L.kind)
    · rw [List.mem_singleton.mp hy]
      exact L.par
    · show codeAny _ _ (.expr body (lamEnv X scope s.heap.objs.size f c')) _ _
      have kp : ∀ b o, s.heap.get? b = some o → h₁.get? b = some o := fun b o e => hsb.extBut b o (Nat.ne_of_lt (Heap.lt_size e)) (Heap.get?_push_of_some _ e)
      have J := one_start (f := f) (c' := c') (tk := s.toks + ([(a, u)] : List (Str × Value)).length) I L na hr.hd rv hns kp
      refine PySem.W.kla_codeExpr (wpAny_mono (hbody.run [] _ _ H Q J h) (fun v s' hq => ?_) fun e s' hq => hq)
      obtain ⟨w', H', J', rv, q⟩ := hq
      exact ⟨w', H', J'.os, J'.bare, J'.base, J'.hok, rv, q⟩
  refine wpAny_call (codeAny_mono rc fun r s' hq => ?_)
  cases r with
  | error e =>
    obtain ⟨_, _, _, _, _, _, _, _, _, _, _, _, z⟩ := hq
    exact z.elim
  | ok fl =>
    cases fl with
    | ret u => exact I.after hq
    | next => exact False.elim hq
    | brk => exact False.elim hq
    | cont => exact False.elim hq
end

end

section

-- a condition of an operator
local macro_rules | `(tactic| walk_at "cond") => `(tactic| first
  | (show (0 : Int) < _; omega)
  | (show CDiv _ _; constructor <;> (first | decide | omega))
  | (show CMul _ _; first | (refine cmul_l ?_; constructor <;> (first | decide | omega)) | (refine cmul_r ?_; constructor <;> (first | decide | omega)))
  | (show CPow _ _; exact (by refine ⟨by decide, by decide, by decide⟩))
  | (show CDivW _ _; exact ⟨by decide, by decide +kernel⟩))
local macro_rules | `(tactic| walk_at "sq") => `(tactic| first | assumption | exact Dh.mono (same_upd (by assumption)) _ _ (by assumption) | exact .inl (.inl (.inl (by assumption))) | exact .inr (.inl (.inl (by assumption))) | exact SqL.of (by assumption) | exact .inl (by assumption) | exact .inl (SqL.of (by assumption)) | exact SqT.of (by assumption) | exact .inr (SqT.of (by assumption)))
local macro_rules | `(tactic| walk_at "st") => `(tactic| first
  | refine ⟨_, rfl, ?_⟩
  | refine ⟨_, _, rfl, rfl, ?_⟩
  | refine .inl ⟨_, rfl, ?_⟩
  | refine ⟨rfl, ?_⟩
  | refine ⟨_, _, rfl, by walk_at "sq", ?_⟩
  | refine ⟨.inl ⟨rfl, _, SqL.of (by assumption)⟩, ?_⟩
  | refine ⟨by walk_at "cond", ?_⟩
  | (refine' ifBT ?hh ?_; (case hh => first | rfl | assumption))
  | (refine' ifBF ?hh ?_; (case hh => first | rfl | assumption)))
local macro_rules | `(tactic| walk_at "go") => `(tactic| repeat walk_at "st")
local macro_rules | `(tactic| walk_at "yes") => `(tactic| (refine' ifT ?hh ?_; (case hh => first | rfl | decide +kernel)))
local macro_rules | `(tactic| walk_at "no") => `(tactic| (refine' ifF ?hh ?_; (case hh => first | decide +kernel | (intro z; cases z; done))))

/-! ### min and max of whole numbers by a key -/
section
variable {X : Cx} {pins : List (Addr × Obj)} {σ : L2.St} {H : Hp} {s : Shared} {l q I S : Addr} {oq : Obj} {ns : List Int}
/-- the key function, called by a built-in: whole numbers, nothing else changed -/
def KTurn (X : Cx) (σ : L2.St) (H : Hp) (q : Addr) (oq : Obj) (ns : List Int) (kf : Nat → Int) : Prop := ∀ (i : Nat) (v : Value) (pn : List (Addr × Obj)) (s : Shared), (q, oq) ∈ pn → i < ns.length → RelV (.int (ns.getD i 0)) v → Inv X pn σ H s →
  wpAny (model X.prog X.w) X.A.in1 (call (.ref q) [v]) (fun r s' => EP X pn σ (fun x H' => x = .int (kf i) ∧ H' = H) r s') (fun _ _ => False) s
def Bestmin (kf : Nat → Int) (n i : Nat) : Prop := ∀ j, j < n → kf i ≤ kf j ∧ (j < i → kf i < kf j)
def Bestmax (kf : Nat → Int) (n i : Nat) : Prop := ∀ j, j < n → kf i ≥ kf j ∧ (j < i → kf i > kf j)
theorem fp_turn {I : Addr} {h' : Heap} {t' : Nat} (J : Inv X pins σ H s) (f : FpOk X pins H I) (k : ∀ b o, b ≠ I → s.heap.get? b = some o → h'.get? b = some o) : Inv X pins σ H { s with heap := h', toks := t' } :=
  J.turned k f.1 f.2.1 f.2.2.2.1 f.2.2.2.2.1 f.2.2.2.2.2
theorem iter_ne {h : Heap} {its : Array Value} {n : Nat} (p : PlainL h l its) (hit : h.IsListIter I l n) : l ≠ I := fun z => by
  obtain ⟨o, g, _, d⟩ := hit
  obtain ⟨c, n, hc, _, _, dc⟩ := p
  rw [z, g] at hc
  rw [Option.some.inj hc, dc] at d
  cases d
theorem item_rel {its : List Value} {i : Nat} {v : Value} (rv : Vals (ns.map V.int) its) (hi : i < ns.length) (hv : its.toArray[i]? = some v) : RelV (.int (ns.getD i 0)) v := by
  obtain ⟨u, hu, ru⟩ := rv.get (i := i) (x := .int (ns.getD i 0)) (by rw [List.getElem?_map, List.getElem?_eq_getElem hi, List.getD_eq_getElem?_getD, List.getElem?_eq_getElem hi]; rfl)
  have e : its[i]? = some v := by simpa using hv
  rw [e] at hu
  cases hu
  exact ru
theorem pin_two {oI oS : Obj} (J : Inv X pins σ H s) (fI : FpOk X pins H I) (fS : FpOk X pins H S) (gI : s.heap.get? I = some oI) (cI : ∀ v, oI.data ≠ .cell v) (gS : s.heap.get? S = some oS) (cS : ∀ v, oS.data ≠ .cell v) : Inv X ((I, oI) :: (S, oS) :: pins) σ H s :=
  J.pins_of fun p hp => by
    rcases List.mem_cons.mp hp with e | hp
    · rw [e]
      exact ⟨gI, fI.1, fI.2.1, fI.2.2.1, cI⟩
    · rcases List.mem_cons.mp hp with e | hp
      · rw [e]
        exact ⟨gS, fS.1, fS.2.1, fS.2.2.1, cS⟩
      · exact J.pin p (List.mem_append_right _ hp)
theorem unpin_two {oI oS : Obj} (J : Inv X ((I, oI) :: (S, oS) :: pins) σ H s) : Inv X pins σ H s ∧ s.heap.get? I = some oI ∧ s.heap.get? S = some oS :=
  ⟨J.pins_of fun r hr => J.pin r (List.mem_append_right _ (List.mem_cons_of_mem _ (List.mem_cons_of_mem _ hr))), (J.pin (I, oI) (List.mem_append_right _ List.mem_cons_self)).1, (J.pin (S, oS) (List.mem_append_right _ (List.mem_cons_of_mem _ List.mem_cons_self))).1⟩

theorem kl_min_loop {kf : Nat → Int} {R : Result → Shared → Prop} (hh : X.A.handled = none) (hl : SqL X.K H l (ns.map V.int)) (turn : KTurn X σ H q oq ns kf) (hq : (q, oq) ∈ pins) (fI : FpOk X pins H I) (fS : FpOk X pins H S) (ne : S ≠ I)
    (hR : ∀ i v s', i < ns.length → Bestmin kf ns.length i → RelV (.int (ns.getD i 0)) v → Inv X pins σ H s' → R (.ok (.ret v)) s') :
    ∀ (r j i : Nat) (s : Shared) (vb : Value) (tb : Tok) (c : Nat), ns.length - (j + 1) = r → j + 1 ≤ ns.length → Inv X pins σ H s → s.heap.IsListIter I l (j + 1) → s.heap.get? S = some (seqObj "list" #[vb, .int (kf i) tb] c) → RelV (.int (ns.getD i 0)) vb → i ≤ j →
      Bestmin kf (j + 1) i → codeAny (model X.prog X.w) X.A (.builtin "min.loop" ⟨[.ref I, .ref q, .ref S], []⟩) R s := by
  have en : (toString "min" ++ toString ".loop" : String) = "min.loop" := by decide
  intro r
  induction r with
  | zero =>
    intro j i s vb tb c hr hj J hit hS hvb hij hbest
    obtain ⟨its, rv, p, _⟩ := J.list hl
    have ll : its.length = ns.length := by have := rv.length; simpa using this.symm
    have hlI := iter_ne p hit
    have W := Walks.list (prog := X.prog) (w := X.w) (A := X.A.in1) hh I l hlI its.toArray
    refine codeAny_builtin PySem.F.entry_min_loop (by
      rw [Around.under_plainId PySem.F.plain_min_loop _]
      show wpAny _ X.A.in1 (seqItems? (.ref S) >>= _) _ _ _
      refine wpAny_bind (wpAny_seqItems hS rfl (wpAny_bind (wpAny_tryCatch (W.done s _ _ ⟨by rw [List.size_toArray, ll, show ns.length = j + 1 by omega]; exact hit, p.isList⟩ fun h' tk' hk' => ?_))))
      have J1 : Inv X pins σ H { s with heap := h', toks := tk' } := fp_turn J fI fun b o hb e => hk' b o (by simpa using hb) e
      have hS1 := hk' S _ (by simpa using ne) hS
      have sb := Heap.SameBut.update h' S (Obj.mapSeq fun _ => (#[] : Array Value))
      refine wpAny_bind (wpAny_updateSeq hS1 rfl (wpAny_bind (wpAny_letGo (wpAny_pure (hR i vb _ (by omega) ?_ hvb ?_)))))
      · rw [show ns.length = j + 1 by omega]
        exact hbest
      · exact fp_turn (t' := tk') J1 fS fun b o hb e => (sb.2 b hb).trans e)
  | succ r ih =>
    intro j i s vb tb c hr hj J hit hS hvb hij hbest
    have hlt : j + 1 < ns.length := by omega
    obtain ⟨its, rv, p, _⟩ := J.list hl
    have ll : its.length = ns.length := by have := rv.length; simpa using this.symm
    have hlI := iter_ne p hit
    have W := Walks.list (prog := X.prog) (w := X.w) (A := X.A.in1) hh I l hlI its.toArray
    refine codeAny_builtin PySem.F.entry_min_loop (by
      rw [Around.under_plainId PySem.F.plain_min_loop _]
      show wpAny _ X.A.in1 (seqItems? (.ref S) >>= _) _ _ _
      refine wpAny_bind (wpAny_seqItems hS rfl (wpAny_bind (wpAny_tryCatch (W.item (j + 1) s _ _ (by rw [List.size_toArray, ll]; exact hlt) ⟨hit, p.isList⟩ fun v h' tk' hP st' hk' => ?_))))
      have rvv := item_rel rv hlt hP
      have J1 : Inv X pins σ H { s with heap := h', toks := tk' } := fp_turn J fI fun b o hb e => hk' b o (by simpa using hb) e
      have hS1 := hk' S _ (by simpa using ne) hS
      obtain ⟨oI, gI, cI, dI⟩ := st'.1
      have J2 := pin_two J1 fI fS gI (by rw [dI]; intro z q; cases q) hS1 (by intro z q; cases q)
      refine wpAny_bind (wpAny_tryCatch (wpAny_holding (wpAny_mono (turn (j + 1) v _ _ (List.mem_cons_of_mem _ (List.mem_cons_of_mem _ hq)) hlt rvv J2) (fun x s2 he => ?_) fun _ _ z => z.elim)))
      obtain ⟨vx, H2, J3, rx, ex, eH⟩ := he
      subst ex eH
      obtain ⟨t2, rfl⟩ := rx
      obtain ⟨J4, gI3, hS3⟩ := unpin_two J3
      refine wpAny_bind (wpAny_tryCatch (wpAny_holding (wpAny_bind (CmpOf.ints_lt (prog := X.prog) (w := X.w) (A := X.A.in1) (P := fun i v => ∃ t, v = .int (kf i) t) kf (fun i v h => h) (j + 1) i _ _ s2 _ _ ⟨t2, rfl⟩ ⟨tb, rfl⟩ (wpAny_bind (wpAny_holding (wpAny_truthy_bool (wpAny_bind (wpAny_letGo (wpAny_pure ?_))))))))))
      by_cases better : kf (j + 1) < kf i
      · have sb := Heap.SameBut.update s2.heap S (Obj.mapSeq fun _ => #[v, .int (kf (j + 1)) t2])
        obtain ⟨c2, hc2⟩ : ∃ c2, (s2.heap.update S (Obj.mapSeq fun _ => #[v, .int (kf (j + 1)) t2])).get? S = some (seqObj "list" #[v, .int (kf (j + 1)) t2] c2) := ⟨_, get?_update_seq hS3 fun _ => #[v, .int (kf (j + 1)) t2]⟩
        simp only [better, decide_true, if_true]
        refine wpAny_bind (wpAny_updateSeq hS3 rfl (wpAny_bind (wpAny_letGo ?_)))
        rw [en]
        refine wpAny_pure ⟨plainId_quiet PySem.F.plain_min_loop _, ih (j + 1) (j + 1) _ v t2 c2 (by omega) hlt (fp_turn (t' := s2.toks) J4 fS fun b o hb e => (sb.2 b hb).trans e) ⟨oI, (sb.2 I ne.symm).trans gI3, cI, dI⟩ hc2 rvv (Nat.le_refl _) fun j' hj' => ?_⟩
        by_cases e : j' = j + 1
        · subst e
          exact ⟨by omega, fun _ => by omega⟩
        · have b1 := hbest j' (by omega)
          exact ⟨by omega, fun _ => by omega⟩
      · simp only [better, decide_false, Bool.false_eq_true, if_false]
        refine wpAny_bind (wpAny_letGo ?_)
        rw [en]
        refine wpAny_pure ⟨plainId_quiet PySem.F.plain_min_loop _, ih (j + 1) i _ vb tb c (by omega) hlt J4 ⟨oI, gI3, cI, dI⟩ hS3 hvb (by omega) fun j' hj' => ?_⟩
        by_cases e : j' = j + 1
        · subst e
          exact ⟨by omega, fun _ => by omega⟩
        · exact hbest j' (by omega))

theorem kl_max_loop {kf : Nat → Int} {R : Result → Shared → Prop} (hh : X.A.handled = none) (hl : SqL X.K H l (ns.map V.int)) (turn : KTurn X σ H q oq ns kf) (hq : (q, oq) ∈ pins) (fI : FpOk X pins H I) (fS : FpOk X pins H S) (ne : S ≠ I)
    (hR : ∀ i v s', i < ns.length → Bestmax kf ns.length i → RelV (.int (ns.getD i 0)) v → Inv X pins σ H s' → R (.ok (.ret v)) s') :
    ∀ (r j i : Nat) (s : Shared) (vb : Value) (tb : Tok) (c : Nat), ns.length - (j + 1) = r → j + 1 ≤ ns.length → Inv X pins σ H s → s.heap.IsListIter I l (j + 1) → s.heap.get? S = some (seqObj "list" #[vb, .int (kf i) tb] c) → RelV (.int (ns.getD i 0)) vb → i ≤ j →
      Bestmax kf (j + 1) i → codeAny (model X.prog X.w) X.A (.builtin "max.loop" ⟨[.ref I, .ref q, .ref S], []⟩) R s := by
  have en : (toString "max" ++ toString ".loop" : String) = "max.loop" := by decide
  intro r
  induction r with
  | zero =>
    intro j i s vb tb c hr hj J hit hS hvb hij hbest
    obtain ⟨its, rv, p, _⟩ := J.list hl
    have ll : its.length = ns.length := by have := rv.length; simpa using this.symm
    have hlI := iter_ne p hit
    have W := Walks.list (prog := X.prog) (w := X.w) (A := X.A.in1) hh I l hlI its.toArray
    refine codeAny_builtin PySem.F.entry_max_loop (by
      rw [Around.under_plainId PySem.F.plain_max_loop _]
      show wpAny _ X.A.in1 (seqItems? (.ref S) >>= _) _ _ _
      refine wpAny_bind (wpAny_seqItems hS rfl (wpAny_bind (wpAny_tryCatch (W.done s _ _ ⟨by rw [List.size_toArray, ll, show ns.length = j + 1 by omega]; exact hit, p.isList⟩ fun h' tk' hk' => ?_))))
      have J1 : Inv X pins σ H { s with heap := h', toks := tk' } := fp_turn J fI fun b o hb e => hk' b o (by simpa using hb) e
      have hS1 := hk' S _ (by simpa using ne) hS
      have sb := Heap.SameBut.update h' S (Obj.mapSeq fun _ => (#[] : Array Value))
      refine wpAny_bind (wpAny_updateSeq hS1 rfl (wpAny_bind (wpAny_letGo (wpAny_pure (hR i vb _ (by omega) ?_ hvb ?_)))))
      · rw [show ns.length = j + 1 by omega]
        exact hbest
      · exact fp_turn (t' := tk') J1 fS fun b o hb e => (sb.2 b hb).trans e)
  | succ r ih =>
    intro j i s vb tb c hr hj J hit hS hvb hij hbest
    have hlt : j + 1 < ns.length := by omega
    obtain ⟨its, rv, p, _⟩ := J.list hl
    have ll : its.length = ns.length := by have := rv.length; simpa using this.symm
    have hlI := iter_ne p hit
    have W := Walks.list (prog := X.prog) (w := X.w) (A := X.A.in1) hh I l hlI its.toArray
    refine codeAny_builtin PySem.F.entry_max_loop (by
      rw [Around.under_plainId PySem.F.plain_max_loop _]
      show wpAny _ X.A.in1 (seqItems? (.ref S) >>= _) _ _ _
      refine wpAny_bind (wpAny_seqItems hS rfl (wpAny_bind (wpAny_tryCatch (W.item (j + 1) s _ _ (by rw [List.size_toArray, ll]; exact hlt) ⟨hit, p.isList⟩ fun v h' tk' hP st' hk' => ?_))))
      have rvv := item_rel rv hlt hP
      have J1 : Inv X pins σ H { s with heap := h', toks := tk' } := fp_turn J fI fun b o hb e => hk' b o (by simpa using hb) e
      have hS1 := hk' S _ (by simpa using ne) hS
      obtain ⟨oI, gI, cI, dI⟩ := st'.1
      have J2 := pin_two J1 fI fS gI (by rw [dI]; intro z q; cases q) hS1 (by intro z q; cases q)
      refine wpAny_bind (wpAny_tryCatch (wpAny_holding (wpAny_mono (turn (j + 1) v _ _ (List.mem_cons_of_mem _ (List.mem_cons_of_mem _ hq)) hlt rvv J2) (fun x s2 he => ?_) fun _ _ z => z.elim)))
      obtain ⟨vx, H2, J3, rx, ex, eH⟩ := he
      subst ex eH
      obtain ⟨t2, rfl⟩ := rx
      obtain ⟨J4, gI3, hS3⟩ := unpin_two J3
      refine wpAny_bind (wpAny_tryCatch (wpAny_holding (wpAny_bind (CmpOf.ints_gt (prog := X.prog) (w := X.w) (A := X.A.in1) (P := fun i v => ∃ t, v = .int (kf i) t) kf (fun i v h => h) (j + 1) i _ _ s2 _ _ ⟨t2, rfl⟩ ⟨tb, rfl⟩ (wpAny_bind (wpAny_holding (wpAny_truthy_bool (wpAny_bind (wpAny_letGo (wpAny_pure ?_))))))))))
      by_cases better : kf (j + 1) > kf i
      · have sb := Heap.SameBut.update s2.heap S (Obj.mapSeq fun _ => #[v, .int (kf (j + 1)) t2])
        obtain ⟨c2, hc2⟩ : ∃ c2, (s2.heap.update S (Obj.mapSeq fun _ => #[v, .int (kf (j + 1)) t2])).get? S = some (seqObj "list" #[v, .int (kf (j + 1)) t2] c2) := ⟨_, get?_update_seq hS3 fun _ => #[v, .int (kf (j + 1)) t2]⟩
        simp only [better, decide_true, if_true]
        refine wpAny_bind (wpAny_updateSeq hS3 rfl (wpAny_bind (wpAny_letGo ?_)))
        rw [en]
        refine wpAny_pure ⟨plainId_quiet PySem.F.plain_max_loop _, ih (j + 1) (j + 1) _ v t2 c2 (by omega) hlt (fp_turn (t' := s2.toks) J4 fS fun b o hb e => (sb.2 b hb).trans e) ⟨oI, (sb.2 I ne.symm).trans gI3, cI, dI⟩ hc2 rvv (Nat.le_refl _) fun j' hj' => ?_⟩
        by_cases e : j' = j + 1
        · subst e
          exact ⟨by omega, fun _ => by omega⟩
        · have b1 := hbest j' (by omega)
          exact ⟨by omega, fun _ => by omega⟩
      · simp only [better, decide_false, Bool.false_eq_true, if_false]
        refine wpAny_bind (wpAny_letGo ?_)
        rw [en]
        refine wpAny_pure ⟨plainId_quiet PySem.F.plain_max_loop _, ih (j + 1) i _ vb tb c (by omega) hlt J4 ⟨oI, gI3, cI, dI⟩ hS3 hvb (by omega) fun j' hj' => ?_⟩
        by_cases e : j' = j + 1
        · subst e
          exact ⟨by omega, fun _ => by omega⟩
        · exact hbest j' (by omega))

theorem kl_min_first {kf : Nat → Int} {R : Result → Shared → Prop} {c : Nat} (hh : X.A.handled = none) (hl : SqL X.K H l (ns.map V.int)) (hne : 0 < ns.length) (turn : KTurn X σ H q oq ns kf) (hq : (q, oq) ∈ pins) (fI : FpOk X pins H I) (fS : FpOk X pins H S) (ne : S ≠ I)
    (hR : ∀ i v s', i < ns.length → Bestmin kf ns.length i → RelV (.int (ns.getD i 0)) v → Inv X pins σ H s' → R (.ok (.ret v)) s') (J : Inv X pins σ H s) (hit : s.heap.IsListIter I l 0) (hS : s.heap.get? S = some (seqObj "list" #[] c)) :
    codeAny (model X.prog X.w) X.A (.builtin "min.loop" ⟨[.ref I, .ref q, .ref S], []⟩) R s := by
  have en : (toString "min" ++ toString ".loop" : String) = "min.loop" := by decide
  obtain ⟨its, rv, p, _⟩ := J.list hl
  have ll : its.length = ns.length := by have := rv.length; simpa using this.symm
  have hlI := iter_ne p hit
  have W := Walks.list (prog := X.prog) (w := X.w) (A := X.A.in1) hh I l hlI its.toArray
  refine codeAny_builtin PySem.F.entry_min_loop (by
    rw [Around.under_plainId PySem.F.plain_min_loop _]
    show wpAny _ X.A.in1 (seqItems? (.ref S) >>= _) _ _ _
    refine wpAny_bind (wpAny_seqItems hS rfl (wpAny_bind (wpAny_tryCatch (W.item 0 s _ _ (by rw [List.size_toArray, ll]; exact hne) ⟨hit, p.isList⟩ fun v h' tk' hP st' hk' => ?_))))
    have rvv := item_rel rv hne hP
    have J1 : Inv X pins σ H { s with heap := h', toks := tk' } := fp_turn J fI fun b o hb e => hk' b o (by simpa using hb) e
    have hS1 := hk' S _ (by simpa using ne) hS
    obtain ⟨oI, gI, cI, dI⟩ := st'.1
    have J2 := pin_two J1 fI fS gI (by rw [dI]; intro z q; cases q) hS1 (by intro z q; cases q)
    refine wpAny_bind (wpAny_tryCatch (wpAny_holding (wpAny_mono (turn 0 v _ _ (List.mem_cons_of_mem _ (List.mem_cons_of_mem _ hq)) hne rvv J2) (fun x s2 he => ?_) fun _ _ z => z.elim)))
    obtain ⟨vx, H2, J3, rx, ex, eH⟩ := he
    subst ex eH
    obtain ⟨t2, rfl⟩ := rx
    obtain ⟨J4, gI3, hS3⟩ := unpin_two J3
    have sb := Heap.SameBut.update s2.heap S (Obj.mapSeq fun _ => #[v, .int (kf 0) t2])
    obtain ⟨c2, hc2⟩ : ∃ c2, (s2.heap.update S (Obj.mapSeq fun _ => #[v, .int (kf 0) t2])).get? S = some (seqObj "list" #[v, .int (kf 0) t2] c2) := ⟨_, get?_update_seq hS3 fun _ => #[v, .int (kf 0) t2]⟩
    show wpAny _ X.A.in1 (updateSeq S (fun _ => #[v, .int (kf 0) t2]) >>= _) _ _ _
    refine wpAny_bind (wpAny_updateSeq hS3 rfl ?_)
    rw [en]
    refine wpAny_pure ⟨plainId_quiet PySem.F.plain_min_loop _, kl_min_loop hh hl turn hq fI fS ne hR _ 0 0 _ v t2 c2 rfl hne (fp_turn (t' := s2.toks) J4 fS fun b o hb e => (sb.2 b hb).trans e) ⟨oI, (sb.2 I ne.symm).trans gI3, cI, dI⟩ hc2 rvv (Nat.le_refl _) fun j' hj' => ?_⟩
    have : j' = 0 := by omega
    subst this
    exact ⟨by omega, fun z => by omega⟩)

theorem kl_max_first {kf : Nat → Int} {R : Result → Shared → Prop} {c : Nat} (hh : X.A.handled = none) (hl : SqL X.K H l (ns.map V.int)) (hne : 0 < ns.length) (turn : KTurn X σ H q oq ns kf) (hq : (q, oq) ∈ pins) (fI : FpOk X pins H I) (fS : FpOk X pins H S) (ne : S ≠ I)
    (hR : ∀ i v s', i < ns.length → Bestmax kf ns.length i → RelV (.int (ns.getD i 0)) v → Inv X pins σ H s' → R (.ok (.ret v)) s') (J : Inv X pins σ H s) (hit : s.heap.IsListIter I l 0) (hS : s.heap.get? S = some (seqObj "list" #[] c)) :
    codeAny (model X.prog X.w) X.A (.builtin "max.loop" ⟨[.ref I, .ref q, .ref S], []⟩) R s := by
  have en : (toString "max" ++ toString ".loop" : String) = "max.loop" := by decide
  obtain ⟨its, rv, p, _⟩ := J.list hl
  have ll : its.length = ns.length := by have := rv.length; simpa using this.symm
  have hlI := iter_ne p hit
  have W := Walks.list (prog := X.prog) (w := X.w) (A := X.A.in1) hh I l hlI its.toArray
  refine codeAny_builtin PySem.F.entry_max_loop (by
    rw [Around.under_plainId PySem.F.plain_max_loop _]
    show wpAny _ X.A.in1 (seqItems? (.ref S) >>= _) _ _ _
    refine wpAny_bind (wpAny_seqItems hS rfl (wpAny_bind (wpAny_tryCatch (W.item 0 s _ _ (by rw [List.size_toArray, ll]; exact hne) ⟨hit, p.isList⟩ fun v h' tk' hP st' hk' => ?_))))
    have rvv := item_rel rv hne hP
    have J1 : Inv X pins σ H { s with heap := h', toks := tk' } := fp_turn J fI fun b o hb e => hk' b o (by simpa using hb) e
    have hS1 := hk' S _ (by simpa using ne) hS
    obtain ⟨oI, gI, cI, dI⟩ := st'.1
    have J2 := pin_two J1 fI fS gI (by rw [dI]; intro z q; cases q) hS1 (by intro z q; cases q)
    refine wpAny_bind (wpAny_tryCatch (wpAny_holding (wpAny_mono (turn 0 v _ _ (List.mem_cons_of_mem _ (List.mem_cons_of_mem _ hq)) hne rvv J2) (fun x s2 he => ?_) fun _ _ z => z.elim)))
    obtain ⟨vx, H2, J3, rx, ex, eH⟩ := he
    subst ex eH
    obtain ⟨t2, rfl⟩ := rx
    obtain ⟨J4, gI3, hS3⟩ := unpin_two J3
    have sb := Heap.SameBut.update s2.heap S (Obj.mapSeq fun _ => #[v, .int (kf 0) t2])
    obtain ⟨c2, hc2⟩ : ∃ c2, (s2.heap.update S (Obj.mapSeq fun _ => #[v, .int (kf 0) t2])).get? S = some (seqObj "list" #[v, .int (kf 0) t2] c2) := ⟨_, get?_update_seq hS3 fun _ => #[v, .int (kf 0) t2]⟩
    show wpAny _ X.A.in1 (updateSeq S (fun _ => #[v, .int (kf 0) t2]) >>= _) _ _ _
    refine wpAny_bind (wpAny_updateSeq hS3 rfl ?_)
    rw [en]
    refine wpAny_pure ⟨plainId_quiet PySem.F.plain_max_loop _, kl_max_loop hh hl turn hq fI fS ne hR _ 0 0 _ v t2 c2 rfl hne (fp_turn (t' := s2.toks) J4 fS fun b o hb e => (sb.2 b hb).trans e) ⟨oI, (sb.2 I ne.symm).trans gI3, cI, dI⟩ hc2 rvv (Nat.le_refl _) fun j' hj' => ?_⟩
    have : j' = 0 := by omega
    subst this
    exact ⟨by omega, fun z => by omega⟩)

theorem kl_min {kf : Nat → Int} {Q : Value → Shared → Prop} {E : Value → Shared → Prop} (hh : X.A.handled = none) (hl : SqL X.K H l (ns.map V.int)) (hne : 0 < ns.length) (turn : KTurn X σ H q oq ns kf) (hq : (q, oq) ∈ pins) (J : Inv X pins σ H s)
    (hQ : ∀ i v s', i < ns.length → Bestmin kf ns.length i → RelV (.int (ns.getD i 0)) v → Inv X pins σ H s' → Q v s') : wpAny (model X.prog X.w) X.A (call (.builtin "min") [.ref l] [(Str.ofString "key", .ref q)]) Q E s := by
  have en : (toString "min" ++ toString ".loop" : String) = "min.loop" := by decide
  obtain ⟨_, _, p0, _⟩ := J.list hl
  refine kmk_tree PySem.F.kind_min PySem.F.plain_min PySem.F.entry_min (kmk_min_key _ _) (by
    show wpAny _ X.A.in1 (Builtin.Builtins.bindParams "min" ["key", "default"] 0 ⟨[], [(Str.ofString "key", .ref q)]⟩ >>= _) _ _ s
    refine wpAny_bind (wpAny_of_eq (show Builtin.Builtins.bindParams "min" ["key", "default"] 0 ⟨[], [(Str.ofString "key", .ref q)]⟩ = pure [some (.ref q), none] from rfl) (wpAny_bind (wpAny_pure (wpAny_bind (wpAny_pyIter_list p0.isList (wpAny_bind (wpAny_newList ?_ (Nat.zero_le _))))))))
    rw [en]
    obtain ⟨I, eI⟩ : ∃ I, I = s.heap.objs.size := ⟨_, rfl⟩
    have sz1 : (s.heap.push { cls := .type "list_iterator", data := .fields #[.ref l, .int 0 0] }).objs.size = I + 1 := by rw [eI]; exact size_push' ..
    have gI : ((s.heap.push { cls := .type "list_iterator", data := .fields #[.ref l, .int 0 0] }).push (seqObj "list" #[] 0)).get? I = some { cls := .type "list_iterator", data := .fields #[.ref l, .int 0 0] } := by rw [eI]; exact Heap.get?_push_of_some _ (Heap.get?_push_size _ rfl)
    have gS : ((s.heap.push { cls := .type "list_iterator", data := .fields #[.ref l, .int 0 0] }).push (seqObj "list" #[] 0)).get? (I + 1) = some (seqObj "list" #[] 0) := by rw [← sz1]; exact Heap.get?_push_size _ rfl
    have J1 : Inv X pins σ H { s with heap := (s.heap.push { cls := .type "list_iterator", data := .fields #[.ref l, .int 0 0] }).push (seqObj "list" #[] 0), toks := s.toks } := J.kept fun b o e => Heap.get?_push_of_some _ (Heap.get?_push_of_some _ e)
    have fI : FpOk X pins H I := J.fpOk (Nat.le_of_eq eI.symm) (J.hok.fresh (Nat.le_of_eq eI.symm))
    have fS : FpOk X pins H (I + 1) := J.fpOk (by rw [eI]; exact Nat.le_succ _) (J.hok.fresh (by rw [eI]; exact Nat.le_succ _))
    have ne : I + 1 ≠ I := Nat.succ_ne_self I
    show wpAny _ X.A.in1 (pure (Fin.again (.builtin "min.loop" ⟨[.ref s.heap.objs.size, .ref q, .ref (s.heap.push { cls := .type "list_iterator", data := .fields #[.ref l, .int 0 0] }).objs.size], []⟩))) _ _ { s with heap := (s.heap.push { cls := .type "list_iterator", data := .fields #[.ref l, .int 0 0] }).push (seqObj "list" #[] 0), toks := s.toks }
    rw [sz1, ← eI]
    exact wpAny_pure ⟨plainId_quiet PySem.F.plain_min_loop _, kl_min_first hh hl hne turn hq fI fS ne hQ J1 ⟨_, gI, rfl, rfl⟩ gS⟩)

theorem kl_max {kf : Nat → Int} {Q : Value → Shared → Prop} {E : Value → Shared → Prop} (hh : X.A.handled = none) (hl : SqL X.K H l (ns.map V.int)) (hne : 0 < ns.length) (turn : KTurn X σ H q oq ns kf) (hq : (q, oq) ∈ pins) (J : Inv X pins σ H s)
    (hQ : ∀ i v s', i < ns.length → Bestmax kf ns.length i → RelV (.int (ns.getD i 0)) v → Inv X pins σ H s' → Q v s') : wpAny (model X.prog X.w) X.A (call (.builtin "max") [.ref l] [(Str.ofString "key", .ref q)]) Q E s := by
  have en : (toString "max" ++ toString ".loop" : String) = "max.loop" := by decide
  obtain ⟨_, _, p0, _⟩ := J.list hl
  refine kmk_tree PySem.F.kind_max PySem.F.plain_max PySem.F.entry_max (kmk_max_key _ _) (by
    show wpAny _ X.A.in1 (Builtin.Builtins.bindParams "max" ["key", "default"] 0 ⟨[], [(Str.ofString "key", .ref q)]⟩ >>= _) _ _ s
    refine wpAny_bind (wpAny_of_eq (show Builtin.Builtins.bindParams "max" ["key", "default"] 0 ⟨[], [(Str.ofString "key", .ref q)]⟩ = pure [some (.ref q), none] from rfl) (wpAny_bind (wpAny_pure (wpAny_bind (wpAny_pyIter_list p0.isList (wpAny_bind (wpAny_newList ?_ (Nat.zero_le _))))))))
    rw [en]
    obtain ⟨I, eI⟩ : ∃ I, I = s.heap.objs.size := ⟨_, rfl⟩
    have sz1 : (s.heap.push { cls := .type "list_iterator", data := .fields #[.ref l, .int 0 0] }).objs.size = I + 1 := by rw [eI]; exact size_push' ..
    have gI : ((s.heap.push { cls := .type "list_iterator", data := .fields #[.ref l, .int 0 0] }).push (seqObj "list" #[] 0)).get? I = some { cls := .type "list_iterator", data := .fields #[.ref l, .int 0 0] } := by rw [eI]; exact Heap.get?_push_of_some _ (Heap.get?_push_size _ rfl)
    have gS : ((s.heap.push { cls := .type "list_iterator", data := .fields #[.ref l, .int 0 0] }).push (seqObj "list" #[] 0)).get? (I + 1) = some (seqObj "list" #[] 0) := by rw [← sz1]; exact Heap.get?_push_size _ rfl
    have J1 : Inv X pins σ H { s with heap := (s.heap.push { cls := .type "list_iterator", data := .fields #[.ref l, .int 0 0] }).push (seqObj "list" #[] 0), toks := s.toks } := J.kept fun b o e => Heap.get?_push_of_some _ (Heap.get?_push_of_some _ e)
    have fI : FpOk X pins H I := J.fpOk (Nat.le_of_eq eI.symm) (J.hok.fresh (Nat.le_of_eq eI.symm))
    have fS : FpOk X pins H (I + 1) := J.fpOk (by rw [eI]; exact Nat.le_succ _) (J.hok.fresh (by rw [eI]; exact Nat.le_succ _))
    have ne : I + 1 ≠ I := Nat.succ_ne_self I
    show wpAny _ X.A.in1 (pure (Fin.again (.builtin "max.loop" ⟨[.ref s.heap.objs.size, .ref q, .ref (s.heap.push { cls := .type "list_iterator", data := .fields #[.ref l, .int 0 0] }).objs.size], []⟩))) _ _ { s with heap := (s.heap.push { cls := .type "list_iterator", data := .fields #[.ref l, .int 0 0] }).push (seqObj "list" #[] 0), toks := s.toks }
    rw [sz1, ← eI]
    exact wpAny_pure ⟨plainId_quiet PySem.F.plain_max_loop _, kl_max_first hh hl hne turn hq fI fS ne hQ J1 ⟨_, gI, rfl, rfl⟩ gS⟩)

/-- min(xs, key=lambda a: body) of whole numbers -/
def rKeymin (K : PySem.W.Frag) (T : List (Addr × Str)) (tb : TE) (σ : L2.St) (Q : VK) (x : V) (H1 : Hp) : Prop := Tabs T H1 ∧ ∀ H2, ExtN H1 H2 → Tabs T H2 → ∃ (l : Addr) (ns : List Int) (kf : Nat → Int), x = .ref l ∧ SqL K H2 l (ns.map V.int) ∧ 0 < ns.length ∧
  (∀ i, i < ns.length → tb (σ ++ [some (.int (ns.getD i 0))]) H2 fun y H3 => y = .int (kf i) ∧ H3 = H2) ∧ ∀ i, i < ns.length → Bestmin kf ns.length i → Q (.int (ns.getD i 0)) H2
def tKeymin (K : PySem.W.Frag) (T : List (Addr × Str)) (to tb : TE) : TE := fun σ H Q => to σ H fun x H1 => rKeymin K T tb σ Q x H1
theorem pe_keymin {T : List (Addr × Str)} {c P : Addr} {o : Expr} {to tb : TE} {a : Str} {k : Nat} {params : Arguments} {body : Expr} {scope : Scope} {p lpos kpos pos : Pos} (hg : Gl X "min") (hm : X.mg "min" = none) (TB : TabB X.base X.mg c P) (hcode : X.env.code = .ref c)
    (hmT : (P, X.env.qual ++ "<lambda>") ∈ T) (hu : ∀ p ∈ T, p.1 = P → p.2 = X.env.qual ++ "<lambda>") (hr : Room (k + 1) X.A) (L : Lam1 X.env.scope scope a) (na : a ∉ X.N) (hst : X.stack = X.env :: X.outer ∧ X.env.frame = some X.env.locals) (hdef : defaultsOf params X.env = ([], []))
    (hbind : ∀ (q : Str) (cl : List (Str × Addr)) (pm cv ctv u : Value), bindArgs (PySem.W.kla_fn "<lambda>" q params body scope cl pm cv ctv) ⟨[u], []⟩ = pure [(a, u)]) (ha : PA X [o] (tCons to tNil))
    (hbody : ∀ (s : Shared) (H : Hp) (f c' : Addr), PE (oneCx X s H scope f c' a) body tb)
    (he : backTo pos (starEach [o] X.env) = (false, eval o X.env) :: backTo pos (starEach [] X.env) := by rfl) (hpl : (backTo pos (starEach [o] X.env)).any (·.1) = false := by rfl)
    (hall : (backToKw pos (keywordEach [⟨some "key", .Lambda params body scope lpos, kpos⟩] X.env)).all (·.1.isSome) = true := by rfl) (hnone : (backToKw pos (keywordEach [⟨some "key", .Lambda params body scope lpos, kpos⟩] X.env)).any (·.1.isNone) = false := by rfl)
    (hks : (backToKw pos (keywordEach [⟨some "key", .Lambda params body scope lpos, kpos⟩] X.env)).filterMap (·.1) = [Str.ofString "key"] := by rfl) :
    PE X (.Call (.Name "min" p) [o] [⟨some "key", .Lambda params body scope lpos, kpos⟩] pos) (tKeymin X.K T to tb) := by
  refine ⟨fun pins s σ H Q I h => ?_⟩
  refine wpAny_Call_Name_kw (ld_blt I hg hm boot_min ?_ (by decide) (by decide))
  refine PyProof.Rows.callWith_kw (thn (ha.run pos pins s σ H (fun vs H1 => match vs with | [x] => rKeymin X.K T tb σ Q x H1 | _ => False) I h) fun us s1 ⟨vs, H1, I1, r1, q1⟩ => ?_) he hpl hall hnone
  cases r1 with
  | nil => exact q1.elim
  | cons ru rr =>
    cases rr with
    | cons _ _ => exact q1.elim
    | nil =>
      obtain ⟨hT, q1⟩ := q1
      show wpAny _ _ (evalAll ((do let v ← eval (.Lambda params body scope lpos) X.env; standAt pos; pure v) :: (backToKw pos (keywordEach [] X.env)).map (·.2))) _ _ s1
      refine wpAny_evalAll_cons (wpAny_bind (lam_make2 I1 TB hcode hmT hu hT hdef (L.has I1.ok) fun f c' pm ctv H2 s2 I2 eN T2 hf hfn hfr hco => ?_))
      obtain ⟨l, ns, kf, ex, hl, hne, hb, hq⟩ := q1 H2 eN T2
      subst ex
      obtain rfl := ru
      refine wpAny_bind (wpAny_standAt (wpAny_pure (wpAny_evalAll_nil ?_)))
      rw [hks]
      have nL : f ≠ X.env.locals ∧ f ∉ X.fs := by
        have hfr : f ∉ frs (X.env :: X.outer) := by rw [← hst.1]; exact hfr
        have e : frs (X.env :: X.outer) = X.env.locals :: frs X.outer := by
          unfold frs
          rw [List.filterMap_cons, hst.2]
        rw [e] at hfr
        exact ⟨fun z => hfr (by rw [z]; exact List.mem_cons_self), fun z => hfr (List.mem_cons_of_mem _ z)⟩
      obtain ⟨of, eof⟩ : ∃ of, of = PySem.W.kla_obj "<lambda>" (X.env.qual ++ "<lambda>") params body scope (cloFrom X.env.cells scope.names []) pm c' ctv := ⟨_, rfl⟩
      rw [← eof] at hf
      have I3 : Inv X ((f, of) :: pins) σ H2 s2 := I2.pins_of fun p hp => by
        rcases List.mem_cons.mp hp with e | hp
        · rw [e]
          exact ⟨hf, hfn, nL.1, nL.2, by rw [eof]; intro z q; cases q⟩
        · exact I2.pin p (List.mem_append_right _ hp)
      refine kl_min (s := s2) (ns := ns) (kf := kf) (oq := of) hr.hd hl hne (fun i v pn s' hm hi rv J => ?_) List.mem_cons_self I3 fun i v s' hi hbst rv J => ⟨_, H2, J.pins_of fun r hr => J.pin r (List.mem_append_right _ (List.mem_cons_of_mem _ hr)), rv, hq i hi hbst⟩
      have g := (J.pin (f, of) (List.mem_append_right _ hm)).1
      rw [eof] at g
      exact one_call (k := k) J L na hr g hco (hbind _ _ _ _ _ _) rv (hbody s' H2 f c') (hb i hi)

/-- max(xs, key=lambda a: body) of whole numbers -/
def rKeymax (K : PySem.W.Frag) (T : List (Addr × Str)) (tb : TE) (σ : L2.St) (Q : VK) (x : V) (H1 : Hp) : Prop := Tabs T H1 ∧ ∀ H2, ExtN H1 H2 → Tabs T H2 → ∃ (l : Addr) (ns : List Int) (kf : Nat → Int), x = .ref l ∧ SqL K H2 l (ns.map V.int) ∧ 0 < ns.length ∧
  (∀ i, i < ns.length → tb (σ ++ [some (.int (ns.getD i 0))]) H2 fun y H3 => y = .int (kf i) ∧ H3 = H2) ∧ ∀ i, i < ns.length → Bestmax kf ns.length i → Q (.int (ns.getD i 0)) H2
def tKeymax (K : PySem.W.Frag) (T : List (Addr × Str)) (to tb : TE) : TE := fun σ H Q => to σ H fun x H1 => rKeymax K T tb σ Q x H1
theorem pe_keymax {T : List (Addr × Str)} {c P : Addr} {o : Expr} {to tb : TE} {a : Str} {k : Nat} {params : Arguments} {body : Expr} {scope : Scope} {p lpos kpos pos : Pos} (hg : Gl X "max") (hm : X.mg "max" = none) (TB : TabB X.base X.mg c P) (hcode : X.env.code = .ref c)
    (hmT : (P, X.env.qual ++ "<lambda>") ∈ T) (hu : ∀ p ∈ T, p.1 = P → p.2 = X.env.qual ++ "<lambda>") (hr : Room (k + 1) X.A) (L : Lam1 X.env.scope scope a) (na : a ∉ X.N) (hst : X.stack = X.env :: X.outer ∧ X.env.frame = some X.env.locals) (hdef : defaultsOf params X.env = ([], []))
    (hbind : ∀ (q : Str) (cl : List (Str × Addr)) (pm cv ctv u : Value), bindArgs (PySem.W.kla_fn "<lambda>" q params body scope cl pm cv ctv) ⟨[u], []⟩ = pure [(a, u)]) (ha : PA X [o] (tCons to tNil))
    (hbody : ∀ (s : Shared) (H : Hp) (f c' : Addr), PE (oneCx X s H scope f c' a) body tb)
    (he : backTo pos (starEach [o] X.env) = (false, eval o X.env) :: backTo pos (starEach [] X.env) := by rfl) (hpl : (backTo pos (starEach [o] X.env)).any (·.1) = false := by rfl)
    (hall : (backToKw pos (keywordEach [⟨some "key", .Lambda params body scope lpos, kpos⟩] X.env)).all (·.1.isSome) = true := by rfl) (hnone : (backToKw pos (keywordEach [⟨some "key", .Lambda params body scope lpos, kpos⟩] X.env)).any (·.1.isNone) = false := by rfl)
    (hks : (backToKw pos (keywordEach [⟨some "key", .Lambda params body scope lpos, kpos⟩] X.env)).filterMap (·.1) = [Str.ofString "key"] := by rfl) :
    PE X (.Call (.Name "max" p) [o] [⟨some "key", .Lambda params body scope lpos, kpos⟩] pos) (tKeymax X.K T to tb) := by
  refine ⟨fun pins s σ H Q I h => ?_⟩
  refine wpAny_Call_Name_kw (ld_blt I hg hm boot_max ?_ (by decide) (by decide))
  refine PyProof.Rows.callWith_kw (thn (ha.run pos pins s σ H (fun vs H1 => match vs with | [x] => rKeymax X.K T tb σ Q x H1 | _ => False) I h) fun us s1 ⟨vs, H1, I1, r1, q1⟩ => ?_) he hpl hall hnone
  cases r1 with
  | nil => exact q1.elim
  | cons ru rr =>
    cases rr with
    | cons _ _ => exact q1.elim
    | nil =>
      obtain ⟨hT, q1⟩ := q1
      show wpAny _ _ (evalAll ((do let v ← eval (.Lambda params body scope lpos) X.env; standAt pos; pure v) :: (backToKw pos (keywordEach [] X.env)).map (·.2))) _ _ s1
      refine wpAny_evalAll_cons (wpAny_bind (lam_make2 I1 TB hcode hmT hu hT hdef (L.has I1.ok) fun f c' pm ctv H2 s2 I2 eN T2 hf hfn hfr hco => ?_))
      obtain ⟨l, ns, kf, ex, hl, hne, hb, hq⟩ := q1 H2 eN T2
      subst ex
      obtain rfl := ru
      refine wpAny_bind (wpAny_standAt (wpAny_pure (wpAny_evalAll_nil ?_)))
      rw [hks]
      have nL : f ≠ X.env.locals ∧ f ∉ X.fs := by
        have hfr : f ∉ frs (X.env :: X.outer) := by rw [← hst.1]; exact hfr
        have e : frs (X.env :: X.outer) = X.env.locals :: frs X.outer := by
          unfold frs
          rw [List.filterMap_cons, hst.2]
        rw [e] at hfr
        exact ⟨fun z => hfr (by rw [z]; exact List.mem_cons_self), fun z => hfr (List.mem_cons_of_mem _ z)⟩
      obtain ⟨of, eof⟩ : ∃ of, of = PySem.W.kla_obj "<lambda>" (X.env.qual ++ "<lambda>") params body scope (cloFrom X.env.cells scope.names []) pm c' ctv := ⟨_, rfl⟩
      rw [← eof] at hf
      have I3 : Inv X ((f, of) :: pins) σ H2 s2 := I2.pins_of fun p hp => by
        rcases List.mem_cons.mp hp with e | hp
        · rw [e]
          exact ⟨hf, hfn, nL.1, nL.2, by rw [eof]; intro z q; cases q⟩
        · exact I2.pin p (List.mem_append_right _ hp)
      refine kl_max (s := s2) (ns := ns) (kf := kf) (oq := of) hr.hd hl hne (fun i v pn s' hm hi rv J => ?_) List.mem_cons_self I3 fun i v s' hi hbst rv J => ⟨_, H2, J.pins_of fun r hr => J.pin r (List.mem_append_right _ (List.mem_cons_of_mem _ hr)), rv, hq i hi hbst⟩
      have g := (J.pin (f, of) (List.mem_append_right _ hm)).1
      rw [eof] at g
      exact one_call (k := k) J L na hr g hco (hbind _ _ _ _ _ _) rv (hbody s' H2 f c') (hb i hi)
end

end

section

-- a condition of an operator
local macro_rules | `(tactic| walk_at "cond") => `(tactic| first
  | (show (0 : Int) < _; omega)
  | (show CDiv _ _; constructor <;> (first | decide | omega))
  | (show CMul _ _; first | (refine cmul_l ?_; constructor <;> (first | decide | omega)) | (refine cmul_r ?_; constructor <;> (first | decide | omega)))
  | (show CPow _ _; exact (by refine ⟨by decide, by decide, by decide⟩))
  | (show CDivW _ _; exact ⟨by decide, by decide +kernel⟩))
local macro_rules | `(tactic| walk_at "sq") => `(tactic| first | assumption | exact Dh.mono (same_upd (by assumption)) _ _ (by assumption) | exact .inl (.inl (.inl (by assumption))) | exact .inr (.inl (.inl (by assumption))) | exact SqL.of (by assumption) | exact .inl (by assumption) | exact .inl (SqL.of (by assumption)) | exact SqT.of (by assumption) | exact .inr (SqT.of (by assumption)))
local macro_rules | `(tactic| walk_at "st") => `(tactic| first
  | refine ⟨_, rfl, ?_⟩
  | refine ⟨_, _, rfl, rfl, ?_⟩
  | refine .inl ⟨_, rfl, ?_⟩
  | refine ⟨rfl, ?_⟩
  | refine ⟨_, _, rfl, by walk_at "sq", ?_⟩
  | refine ⟨.inl ⟨rfl, _, SqL.of (by assumption)⟩, ?_⟩
  | refine ⟨by walk_at "cond", ?_⟩
  | (refine' ifBT ?hh ?_; (case hh => first | rfl | assumption))
  | (refine' ifBF ?hh ?_; (case hh => first | rfl | assumption)))
local macro_rules | `(tactic| walk_at "go") => `(tactic| repeat walk_at "st")
local macro_rules | `(tactic| walk_at "yes") => `(tactic| (refine' ifT ?hh ?_; (case hh => first | rfl | decide +kernel)))
local macro_rules | `(tactic| walk_at "no") => `(tactic| (refine' ifF ?hh ?_; (case hh => first | decide +kernel | (intro z; cases z; done))))

/-! ### _law_number -/
/-- n times // 1000 -/
def itd : Nat → Int → Int
  | 0, r => r
  | n + 1, r => itd n r / 1000
theorem itd_zero : ∀ n, itd n 0 = 0
  | 0 => rfl
  | n + 1 => by
    show itd n 0 / 1000 = 0
    rw [itd_zero n]
    rfl
theorem itd_add (r : Int) (h : itd n r = 0) : ∀ m, itd (n + m) r = 0
  | 0 => h
  | m + 1 => by
    show itd (n + m) r / 1000 = 0
    rw [itd_add r h m]
    rfl
theorem itd_nn {r : Int} (h : 0 ≤ r) : ∀ n, 0 ≤ itd n r
  | 0 => h
  | n + 1 => Int.ediv_nonneg (itd_nn h n) (by decide)
def nCell (ns : List Int) (i : Int) : Int := if ns.length = 0 then 0 else (ns.getD (i % (ns.length : Int)).toNat 0).natAbs
def nTurn (ns : List Int) (i : Int) : Int := if ns.length = 0 then i else i / (ns.length : Int)
def nPick (ns : List Int) (i k : Int) : Int := k + 16 * nTurn ns i
def nMix (c p : Int) : Int :=
  let a := (c + 7919 * p + 13) % 2147483647
  let b := (a * (a + 48271)) % 2147483629
  (b * (b + 69621) + 31 * p) % 2147483647
def num (ns : List Int) (i k size : Int) : Int :=
  let c := nCell ns i
  let p := nPick ns i k
  if c ≥ 10 ^ 18 then
    if itd p.toNat (c / 10 ^ 18) > 0 then itd p.toNat (c / 10 ^ 18) % 1000 % size else nMix c p / 9 % size
  else nMix c p / 9 % size
theorem num_nn {ns : List Int} {i k size : Int} (h : 0 < size) : 0 ≤ num ns i k size := by
  unfold num
  dsimp only
  split
  · split
    · exact Int.emod_nonneg _ (by omega)
    · exact Int.emod_nonneg _ (by omega)
  · exact Int.emod_nonneg _ (by omega)
theorem num_lt {ns : List Int} {i k size : Int} (h : 0 < size) : num ns i k size < size := by
  unfold num
  dsimp only
  split
  · split
    · exact Int.emod_lt_of_pos _ h
    · exact Int.emod_lt_of_pos _ h
  · exact Int.emod_lt_of_pos _ h
def spNum (K : PySem.W.Frag) : Sp := fun vs H Q _ => ∃ (a : Addr) (ns : List Int) (i k size : Int), vs = [.ref a, .int i, .int k, .int size] ∧ SqL K H a (ns.map V.int) ∧ ns.length ≤ 63 ∧
  0 ≤ i ∧ i ≤ 1000000000 ∧ 0 ≤ k ∧ k ≤ 1000000000 ∧ 0 < size ∧ Q (.int (num ns i k size)) H

abbrev s_number : Stmt := topS 6
theorem sc_number : FnScope ["_law_script", "_law_at", "_law_k", "_law_size", "_law_cell", "_law_turn", "_law_pick", "_law_rest", "_law_step", "_law_mixed"] ["_law_script", "_law_at", "_law_k", "_law_size"] (C8.fnScope s_number) := C8.fnScope_by (by decide +kernel)
section
variable {P : Program} {w : World} {K : PySem.W.Frag} {mg : Str → Option Value} {base : Heap}
theorem ok_number {f : Addr} {fd : FuncData} (D : Def K mg "_law_number" s_number f fd) (b : Binds K fd ["_law_script", "_law_at", "_law_k", "_law_size"] []) (T : Txt mg) : Cal P w K mg base 1 "_law_number" (spNum K) [] := by
  refine cal0 D b .nil sc_number (fun vs H Q E h => ?_) (fun cdv A outer s H vs Q E hr h => ?_)
  · obtain ⟨a, ns, i, k, size, rfl, _⟩ := h
    rfl
  obtain ⟨a, ns, i, k, size, rfl, hS, hl, i0, i1, k0, k1, hz, q⟩ := h
  refine ⟨_, (pss_cons (ps_set (i := 4) sc_number.nd rfl (.inl rfl) pe_int)
      (pss_cons (ps_set (i := 5) sc_number.nd rfl (.inl rfl) (pv 1))
      (pss_cons (ps_mk (ps_if (pt_cmpR op_gt (pe_callB (lenQ K rfl) (by rfl) T.len PySem.boot_len (pa_cons (pv 0) pa_nil)) pe_int (nomark _))
      (pss_cons (ps_set (i := 4) sc_number.nd rfl (.inl rfl) (pe_callB call_abs (by rfl) T.abs (by decide +kernel) (pa_cons (pe_ix (ixL K rfl) (pv 0) (pe_op op_mod (pe_callTy call_int1 (by rfl) T.int (by decide +kernel) (pa_cons (pv 1) pa_nil)) (pe_callB (lenQ K rfl) (by rfl) T.len PySem.boot_len (pa_cons (pv 0) pa_nil))) (fun _ _ => rfl)) pa_nil)))
      (pss_one (ps_set (i := 5) sc_number.nd rfl (.inl rfl) (pe_op op_fdiv (pv 1) (pe_callB (lenQ K rfl) (by rfl) T.len PySem.boot_len (pa_cons (pv 0) pa_nil))))))
      pss_nil))
      (pss_cons (ps_set (i := 6) sc_number.nd rfl (.inl rfl) (pe_op op_add (pv 2) (pe_op op_mul pe_int (pv 5))))
      (pss_cons (ps_mk (ps_if (pt_cmpR op_ge (pv 4) (pe_op op_pow pe_int pe_int) (nomark _))
      (pss_cons (ps_set (i := 7) sc_number.nd rfl (.inl rfl) (pe_op op_fdivW (pv 4) (pe_op op_pow pe_int pe_int)))
      (pss_cons (ps_mk (ps_for PassesOwn.never rfl (pi_range1 (by rfl) T.range (pa_cons (pv 6) pa_nil)) (pg_name (i := 8) sc_number.nd rfl (.inl rfl))
      (pss_cons (ps_mk (ps_if (pt_cmpR op_eq (pv 7) pe_int (nomark _))
      (pss_one ps_break)
      pss_nil))
      (pss_one (ps_set (i := 7) sc_number.nd rfl (.inl rfl) (pe_op op_fdiv (pv 7) pe_int))))))
      (pss_one (ps_mk (ps_if (pt_cmpR op_gt (pv 7) pe_int (nomark _))
      (pss_one (ps_ret (pe_op op_mod (pe_callTy call_int1 (by rfl) T.int (by decide +kernel) (pa_cons (pe_op op_mod (pe_callTy call_int1 (by rfl) T.int (by decide +kernel) (pa_cons (pv 7) pa_nil)) pe_int) pa_nil)) (pv 3))))
      pss_nil)))))
      pss_nil))
      (pss_cons (ps_set (i := 9) sc_number.nd rfl (.inl rfl) (pe_op op_mod (pe_callTy call_int1 (by rfl) T.int (by decide +kernel) (pa_cons (pe_op op_add (pe_op op_add (pv 4) (pe_op op_mul pe_int (pv 6))) pe_int) pa_nil)) pe_int))
      (pss_cons (ps_set (i := 9) sc_number.nd rfl (.inl rfl) (pe_op op_mod (pe_callTy call_int1 (by rfl) T.int (by decide +kernel) (pa_cons (pe_op op_mul (pv 9) (pe_op op_add (pv 9) pe_int)) pa_nil)) pe_int))
      (pss_cons (ps_set (i := 9) sc_number.nd rfl (.inl rfl) (pe_op op_mod (pe_callTy call_int1 (by rfl) T.int (by decide +kernel) (pa_cons (pe_op op_add (pe_op op_mul (pv 9) (pe_op op_add (pv 9) pe_int)) (pe_op op_mul pe_int (pv 6))) pa_nil)) pe_int))
      (pss_one (ps_ret (pe_op op_mod (pe_callTy call_int1 (by rfl) T.int (by decide +kernel) (pa_cons (pe_op op_fdiv (pv 9) pe_int) pa_nil)) (pv 3)))))))))))), ?_⟩
  have hml : (ns.map V.int).length = ns.length := List.length_map _
  have t0 : 0 ≤ nTurn ns i ∧ nTurn ns i ≤ 1000000000 := by
    unfold nTurn
    split
    · exact ⟨i0, i1⟩
    · exact ⟨Int.ediv_nonneg i0 (by omega), Int.le_trans (Int.ediv_le_self _ i0) i1⟩
  have p0 : 0 ≤ nPick ns i k ∧ nPick ns i k ≤ 17000000000 := by
    unfold nPick
    omega
  walk_at "go"
  refine jn (M := fun σ H' => ∃ c t : Int, c = nCell ns i ∧ t = nTurn ns i ∧ H' = H ∧ σ = [sR a, sI i, sI k, sI size, sI c, sI t, none, none, none, none]) ?_ (fun N kk => ?_)
  · rintro σ H' ⟨c, t, ec, et, rfl, rfl⟩
    walk_at "go"
    -- behind the pick
    have ep : k + 16 * t = nPick ns i k := by
      rw [et]
      rfl
    have c0 : 0 ≤ c := by
      rw [ec]
      unfold nCell
      split <;> omega
    have en : c < 10 ^ 18 ∨ ¬ itd (nPick ns i k).toNat (c / 10 ^ 18) > 0 → num ns i k size = nMix c (nPick ns i k) / 9 % size := fun h => by
      unfold num
      dsimp only
      rw [← ec]
      rcases h with h | h
      · rw [if_neg (by omega)]
      · split
        · rfl
        · rfl
    refine jn (M := fun σ H2 => H2 = H' ∧ (c < 10 ^ 18 ∨ ¬ itd (nPick ns i k).toNat (c / 10 ^ 18) > 0) ∧ ∃ y8 y9, σ = [sR a, sI i, sI k, sI size, sI c, sI t, sI (nPick ns i k), y8, y9, none]) ?_ (fun N kk => ?_)
    · rintro σ H2 ⟨rfl, hc, y8, y9, rfl⟩
      walk_at "go"
      have e := en hc
      unfold nMix at e
      dsimp only at e
      rw [e] at q
      exact q
    · walk_at "go"
      refine ifD (fun g => ?_) (fun g => ?_)
      · have g' : c ≥ 10 ^ 18 := g
        walk_at "go"
        have r0 : 0 ≤ c / 10 ^ 18 := Int.ediv_nonneg c0 (by decide)
        refine jn (M := fun σ H2 => H2 = H' ∧ ∃ y9, σ = [sR a, sI i, sI k, sI size, sI c, sI t, sI (nPick ns i k), sI (itd (nPick ns i k).toNat (c / 10 ^ 18)), y9, none]) ?_ (fun N2 k2 => ?_)
        · rintro σ H2 ⟨rfl, y9, rfl⟩
          refine un ?_
          walk_at "go"
          refine ifD (fun g2 => ?_) (fun g2 => ?_)
          · walk_at "go"
            have e : num ns i k size = itd (nPick ns i k).toNat (c / 10 ^ 18) % 1000 % size := by
              unfold num
              dsimp only
              rw [← ec, if_pos g', if_pos g2]
            rw [e] at q
            exact q
          · walk_at "go"
            exact kk _ _ ⟨rfl, .inr g2, _, _, rfl⟩
        · walk_at "go"
          refine ⟨(show -(2 ^ 62) ≤ k + 16 * t by omega), (show k + 16 * t < 2 ^ 62 by omega), for_range (lo := 0) (n := (k + 16 * t).toNat) (fun j σ H2 => Ob (H2 = H' ∧ ∃ y9, σ = [sR a, sI i, sI k, sI size, sI c, sI t, sI (nPick ns i k), sI (itd j (c / 10 ^ 18)), y9, none])) (ob ⟨rfl, none, ?_⟩) ?_ ?_⟩
          · rw [← ep]
            rfl
          · rintro j σ H2 hj h
            obtain ⟨rfl, y9, rfl⟩ := unob h
            refine un ?_
            walk_at "go"
            refine ifEq (fun z => ?_) (fun z => ?_)
            · walk_at "go"
              refine k2 _ _ ⟨rfl, sI (0 + (j : Int)), ?_⟩
              have z2 : itd (nPick ns i k).toNat (c / 10 ^ 18) = 0 := by
                have z3 := itd_add _ z ((nPick ns i k).toNat - j)
                rw [show j + ((nPick ns i k).toNat - j) = (nPick ns i k).toNat by omega] at z3
                exact z3
              rw [z2, ← z]
              rfl
            · walk_at "go"
              exact ob ⟨rfl, _, rfl⟩
          · rintro σ H2 h
            obtain ⟨rfl, y9, rfl⟩ := unob h
            refine k2 _ _ ⟨rfl, y9, ?_⟩
            rw [ep]
      · walk_at "go"
        have g' : ¬ c ≥ 10 ^ 18 := g
        refine kk _ _ ⟨rfl, .inl (by omega), none, none, ?_⟩
        rw [← ep]
        rfl
  · walk_at "go"
    refine ifD (fun c => ?_) (fun c => ?_)
    · walk_at "go"
      rw [hml] at c
      refine ⟨_, _, _, _, rfl, rfl, hS, atI_getD (Int.emod_nonneg _ (by omega)) (by rw [hml]; exact Int.emod_lt_of_pos _ (by omega)), ?_⟩
      walk_at "go"
      refine kk _ _ ⟨_, _, ?_, ?_, rfl, rfl⟩
      · unfold nCell
        rw [if_neg (show ¬ ns.length = 0 by omega)]
        simp only [hml]
        split
        · omega
        · omega
      · unfold nTurn
        rw [if_neg (by omega), hml]
    · walk_at "go"
      rw [hml] at c
      refine kk _ _ ⟨_, _, ?_, ?_, rfl, rfl⟩
      · unfold nCell
        rw [if_pos (by omega)]
      · unfold nTurn
        rw [if_pos (by omega)]
end

/-! ### _law_is_whole, _law_same -/
abbrev s_is_whole : Stmt := topS 7
theorem sc_is_whole : FnScope ["_law_told"] ["_law_told"] (C8.fnScope s_is_whole) := C8.fnScope_by (by decide +kernel)
abbrev s_same : Stmt := topS 8
theorem sc_same : FnScope ["_law_told", "_law_due", "_law_k"] ["_law_told", "_law_due"] (C8.fnScope s_same) := C8.fnScope_by (by decide +kernel)
def spWhole : Sp := fun vs H Q _ => ∃ (x : V) (d : PyData), vs = [x] ∧ Dh H d x ∧ Q (.bl (isI d)) H
def spSame (n : Nat) : Sp := fun vs H Q _ => ∃ (x y : V) (d e : PyData), vs = [x, y] ∧ Dh H d x ∧ Dh H e y ∧ Dle n e ∧ ∀ (b : Bool) (H' : Hp), (b = true ↔ d = e) → Same H H' → Q (.bl b) H'
section
variable {P : Program} {w : World} {K : PySem.W.Frag} {mg : Str → Option Value} {base : Heap}
theorem ok_whole {f : Addr} {fd : FuncData} (D : Def K mg "_law_is_whole" s_is_whole f fd) (b : Binds K fd ["_law_told"] []) (T : Txt mg) : Cal P w K mg base 1 "_law_is_whole" spWhole [] := by
  refine cal0 D b .nil sc_is_whole (fun vs H Q E h => ?_) (fun cdv A outer s H vs Q E hr h => ?_)
  · obtain ⟨x, d, rfl, _⟩ := h
    rfl
  obtain ⟨x, d, rfl, hx, q⟩ := h
  refine ⟨_, (pss_one (ps_ret (pe_and (pe_callB is_int (by rfl) T.isinstance (by decide +kernel) (pa_cons (pv 0) (pa_cons (pe_bltn (v := .ty "int") (by rfl) T.int (by decide +kernel) rfl) pa_nil))) (pe_one (pe_not (pe_callB is_bool (by rfl) T.isinstance (by decide +kernel) (pa_cons (pv 0) (pa_cons (pe_bltn (v := .ty "bool") (by rfl) T.bool (by decide +kernel) rfl) pa_nil)))))))), ?_⟩
  cases d <;> (walk_at "go"; exact q)
theorem ok_same_step {f : Addr} {fd : FuncData} (D : Def K mg "_law_same" s_same f fd) (b : Binds K fd ["_law_told", "_law_due"] []) (T : Txt mg) (c_is_whole : Cal P w K mg base 1 "_law_is_whole" spWhole []) {n : Nat}
    (c_same : Cal P w K mg base (n + 1) "_law_same" (spSame n) []) : Cal P w K mg base (n + 2) "_law_same" (spSame (n + 1)) [] := by
  refine cal0 D b .nil sc_same (fun vs H Q E h => ?_) (fun cdv A outer s H vs Q E hr h => ?_)
  · obtain ⟨x, y, d, e, rfl, _⟩ := h
    rfl
  obtain ⟨x, y, d, e, rfl, hx, hy, he, q⟩ := h
  refine ⟨_, (pss_cons (ps_mk (ps_if (pt_val (pe_callB is_lt (by rfl) T.isinstance (by decide +kernel) (pa_cons (pv 1) (pa_cons (pe_tup (pa_cons (pe_bltn (v := .ty "list") (by rfl) T.list (by decide +kernel) rfl) (pa_cons (pe_bltn (v := .ty "tuple") (by rfl) T.tuple (by decide +kernel) rfl) pa_nil))) pa_nil))))
      (pss_cons (ps_mk (ps_if (PW.pt (pw_or (pt_not (pt_val (pe_callB is_lt (by rfl) T.isinstance (by decide +kernel) (pa_cons (pv 0) (pa_cons (pe_tup (pa_cons (pe_bltn (v := .ty "list") (by rfl) T.list (by decide +kernel) rfl) (pa_cons (pe_bltn (v := .ty "tuple") (by rfl) T.tuple (by decide +kernel) rfl) pa_nil))) pa_nil))))) (pw_or1 (pt_cmpR op_ne (pe_callB is_list (by rfl) T.isinstance (by decide +kernel) (pa_cons (pv 0) (pa_cons (pe_bltn (v := .ty "list") (by rfl) T.list (by decide +kernel) rfl) pa_nil))) (pe_callB is_list (by rfl) T.isinstance (by decide +kernel) (pa_cons (pv 1) (pa_cons (pe_bltn (v := .ty "list") (by rfl) T.list (by decide +kernel) rfl) pa_nil))) (nomark _)))))
      (pss_one (ps_ret pe_bl))
      pss_nil))
      (pss_cons (ps_mk (ps_if (pt_cmpR op_ne (pe_callB (lenQ K rfl) (by rfl) T.len PySem.boot_len (pa_cons (pv 0) pa_nil)) (pe_callB (lenQ K rfl) (by rfl) T.len PySem.boot_len (pa_cons (pv 1) pa_nil)) (nomark _))
      (pss_one (ps_ret pe_bl))
      pss_nil))
      (pss_one (ps_ret (pe_cmpR op_eq (pe_callB (lenQ K rfl) (by rfl) T.len PySem.boot_len (pa_cons (pe_lc (own := [("_law_k", 2)]) (g := gName 2) rfl sc_same.nd (pi_range1 (by rfl) T.range (pa_cons (pe_callB (lenQ K rfl) (by rfl) T.len PySem.boot_len (pa_cons (pv 1) pa_nil)) pa_nil)) (blkOk_by (own := [("_law_k", 2)]) (N := ["_law_told", "_law_due", "_law_k"]) (sc := C8.fnScope s_same) (by decide +kernel)) (fun _ _ _ _ _ => (pg_name (i := 2) sc_same.nd rfl (.inl rfl))) (fun _ _ _ _ _ => (pts_one (pt_not (pt_val (C8.pe_c c_same hr (by omega) (by rfl) (pa_cons (pe_ix (ixA K rfl) (pv 0) (pv 2) (fun _ _ => rfl)) (pa_cons (pe_ix (ixA K rfl) (pv 1) (pv 2) (fun _ _ => rfl)) pa_nil))))))) (fun _ _ _ _ _ => (pv 2))) pa_nil)) pe_int (nomark _))))))
      pss_nil))
      (pss_cons (ps_mk (ps_if (pt_val (pe_callB is_bool (by rfl) T.isinstance (by decide +kernel) (pa_cons (pv 1) (pa_cons (pe_bltn (v := .ty "bool") (by rfl) T.bool (by decide +kernel) rfl) pa_nil))))
      (pss_one (ps_ret (pe_and (pe_callB is_bool (by rfl) T.isinstance (by decide +kernel) (pa_cons (pv 0) (pa_cons (pe_bltn (v := .ty "bool") (by rfl) T.bool (by decide +kernel) rfl) pa_nil))) (pe_one (pe_cmpR op_eq (pv 0) (pv 1) (nomark _))))))
      pss_nil))
      (pss_cons (ps_mk (ps_if (pt_val (pe_callB is_int (by rfl) T.isinstance (by decide +kernel) (pa_cons (pv 1) (pa_cons (pe_bltn (v := .ty "int") (by rfl) T.int (by decide +kernel) rfl) pa_nil))))
      (pss_one (ps_ret (pe_and (C8.pe_c c_is_whole hr (by omega) (by rfl) (pa_cons (pv 0) pa_nil)) (pe_one (pe_cmpR op_eq (pv 0) (pv 1) (nomark _))))))
      pss_nil))
      (pss_cons (ps_mk (ps_if (pt_val (pe_callB is_str (by rfl) T.isinstance (by decide +kernel) (pa_cons (pv 1) (pa_cons (pe_bltn (v := .ty "str") (by rfl) T.str (by decide +kernel) rfl) pa_nil))))
      (pss_one (ps_ret (pe_and (pe_callB is_str (by rfl) T.isinstance (by decide +kernel) (pa_cons (pv 0) (pa_cons (pe_bltn (v := .ty "str") (by rfl) T.str (by decide +kernel) rfl) pa_nil))) (pe_one (pe_cmpR op_eq (pv 0) (pv 1) (nomark _))))))
      pss_nil))
      (pss_one (ps_ret (pe_and (pe_cmpR op_isN (pv 0) pe_non (nomark _)) (pe_one (pe_cmpR op_isN (pv 1) pe_non (nomark _)))))))))), ?_⟩
  refine jn (M := fun σ H' => Same H H' ∧ σ = [some x, some y, none] ∧ (isL e || isT e) = false) ?_ (fun N kk => ?_)
  · rintro σ H1 ⟨s1, rfl, hf⟩
    have hx1 := Dh.mono s1 _ _ hx
    have hy1 := Dh.mono s1 _ _ hy
    clear hx hy he
    cases e with
    | list es => cases hf
    | tuple es => cases hf
    | dict kvs => exact False.elim hy1
    | none =>
      cases (show y = V.non from hy1)
      cases d
      case dict => exact False.elim hx1
      all_goals first | (obtain ⟨_, _, e1, _, _⟩ := id hx1; cases e1) | (cases (show x = _ from hx1))
      all_goals repeat (first | refine un ?_ | walk_at "st")
      all_goals exact q _ _ (by simp) s1
    | bool c =>
      cases (show y = V.bl c from hy1)
      cases d
      case dict => exact False.elim hx1
      all_goals first | (obtain ⟨_, _, e1, _, _⟩ := id hx1; cases e1) | (cases (show x = _ from hx1))
      all_goals repeat (first | refine un ?_ | walk_at "st")
      all_goals exact q _ _ (by simp) s1
    | int c =>
      cases (show y = V.int c from hy1)
      cases d
      case dict => exact False.elim hx1
      all_goals first | (obtain ⟨_, _, e1, _, _⟩ := id hx1; cases e1) | (cases (show x = _ from hx1))
      all_goals repeat (first | refine un ?_ | walk_at "st")
      all_goals first | exact q _ _ (by simp) s1 | skip
      all_goals refine ⟨_, _, rfl, hx1, ?_⟩
      all_goals repeat (first | refine un ?_ | walk_at "st")
      all_goals exact q _ _ (by simp) s1
    | str c =>
      cases (show y = V.str c from hy1)
      cases d
      case dict => exact False.elim hx1
      all_goals first | (obtain ⟨_, _, e1, _, _⟩ := id hx1; cases e1) | (cases (show x = _ from hx1))
      all_goals repeat (first | refine un ?_ | walk_at "st")
      all_goals exact q _ _ (by simp) s1
  · walk_at "go"
    refine ⟨sz, fun p hp => ?_⟩
    refine ⟨_, _, _, rfl, upd_same, Dh.mono (same_upd hp) _ _ hy, ?_⟩
    walk_at "go"
    have s1 : Same H (upd H p (.tup [.ty "list", .ty "tuple"])) := same_upd hp
    have hx1 := Dh.mono s1 _ _ hx
    have hy1 := Dh.mono s1 _ _ hy
    cases hf : (isL e || isT e) with
    | false =>
      refine ifBF rfl ?_
      exact kk _ _ ⟨s1, rfl, hf⟩
    | true =>
      refine ifBT rfl ?_
      generalize upd H p (HO.tup [V.ty "list", V.ty "tuple"]) = H1 at *
      clear hx hy kk hp
      walk_at "go"
      refine jn (M := fun σ H2 => Same H1 H2 ∧ ∃ a c xs ys ds es, σ = [sR a, sR c, none] ∧ (SqL K H2 a xs ∨ SqT K H2 a xs) ∧ (SqL K H2 c ys ∨ SqT K H2 c ys) ∧ DhAll H2 ds xs ∧ DhAll H2 es ys ∧ es.length ≤ 100000 ∧ (∀ e' ∈ es, Dle n e') ∧ (d = e ↔ ds = es)) ?_ (fun N2 k2 => ?_)
      · rintro σ H2 ⟨s2, a, c, xs, ys, ds, es, rfl, hA, hC, hds, hes, hlen, hle, hiff⟩
        have lx := hds.len
        have ly := hes.len
        walk_at "go"
        refine jn (M := fun σ H3 => H3 = H2 ∧ σ = [sR a, sR c, none] ∧ ds.length = es.length) ?_ (fun N3 k3 => ?_)
        · rintro σ H3 ⟨rfl, rfl, el⟩
          walk_at "go"
          refine ⟨by omega, by omega, fun L hL => lc_range (lo := 0) (n := ((ys.length : Nat) : Int).toNat)
            (fun i H' => Ob (Same H3 H' ∧ ∃ acc, H' L = some (.lst acc) ∧ acc.length ≤ i ∧ (acc = [] ↔ ds.take i = es.take i))) (ob ⟨same_upd hL, [], upd_same, Nat.le_refl _, by simp⟩) ?_ ?_⟩
          · intro i H4 hi h4
            obtain ⟨s4, acc, g4, l4, e4⟩ := unob h4
            have hi2 : i < es.length := by omega
            have hi3 : i < ds.length := by omega
            obtain ⟨xv, ex, dx⟩ := hds.get (List.getElem?_eq_getElem hi3)
            obtain ⟨yv, ey, dy⟩ := hes.get (List.getElem?_eq_getElem hi2)
            have tk := take_succ_eq (List.getElem?_eq_getElem hi3) (List.getElem?_eq_getElem hi2)
            have ax : atI xs (0 + (i : Int)) = some xv := by
              rw [Int.zero_add]
              exact atI_nat ex
            have ay : atI ys (0 + (i : Int)) = some yv := by
              rw [Int.zero_add]
              exact atI_nat ey
            refine ⟨rfl, ?_⟩
            walk_at "go"
            refine ixAny (sqAny s4 hA) ax ?_
            walk_at "go"
            refine ixAny (sqAny s4 hC) ay ?_
            walk_at "go"
            refine ⟨_, _, _, _, rfl, Dh.mono s4 _ _ dx, Dh.mono s4 _ _ dy, hle _ (List.getElem_mem hi2), fun b5 H5 hb s5 => ?_⟩
            walk_at "go"
            refine ifN ?_
            cases b5 with
            | true =>
              refine ifBT rfl (ob ⟨s4.trans s5, acc, s5 _ _ g4, Nat.le_succ_of_le l4, ?_⟩)
              rw [e4, tk]
              exact ⟨fun z => ⟨z, hb.mp rfl⟩, fun z => z.1⟩
            | false =>
              refine ifBF rfl ?_
              walk_at "go"
              refine ⟨acc, s5 _ _ g4, sz5 (by omega), ob ⟨same_put (s4.trans s5) hL, _, upd_same, ?_, ?_⟩⟩
              · rw [List.length_append]
                exact Nat.add_le_add_right l4 1
              · constructor
                · intro z
                  exact absurd (congrArg List.length z) (by rw [List.length_append]; simp)
                · intro z
                  exact absurd (hb.mpr (tk.mp z).2) Bool.false_ne_true
          · intro H4 h4
            obtain ⟨s4, acc, g4, l4, e4⟩ := unob h4
            walk_at "go"
            refine q _ _ ?_ ((s1.trans s2).trans s4)
            rw [hiff]
            have et : ((ys.length : Nat) : Int).toNat = es.length := by omega
            rw [et, List.take_of_length_le (by omega), List.take_of_length_le (Nat.le_refl _)] at e4
            rw [← e4, decide_eq_true_iff]
            constructor
            · intro z
              have z2 := V.int.inj z
              exact List.eq_nil_of_length_eq_zero (by omega)
            · intro z
              rw [z]
              rfl
        · walk_at "go"
          refine ifNe (fun z => ?_) (fun z => ?_)
          · walk_at "go"
            refine q _ _ ?_ (s1.trans s2)
            rw [hiff]
            constructor
            · intro h
              cases h
            · intro h
              rw [h] at lx
              omega
          · walk_at "go"
            exact k3 _ _ ⟨rfl, rfl, by omega⟩
      · walk_at "go"
        refine ⟨sz, fun p2 hp2 => ?_⟩
        have s2 : Same H1 (upd H1 p2 (HO.tup [V.ty "list", V.ty "tuple"])) := same_upd hp2
        refine ⟨_, _, _, rfl, upd_same, Dh.mono s2 _ _ hx1, ?_⟩
        have hx2 := Dh.mono s2 _ _ hx1
        have hy2 := Dh.mono s2 _ _ hy1
        walk_at "go"
        generalize upd H1 p2 (HO.tup [V.ty "list", V.ty "tuple"]) = H2 at *
        clear hp2
        cases e with
        | none => cases hf
        | bool _ => cases hf
        | int _ => cases hf
        | str _ => cases hf
        | dict kvs => cases hf
        | list es =>
          obtain ⟨c, ys, rfl, gy, hes⟩ := id hy2
          cases d
          case dict => exact False.elim hx2
          case list ds =>
            obtain ⟨a, xs, rfl, gx, hds⟩ := id hx2
            walk_at "go"
            exact k2 _ _ ⟨s2, _, _, _, _, ds, es, rfl, .inl (.inl (.inl gx)), .inl (.inl (.inl gy)), hds, hes, he.1, he.2, by simp⟩
          all_goals walk_at "go"
          all_goals exact q _ _ (by simp) (s1.trans s2)
        | tuple es =>
          obtain ⟨c, ys, rfl, gy, hes⟩ := id hy2
          cases d
          case dict => exact False.elim hx2
          case tuple ds =>
            obtain ⟨a, xs, rfl, gx, hds⟩ := id hx2
            walk_at "go"
            exact k2 _ _ ⟨s2, _, _, _, _, ds, es, rfl, .inr (.inl (.inl gx)), .inr (.inl (.inl gy)), hds, hes, he.1, he.2, by simp⟩
          all_goals walk_at "go"
          all_goals exact q _ _ (by simp) (s1.trans s2)
theorem ok_same {f : Addr} {fd : FuncData} (D : Def K mg "_law_same" s_same f fd) (b : Binds K fd ["_law_told", "_law_due"] []) (T : Txt mg) (c_is_whole : Cal P w K mg base 1 "_law_is_whole" spWhole []) :
    ∀ n, Cal P w K mg base (n + 1) "_law_same" (spSame n) []
  | 0 => by
    have no : ∀ vs H Q E, ¬ spSame 0 vs H Q E := fun vs H Q E h => by
      obtain ⟨x, y, d, e, _, _, _, h1, _⟩ := h
      exact h1
    exact ⟨f, fd, _, _, ⟨fun vs H Q E h => absurd h (no vs H Q E), fun A outer s H args us vs Q E _ _ _ _ h => absurd h (no vs H Q E)⟩, D.mgf, D.kp, b, .nil⟩
  | n + 1 => ok_same_step D b T c_is_whole (ok_same D b T c_is_whole n)
end

end

/-! ### the chooser's fields, the plain table -/
def chF (kd : Str) (n calls : Int) (fa ua ba : Addr) (hand : Int) : List (Str × V) := [("_kind", .str kd), ("_frames", .int n), ("_calls", .int calls), ("_fill_calls", .ref fa), ("_use_calls", .ref ua), ("_bits", .ref ba), ("_hand", .int hand)]
section
variable {kd : Str} {n calls hand v : Int} {fa ua ba : Addr}
theorem ch_kind : (chF kd n calls fa ua ba hand).lookup ("_kind" : Str) = some (.str kd) := by kernel_rfl
theorem ch_frames : (chF kd n calls fa ua ba hand).lookup ("_frames" : Str) = some (.int n) := by kernel_rfl
theorem ch_calls : (chF kd n calls fa ua ba hand).lookup ("_calls" : Str) = some (.int calls) := by kernel_rfl
theorem ch_fills : (chF kd n calls fa ua ba hand).lookup ("_fill_calls" : Str) = some (.ref fa) := by kernel_rfl
theorem ch_uses : (chF kd n calls fa ua ba hand).lookup ("_use_calls" : Str) = some (.ref ua) := by kernel_rfl
theorem ch_bits : (chF kd n calls fa ua ba hand).lookup ("_bits" : Str) = some (.ref ba) := by kernel_rfl
theorem ch_hand : (chF kd n calls fa ua ba hand).lookup ("_hand" : Str) = some (.int hand) := by kernel_rfl
theorem ch_no1 : (chF kd n calls fa ua ba hand).lookup ("touched" : Str) = none := by kernel_rfl
theorem ch_no2 : (chF kd n calls fa ua ba hand).lookup ("filled" : Str) = none := by kernel_rfl
theorem ch_no3 : (chF kd n calls fa ua ba hand).lookup ("emptied" : Str) = none := by kernel_rfl
theorem ch_no4 : (chF kd n calls fa ua ba hand).lookup ("choose" : Str) = none := by kernel_rfl
theorem ch_no5 : (chF kd n calls fa ua ba hand).lookup ("_choose_by_hand" : Str) = none := by kernel_rfl
theorem ch_pcalls : putF "_calls" (.int v) (chF kd n calls fa ua ba hand) = chF kd n v fa ua ba hand := by kernel_rfl
theorem ch_phand : putF "_hand" (.int v) (chF kd n calls fa ua ba hand) = chF kd n calls fa ua ba v := by kernel_rfl
theorem ch_make : putF "_hand" (.int hand) (putF "_bits" (.ref ba) (putF "_use_calls" (.ref ua) (putF "_fill_calls" (.ref fa) (putF "_calls" (.int calls) (putF "_frames" (.int n) (putF "_kind" (.str kd) [])))))) = chF kd n calls fa ua ba hand := by kernel_rfl
end
def pK (kd : Str) (t u : Int) (fi us bi fu : Addr) : List (Key × V) := [(.inr "kind", .str kd), (.inr "time", .int t), (.inr "under", .int u), (.inr "filled", .ref fi), (.inr "used", .ref us), (.inr "bits", .ref bi), (.inr "full", .ref fu)]
section
variable {kd : Str} {t u v : Int} {fi us bi fu : Addr}
theorem p_kind : valV (pK kd t u fi us bi fu) (.inr "kind") = some (.str kd) := by kernel_rfl
theorem p_time : valV (pK kd t u fi us bi fu) (.inr "time") = some (.int t) := by kernel_rfl
theorem p_under : valV (pK kd t u fi us bi fu) (.inr "under") = some (.int u) := by kernel_rfl
theorem p_filled : valV (pK kd t u fi us bi fu) (.inr "filled") = some (.ref fi) := by kernel_rfl
theorem p_used : valV (pK kd t u fi us bi fu) (.inr "used") = some (.ref us) := by kernel_rfl
theorem p_bits : valV (pK kd t u fi us bi fu) (.inr "bits") = some (.ref bi) := by kernel_rfl
theorem p_full : valV (pK kd t u fi us bi fu) (.inr "full") = some (.ref fu) := by kernel_rfl
theorem p_ptime : putK (pK kd t u fi us bi fu) (.inr "time") (.int v) = pK kd v u fi us bi fu := by kernel_rfl
theorem p_punder : putK (pK kd t u fi us bi fu) (.inr "under") (.int v) = pK kd t v fi us bi fu := by kernel_rfl
theorem p_merge : mergeK [] (pK kd t u fi us bi fu) = pK kd t u fi us bi fu := by kernel_rfl
end

/-! ### the hand's hunt -/
def hunt (al : List Int) (n : Nat) : Nat → List Int → Int → Option (Int × List Int × Int)
  | 0, _, _ => none
  | k + 1, bits, hand => if hand ∈ al then (if bits.getD hand.toNat 0 = 0 then some (hand, bits, (hand + 1) % n) else hunt al n k (bits.set hand.toNat 0) ((hand + 1) % n)) else hunt al n k bits ((hand + 1) % n)
theorem set_get {bits : List Int} {i j : Nat} (h : bits.getD j 0 = 0) : (bits.set i 0).getD j 0 = 0 := by
  rw [List.getD_eq_getElem?_getD] at *
  rw [List.getElem?_set]
  split
  · split <;> rfl
  · exact h
theorem hand_ok {n : Nat} {hand : Int} (hn : 1 ≤ n) : 0 ≤ (hand + 1) % (n : Int) ∧ (hand + 1) % (n : Int) < n := ⟨Int.emod_nonneg _ (by omega), Int.emod_lt_of_pos _ (by omega)⟩
theorem hunt1 {al : List Int} {n : Nat} (hn : 1 ≤ n) {a : Int} (ha : a ∈ al) : ∀ (d k : Nat) (bits : List Int) (hand : Int), 0 ≤ hand → hand < n → (hand + d) % n = a → bits.getD a.toNat 0 = 0 → d + 1 ≤ k → (hunt al n k bits hand).isSome = true
  | d, 0, _, _, _, _, _, _, h => absurd h (by omega)
  | 0, k + 1, bits, hand, h0, h1, e, z, _ => by
    have : a = hand := by
      rw [← e]
      show (hand + 0) % (n : Int) = hand
      rw [Int.add_zero]
      exact Int.emod_eq_of_lt h0 h1
    subst this
    unfold hunt
    rw [if_pos ha, if_pos z]
    rfl
  | d + 1, k + 1, bits, hand, h0, h1, e, z, h => by
    have hh := hand_ok (hand := hand) hn
    have e2 : ((hand + 1) % (n : Int) + (d : Nat)) % (n : Int) = a := by
      rw [Int.emod_add_emod, ← e]
      congr 1
      omega
    unfold hunt
    split
    · split
      · rfl
      · exact hunt1 hn ha d k _ _ hh.1 hh.2 e2 (set_get z) (by omega)
    · exact hunt1 hn ha d k _ _ hh.1 hh.2 e2 z (by omega)
theorem hunt2 {al : List Int} {n : Nat} (hn : 1 ≤ n) {a : Int} (ha : a ∈ al) : ∀ (d k : Nat) (bits : List Int) (hand : Int), bits.length = n → 0 ≤ hand → hand < n → (hand + d) % n = a → d + 1 + n ≤ k → (hunt al n k bits hand).isSome = true
  | d, 0, _, _, _, _, _, _, h => absurd h (by omega)
  | 0, k + 1, bits, hand, hl, h0, h1, e, h => by
    have : a = hand := by
      rw [← e]
      show (hand + 0) % (n : Int) = hand
      rw [Int.add_zero]
      exact Int.emod_eq_of_lt h0 h1
    subst this
    have hh := hand_ok (hand := a) hn
    unfold hunt
    rw [if_pos ha]
    split
    · rfl
    · refine hunt1 hn ha (n - 1) k _ _ hh.1 hh.2 ?_ ?_ (by omega)
      · rw [Int.emod_add_emod, show a + 1 + ((n - 1 : Nat) : Int) = a + (n : Int) by omega, Int.add_emod_right]
        exact Int.emod_eq_of_lt h0 h1
      · rw [List.getD_eq_getElem?_getD, List.getElem?_set_self (by omega)]
        rfl
  | d + 1, k + 1, bits, hand, hl, h0, h1, e, h => by
    have hh := hand_ok (hand := hand) hn
    have e2 : ((hand + 1) % (n : Int) + (d : Nat)) % (n : Int) = a := by
      rw [Int.emod_add_emod, ← e]
      congr 1
      omega
    unfold hunt
    split
    · split
      · rfl
      · exact hunt2 hn ha d k _ _ (by rw [List.length_set]; exact hl) hh.1 hh.2 e2 (by omega)
    · exact hunt2 hn ha d k _ _ hl hh.1 hh.2 e2 (by omega)
theorem hunt_all {al : List Int} {n : Nat} (hn : 1 ≤ n) {a : Int} (ha : a ∈ al) (a0 : 0 ≤ a) (a1 : a < n) {bits : List Int} {hand : Int} (hl : bits.length = n) (h0 : 0 ≤ hand) (h1 : hand < n) : ∃ r, hunt al n (2 * n) bits hand = some r := by
  have m0 := Int.emod_nonneg (a - hand) (show (n : Int) ≠ 0 by omega)
  have m1 := Int.emod_lt_of_pos (a - hand) (show (0 : Int) < n by omega)
  refine Option.isSome_iff_exists.mp (hunt2 hn ha ((a - hand) % (n : Int)).toNat (2 * n) bits hand hl h0 h1 ?_ (by omega))
  rw [Int.toNat_of_nonneg m0, Int.add_emod_emod, show hand + (a - hand) = a by omega]
  exact Int.emod_eq_of_lt a0 a1
theorem hunt_res {al : List Int} {n : Nat} (hn : 1 ≤ n) : ∀ (k : Nat) (bits : List Int) (hand : Int) (r : Int × List Int × Int), hunt al n k bits hand = some r → bits.length = n → 0 ≤ hand → hand < n → r.1 ∈ al ∧ r.2.1.length = n ∧ 0 ≤ r.2.2 ∧ r.2.2 < n
  | 0, _, _, _, h, _, _, _ => by cases h
  | k + 1, bits, hand, r, h, hl, h0, h1 => by
    have hh := hand_ok (hand := hand) hn
    unfold hunt at h
    split at h
    · rename_i hm
      split at h
      · cases h
        exact ⟨hm, hl, hh.1, hh.2⟩
      · exact hunt_res hn k _ _ r h (by rw [List.length_set]; exact hl) hh.1 hh.2
    · exact hunt_res hn k _ _ r h hl hh.1 hh.2

section

-- a condition of an operator
local macro_rules | `(tactic| walk_at "cond") => `(tactic| first
  | (show (0 : Int) < _; omega)
  | (show CDiv _ _; constructor <;> (first | decide | omega))
  | (show CMul _ _; first | (refine cmul_l ?_; constructor <;> (first | decide | omega)) | (refine cmul_r ?_; constructor <;> (first | decide | omega)))
  | (show CPow _ _; exact (by refine ⟨by decide, by decide, by decide⟩))
  | (show CDivW _ _; exact ⟨by decide, by decide +kernel⟩))
local macro_rules | `(tactic| walk_at "sq") => `(tactic| first | assumption | exact Dh.mono (same_upd (by assumption)) _ _ (by assumption) | exact .inl (.inl (.inl (by assumption))) | exact .inr (.inl (.inl (by assumption))) | exact SqL.of (by assumption) | exact .inl (by assumption) | exact .inl (SqL.of (by assumption)) | exact SqT.of (by assumption) | exact .inr (SqT.of (by assumption)))
local macro_rules | `(tactic| walk_at "st") => `(tactic| first
  | refine ⟨_, rfl, ?_⟩
  | refine ⟨_, _, rfl, rfl, ?_⟩
  | refine .inl ⟨_, rfl, ?_⟩
  | refine ⟨rfl, ?_⟩
  | refine ⟨_, _, rfl, by walk_at "sq", ?_⟩
  | refine ⟨.inl ⟨rfl, _, SqL.of (by assumption)⟩, ?_⟩
  | refine ⟨by walk_at "cond", ?_⟩
  | (refine' ifBT ?hh ?_; (case hh => first | rfl | assumption))
  | (refine' ifBF ?hh ?_; (case hh => first | rfl | assumption)))
local macro_rules | `(tactic| walk_at "go") => `(tactic| repeat walk_at "st")
local macro_rules | `(tactic| walk_at "yes") => `(tactic| (refine' ifT ?hh ?_; (case hh => first | rfl | decide +kernel)))
local macro_rules | `(tactic| walk_at "no") => `(tactic| (refine' ifF ?hh ?_; (case hh => first | decide +kernel | (intro z; cases z; done))))

/-! ### Chooser (as far as the kind "clock" goes) -/
abbrev s_Chooser___init__ : Stmt := inClass (topS 1) 0
theorem sc_Chooser___init__ : FnScope ["self", "kind", "frames"] ["self", "kind", "frames"] (C8.fnScope s_Chooser___init__) := C8.fnScope_by (by decide +kernel)
abbrev s_Chooser_filled : Stmt := inClass (topS 1) 1
theorem sc_Chooser_filled : FnScope ["self", "frame"] ["self", "frame"] (C8.fnScope s_Chooser_filled) := C8.fnScope_by (by decide +kernel)
abbrev s_Chooser_touched : Stmt := inClass (topS 1) 2
theorem sc_Chooser_touched : FnScope ["self", "frame"] ["self", "frame"] (C8.fnScope s_Chooser_touched) := C8.fnScope_by (by decide +kernel)
abbrev s_Chooser_emptied : Stmt := inClass (topS 1) 3
theorem sc_Chooser_emptied : FnScope ["self", "frame"] ["self", "frame"] (C8.fnScope s_Chooser_emptied) := C8.fnScope_by (by decide +kernel)
abbrev s_Chooser_choose : Stmt := inClass (topS 1) 4
theorem sc_Chooser_choose : FnScope ["self", "allowed"] ["self", "allowed"] (C8.fnScope s_Chooser_choose) := C8.fnScope_by (by decide +kernel)
abbrev s_Chooser__choose_by_hand : Stmt := inClass (topS 1) 5
theorem sc_Chooser__choose_by_hand : FnScope ["self", "allowed", "frame"] ["self", "allowed"] (C8.fnScope s_Chooser__choose_by_hand) := C8.fnScope_by (by decide +kernel)
structure STxt (K : PySem.W.Frag) (mg : Str → Option Value) (C : Addr) : Prop where
  cl : Cls K C
  n1 : NoAttr K C "_kind"
  n2 : NoAttr K C "_frames"
  n3 : NoAttr K C "_calls"
  n4 : NoAttr K C "_fill_calls"
  n5 : NoAttr K C "_use_calls"
  n6 : NoAttr K C "_bits"
  n7 : NoAttr K C "_hand"
  mgC : mg "Chooser" = some (.ref C)
structure ChAt (C : Addr) (H : Hp) (p fa ua ba dx : Addr) (kd : Str) (n : Nat) (calls hand : Int) (fl us bits : List Int) : Prop where
  g : H p = some (.ins C dx (chF kd n calls fa ua ba hand))
  f : H fa = some (.lst (fl.map V.int))
  u : H ua = some (.lst (us.map V.int))
  b : H ba = some (.lst (bits.map V.int))
  nd : fa ≠ ua ∧ fa ≠ ba ∧ ua ≠ ba
  lf : fl.length = n
  lu : us.length = n
  lb : bits.length = n
def But (H H' : Hp) (p : Addr) : Prop := ∀ b o, b ≠ p → H b = some o → H' b = some o
def ButL (l : List Addr) (H H' : Hp) : Prop := ∀ b o, b ∉ l → H b = some o → H' b = some o
theorem ButL.refl {l : List Addr} {H : Hp} : ButL l H H := fun _ _ _ e => e
theorem ButL.trans {l : List Addr} {H H1 H2 : Hp} (a : ButL l H H1) (b : ButL l H1 H2) : ButL l H H2 := fun c o n e => b c o n (a c o n e)
theorem ButL.mono {l l' : List Addr} {H H1 : Hp} (a : ButL l H H1) (h : ∀ x ∈ l, x ∈ l') : ButL l' H H1 := fun c o n e => a c o (fun z => n (h c z)) e
theorem ButL.put {l : List Addr} {H : Hp} {p : Addr} {o : HO} (h : p ∈ l) : ButL l H (upd H p o) := fun c o n e => by
  rw [upd_ne (fun z => n (by rw [z]; exact h))]
  exact e
theorem Same.but {l : List Addr} {H H1 : Hp} (s : Same H H1) : ButL l H H1 := fun c o _ e => s c o e
theorem ins_lst {H : Hp} {p q C dx : Addr} {fs : List (Str × V)} {xs : List V} (h : H p = some (.ins C dx fs)) (h2 : H q = some (.lst xs)) : p ≠ q := fun e => by
  rw [e, h2] at h
  cases h
theorem set_ints (ns : List Int) (i : Nat) (v : Int) : (ns.map V.int).set i (.int v) = (ns.set i v).map V.int := by rw [List.map_set]
theorem ix_ok {n : Nat} {i : Int} (h0 : 0 ≤ i) (h1 : i < n) : ixN n i = some i.toNat := by
  unfold ixN
  rw [if_pos h0, if_pos h1]
def spChI (C : Addr) : Sp := fun vs H Q _ => ∃ (p dx : Addr) (kd : Str) (n : Nat), vs = [.ref p, .str kd, .int n] ∧ H p = some (.ins C dx []) ∧ n ≤ 1000 ∧ ∀ fa ua ba H', ChAt C H' p fa ua ba dx kd n 0 0 (List.replicate n 0) (List.replicate n 0) (List.replicate n 0) → H fa = none → H ua = none → H ba = none → But H H' p → Q .non H'
def spTch (C : Addr) : Sp := fun vs H Q _ => ∃ (p fa ua ba dx : Addr) (kd : Str) (n : Nat) (calls hand fr : Int) (fl us bits : List Int), vs = [.ref p, .int fr] ∧ ChAt C H p fa ua ba dx kd n calls hand fl us bits ∧ 0 ≤ fr ∧ fr < n ∧
  ∀ H', ChAt C H' p fa ua ba dx kd n (calls + 1) hand fl (us.set fr.toNat (calls + 1)) (bits.set fr.toNat 1) → ButL [p, ua, ba] H H' → Q .non H'
def spFil (C : Addr) : Sp := fun vs H Q _ => ∃ (p fa ua ba dx : Addr) (kd : Str) (n : Nat) (calls hand fr : Int) (fl us bits : List Int), vs = [.ref p, .int fr] ∧ ChAt C H p fa ua ba dx kd n calls hand fl us bits ∧ 0 ≤ fr ∧ fr < n ∧
  ∀ H', ChAt C H' p fa ua ba dx kd n (calls + 1) hand (fl.set fr.toNat (calls + 1)) (us.set fr.toNat (calls + 1)) (bits.set fr.toNat 1) → ButL [p, fa, ua, ba] H H' → Q .non H'
def spEmp (C : Addr) : Sp := fun vs H Q _ => ∃ (p fa ua ba dx : Addr) (kd : Str) (n : Nat) (calls hand fr : Int) (fl us bits : List Int), vs = [.ref p, .int fr] ∧ ChAt C H p fa ua ba dx kd n calls hand fl us bits ∧ 0 ≤ fr ∧ fr < n ∧
  ∀ H', ChAt C H' p fa ua ba dx kd n calls hand fl us (bits.set fr.toNat 0) → ButL [ba] H H' → Q .non H'
def spHunt (C : Addr) (al? : Bool) : Sp := fun vs H Q _ => ∃ (p fa ua ba dx al : Addr) (kd : Str) (n k : Nat) (calls hand fr hand2 : Int) (fl us bits bits2 als : List Int), vs = [.ref p, .ref al] ∧ ChAt C H p fa ua ba dx kd n calls hand fl us bits ∧ (al? = true → kd = "clock") ∧
  H al = some (.lst (als.map V.int)) ∧ al ≠ ba ∧ 1 ≤ n ∧ n ≤ 1000 ∧ (∀ x ∈ als, 0 ≤ x ∧ x < n) ∧ 0 ≤ hand ∧ hand < n ∧ hunt als n k bits hand = some (fr, bits2, hand2) ∧
  ∀ H', ChAt C H' p fa ua ba dx kd n calls hand2 fl us bits2 → ButL [p, ba] H H' → Q (.int fr) H'
section
variable {P : Program} {w : World} {K : PySem.W.Frag} {mg : Str → Option Value} {base : Heap} {C : Addr}
theorem ok_emptied {f : Addr} {fd : FuncData} (F : C8.Fun K "emptied" "Chooser.emptied" s_Chooser_emptied f fd) (M : Meth K C "emptied" f) (b : Binds K fd ["self", "frame"] []) (S : STxt K mg C) : C8.Met P w K mg base 1 C "emptied" (spEmp C) [] := by
  refine C8.met0 S.cl M F b sc_Chooser_emptied (fun vs H Q E h => ?_) (fun cdv A outer s H vs Q E hr h => ?_)
  · obtain ⟨p, fa, ua, ba, dx, kd, n, calls, hand, fr, fl, us, bits, rfl, _⟩ := h
    rfl
  obtain ⟨p, fa, ua, ba, dx, kd, n, calls, hand, fr, fl, us, bits, rfl, hc, f0, f1, q⟩ := h
  refine ⟨_, (pss_one (ps_asg pe_int (pg_sub (pe_fld (pv 0) rfl) (pv 1) set_list))), ?_⟩
  have npb := ins_lst hc.g hc.b
  walk_at "go"
  refine ⟨_, _, _, _, _, rfl, hc.g, S.cl, S.n6, ch_bits, ?_⟩
  walk_at "go"
  refine ⟨ba, _, fr, _, rfl, rfl, hc.b, ix_ok f0 (by rw [List.length_map, hc.lb]; exact f1), ?_⟩
  rw [set_ints]
  exact q _ ⟨by rw [upd_ne npb]; exact hc.g, by rw [upd_ne hc.nd.2.1]; exact hc.f, by rw [upd_ne hc.nd.2.2]; exact hc.u, upd_same, hc.nd, hc.lf, hc.lu, by rw [List.length_set]; exact hc.lb⟩ (ButL.put List.mem_cons_self)
theorem ok_touched {f : Addr} {fd : FuncData} (F : C8.Fun K "touched" "Chooser.touched" s_Chooser_touched f fd) (M : Meth K C "touched" f) (b : Binds K fd ["self", "frame"] []) (S : STxt K mg C) : C8.Met P w K mg base 1 C "touched" (spTch C) [] := by
  refine C8.met0 S.cl M F b sc_Chooser_touched (fun vs H Q E h => ?_) (fun cdv A outer s H vs Q E hr h => ?_)
  · obtain ⟨p, fa, ua, ba, dx, kd, n, calls, hand, fr, fl, us, bits, rfl, _⟩ := h
    rfl
  obtain ⟨p, fa, ua, ba, dx, kd, n, calls, hand, fr, fl, us, bits, rfl, hc, f0, f1, q⟩ := h
  refine ⟨_, (pss_cons (ps_fldaug (pv 0) pe_int in_add)
      (pss_cons (ps_asg (pe_fld (pv 0) rfl) (pg_sub (pe_fld (pv 0) rfl) (pv 1) set_list))
      (pss_one (ps_asg pe_int (pg_sub (pe_fld (pv 0) rfl) (pv 1) set_list))))), ?_⟩
  have npb := ins_lst hc.g hc.b
  have npu := ins_lst hc.g hc.u
  have npf := ins_lst hc.g hc.f
  walk_at "go"
  refine ⟨p, C, dx, _, _, rfl, hc.g, S.cl, S.n3, ch_calls, ?_⟩
  walk_at "go"
  refine ⟨dx, _, hc.g, (by show 7 < 1000; decide), ?_⟩
  rw [ch_pcalls]
  have h1 : ChAt C (upd H p (HO.ins C dx (chF kd n (calls + 1) fa ua ba hand))) p fa ua ba dx kd n (calls + 1) hand fl us bits := ⟨upd_same, by rw [upd_ne npf.symm]; exact hc.f, by rw [upd_ne npu.symm]; exact hc.u, by rw [upd_ne npb.symm]; exact hc.b, hc.nd, hc.lf, hc.lu, hc.lb⟩
  have b1 := ButL.put (l := [p, ua, ba]) (H := H) (p := p) (o := HO.ins C dx (chF kd n (calls + 1) fa ua ba hand)) List.mem_cons_self
  show _
  generalize upd H p (HO.ins C dx (chF kd n (calls + 1) fa ua ba hand)) = H1 at *
  clear hc
  walk_at "go"
  refine ⟨_, _, _, _, _, rfl, h1.g, S.cl, S.n3, ch_calls, ?_⟩
  walk_at "go"
  refine ⟨_, _, _, _, _, rfl, h1.g, S.cl, S.n5, ch_uses, ?_⟩
  walk_at "go"
  refine ⟨ua, _, fr, _, rfl, rfl, h1.u, ix_ok f0 (by rw [List.length_map, h1.lu]; exact f1), ?_⟩
  rw [set_ints]
  have h2 : ChAt C (upd H1 ua (HO.lst ((us.set fr.toNat (calls + 1)).map V.int))) p fa ua ba dx kd n (calls + 1) hand fl (us.set fr.toNat (calls + 1)) bits := ⟨by rw [upd_ne npu]; exact h1.g, by rw [upd_ne h1.nd.1]; exact h1.f, upd_same, by rw [upd_ne h1.nd.2.2.symm]; exact h1.b, h1.nd, h1.lf, by rw [List.length_set]; exact h1.lu, h1.lb⟩
  have b2 := b1.trans (ButL.put (l := [p, ua, ba]) (H := H1) (p := ua) (o := HO.lst ((us.set fr.toNat (calls + 1)).map V.int)) (by simp))
  show _
  generalize upd H1 ua (HO.lst ((us.set fr.toNat (calls + 1)).map V.int)) = H2 at *
  clear h1
  walk_at "go"
  refine ⟨_, _, _, _, _, rfl, h2.g, S.cl, S.n6, ch_bits, ?_⟩
  walk_at "go"
  refine ⟨ba, _, fr, _, rfl, rfl, h2.b, ix_ok f0 (by rw [List.length_map, h2.lb]; exact f1), ?_⟩
  rw [set_ints]
  exact q _ ⟨by rw [upd_ne npb]; exact h2.g, by rw [upd_ne h2.nd.2.1]; exact h2.f, by rw [upd_ne h2.nd.2.2]; exact h2.u, upd_same, h2.nd, h2.lf, h2.lu, by rw [List.length_set]; exact h2.lb⟩ (b2.trans (ButL.put (by simp)))
theorem ok_filled {f : Addr} {fd : FuncData} (F : C8.Fun K "filled" "Chooser.filled" s_Chooser_filled f fd) (M : Meth K C "filled" f) (b : Binds K fd ["self", "frame"] []) (S : STxt K mg C) (m_touched : C8.Met P w K mg base 1 C "touched" (spTch C) []) : C8.Met P w K mg base 2 C "filled" (spFil C) [] := by
  refine C8.met0 S.cl M F b sc_Chooser_filled (fun vs H Q E h => ?_) (fun cdv A outer s H vs Q E hr h => ?_)
  · obtain ⟨p, fa, ua, ba, dx, kd, n, calls, hand, fr, fl, us, bits, rfl, _⟩ := h
    rfl
  obtain ⟨p, fa, ua, ba, dx, kd, n, calls, hand, fr, fl, us, bits, rfl, hc, f0, f1, q⟩ := h
  refine ⟨_, (pss_cons (ps_expr (C8.pe_mt m_touched hr (by omega) (pv 0) (pa_cons (pv 1) pa_nil)))
      (pss_one (ps_asg (pe_fld (pv 0) rfl) (pg_sub (pe_fld (pv 0) rfl) (pv 1) set_list)))), ?_⟩
  walk_at "go"
  refine ⟨p, dx, _, rfl, hc.g, ch_no1, ?_⟩
  walk_at "go"
  refine ⟨p, fa, ua, ba, dx, kd, n, calls, hand, fr, fl, us, bits, rfl, hc, f0, f1, fun H1 h1 b1 => ?_⟩
  have npf := ins_lst h1.g h1.f
  walk_at "go"
  refine ⟨_, _, _, _, _, rfl, h1.g, S.cl, S.n3, ch_calls, ?_⟩
  walk_at "go"
  refine ⟨_, _, _, _, _, rfl, h1.g, S.cl, S.n4, ch_fills, ?_⟩
  walk_at "go"
  refine ⟨fa, _, fr, _, rfl, rfl, h1.f, ix_ok f0 (by rw [List.length_map, h1.lf]; exact f1), ?_⟩
  rw [set_ints]
  exact q _ ⟨by rw [upd_ne npf]; exact h1.g, upd_same, by rw [upd_ne h1.nd.1.symm]; exact h1.u, by rw [upd_ne h1.nd.2.1.symm]; exact h1.b, h1.nd, by rw [List.length_set]; exact h1.lf, h1.lu, h1.lb⟩ ((b1.mono (by simp)).trans (ButL.put (by simp)))
end

end

/-! ### ints in lists -/
theorem inV_ints (x : Int) (ns : List Int) : inV (.int x) (ns.map V.int) = decide (x ∈ ns) := by
  unfold inV
  induction ns with
  | nil => simp
  | cons n ns ih =>
    rw [List.map_cons, List.any_cons, ih]
    show ((n == x) || decide (x ∈ ns)) = _
    by_cases h : n = x
    · subst h
      simp
    · have h2 : (n == x) = false := by simpa using h
      rw [h2, Bool.false_or]
      have h3 : ¬ x = n := fun e => h e.symm
      simp [h3]
theorem flat_ints : ∀ ns : List Int, (ns.map V.int).all flatV = true
  | [] => rfl
  | _ :: ns => by
    rw [List.map_cons, List.all_cons, flat_ints ns]
    rfl

section

-- a condition of an operator
local macro_rules | `(tactic| walk_at "cond") => `(tactic| first
  | (show (0 : Int) < _; omega)
  | (show CDiv _ _; constructor <;> (first | decide | omega))
  | (show CMul _ _; first | (refine cmul_l ?_; constructor <;> (first | decide | omega)) | (refine cmul_r ?_; constructor <;> (first | decide | omega)))
  | (show CPow _ _; exact (by refine ⟨by decide, by decide, by decide⟩))
  | (show CDivW _ _; exact ⟨by decide, by decide +kernel⟩))
local macro_rules | `(tactic| walk_at "sq") => `(tactic| first | assumption | exact Dh.mono (same_upd (by assumption)) _ _ (by assumption) | exact .inl (.inl (.inl (by assumption))) | exact .inr (.inl (.inl (by assumption))) | exact SqL.of (by assumption) | exact .inl (by assumption) | exact .inl (SqL.of (by assumption)) | exact SqT.of (by assumption) | exact .inr (SqT.of (by assumption)))
local macro_rules | `(tactic| walk_at "st") => `(tactic| first
  | refine ⟨_, rfl, ?_⟩
  | refine ⟨_, _, rfl, rfl, ?_⟩
  | refine .inl ⟨_, rfl, ?_⟩
  | refine ⟨rfl, ?_⟩
  | refine ⟨_, _, rfl, by walk_at "sq", ?_⟩
  | refine ⟨.inl ⟨rfl, _, SqL.of (by assumption)⟩, ?_⟩
  | refine ⟨by walk_at "cond", ?_⟩
  | (refine' ifBT ?hh ?_; (case hh => first | rfl | assumption))
  | (refine' ifBF ?hh ?_; (case hh => first | rfl | assumption)))
local macro_rules | `(tactic| walk_at "go") => `(tactic| repeat walk_at "st")
local macro_rules | `(tactic| walk_at "yes") => `(tactic| (refine' ifT ?hh ?_; (case hh => first | rfl | decide +kernel)))
local macro_rules | `(tactic| walk_at "no") => `(tactic| (refine' ifF ?hh ?_; (case hh => first | decide +kernel | (intro z; cases z; done))))

/-! ### Chooser: __init__, _choose_by_hand, choose -/
theorem rep_ints : ∀ n : Nat, (List.replicate n [V.int 0]).flatten = (List.replicate n (0 : Int)).map V.int
  | 0 => rfl
  | n + 1 => by
    rw [List.replicate_succ, List.flatten_cons, rep_ints n, List.replicate_succ]
    rfl
theorem But.trans {H H1 H2 : Hp} {p : Addr} (a : But H H1 p) (b : But H1 H2 p) : But H H2 p := fun c o n e => b c o n (a c o n e)
theorem But.put {H : Hp} {p : Addr} {o : HO} : But H (upd H p o) p := fun c _ n e => by
  rw [upd_ne n]
  exact e
theorem Same.one {H H1 : Hp} {p : Addr} (s : Same H H1) : But H H1 p := fun c o _ e => s c o e
section
variable {P : Program} {w : World} {K : PySem.W.Frag} {mg : Str → Option Value} {base : Heap} {C : Addr}
theorem ok_init {f : Addr} {fd : FuncData} (F : C8.Fun K "__init__" "Chooser.__init__" s_Chooser___init__ f fd) (M : Mk K C f) (b : Binds K fd ["self", "kind", "frames"] []) (S : STxt K mg C) : C8.Mak P w K mg base 1 "Chooser" C (spChI C) [] := by
  refine C8.mak0 M S.mgC F b .nil sc_Chooser___init__ (fun vs H Q E h => ?_) (fun cdv A outer s H vs Q E hr h => ?_)
  · obtain ⟨p, dx, kd, n, rfl, _⟩ := h
    rfl
  obtain ⟨p, dx, kd, n, rfl, hp, hn, q⟩ := h
  refine ⟨_, (pss_cons (ps_fld (pv 0) (pv 1) rfl)
      (pss_cons (ps_fld (pv 0) (pv 2) rfl)
      (pss_cons (ps_fld (pv 0) pe_int rfl)
      (pss_cons (ps_fld (pv 0) (pe_op op_rep (pe_lst (pa_cons pe_int pa_nil)) (pv 2)) rfl)
      (pss_cons (ps_fld (pv 0) (pe_op op_rep (pe_lst (pa_cons pe_int pa_nil)) (pv 2)) rfl)
      (pss_cons (ps_fld (pv 0) (pe_op op_rep (pe_lst (pa_cons pe_int pa_nil)) (pv 2)) rfl)
      (pss_one (ps_fld (pv 0) pe_int rfl)))))))), ?_⟩
  walk_at "go"
  refine ⟨p, C, dx, _, rfl, hp, S.cl, S.n1, (by show 0 < 1000; decide), ?_⟩
  have g1 := upd_same (H := H) (a := p) (o := HO.ins C dx (putF "_kind" (V.str kd) []))
  have b1 := But.put (H := H) (p := p) (o := HO.ins C dx (putF "_kind" (V.str kd) []))
  show _
  generalize upd H p (HO.ins C dx (putF "_kind" (V.str kd) [])) = H1 at *
  walk_at "go"
  refine ⟨p, C, dx, _, rfl, g1, S.cl, S.n2, (by show 1 < 1000; decide), ?_⟩
  have g2 := upd_same (H := H1) (a := p) (o := HO.ins C dx (putF "_frames" (V.int n) (putF "_kind" (V.str kd) [])))
  have b2 := b1.trans (But.put (H := H1) (p := p) (o := HO.ins C dx (putF "_frames" (V.int n) (putF "_kind" (V.str kd) []))))
  show _
  generalize upd H1 p (HO.ins C dx (putF "_frames" (V.int n) (putF "_kind" (V.str kd) []))) = H2 at *
  walk_at "go"
  refine ⟨p, C, dx, _, rfl, g2, S.cl, S.n3, (by show 2 < 1000; decide), ?_⟩
  have g3 := upd_same (H := H2) (a := p) (o := HO.ins C dx (putF "_calls" (V.int 0) (putF "_frames" (V.int n) (putF "_kind" (V.str kd) []))))
  have b3 := b2.trans (But.put (H := H2) (p := p) (o := HO.ins C dx (putF "_calls" (V.int 0) (putF "_frames" (V.int n) (putF "_kind" (V.str kd) [])))))
  show _
  generalize upd H2 p (HO.ins C dx (putF "_calls" (V.int 0) (putF "_frames" (V.int n) (putF "_kind" (V.str kd) [])))) = H3 at *
  generalize hf3 : (putF "_calls" (V.int 0) (putF "_frames" (V.int n) (putF "_kind" (V.str kd) []))) = f3 at *
  have l3 : f3.length = 3 := by
    rw [← hf3]
    kernel_rfl
  clear g1 g2 b1 b2
  walk_at "go"
  refine ⟨sz, fun l1 nl1 => ?_⟩
  have s4 := same_upd (o := HO.lst [V.int 0]) nl1
  have gl1 := upd_same (H := H3) (a := l1) (o := HO.lst [V.int 0])
  generalize upd H3 l1 (HO.lst [V.int 0]) = H4 at *
  walk_at "go"
  refine ⟨l1, n, [V.int 0], rfl, rfl, gl1, by omega, by omega, (by rw [Int.toNat_natCast, List.length_singleton, sizeLine_eq]; omega), fun fa nfa => ?_⟩
  rw [Int.toNat_natCast, rep_ints]
  have s5 := s4.trans (same_upd (o := HO.lst ((List.replicate n (0 : Int)).map V.int)) nfa)
  have nfa3 := s4.free nfa
  have gfa := upd_same (H := H4) (a := fa) (o := HO.lst ((List.replicate n (0 : Int)).map V.int))
  generalize upd H4 fa (HO.lst ((List.replicate n (0 : Int)).map V.int)) = H5 at *
  have g5 := s5 _ _ g3
  have b5 := b3.trans (Same.one (p := p) s5)
  have npf := ins_lst g5 gfa
  have nfa0 : H fa = none := by
    cases e : H fa with
    | none => rfl
    | some o =>
      have := b3 fa o npf.symm e
      rw [nfa3] at this
      cases this
  clear s4 gl1 nfa nfa3 nl1
  walk_at "go"
  refine ⟨p, C, dx, _, rfl, g5, S.cl, S.n4, (by rw [l3]; decide), ?_⟩
  have g6 := upd_same (H := H5) (a := p) (o := HO.ins C dx (putF "_fill_calls" (V.ref fa) f3))
  have b6 := b5.trans (But.put (H := H5) (p := p) (o := HO.ins C dx (putF "_fill_calls" (V.ref fa) f3)))
  have gfa6 : (upd H5 p (HO.ins C dx (putF "_fill_calls" (V.ref fa) f3))) fa = some (.lst ((List.replicate n (0 : Int)).map V.int)) := by
    rw [upd_ne npf.symm]
    exact gfa
  show _
  generalize upd H5 p (HO.ins C dx (putF "_fill_calls" (V.ref fa) f3)) = H6 at *
  generalize hf4 : putF "_fill_calls" (V.ref fa) f3 = f4 at *
  have l4 : f4.length = 4 := by
    rw [← hf4, ← hf3]
    kernel_rfl
  clear g3 g5 gfa b3 b5
  walk_at "go"
  refine ⟨sz, fun l2 nl2 => ?_⟩
  have s7 := same_upd (o := HO.lst [V.int 0]) nl2
  have gl2 := upd_same (H := H6) (a := l2) (o := HO.lst [V.int 0])
  generalize upd H6 l2 (HO.lst [V.int 0]) = H7 at *
  walk_at "go"
  refine ⟨l2, n, [V.int 0], rfl, rfl, gl2, by omega, by omega, (by rw [Int.toNat_natCast, List.length_singleton, sizeLine_eq]; omega), fun ua nua => ?_⟩
  rw [Int.toNat_natCast, rep_ints]
  have s8 := s7.trans (same_upd (o := HO.lst ((List.replicate n (0 : Int)).map V.int)) nua)
  have nua6 := s7.free nua
  have gua := upd_same (H := H7) (a := ua) (o := HO.lst ((List.replicate n (0 : Int)).map V.int))
  generalize upd H7 ua (HO.lst ((List.replicate n (0 : Int)).map V.int)) = H8 at *
  have g8 := s8 _ _ g6
  have gfa8 := s8 _ _ gfa6
  have nfu : fa ≠ ua := ne_of_none gfa6 nua6
  have b8 := b6.trans (Same.one (p := p) s8)
  have npu := ins_lst g8 gua
  have nua0 : H ua = none := by
    cases e : H ua with
    | none => rfl
    | some o =>
      have := b6 ua o npu.symm e
      rw [nua6] at this
      cases this
  clear s7 gl2 nua nua6 nl2
  walk_at "go"
  refine ⟨p, C, dx, _, rfl, g8, S.cl, S.n5, (by rw [l4]; decide), ?_⟩
  have g9 := upd_same (H := H8) (a := p) (o := HO.ins C dx (putF "_use_calls" (V.ref ua) f4))
  have b9 := b8.trans (But.put (H := H8) (p := p) (o := HO.ins C dx (putF "_use_calls" (V.ref ua) f4)))
  have gfa9 : (upd H8 p (HO.ins C dx (putF "_use_calls" (V.ref ua) f4))) fa = some (.lst ((List.replicate n (0 : Int)).map V.int)) := by
    rw [upd_ne npf.symm]
    exact gfa8
  have gua9 : (upd H8 p (HO.ins C dx (putF "_use_calls" (V.ref ua) f4))) ua = some (.lst ((List.replicate n (0 : Int)).map V.int)) := by
    rw [upd_ne npu.symm]
    exact gua
  show _
  generalize upd H8 p (HO.ins C dx (putF "_use_calls" (V.ref ua) f4)) = H9 at *
  generalize hf5 : putF "_use_calls" (V.ref ua) f4 = f5 at *
  have l5 : f5.length = 5 := by
    rw [← hf5, ← hf4, ← hf3]
    kernel_rfl
  clear g6 g8 gfa8 gfa6 gua b6 b8
  walk_at "go"
  refine ⟨sz, fun l2 nl2 => ?_⟩
  have s10 := same_upd (o := HO.lst [V.int 0]) nl2
  have gl2 := upd_same (H := H9) (a := l2) (o := HO.lst [V.int 0])
  generalize upd H9 l2 (HO.lst [V.int 0]) = H10 at *
  walk_at "go"
  refine ⟨l2, n, [V.int 0], rfl, rfl, gl2, by omega, by omega, (by rw [Int.toNat_natCast, List.length_singleton, sizeLine_eq]; omega), fun ba nba => ?_⟩
  rw [Int.toNat_natCast, rep_ints]
  have s11 := s10.trans (same_upd (o := HO.lst ((List.replicate n (0 : Int)).map V.int)) nba)
  have nba9 := s10.free nba
  have gba := upd_same (H := H10) (a := ba) (o := HO.lst ((List.replicate n (0 : Int)).map V.int))
  generalize upd H10 ba (HO.lst ((List.replicate n (0 : Int)).map V.int)) = H11 at *
  have g11 := s11 _ _ g9
  have gfa11 := s11 _ _ gfa9
  have gua11 := s11 _ _ gua9
  have nfb : fa ≠ ba := ne_of_none gfa9 nba9
  have nub : ua ≠ ba := ne_of_none gua9 nba9
  have b11 := b9.trans (Same.one (p := p) s11)
  have npb := ins_lst g11 gba
  have nba0 : H ba = none := by
    cases e : H ba with
    | none => rfl
    | some o =>
      have := b9 ba o npb.symm e
      rw [nba9] at this
      cases this
  clear s10 gl2 nba nba9 nl2
  walk_at "go"
  refine ⟨p, C, dx, _, rfl, g11, S.cl, S.n6, (by rw [l5]; decide), ?_⟩
  have g12 := upd_same (H := H11) (a := p) (o := HO.ins C dx (putF "_bits" (V.ref ba) f5))
  have b12 := b11.trans (But.put (H := H11) (p := p) (o := HO.ins C dx (putF "_bits" (V.ref ba) f5)))
  have gfa12 : (upd H11 p (HO.ins C dx (putF "_bits" (V.ref ba) f5))) fa = some (.lst ((List.replicate n (0 : Int)).map V.int)) := by
    rw [upd_ne npf.symm]
    exact gfa11
  have gua12 : (upd H11 p (HO.ins C dx (putF "_bits" (V.ref ba) f5))) ua = some (.lst ((List.replicate n (0 : Int)).map V.int)) := by
    rw [upd_ne npu.symm]
    exact gua11
  have gba12 : (upd H11 p (HO.ins C dx (putF "_bits" (V.ref ba) f5))) ba = some (.lst ((List.replicate n (0 : Int)).map V.int)) := by
    rw [upd_ne npb.symm]
    exact gba
  show _
  generalize upd H11 p (HO.ins C dx (putF "_bits" (V.ref ba) f5)) = H12 at *
  generalize hf6 : putF "_bits" (V.ref ba) f5 = f6 at *
  have l6 : f6.length = 6 := by
    rw [← hf6, ← hf5, ← hf4, ← hf3]
    kernel_rfl
  walk_at "go"
  refine ⟨p, C, dx, _, rfl, g12, S.cl, S.n7, (by rw [l6]; decide), ?_⟩
  have ef : putF "_hand" (V.int 0) f6 = chF kd n 0 fa ua ba 0 := by
    rw [← hf6, ← hf5, ← hf4, ← hf3]
    exact ch_make
  rw [ef]
  have rl : (List.replicate n (0 : Int)).length = n := List.length_replicate
  exact q fa ua ba _ ⟨upd_same, by rw [upd_ne npf.symm]; exact gfa12, by rw [upd_ne npu.symm]; exact gua12, by rw [upd_ne npb.symm]; exact gba12, ⟨nfu, nfb, nub⟩, rl, rl, rl⟩ nfa0 nua0 nba0 (b12.trans But.put)
end

end

section

-- a condition of an operator
local macro_rules | `(tactic| walk_at "cond") => `(tactic| first
  | (show (0 : Int) < _; omega)
  | (show CDiv _ _; constructor <;> (first | decide | omega))
  | (show CMul _ _; first | (refine cmul_l ?_; constructor <;> (first | decide | omega)) | (refine cmul_r ?_; constructor <;> (first | decide | omega)))
  | (show CPow _ _; exact (by refine ⟨by decide, by decide, by decide⟩))
  | (show CDivW _ _; exact ⟨by decide, by decide +kernel⟩))
local macro_rules | `(tactic| walk_at "sq") => `(tactic| first | assumption | exact Dh.mono (same_upd (by assumption)) _ _ (by assumption) | exact .inl (.inl (.inl (by assumption))) | exact .inr (.inl (.inl (by assumption))) | exact SqL.of (by assumption) | exact .inl (by assumption) | exact .inl (SqL.of (by assumption)) | exact SqT.of (by assumption) | exact .inr (SqT.of (by assumption)))
local macro_rules | `(tactic| walk_at "st") => `(tactic| first
  | refine ⟨_, rfl, ?_⟩
  | refine ⟨_, _, rfl, rfl, ?_⟩
  | refine .inl ⟨_, rfl, ?_⟩
  | refine ⟨rfl, ?_⟩
  | refine ⟨_, _, rfl, by walk_at "sq", ?_⟩
  | refine ⟨.inl ⟨rfl, _, SqL.of (by assumption)⟩, ?_⟩
  | refine ⟨by walk_at "cond", ?_⟩
  | (refine' ifBT ?hh ?_; (case hh => first | rfl | assumption))
  | (refine' ifBF ?hh ?_; (case hh => first | rfl | assumption)))
local macro_rules | `(tactic| walk_at "go") => `(tactic| repeat walk_at "st")
local macro_rules | `(tactic| walk_at "yes") => `(tactic| (refine' ifT ?hh ?_; (case hh => first | rfl | decide +kernel)))
local macro_rules | `(tactic| walk_at "no") => `(tactic| (refine' ifF ?hh ?_; (case hh => first | decide +kernel | (intro z; cases z; done))))

/-! ### Chooser._choose_by_hand -/
section
variable {P : Program} {w : World} {K : PySem.W.Frag} {mg : Str → Option Value} {base : Heap} {C : Addr}
theorem ok_hand {f : Addr} {fd : FuncData} (F : C8.Fun K "_choose_by_hand" "Chooser._choose_by_hand" s_Chooser__choose_by_hand f fd) (M : Meth K C "_choose_by_hand" f) (b : Binds K fd ["self", "allowed"] []) (S : STxt K mg C) : C8.Met P w K mg base 1 C "_choose_by_hand" (spHunt C false) [] := by
  refine C8.met0 S.cl M F b sc_Chooser__choose_by_hand (fun vs H Q E h => ?_) (fun cdv A outer s H vs Q E hr h => ?_)
  · obtain ⟨p, fa, ua, ba, dx, al, kd, n, k, calls, hand, fr, hand2, fl, us, bits, bits2, als, rfl, _⟩ := h
    rfl
  obtain ⟨p, fa, ua, ba, dx, al, kd, n, k, calls, hand, fr, hand2, fl, us, bits, bits2, als, rfl, hc, _, ga, nab, n1, n2, hal, h0, h1, hh, q⟩ := h
  refine ⟨_, (pss_one (ps_mk (ps_while PassesOwn.never (pt_val pe_bl)
      (pss_cons (ps_set (i := 2) sc_Chooser__choose_by_hand.nd rfl (.inl rfl) (pe_fld (pv 0) rfl))
      (pss_cons (ps_fld (pv 0) (pe_op op_mod (pe_op op_add (pv 2) pe_int) (pe_fld (pv 0) rfl)) rfl)
      (pss_one (ps_mk (ps_if (pt_cmpR (inQ K rfl) (pv 2) (pv 1) (by rfl))
      (pss_cons (ps_mk (ps_if (pt_cmpR op_eq (pe_ix (ixL K rfl) (pe_fld (pv 0) rfl) (pv 2) (fun _ _ => rfl)) pe_int (nomark _))
      (pss_one (ps_ret (pv 2)))
      pss_nil))
      (pss_one (ps_asg pe_int (pg_sub (pe_fld (pv 0) rfl) (pv 2) set_list))))
      pss_nil)))))))), ?_⟩
  have nal : al ∉ [p, ba] := by
    intro z
    rcases List.mem_cons.mp z with e | z
    · exact ins_lst hc.g ga e.symm
    · exact nab (List.mem_singleton.mp z)
  refine un ?_
  refine ⟨fun m σ H' => Ob (ButL [p, ba] H H' ∧ ∃ (hand : Int) (bits : List Int) (y2 : Option V), ChAt C H' p fa ua ba dx kd n calls hand fl us bits ∧ 0 ≤ hand ∧ hand < n ∧ hunt als n m bits hand = some (fr, bits2, hand2) ∧ σ = [sR p, sR al, y2]), ⟨k, ob ⟨ButL.refl, hand, bits, none, hc, h0, h1, hh, rfl⟩⟩, ?_⟩
  clear hc h0 h1 hh hand bits
  intro m σ H1 h
  obtain ⟨b1, hand, bits, y2, hc, h0, h1, hh, rfl⟩ := unob h
  clear h
  obtain ⟨m, rfl⟩ : ∃ m', m = m' + 1 := by
    cases m with
    | zero => cases hh
    | succ m => exact ⟨m, rfl⟩
  have npb := ins_lst hc.g hc.b
  have npf := ins_lst hc.g hc.f
  have npu := ins_lst hc.g hc.u
  have hn := hand_ok (hand := hand) n1
  walk_at "go"
  refine ⟨_, fun _ _ z => z, ?_⟩
  walk_at "go"
  refine ⟨_, _, _, _, _, rfl, hc.g, S.cl, S.n7, ch_hand, ?_⟩
  walk_at "go"
  refine ⟨_, _, _, _, _, rfl, hc.g, S.cl, S.n2, ch_frames, ?_⟩
  have n0 : (0 : Int) < n := by omega
  walk_at "go"
  refine ⟨p, C, dx, _, rfl, hc.g, S.cl, S.n7, (by show 7 < 1000; decide), ?_⟩
  rw [ch_phand]
  have h1' : ChAt C (upd H1 p (HO.ins C dx (chF kd n calls fa ua ba ((hand + 1) % n)))) p fa ua ba dx kd n calls ((hand + 1) % n) fl us bits := ⟨upd_same, by rw [upd_ne npf.symm]; exact hc.f, by rw [upd_ne npu.symm]; exact hc.u, by rw [upd_ne npb.symm]; exact hc.b, hc.nd, hc.lf, hc.lu, hc.lb⟩
  have b2 := b1.trans (ButL.put (l := [p, ba]) (H := H1) (p := p) (o := HO.ins C dx (chF kd n calls fa ua ba ((hand + 1) % n))) List.mem_cons_self)
  show _
  generalize upd H1 p (HO.ins C dx (chF kd n calls fa ua ba ((hand + 1) % n))) = H2 at *
  clear hc b1
  have ga2 := b2 _ _ nal ga
  unfold hunt at hh
  refine un ?_
  walk_at "go"
  refine ⟨flat_ints _, ?_⟩
  rw [inV_ints]
  walk_at "go"
  refine ifD (fun c => ?_) (fun c => ?_)
  · rw [if_pos c] at hh
    have hb := hal hand c
    have ab : atI (bits.map V.int) hand = some (.int (bits.getD hand.toNat 0)) := atI_getD h0 (by rw [h1'.lb]; exact h1)
    walk_at "go"
    refine jnS (M := fun σ H' => bits.getD hand.toNat 0 ≠ 0 ∧ H' = H2 ∧ σ = [sR p, sR al, sI hand]) ?_ (fun N2 k2 => ?_)
    rotate_left
    · walk_at "go"
      refine ⟨_, _, _, _, _, rfl, h1'.g, S.cl, S.n6, ch_bits, ?_⟩
      walk_at "go"
      refine ⟨_, _, _, _, rfl, rfl, SqL.of h1'.b, ab, ?_⟩
      walk_at "go"
      refine ifEq (fun c2 => ?_) (fun c2 => ?_)
      · rw [if_pos c2] at hh
        cases hh
        walk_at "go"
        exact q _ h1' b2
      · exact k2 _ _ ⟨c2, rfl, rfl⟩
    rintro σ H3 ⟨c2, e3, rfl⟩
    subst e3
    rw [if_neg c2] at hh
    walk_at "go"
    refine ⟨_, _, _, _, _, rfl, h1'.g, S.cl, S.n6, ch_bits, ?_⟩
    walk_at "go"
    refine ⟨ba, _, hand, _, rfl, rfl, h1'.b, ix_ok h0 (by rw [List.length_map, h1'.lb]; exact h1), ?_⟩
    rw [set_ints]
    refine ⟨m, Nat.lt_succ_self _, ob ⟨b2.trans (ButL.put (by simp)), _, bits.set hand.toNat 0, _, ⟨by rw [upd_ne npb]; exact h1'.g, by rw [upd_ne h1'.nd.2.1]; exact h1'.f, by rw [upd_ne h1'.nd.2.2]; exact h1'.u, upd_same, h1'.nd, h1'.lf, h1'.lu, by rw [List.length_set]; exact h1'.lb⟩, hn.1, hn.2, hh, rfl⟩⟩
  · rw [if_neg c] at hh
    exact ⟨m, Nat.lt_succ_self _, ob ⟨b2, _, bits, _, h1', hn.1, hn.2, hh, rfl⟩⟩
end

end

section

-- a condition of an operator
local macro_rules | `(tactic| walk_at "cond") => `(tactic| first
  | (show (0 : Int) < _; omega)
  | (show CDiv _ _; constructor <;> (first | decide | omega))
  | (show CMul _ _; first | (refine cmul_l ?_; constructor <;> (first | decide | omega)) | (refine cmul_r ?_; constructor <;> (first | decide | omega)))
  | (show CPow _ _; exact (by refine ⟨by decide, by decide, by decide⟩))
  | (show CDivW _ _; exact ⟨by decide, by decide +kernel⟩))
local macro_rules | `(tactic| walk_at "sq") => `(tactic| first | assumption | exact Dh.mono (same_upd (by assumption)) _ _ (by assumption) | exact .inl (.inl (.inl (by assumption))) | exact .inr (.inl (.inl (by assumption))) | exact SqL.of (by assumption) | exact .inl (by assumption) | exact .inl (SqL.of (by assumption)) | exact SqT.of (by assumption) | exact .inr (SqT.of (by assumption)))
local macro_rules | `(tactic| walk_at "st") => `(tactic| first
  | refine ⟨_, rfl, ?_⟩
  | refine ⟨_, _, rfl, rfl, ?_⟩
  | refine .inl ⟨_, rfl, ?_⟩
  | refine ⟨rfl, ?_⟩
  | refine ⟨_, _, rfl, by walk_at "sq", ?_⟩
  | refine ⟨.inl ⟨rfl, _, SqL.of (by assumption)⟩, ?_⟩
  | refine ⟨by walk_at "cond", ?_⟩
  | (refine' ifBT ?hh ?_; (case hh => first | rfl | assumption))
  | (refine' ifBF ?hh ?_; (case hh => first | rfl | assumption)))
local macro_rules | `(tactic| walk_at "go") => `(tactic| repeat walk_at "st")
local macro_rules | `(tactic| walk_at "yes") => `(tactic| (refine' ifT ?hh ?_; (case hh => first | rfl | decide +kernel)))
local macro_rules | `(tactic| walk_at "no") => `(tactic| (refine' ifF ?hh ?_; (case hh => first | decide +kernel | (intro z; cases z; done))))

/-! ### Chooser.choose, of all kinds -/
/-- a method whose code object is known -/
theorem metC {P : Program} {w : World} {K : PySem.W.Frag} {mg : Str → Option Value} {base : Heap} {m qual : Str} {C f c : Addr} {st : Stmt} {fd : FuncData} {N ps : List Str} {k : Nat} {sp : Sp} (cl : Cls K C) (me : Meth K C m f)
    (F : ∃ (oc : Value) (od : Option Addr) (dV kV doc pm : Value) (an : Option Addr) (ct : Value) (osl : Array (Option Value)), fd = PySem.W.fnOf m qual (C8.fnArgs st) (C8.fnBody st) (C8.fnScope st) dV kV doc pm an (.ref c) ct ∧ K.lookup f = some ⟨oc, od, .func fd, osl⟩ ∧ PySem.W.codeIn K (.ref c) qual = true)
    (b : Binds K fd ps []) (S : FnScope N ps (C8.fnScope st)) (len : ∀ vs H Q E, sp vs H Q E → vs.length = ps.length)
    (hbody : ∀ (A : Around) (outer : List Env) (s : Shared) (H : Hp) (vs : List V) (Q : VK) (E : XK), Room k (A.deeper (envOfC qual (C8.fnScope st) s.heap.objs.size f (.ref c))) → sp vs H Q E →
      ∃ t, PSs (cxOf C8.CX0 P w K mg base N qual (C8.fnScope st) f (.ref c) A outer s H E).nox (C8.fnBody st) t ∧ t { nx := fun _ H' => Q .non H', rt := Q } (L2.start N vs) H) : C8.Met P w K mg base (k + 1) C m sp [] := by
  obtain ⟨oc, od, dV, kV, doc, pm, an, ct, osl, rfl, lk, hcd⟩ := F
  refine ⟨f, _, ps, [], cl, me, fn_of lk hcd S len fun A outer s H vs Q E hr hsp => ?_, b, .nil⟩
  obtain ⟨t, h, q⟩ := hbody A outer s H vs Q E hr hsp
  exact ⟨t, h.nox, q⟩
def lam1B (sc scope : Scope) (a : Str) : Bool := decide (scope.kind = .function) && !scope.isCoroutine && !scope.isGenerator && decide (scope.names.lookup a = some .local) && scope.names.all fun y => (!decide (y.2 = .local) || decide (y.1 = a)) && !decide (y.2 = .cell) && (!decide (y.2 = .free) || decide (sc.names.lookup y.1 = some .cell) || decide (sc.names.lookup y.1 = some .free))
theorem lam1_by {sc scope : Scope} {a : Str} (h : lam1B sc scope a = true) : Lam1 sc scope a := by
  unfold lam1B at h
  simp only [Bool.and_eq_true, Bool.or_eq_true, Bool.not_eq_true', decide_eq_true_eq, decide_eq_false_iff_not, List.all_eq_true] at h
  obtain ⟨⟨⟨⟨h1, h2⟩, h3⟩, h4⟩, h5⟩ := h
  refine ⟨h1, h2, h3, h4, fun y hy => ⟨fun e => ((h5 y hy).1.1).elim (fun n => absurd e n) id, (h5 y hy).1.2⟩, fun y hy e => ?_⟩
  rcases (h5 y hy).2 with (z | z) | z
  · exact absurd e z
  · exact .inl z
  · exact .inr z
theorem ch_na : ("frame" : Str) ∉ (["self", "allowed"] : List Str) := by decide +kernel
def chQ : Str := ("Chooser.choose" : Str) ++ ".<locals>." ++ "<lambda>"
def chT (P : Addr) : List (Addr × Str) := [(P, chQ)]
theorem ch_mem {q : Str} (P : Addr) (h : q = chQ := by kernel_rfl) : (P, q) ∈ chT P := List.mem_singleton.mpr (by rw [h])
theorem ch_all {q : Str} (P : Addr) (h : q = chQ := by kernel_rfl) : ∀ p ∈ chT P, p.1 = P → p.2 = q := fun p hp _ => by
  rw [List.mem_singleton.mp hp, h]
theorem getD_memI {xs : List Int} {i : Nat} (h : i < xs.length) : xs.getD i 0 ∈ xs := by
  rw [List.getD_eq_getElem?_getD, List.getElem?_eq_getElem h]
  exact List.getElem_mem h
theorem getD_of_mem {xs : List Int} {x : Int} (h : x ∈ xs) : ∃ j, j < xs.length ∧ xs.getD j 0 = x := by
  obtain ⟨j, hj, e⟩ := List.getElem_of_mem h
  exact ⟨j, hj, by rw [List.getD_eq_getElem?_getD, List.getElem?_eq_getElem hj]; exact e⟩
def ageOk (kd : Str) (fl us als : List Int) (fr : Int) : Prop := (kd = "lru" → ∀ x ∈ als, us.getD fr.toNat 0 ≤ us.getD x.toNat 0) ∧ (kd = "fifo" → ∀ x ∈ als, fl.getD fr.toNat 0 ≤ fl.getD x.toNat 0) ∧ (kd = "newest" → ∀ x ∈ als, fl.getD x.toNat 0 ≤ fl.getD fr.toNat 0)
def ChsR (kd : Str) (n : Nat) (hand : Int) (bits fl us als : List Int) (fr hand' : Int) (bits' : List Int) : Prop := (kd = ("clock" : Str) ∧ hunt als n (2 * n) bits hand = some (fr, bits', hand')) ∨ (kd ≠ ("clock" : Str) ∧ fr ∈ als ∧ ageOk kd fl us als fr ∧ hand' = hand ∧ bits' = bits)
def K4 (kd : Str) : Prop := kd = ("lru" : Str) ∨ kd = ("fifo" : Str) ∨ kd = ("newest" : Str) ∨ kd = ("clock" : Str)
def ButT (l : List Addr) (H H' : Hp) : Prop := ∀ b o, b ∉ l → (∀ ps, o ≠ .tbl ps) → H b = some o → H' b = some o
theorem ButL.t {l : List Addr} {H H' : Hp} (b : ButL l H H') : ButT l H H' := fun c o n _ e => b c o n e
theorem extT {l : List Addr} {H H' : Hp} (b : ExtN H H') : ButT l H H' := fun c o _ k e => b c o e k
theorem ButT.refl {l : List Addr} {H : Hp} : ButT l H H := fun _ _ _ _ e => e
theorem ButT.trans {l : List Addr} {H H1 H2 : Hp} (a : ButT l H H1) (b : ButT l H1 H2) : ButT l H H2 := fun c o n k e => b c o n k (a c o n k e)
theorem ButT.mono {l l' : List Addr} {H H1 : Hp} (a : ButT l H H1) (h : ∀ x ∈ l, x ∈ l') : ButT l' H H1 := fun c o n k e => a c o (fun z => n (h c z)) k e
theorem Same.t {l : List Addr} {H H1 : Hp} (s : Same H H1) : ButT l H H1 := fun c o _ _ e => s c o e
def Plain (o : HO) : Prop := (∀ ps, o ≠ .tbl ps) ∧ ∀ φ, o ≠ .ext φ
theorem tabs_but {T : List (Addr × Str)} {H H' : Hp} {l : List Addr} (t : Tabs T H) (b : ButL l H H') (pr : ∀ x ∈ l, ∃ o, H x = some o ∧ Plain o) : Tabs T H' := fun p hp => by
  obtain ⟨ps, h1, h2, h3⟩ := t p hp
  refine ⟨ps, b _ _ (fun z => ?_) h1, h2, fun pos cv hc => ?_⟩
  · obtain ⟨o, e, k⟩ := pr _ z
    rw [h1] at e
    exact k.1 ps (Option.some.inj e).symm
  · obtain ⟨c, e1, e2⟩ := h3 pos cv hc
    refine ⟨c, e1, b _ _ (fun z => ?_) e2⟩
    obtain ⟨o, e, k⟩ := pr _ z
    rw [e2] at e
    exact k.2 _ (Option.some.inj e).symm
def spChs (C PT : Addr) : Sp := fun vs H Q _ => ∃ (p fa ua ba dx al : Addr) (kd : Str) (n : Nat) (calls hand : Int) (fl us bits als : List Int), vs = [.ref p, .ref al] ∧ ChAt C H p fa ua ba dx kd n calls hand fl us bits ∧ K4 kd ∧
  H al = some (.lst (als.map V.int)) ∧ al ≠ ba ∧ 0 < als.length ∧ 1 ≤ n ∧ n ≤ 1000 ∧ 0 ≤ hand ∧ hand < n ∧ (∀ x ∈ als, 0 ≤ x ∧ x < n) ∧ Tabs (chT PT) H ∧ ∀ fr hand' bits' H', ChsR kd n hand bits fl us als fr hand' bits' → ChAt C H' p fa ua ba dx kd n calls hand' fl us bits' → ButT [p, ba] H H' → Tabs (chT PT) H' → Q (.int fr) H'
section
variable {Pr : Program} {w : World} {K : PySem.W.Frag} {mg : Str → Option Value} {base : Heap} {C c P : Addr}
theorem ok_chs {f : Addr} {fd : FuncData} (F : ∃ (oc : Value) (od : Option Addr) (dV kV doc pm : Value) (an : Option Addr) (ct : Value) (osl : Array (Option Value)), fd = PySem.W.fnOf "choose" "Chooser.choose" (C8.fnArgs s_Chooser_choose) (C8.fnBody s_Chooser_choose) (C8.fnScope s_Chooser_choose) dV kV doc pm an (.ref c) ct ∧ K.lookup f = some ⟨oc, od, .func fd, osl⟩ ∧ PySem.W.codeIn K (.ref c) "Chooser.choose" = true)
    (M : Meth K C "choose" f) (b : Binds K fd ["self", "allowed"] []) (S : STxt K mg C) (zmin : mg "min" = none) (zmax : mg "max" = none) (TB : TabB base mg c P) (m_hand : C8.Met Pr w K mg base 1 C "_choose_by_hand" (spHunt C false) []) : C8.Met Pr w K mg base 3 C "choose" (spChs C P) [] := by
  refine metC S.cl M F b sc_Chooser_choose (fun vs H Q E h => ?_) (fun A outer s H vs Q E hr h => ?_)
  · obtain ⟨p, fa, ua, ba, dx, al, kd, n, calls, hand, fl, us, bits, als, rfl, _⟩ := h
    rfl
  obtain ⟨p, fa, ua, ba, dx, al, kd, n, calls, hand, fl, us, bits, als, rfl, hc, hk, ga, nab, l0, n1, n2, h0, h1, hal, hT, q⟩ := h
  refine ⟨_, (pss_cons (ps_mk (ps_if (pt_cmpR op_eq (pe_fld (pv 0) rfl) pe_str (nomark _))
      (pss_one (ps_ret (C8.pe_mt m_hand hr (by omega) (pv 0) (pa_cons (pv 1) pa_nil))))
      pss_nil))
      (pss_cons (ps_mk (ps_if (pt_cmpR op_eq (pe_fld (pv 0) rfl) pe_str (nomark _))
      (pss_one (ps_ret (pe_keymin (a := "frame") (tb := tOp (rIxL K) (tFld K (tVar 0) "_use_calls") (tVar 2)) (by rfl) zmin TB rfl (ch_mem P) (ch_all P) hr (lam1_by (by kernel_rfl)) ch_na ⟨rfl, rfl⟩ rfl (fun _ _ _ _ _ _ => rfl) (pa_cons (pv 1) pa_nil) (fun s H f c' => pe_ix (ixL K rfl) (pe_fld (pv 0) rfl) (pv 2) (fun _ _ => rfl)))))
      pss_nil))
      (pss_cons (ps_mk (ps_if (pt_cmpR op_eq (pe_fld (pv 0) rfl) pe_str (nomark _))
      (pss_one (ps_ret (pe_keymin (a := "frame") (tb := tOp (rIxL K) (tFld K (tVar 0) "_fill_calls") (tVar 2)) (by rfl) zmin TB rfl (ch_mem P) (ch_all P) hr (lam1_by (by kernel_rfl)) ch_na ⟨rfl, rfl⟩ rfl (fun _ _ _ _ _ _ => rfl) (pa_cons (pv 1) pa_nil) (fun s H f c' => pe_ix (ixL K rfl) (pe_fld (pv 0) rfl) (pv 2) (fun _ _ => rfl)))))
      pss_nil))
      (pss_one (ps_ret (pe_keymax (a := "frame") (tb := tOp (rIxL K) (tFld K (tVar 0) "_fill_calls") (tVar 2)) (by rfl) zmax TB rfl (ch_mem P) (ch_all P) hr (lam1_by (by kernel_rfl)) ch_na ⟨rfl, rfl⟩ rfl (fun _ _ _ _ _ _ => rfl) (pa_cons (pv 1) pa_nil) (fun s H f c' => pe_ix (ixL K rfl) (pe_fld (pv 0) rfl) (pv 2) (fun _ _ => rfl)))))))), ?_⟩
  have npb := ins_lst hc.g hc.b
  refine un ?_
  walk_at "go"
  refine ⟨_, _, _, _, _, rfl, hc.g, S.cl, S.n1, ch_kind, ?_⟩
  walk_at "go"
  refine ifD (fun c0 => ?_) (fun c0 => ?_)
  · have ek := V.str.inj c0
    obtain ⟨⟨fr, bits2, hand2⟩, hh⟩ := hunt_all n1 (getD_memI l0) (hal _ (getD_memI l0)).1 (hal _ (getD_memI l0)).2 (bits := bits) (hand := hand) hc.lb h0 h1
    walk_at "go"
    refine ⟨p, dx, _, rfl, hc.g, ch_no5, ?_⟩
    walk_at "go"
    refine ⟨p, fa, ua, ba, dx, al, kd, n, 2 * n, calls, hand, fr, hand2, fl, us, bits, bits2, als, rfl, hc, fun _ => ek, ga, nab, n1, n2, hal, h0, h1, hh, fun H2 h2 b2 => ?_⟩
    refine q _ _ _ _ (.inl ⟨ek, hh⟩) h2 b2.t (tabs_but hT b2 fun x hx => ?_)
    simp only [List.mem_cons, List.not_mem_nil, or_false] at hx
    rcases hx with rfl | rfl
    · exact ⟨_, hc.g, ⟨fun _ z => (by cases z), fun _ z => (by cases z)⟩⟩
    · exact ⟨_, hc.b, ⟨fun _ z => (by cases z), fun _ z => (by cases z)⟩⟩
  have nk : kd ≠ ("clock" : Str) := fun z => c0 (congrArg V.str z)
  have fin : ∀ fr H2, fr ∈ als → ageOk kd fl us als fr → ExtN H H2 → Tabs (chT P) H2 → Q (.int fr) H2 := fun fr H2 m a e T2 => q fr hand bits H2 (.inr ⟨nk, m, a, rfl, rfl⟩) ⟨e _ _ hc.g (fun _ z => by cases z), e _ _ hc.f (fun _ z => by cases z), e _ _ hc.u (fun _ z => by cases z), e _ _ hc.b (fun _ z => by cases z), hc.nd, hc.lf, hc.lu, hc.lb⟩ (extT e) T2
  walk_at "go"
  refine un ?_
  walk_at "go"
  refine ⟨_, _, _, _, _, rfl, hc.g, S.cl, S.n1, ch_kind, ?_⟩
  walk_at "go"
  refine ifD (fun c1 => ?_) (fun c1 => ?_)
  · have dk := V.str.inj c1
    walk_at "go"
    refine ⟨hT, fun H2 e2 T2 => ⟨al, als, fun i => us.getD (als.getD i 0).toNat 0, rfl, SqL.of (e2 _ _ ga (fun _ z => by cases z)), l0, fun i hi => ?_, fun i hi bst => ?_⟩⟩
    · have hx := hal _ (getD_memI hi)
      have g2 := e2 _ _ hc.g (fun _ z => by cases z)
      have u2 := e2 _ _ hc.u (fun _ z => by cases z)
      have ln := hc.lu
      dsimp only
      generalize als.getD i 0 = x at *
      walk_at "go"
      refine ⟨_, _, _, _, _, rfl, g2, S.cl, S.n5, ch_uses, ?_⟩
      walk_at "go"
      refine ⟨_, _, _, _, rfl, rfl, SqL.of u2, atI_getD hx.1 (by rw [ln]; exact hx.2), ?_⟩
      exact ⟨rfl, rfl⟩
    · exact fin _ H2 (getD_memI hi) ⟨fun _ x hx => by
          obtain ⟨j, hj, ej⟩ := getD_of_mem hx
          rw [← ej]
          exact (bst j hj).1, fun z => absurd (dk.symm.trans z) (by decide +kernel), fun z => absurd (dk.symm.trans z) (by decide +kernel)⟩ e2 T2
  walk_at "go"
  refine un ?_
  walk_at "go"
  refine ⟨_, _, _, _, _, rfl, hc.g, S.cl, S.n1, ch_kind, ?_⟩
  walk_at "go"
  refine ifD (fun c2 => ?_) (fun c2 => ?_)
  · have dk := V.str.inj c2
    walk_at "go"
    refine ⟨hT, fun H2 e2 T2 => ⟨al, als, fun i => fl.getD (als.getD i 0).toNat 0, rfl, SqL.of (e2 _ _ ga (fun _ z => by cases z)), l0, fun i hi => ?_, fun i hi bst => ?_⟩⟩
    · have hx := hal _ (getD_memI hi)
      have g2 := e2 _ _ hc.g (fun _ z => by cases z)
      have u2 := e2 _ _ hc.f (fun _ z => by cases z)
      have ln := hc.lf
      dsimp only
      generalize als.getD i 0 = x at *
      walk_at "go"
      refine ⟨_, _, _, _, _, rfl, g2, S.cl, S.n4, ch_fills, ?_⟩
      walk_at "go"
      refine ⟨_, _, _, _, rfl, rfl, SqL.of u2, atI_getD hx.1 (by rw [ln]; exact hx.2), ?_⟩
      exact ⟨rfl, rfl⟩
    · exact fin _ H2 (getD_memI hi) ⟨fun z => absurd (dk.symm.trans z) (by decide +kernel), fun _ x hx => by
          obtain ⟨j, hj, ej⟩ := getD_of_mem hx
          rw [← ej]
          exact (bst j hj).1, fun z => absurd (dk.symm.trans z) (by decide +kernel)⟩ e2 T2
  have dk : kd = ("newest" : Str) := by
    rcases hk with z | z | z | z
    · exact absurd (congrArg V.str z) c1
    · exact absurd (congrArg V.str z) c2
    · exact z
    · exact absurd z nk
  walk_at "go"
  refine ⟨hT, fun H2 e2 T2 => ⟨al, als, fun i => fl.getD (als.getD i 0).toNat 0, rfl, SqL.of (e2 _ _ ga (fun _ z => by cases z)), l0, fun i hi => ?_, fun i hi bst => ?_⟩⟩
  · have hx := hal _ (getD_memI hi)
    have g2 := e2 _ _ hc.g (fun _ z => by cases z)
    have u2 := e2 _ _ hc.f (fun _ z => by cases z)
    have ln := hc.lf
    dsimp only
    generalize als.getD i 0 = x at *
    walk_at "go"
    refine ⟨_, _, _, _, _, rfl, g2, S.cl, S.n4, ch_fills, ?_⟩
    walk_at "go"
    refine ⟨_, _, _, _, rfl, rfl, SqL.of u2, atI_getD hx.1 (by rw [ln]; exact hx.2), ?_⟩
    exact ⟨rfl, rfl⟩
  · exact fin _ H2 (getD_memI hi) ⟨fun z => absurd (dk.symm.trans z) (by decide +kernel), fun z => absurd (dk.symm.trans z) (by decide +kernel), fun _ x hx => by
        obtain ⟨j, hj, ej⟩ := getD_of_mem hx
        rw [← ej]
        exact (bst j hj).1⟩ e2 T2
end

end

section

-- a condition of an operator
local macro_rules | `(tactic| walk_at "cond") => `(tactic| first
  | (show (0 : Int) < _; omega)
  | (show CDiv _ _; constructor <;> (first | decide | omega))
  | (show CMul _ _; first | (refine cmul_l ?_; constructor <;> (first | decide | omega)) | (refine cmul_r ?_; constructor <;> (first | decide | omega)))
  | (show CPow _ _; exact (by refine ⟨by decide, by decide, by decide⟩))
  | (show CDivW _ _; exact ⟨by decide, by decide +kernel⟩))
local macro_rules | `(tactic| walk_at "sq") => `(tactic| first | assumption | exact Dh.mono (same_upd (by assumption)) _ _ (by assumption) | exact .inl (.inl (.inl (by assumption))) | exact .inr (.inl (.inl (by assumption))) | exact SqL.of (by assumption) | exact .inl (by assumption) | exact .inl (SqL.of (by assumption)) | exact SqT.of (by assumption) | exact .inr (SqT.of (by assumption)))
local macro_rules | `(tactic| walk_at "st") => `(tactic| first
  | refine ⟨_, rfl, ?_⟩
  | refine ⟨_, _, rfl, rfl, ?_⟩
  | refine .inl ⟨_, rfl, ?_⟩
  | refine ⟨rfl, ?_⟩
  | refine ⟨_, _, rfl, by walk_at "sq", ?_⟩
  | refine ⟨.inl ⟨rfl, _, SqL.of (by assumption)⟩, ?_⟩
  | refine ⟨by walk_at "cond", ?_⟩
  | (refine' ifBT ?hh ?_; (case hh => first | rfl | assumption))
  | (refine' ifBF ?hh ?_; (case hh => first | rfl | assumption)))
local macro_rules | `(tactic| walk_at "go") => `(tactic| repeat walk_at "st")
local macro_rules | `(tactic| walk_at "yes") => `(tactic| (refine' ifT ?hh ?_; (case hh => first | rfl | decide +kernel)))
local macro_rules | `(tactic| walk_at "no") => `(tactic| (refine' ifF ?hh ?_; (case hh => first | decide +kernel | (intro z; cases z; done))))

/-! ### the plain chooser: tell -/
abbrev s_chooser_tell : Stmt := topS 10
theorem sc_chooser_tell : FnScope ["_law_plain", "_law_what", "_law_frame"] ["_law_plain", "_law_what", "_law_frame"] (C8.fnScope s_chooser_tell) := C8.fnScope_by (by decide +kernel)
structure PlAt (H : Hp) (d fi us bi fu : Addr) (kd : Str) (n : Nat) (t u : Int) (fis uss bits : List Int) (full : List Bool) : Prop where
  g : H d = some (.dK (pK kd t u fi us bi fu))
  f : H fi = some (.lst (fis.map V.int))
  u : H us = some (.lst (uss.map V.int))
  b : H bi = some (.lst (bits.map V.int))
  l : H fu = some (.lst (full.map V.bl))
  nd : fi ≠ us ∧ fi ≠ bi ∧ fi ≠ fu ∧ us ≠ bi ∧ us ≠ fu ∧ bi ≠ fu
  lf : fis.length = n
  lu : uss.length = n
  lb : bits.length = n
  ll : full.length = n
theorem dk_lst {H : Hp} {p q : Addr} {kvs : List (Key × V)} {xs : List V} (h : H p = some (.dK kvs)) (h2 : H q = some (.lst xs)) : p ≠ q := fun e => by
  rw [e, h2] at h
  cases h
theorem set_bls (ns : List Bool) (i : Nat) (v : Bool) : (ns.map V.bl).set i (.bl v) = (ns.set i v).map V.bl := by rw [List.map_set]
section
variable {H : Hp} {d fi us bi fu : Addr} {kd : Str} {n : Nat} {t u : Int} {fis uss bits : List Int} {full : List Bool}
theorem PlAt.putD (h : PlAt H d fi us bi fu kd n t u fis uss bits full) (t2 u2 : Int) : PlAt (upd H d (.dK (pK kd t2 u2 fi us bi fu))) d fi us bi fu kd n t2 u2 fis uss bits full :=
  ⟨upd_same, by rw [upd_ne (dk_lst h.g h.f).symm]; exact h.f, by rw [upd_ne (dk_lst h.g h.u).symm]; exact h.u, by rw [upd_ne (dk_lst h.g h.b).symm]; exact h.b, by rw [upd_ne (dk_lst h.g h.l).symm]; exact h.l, h.nd, h.lf, h.lu, h.lb, h.ll⟩
theorem PlAt.putF (h : PlAt H d fi us bi fu kd n t u fis uss bits full) {xs : List Int} (l : xs.length = n) : PlAt (upd H fi (.lst (xs.map V.int))) d fi us bi fu kd n t u xs uss bits full :=
  ⟨by rw [upd_ne (dk_lst h.g h.f)]; exact h.g, upd_same, by rw [upd_ne h.nd.1.symm]; exact h.u, by rw [upd_ne h.nd.2.1.symm]; exact h.b, by rw [upd_ne h.nd.2.2.1.symm]; exact h.l, h.nd, l, h.lu, h.lb, h.ll⟩
theorem PlAt.putU (h : PlAt H d fi us bi fu kd n t u fis uss bits full) {xs : List Int} (l : xs.length = n) : PlAt (upd H us (.lst (xs.map V.int))) d fi us bi fu kd n t u fis xs bits full :=
  ⟨by rw [upd_ne (dk_lst h.g h.u)]; exact h.g, by rw [upd_ne h.nd.1]; exact h.f, upd_same, by rw [upd_ne h.nd.2.2.2.1.symm]; exact h.b, by rw [upd_ne h.nd.2.2.2.2.1.symm]; exact h.l, h.nd, h.lf, l, h.lb, h.ll⟩
theorem PlAt.putB (h : PlAt H d fi us bi fu kd n t u fis uss bits full) {xs : List Int} (l : xs.length = n) : PlAt (upd H bi (.lst (xs.map V.int))) d fi us bi fu kd n t u fis uss xs full :=
  ⟨by rw [upd_ne (dk_lst h.g h.b)]; exact h.g, by rw [upd_ne h.nd.2.1]; exact h.f, by rw [upd_ne h.nd.2.2.2.1]; exact h.u, upd_same, by rw [upd_ne h.nd.2.2.2.2.2.symm]; exact h.l, h.nd, h.lf, h.lu, l, h.ll⟩
theorem PlAt.putL (h : PlAt H d fi us bi fu kd n t u fis uss bits full) {xs : List Bool} (l : xs.length = n) : PlAt (upd H fu (.lst (xs.map V.bl))) d fi us bi fu kd n t u fis uss bits xs :=
  ⟨by rw [upd_ne (dk_lst h.g h.l)]; exact h.g, by rw [upd_ne h.nd.2.2.1]; exact h.f, by rw [upd_ne h.nd.2.2.2.2.1]; exact h.u, by rw [upd_ne h.nd.2.2.2.2.2]; exact h.b, upd_same, h.nd, h.lf, h.lu, h.lb, l⟩
theorem PlAt.but {l : List Addr} {H' : Hp} (h : PlAt H d fi us bi fu kd n t u fis uss bits full) (s : ButL l H H') (hd : d ∉ l) (h1 : fi ∉ l) (h2 : us ∉ l) (h3 : bi ∉ l) (h4 : fu ∉ l) : PlAt H' d fi us bi fu kd n t u fis uss bits full :=
  ⟨s _ _ hd h.g, s _ _ h1 h.f, s _ _ h2 h.u, s _ _ h3 h.b, s _ _ h4 h.l, h.nd, h.lf, h.lu, h.lb, h.ll⟩
end
/-- what is told: emptied or not -/
def onB (wh : Str) : Bool := !decide (V.str wh = V.str ("emptied" : Str))
def spTell : Sp := fun vs H Q _ => ∃ (d fi us bi fu : Addr) (kd wh : Str) (n : Nat) (t u fr : Int) (fis uss bits : List Int) (full : List Bool), vs = [.ref d, .str wh, .int fr] ∧ PlAt H d fi us bi fu kd n t u fis uss bits full ∧ 0 ≤ fr ∧ fr < n ∧
  ∀ H', PlAt H' d fi us bi fu kd n (t + 1) u (if wh = ("filled" : Str) then fis.set fr.toNat (t + 1) else fis) (if onB wh = true then uss.set fr.toNat (t + 1) else uss) (bits.set fr.toNat (if onB wh = true then 1 else 0)) (full.set fr.toNat (onB wh)) → ButL [d, fi, us, bi, fu] H H' → Q .non H'
section
variable {P : Program} {w : World} {K : PySem.W.Frag} {mg : Str → Option Value} {base : Heap}
theorem ok_tell {f : Addr} {fd : FuncData} (D : Def K mg "_law_chooser_tell" s_chooser_tell f fd) (b : Binds K fd ["_law_plain", "_law_what", "_law_frame"] []) (T : Txt mg) : Cal P w K mg base 1 "_law_chooser_tell" spTell [] := by
  refine cal0 D b .nil sc_chooser_tell (fun vs H Q E h => ?_) (fun cdv A outer s H vs Q E hr h => ?_)
  · obtain ⟨d, fi, us, bi, fu, kd, wh, n, t, u, fr, fis, uss, bits, full, rfl, _⟩ := h
    rfl
  obtain ⟨d, fi, us, bi, fu, kd, wh, n, t, u, fr, fis, uss, bits, full, rfl, hp, f0, f1, q⟩ := h
  refine ⟨_, (pss_cons (ps_dput (hu_of hr) (pv 0) pe_str (pe_op op_add (pe_dget (hu_of hr) (pv 0) pe_str (fun _ _ => rfl)) pe_int) rfl)
      (pss_cons (ps_asg (pe_cmpR op_ne (pv 1) pe_str (nomark _)) (pg_sub (pe_dget (hu_of hr) (pv 0) pe_str (fun _ _ => rfl)) (pv 2) set_list))
      (pss_cons (ps_asg (pe_callTy call_int1 (by rfl) T.int (by decide +kernel) (pa_cons (pe_cmpR op_ne (pv 1) pe_str (nomark _)) pa_nil)) (pg_sub (pe_dget (hu_of hr) (pv 0) pe_str (fun _ _ => rfl)) (pv 2) set_list))
      (pss_cons (ps_mk (ps_if (pt_cmpR op_ne (pv 1) pe_str (nomark _))
      (pss_one (ps_asg (pe_dget (hu_of hr) (pv 0) pe_str (fun _ _ => rfl)) (pg_sub (pe_dget (hu_of hr) (pv 0) pe_str (fun _ _ => rfl)) (pv 2) set_list)))
      pss_nil))
      (pss_one (ps_mk (ps_if (pt_cmpR op_eq (pv 1) pe_str (nomark _))
      (pss_one (ps_asg (pe_dget (hu_of hr) (pv 0) pe_str (fun _ _ => rfl)) (pg_sub (pe_dget (hu_of hr) (pv 0) pe_str (fun _ _ => rfl)) (pv 2) set_list)))
      pss_nil))))))), ?_⟩
  walk_at "go"
  refine ⟨d, _, rfl, p_time ▸ DGet.k (k := Sum.inr "time") hp.g, ?_⟩
  walk_at "go"
  refine ⟨d, _, rfl, DPut.k (k := Sum.inr "time") hp.g (by show 7 < sizeLine; rw [sizeLine_eq]; decide), ?_⟩
  rw [p_ptime]
  have h1 := hp.putD (t + 1) u
  have b1 := ButL.put (l := [d, fi, us, bi, fu]) (H := H) (p := d) (o := HO.dK (pK kd (t + 1) u fi us bi fu)) (by simp)
  show _
  generalize upd H d (HO.dK (pK kd (t + 1) u fi us bi fu)) = H1 at *
  clear hp
  have eo : (!decide (V.str wh = V.str ("emptied" : Str))) = onB wh := rfl
  walk_at "go"
  refine ⟨d, _, rfl, p_full ▸ DGet.k (k := Sum.inr "full") h1.g, ?_⟩
  walk_at "go"
  rw [eo]
  refine ⟨fu, _, fr, _, rfl, rfl, h1.l, ix_ok f0 (by rw [List.length_map, h1.ll]; exact f1), ?_⟩
  rw [set_bls]
  have h2 := h1.putL (xs := full.set fr.toNat (onB wh)) (by rw [List.length_set]; exact h1.ll)
  have b2 := b1.trans (ButL.put (l := [d, fi, us, bi, fu]) (H := H1) (p := fu) (o := HO.lst ((full.set fr.toNat (onB wh)).map V.bl)) (by simp))
  show _
  generalize upd H1 fu (HO.lst ((full.set fr.toNat (onB wh)).map V.bl)) = H2 at *
  clear h1
  walk_at "go"
  refine .inr ⟨_, rfl, ?_⟩
  walk_at "go"
  refine ⟨d, _, rfl, p_bits ▸ DGet.k (k := Sum.inr "bits") h2.g, ?_⟩
  walk_at "go"
  rw [eo]
  refine ⟨bi, _, fr, _, rfl, rfl, h2.b, ix_ok f0 (by rw [List.length_map, h2.lb]; exact f1), ?_⟩
  rw [set_ints]
  have h3 := h2.putB (xs := bits.set fr.toNat (if onB wh = true then 1 else 0)) (by rw [List.length_set]; exact h2.lb)
  have b3 := b2.trans (ButL.put (l := [d, fi, us, bi, fu]) (H := H2) (p := bi) (o := HO.lst ((bits.set fr.toNat (if onB wh = true then 1 else 0)).map V.int)) (by simp))
  show _
  generalize upd H2 bi (HO.lst ((bits.set fr.toNat (if onB wh = true then 1 else 0)).map V.int)) = H3 at *
  clear h2 b1 b2
  refine jnS (M := fun σ H' => PlAt H' d fi us bi fu kd n (t + 1) u fis (if onB wh = true then uss.set fr.toNat (t + 1) else uss) (bits.set fr.toNat (if onB wh = true then 1 else 0)) (full.set fr.toNat (onB wh)) ∧ ButL [d, fi, us, bi, fu] H H' ∧ σ = [sR d, sS wh, sI fr]) ?_ (fun N kk => ?_)
  rotate_left
  · walk_at "go"
    rw [eo]
    cases ho : onB wh with
    | false =>
      refine ifBF rfl ?_
      rw [ho, if_neg Bool.false_ne_true, if_neg Bool.false_ne_true] at kk
      rw [ho, if_neg Bool.false_ne_true] at h3
      exact kk _ _ ⟨h3, b3, rfl⟩
    | true =>
      refine ifBT rfl ?_
      rw [ho, if_pos rfl, if_pos rfl] at kk
      rw [ho, if_pos rfl] at h3
      walk_at "go"
      refine ⟨d, _, rfl, p_time ▸ DGet.k (k := Sum.inr "time") h3.g, ?_⟩
      walk_at "go"
      refine ⟨d, _, rfl, p_used ▸ DGet.k (k := Sum.inr "used") h3.g, ?_⟩
      walk_at "go"
      refine ⟨us, _, fr, _, rfl, rfl, h3.u, ix_ok f0 (by rw [List.length_map, h3.lu]; exact f1), ?_⟩
      rw [set_ints]
      exact kk _ _ ⟨h3.putU (by rw [List.length_set]; exact h3.lu), b3.trans (ButL.put (by simp)), rfl⟩
  rintro σ H4 ⟨h4, b4, rfl⟩
  clear h3 b3
  refine un ?_
  walk_at "go"
  refine ifD (fun c => ?_) (fun c => ?_)
  · rw [if_pos (V.str.inj c)] at q
    walk_at "go"
    refine ⟨d, _, rfl, p_time ▸ DGet.k (k := Sum.inr "time") h4.g, ?_⟩
    walk_at "go"
    refine ⟨d, _, rfl, p_filled ▸ DGet.k (k := Sum.inr "filled") h4.g, ?_⟩
    walk_at "go"
    refine ⟨fi, _, fr, _, rfl, rfl, h4.f, ix_ok f0 (by rw [List.length_map, h4.lf]; exact f1), ?_⟩
    rw [set_ints]
    exact q _ (h4.putF (by rw [List.length_set]; exact h4.lf)) (b4.trans (ButL.put (by simp)))
  · rw [if_neg (fun z => c (congrArg V.str z))] at q
    exact q _ h4 b4
end

end

section

-- a condition of an operator
local macro_rules | `(tactic| walk_at "cond") => `(tactic| first
  | (show (0 : Int) < _; omega)
  | (show CDiv _ _; constructor <;> (first | decide | omega))
  | (show CMul _ _; first | (refine cmul_l ?_; constructor <;> (first | decide | omega)) | (refine cmul_r ?_; constructor <;> (first | decide | omega)))
  | (show CPow _ _; exact (by refine ⟨by decide, by decide, by decide⟩))
  | (show CDivW _ _; exact ⟨by decide, by decide +kernel⟩))
local macro_rules | `(tactic| walk_at "sq") => `(tactic| first | assumption | exact Dh.mono (same_upd (by assumption)) _ _ (by assumption) | exact .inl (.inl (.inl (by assumption))) | exact .inr (.inl (.inl (by assumption))) | exact SqL.of (by assumption) | exact .inl (by assumption) | exact .inl (SqL.of (by assumption)) | exact SqT.of (by assumption) | exact .inr (SqT.of (by assumption)))
local macro_rules | `(tactic| walk_at "st") => `(tactic| first
  | refine ⟨_, rfl, ?_⟩
  | refine ⟨_, _, rfl, rfl, ?_⟩
  | refine .inl ⟨_, rfl, ?_⟩
  | refine ⟨rfl, ?_⟩
  | refine ⟨_, _, rfl, by walk_at "sq", ?_⟩
  | refine ⟨.inl ⟨rfl, _, SqL.of (by assumption)⟩, ?_⟩
  | refine ⟨by walk_at "cond", ?_⟩
  | (refine' ifBT ?hh ?_; (case hh => first | rfl | assumption))
  | (refine' ifBF ?hh ?_; (case hh => first | rfl | assumption)))
local macro_rules | `(tactic| walk_at "go") => `(tactic| repeat walk_at "st")
local macro_rules | `(tactic| walk_at "yes") => `(tactic| (refine' ifT ?hh ?_; (case hh => first | rfl | decide +kernel)))
local macro_rules | `(tactic| walk_at "no") => `(tactic| (refine' ifF ?hh ?_; (case hh => first | decide +kernel | (intro z; cases z; done))))

/-! ### the plain chooser: new, pick -/
abbrev s_chooser_new : Stmt := topS 9
theorem sc_chooser_new : FnScope ["_law_kind", "_law_many", "_law_k"] ["_law_kind", "_law_many"] (C8.fnScope s_chooser_new) := C8.fnScope_by (by decide +kernel)
def spNew : Sp := fun vs H Q _ => ∃ (kd : Str) (n : Nat), vs = [.str kd, .int n] ∧ n ≤ 1000 ∧
  ∀ d fi us bi fu H', Same H H' → (∀ x ∈ [d, fi, us, bi, fu], H x = none) → PlAt H' d fi us bi fu kd n 0 0 (List.replicate n 0) (List.replicate n 0) (List.replicate n 0) (List.replicate n false) → Q (.ref d) H'
section
variable {P : Program} {w : World} {K : PySem.W.Frag} {mg : Str → Option Value} {base : Heap}
theorem ok_new {f : Addr} {fd : FuncData} (D : Def K mg "_law_chooser_new" s_chooser_new f fd) (b : Binds K fd ["_law_kind", "_law_many"] []) (T : Txt mg) : Cal P w K mg base 1 "_law_chooser_new" spNew [] := by
  refine cal0 D b .nil sc_chooser_new (fun vs H Q E h => ?_) (fun cdv A outer s H vs Q E hr h => ?_)
  · obtain ⟨kd, n, rfl, _⟩ := h
    rfl
  obtain ⟨kd, n, rfl, hn, q⟩ := h
  refine ⟨_, (pss_one (ps_ret (pe_disp (pps_cons pe_str (pv 0) (pps_cons pe_str pe_int (pps_cons pe_str pe_int (pps_cons pe_str (pe_lc (own := [("_law_k", 2)]) (g := gName 2) (tt := tYes) rfl sc_chooser_new.nd (pi_range1 (by rfl) T.range (pa_cons (pv 1) pa_nil)) (blkOk_by (own := [("_law_k", 2)]) (N := ["_law_kind", "_law_many", "_law_k"]) (sc := C8.fnScope s_chooser_new) (by decide +kernel)) (fun _ _ _ _ _ => (pg_name (i := 2) sc_chooser_new.nd rfl (.inl rfl))) (fun _ _ _ _ _ => pts_nil) (fun _ _ _ _ _ => pe_int)) (pps_cons pe_str (pe_lc (own := [("_law_k", 2)]) (g := gName 2) (tt := tYes) rfl sc_chooser_new.nd (pi_range1 (by rfl) T.range (pa_cons (pv 1) pa_nil)) (blkOk_by (own := [("_law_k", 2)]) (N := ["_law_kind", "_law_many", "_law_k"]) (sc := C8.fnScope s_chooser_new) (by decide +kernel)) (fun _ _ _ _ _ => (pg_name (i := 2) sc_chooser_new.nd rfl (.inl rfl))) (fun _ _ _ _ _ => pts_nil) (fun _ _ _ _ _ => pe_int)) (pps_cons pe_str (pe_lc (own := [("_law_k", 2)]) (g := gName 2) (tt := tYes) rfl sc_chooser_new.nd (pi_range1 (by rfl) T.range (pa_cons (pv 1) pa_nil)) (blkOk_by (own := [("_law_k", 2)]) (N := ["_law_kind", "_law_many", "_law_k"]) (sc := C8.fnScope s_chooser_new) (by decide +kernel)) (fun _ _ _ _ _ => (pg_name (i := 2) sc_chooser_new.nd rfl (.inl rfl))) (fun _ _ _ _ _ => pts_nil) (fun _ _ _ _ _ => pe_int)) (pps_cons pe_str (pe_lc (own := [("_law_k", 2)]) (g := gName 2) (tt := tYes) rfl sc_chooser_new.nd (pi_range1 (by rfl) T.range (pa_cons (pv 1) pa_nil)) (blkOk_by (own := [("_law_k", 2)]) (N := ["_law_kind", "_law_many", "_law_k"]) (sc := C8.fnScope s_chooser_new) (by decide +kernel)) (fun _ _ _ _ _ => (pg_name (i := 2) sc_chooser_new.nd rfl (.inl rfl))) (fun _ _ _ _ _ => pts_nil) (fun _ _ _ _ _ => pe_bl)) pps_nil))))))) (by rfl) (by rfl) (fun z => by cases z) (by decide)))), ?_⟩
  intro d nd
  have t0 := same_upd (o := HO.dK []) nd
  have gd := upd_same (H := H) (a := d) (o := HO.dK [])
  generalize upd H d (HO.dK []) = G0 at *
  walk_at "go"
  rw [show ((n : Int)).toNat = n by omega]
  refine ⟨by omega, by omega, fun fi nfi => lc_range (lo := 0) (n := n) (fun j H' => Ob (Same G0 H' ∧ H' fi = some (.lst (List.replicate j (V.int 0))))) (ob ⟨same_upd nfi, upd_same⟩) ?_ ?_⟩
  · intro j H2 hj h
    obtain ⟨s2, g2⟩ := unob h
    refine ⟨rfl, ?_⟩
    walk_at "go"
    refine ⟨_, g2, sz5 (by rw [List.length_replicate]; omega), ob ⟨same_put s2 nfi, ?_⟩⟩
    rw [upd_same, List.replicate_succ']
  intro G1 h
  obtain ⟨tfi, gfi⟩ := unob h
  clear h
  have gd := tfi _ _ gd
  walk_at "go"
  rw [show ((n : Int)).toNat = n by omega]
  refine ⟨by omega, by omega, fun us nus => lc_range (lo := 0) (n := n) (fun j H' => Ob (Same G1 H' ∧ H' us = some (.lst (List.replicate j (V.int 0))))) (ob ⟨same_upd nus, upd_same⟩) ?_ ?_⟩
  · intro j H2 hj h
    obtain ⟨s2, g2⟩ := unob h
    refine ⟨rfl, ?_⟩
    walk_at "go"
    refine ⟨_, g2, sz5 (by rw [List.length_replicate]; omega), ob ⟨same_put s2 nus, ?_⟩⟩
    rw [upd_same, List.replicate_succ']
  intro G2 h
  obtain ⟨tus, gus⟩ := unob h
  clear h
  have ne_fi_us := ne_of_none gfi nus
  have gfi := tus _ _ gfi
  have gd := tus _ _ gd
  walk_at "go"
  rw [show ((n : Int)).toNat = n by omega]
  refine ⟨by omega, by omega, fun bi nbi => lc_range (lo := 0) (n := n) (fun j H' => Ob (Same G2 H' ∧ H' bi = some (.lst (List.replicate j (V.int 0))))) (ob ⟨same_upd nbi, upd_same⟩) ?_ ?_⟩
  · intro j H2 hj h
    obtain ⟨s2, g2⟩ := unob h
    refine ⟨rfl, ?_⟩
    walk_at "go"
    refine ⟨_, g2, sz5 (by rw [List.length_replicate]; omega), ob ⟨same_put s2 nbi, ?_⟩⟩
    rw [upd_same, List.replicate_succ']
  intro G3 h
  obtain ⟨tbi, gbi⟩ := unob h
  clear h
  have ne_fi_bi := ne_of_none gfi nbi
  have gfi := tbi _ _ gfi
  have ne_us_bi := ne_of_none gus nbi
  have gus := tbi _ _ gus
  have gd := tbi _ _ gd
  walk_at "go"
  rw [show ((n : Int)).toNat = n by omega]
  refine ⟨by omega, by omega, fun fu nfu => lc_range (lo := 0) (n := n) (fun j H' => Ob (Same G3 H' ∧ H' fu = some (.lst (List.replicate j (V.bl false))))) (ob ⟨same_upd nfu, upd_same⟩) ?_ ?_⟩
  · intro j H2 hj h
    obtain ⟨s2, g2⟩ := unob h
    refine ⟨rfl, ?_⟩
    walk_at "go"
    refine ⟨_, g2, sz5 (by rw [List.length_replicate]; omega), ob ⟨same_put s2 nfu, ?_⟩⟩
    rw [upd_same, List.replicate_succ']
  intro G4 h
  obtain ⟨tfu, gfu⟩ := unob h
  clear h
  have ne_fi_fu := ne_of_none gfi nfu
  have gfi := tfu _ _ gfi
  have ne_us_fu := ne_of_none gus nfu
  have gus := tfu _ _ gus
  have ne_bi_fu := ne_of_none gbi nfu
  have gbi := tfu _ _ gbi
  have gd := tfu _ _ gd
  walk_at "go"
  refine ⟨gd, pK kd 0 0 fi us bi fu, rfl, (by show 7 ≤ 15; decide), ?_⟩
  rw [p_merge]
  have e1 : ∀ m : Nat, List.replicate m (V.int 0) = (List.replicate m (0 : Int)).map V.int := fun m => by rw [List.map_replicate]
  have e2 : List.replicate n (V.bl false) = (List.replicate n false).map V.bl := by rw [List.map_replicate]
  rw [e1] at gfi gus gbi
  rw [e2] at gfu
  have n1 := dk_lst gd gfi
  have n2 := dk_lst gd gus
  have n3 := dk_lst gd gbi
  have n4 := dk_lst gd gfu
  have rl : ∀ x : Int, (List.replicate n x).length = n := fun x => List.length_replicate
  have s01 := t0.trans tfi
  have s02 := s01.trans tus
  have s03 := s02.trans tbi
  refine q d fi us bi fu _ (same_put (s03.trans tfu) nd) ?_ ⟨upd_same, by rw [upd_ne n1.symm]; exact gfi, by rw [upd_ne n2.symm]; exact gus, by rw [upd_ne n3.symm]; exact gbi, by rw [upd_ne n4.symm]; exact gfu, ?_, rl _, rl _, rl _, List.length_replicate⟩
  · intro x hx
    simp only [List.mem_cons, List.not_mem_nil, or_false] at hx
    rcases hx with rfl | rfl | rfl | rfl | rfl
    · exact nd
    · exact t0.free nfi
    · exact s01.free nus
    · exact s02.free nbi
    · exact s03.free nfu
  · exact ⟨ne_fi_us, ne_fi_bi, ne_fi_fu, ne_us_bi, ne_us_fu, ne_bi_fu⟩
end

end

section

-- a condition of an operator
local macro_rules | `(tactic| walk_at "cond") => `(tactic| first
  | (show (0 : Int) < _; omega)
  | (show CDiv _ _; constructor <;> (first | decide | omega))
  | (show CMul _ _; first | (refine cmul_l ?_; constructor <;> (first | decide | omega)) | (refine cmul_r ?_; constructor <;> (first | decide | omega)))
  | (show CPow _ _; exact (by refine ⟨by decide, by decide, by decide⟩))
  | (show CDivW _ _; exact ⟨by decide, by decide +kernel⟩))
local macro_rules | `(tactic| walk_at "sq") => `(tactic| first | assumption | exact Dh.mono (same_upd (by assumption)) _ _ (by assumption) | exact .inl (.inl (.inl (by assumption))) | exact .inr (.inl (.inl (by assumption))) | exact SqL.of (by assumption) | exact .inl (by assumption) | exact .inl (SqL.of (by assumption)) | exact SqT.of (by assumption) | exact .inr (SqT.of (by assumption)))
local macro_rules | `(tactic| walk_at "st") => `(tactic| first
  | refine ⟨_, rfl, ?_⟩
  | refine ⟨_, _, rfl, rfl, ?_⟩
  | refine .inl ⟨_, rfl, ?_⟩
  | refine ⟨rfl, ?_⟩
  | refine ⟨_, _, rfl, by walk_at "sq", ?_⟩
  | refine ⟨.inl ⟨rfl, _, SqL.of (by assumption)⟩, ?_⟩
  | refine ⟨by walk_at "cond", ?_⟩
  | (refine' ifBT ?hh ?_; (case hh => first | rfl | assumption))
  | (refine' ifBF ?hh ?_; (case hh => first | rfl | assumption)))
local macro_rules | `(tactic| walk_at "go") => `(tactic| repeat walk_at "st")
local macro_rules | `(tactic| walk_at "yes") => `(tactic| (refine' ifT ?hh ?_; (case hh => first | rfl | decide +kernel)))
local macro_rules | `(tactic| walk_at "no") => `(tactic| (refine' ifF ?hh ?_; (case hh => first | decide +kernel | (intro z; cases z; done))))

/-! ### the plain chooser: pick, of all kinds -/
abbrev s_chooser_pick : Stmt := topS 11
theorem sc_chooser_pick : FnScope ["_law_plain", "_law_allowed", "_law_step", "_law_frame", "_law_ages", "_law_best"] ["_law_plain", "_law_allowed"] (C8.fnScope s_chooser_pick) := C8.fnScope_by (by decide +kernel)
def spPick (PTu : Unit) : Sp := fun vs H Q _ => ∃ (d fi us bi fu al : Addr) (kd : Str) (n : Nat) (t hand : Int) (fis uss bits als : List Int) (full : List Bool), vs = [.ref d, .ref al] ∧ PlAt H d fi us bi fu kd n t hand fis uss bits full ∧ K4 kd ∧
  H al = some (.lst (als.map V.int)) ∧ al ∉ [d, bi] ∧ 0 < als.length ∧ 1 ≤ n ∧ n ≤ 1000 ∧ 0 ≤ hand ∧ hand < n ∧ (∀ x ∈ als, 0 ≤ x ∧ x < n) ∧
  ∀ fr hand' bits' H', ChsR kd n hand bits fis uss als fr hand' bits' → PlAt H' d fi us bi fu kd n t hand' fis uss bits' full → ButL [d, bi] H H' → Q (.int fr) H'
section
variable {P : Program} {w : World} {K : PySem.W.Frag} {mg : Str → Option Value} {base : Heap}
theorem ok_pick {f : Addr} {fd : FuncData} (D : Def K mg "_law_chooser_pick" s_chooser_pick f fd) (b : Binds K fd ["_law_plain", "_law_allowed"] []) (T : Txt mg) : Cal P w K mg base 1 "_law_chooser_pick" (spPick ()) [] := by
  refine cal0 D b .nil sc_chooser_pick (fun vs H Q E h => ?_) (fun cdv A outer s H vs Q E hr h => ?_)
  · obtain ⟨d, fi, us, bi, fu, al, kd, n, t, hand, fis, uss, bits, als, full, rfl, _⟩ := h
    rfl
  obtain ⟨d, fi, us, bi, fu, al, kd, n, t, hand, fis, uss, bits, als, full, rfl, hp, hk4, ga, nal, l0, n1, n2, h0, h1, hal, qq⟩ := h
  refine ⟨_, (pss_cons (ps_mk (ps_if (pt_cmpR op_eq (pe_dget (hu_of hr) (pv 0) pe_str (fun _ _ => rfl)) pe_str (nomark _))
      (pss_one (ps_mk (ps_for PassesOwn.never rfl (pi_range1 (by rfl) T.range (pa_cons (pe_op op_mul pe_int (pe_callB (lenQ K rfl) (by rfl) T.len PySem.boot_len (pa_cons (pe_dget (hu_of hr) (pv 0) pe_str (fun _ _ => rfl)) pa_nil))) pa_nil)) (pg_name (i := 2) sc_chooser_pick.nd rfl (.inl rfl))
      (pss_cons (ps_set (i := 3) sc_chooser_pick.nd rfl (.inl rfl) (pe_dget (hu_of hr) (pv 0) pe_str (fun _ _ => rfl)))
      (pss_cons (ps_dput (hu_of hr) (pv 0) pe_str (pe_op op_mod (pe_callTy call_int1 (by rfl) T.int (by decide +kernel) (pa_cons (pe_op op_add (pv 3) pe_int) pa_nil)) (pe_callB (lenQ K rfl) (by rfl) T.len PySem.boot_len (pa_cons (pe_dget (hu_of hr) (pv 0) pe_str (fun _ _ => rfl)) pa_nil))) rfl)
      (pss_cons (ps_mk (ps_if (PW.pt (pw_and (pt_cmpR (inQ K rfl) (pv 3) (pv 1) (by rfl)) (pw_and1 (pt_cmpR op_eq (pe_ix (ixL K rfl) (pe_dget (hu_of hr) (pv 0) pe_str (fun _ _ => rfl)) (pv 3) (fun _ _ => rfl)) pe_int (nomark _)))))
      (pss_one (ps_ret (pv 3)))
      pss_nil))
      (pss_one (ps_mk (ps_if (pt_cmpR (inQ K rfl) (pv 3) (pv 1) (by rfl))
      (pss_one (ps_asg pe_int (pg_sub (pe_dget (hu_of hr) (pv 0) pe_str (fun _ _ => rfl)) (pv 3) set_list)))
      pss_nil)))))))))
      pss_nil))
      (pss_cons (ps_set (i := 4) sc_chooser_pick.nd rfl (.inl rfl) (pe_dget (hu_of hr) (pv 0) pe_str (fun _ _ => rfl)))
      (pss_cons (ps_mk (ps_if (pt_cmpR op_eq (pe_dget (hu_of hr) (pv 0) pe_str (fun _ _ => rfl)) pe_str (nomark _))
      (pss_one (ps_set (i := 4) sc_chooser_pick.nd rfl (.inl rfl) (pe_dget (hu_of hr) (pv 0) pe_str (fun _ _ => rfl))))
      pss_nil))
      (pss_cons (ps_set (i := 5) sc_chooser_pick.nd rfl (.inl rfl) (pe_ix (ixL K rfl) (pv 1) pe_int (fun _ _ => rfl)))
      (pss_cons (ps_mk (ps_for PassesOwn.never rfl (pi_list (pv 1)) (pg_name (i := 3) sc_chooser_pick.nd rfl (.inl rfl))
      (pss_cons (ps_mk (ps_if (PW.pt (pw_and (pt_cmpR op_eq (pe_dget (hu_of hr) (pv 0) pe_str (fun _ _ => rfl)) pe_str (nomark _)) (pw_and1 (pt_cmpR op_gt (pe_ix (ixL K rfl) (pv 4) (pv 3) (fun _ _ => rfl)) (pe_ix (ixL K rfl) (pv 4) (pv 5) (fun _ _ => rfl)) (nomark _)))))
      (pss_one (ps_set (i := 5) sc_chooser_pick.nd rfl (.inl rfl) (pv 3)))
      pss_nil))
      (pss_one (ps_mk (ps_if (PW.pt (pw_and (pt_cmpR op_ne (pe_dget (hu_of hr) (pv 0) pe_str (fun _ _ => rfl)) pe_str (nomark _)) (pw_and1 (pt_cmpR op_lt (pe_ix (ixL K rfl) (pv 4) (pv 3) (fun _ _ => rfl)) (pe_ix (ixL K rfl) (pv 4) (pv 5) (fun _ _ => rfl)) (nomark _)))))
      (pss_one (ps_set (i := 5) sc_chooser_pick.nd rfl (.inl rfl) (pv 3)))
      pss_nil))))))
      (pss_one (ps_ret (pv 5)))))))), ?_⟩
  refine jnS (M := fun σ H' => kd ≠ ("clock" : Str) ∧ H' = H ∧ σ = [sR d, sR al, none, none, none, none]) ?_ (fun N kk => ?_)
  rotate_left
  · walk_at "go"
    refine ⟨d, _, rfl, p_kind ▸ DGet.k (k := Sum.inr "kind") hp.g, ?_⟩
    walk_at "go"
    refine ifD (fun c0 => ?_) (fun c0 => ?_)
    rotate_left
    · exact kk _ _ ⟨fun z => c0 (congrArg V.str z), rfl, rfl⟩
    obtain rfl := V.str.inj c0
    obtain ⟨⟨fr, bits2, hand2⟩, hh⟩ := hunt_all n1 (getD_memI l0) (hal _ (getD_memI l0)).1 (hal _ (getD_memI l0)).2 (bits := bits) (hand := hand) hp.lb h0 h1
    have q : ∀ H', PlAt H' d fi us bi fu "clock" n t hand2 fis uss bits2 full → ButL [d, bi] H H' → Q (.int fr) H' := fun H' h b => qq fr hand2 bits2 H' (.inl ⟨rfl, hh⟩) h b
    clear qq
    refine un ?_
    walk_at "go"
    refine ⟨d, _, rfl, p_bits ▸ DGet.k (k := Sum.inr "bits") hp.g, ?_⟩
    have gb := hp.b
    walk_at "go"
    rw [List.length_map, hp.lb]
    refine ⟨by omega, by omega, for_range (lo := 0) (n := (2 * (n : Int)).toNat) (fun j σ H' => Ob (ButL [d, bi] H H' ∧ ∃ (hand : Int) (bits : List Int) (y3 : Option V) (y2 : Option V), PlAt H' d fi us bi fu "clock" n t hand fis uss bits full ∧ 0 ≤ hand ∧ hand < n ∧ hunt als n (2 * n - j) bits hand = some (fr, bits2, hand2) ∧ σ = [sR d, sR al, y2, y3, none, none])) (ob ⟨ButL.refl, hand, bits, none, none, hp, h0, h1, hh, rfl⟩) ?_ ?_⟩
    rotate_left
    · intro σ H' h
      obtain ⟨_, hand, bits, y3, y2, _, _, _, hh, _⟩ := unob h
      rw [show 2 * n - (2 * (n : Int)).toNat = 0 by omega] at hh
      cases hh
    clear hp h0 h1 hh hand bits gb
    intro j σ H1 hj h
    obtain ⟨b1, hand, bits, y3, y2, hp, h0, h1, hh, rfl⟩ := unob h
    clear h
    have hn := hand_ok (hand := hand) n1
    rw [show 2 * n - j = 2 * n - (j + 1) + 1 by omega] at hh
    have ga1 := b1 _ _ nal ga
    walk_at "go"
    refine ⟨d, _, rfl, p_under ▸ DGet.k (k := Sum.inr "under") hp.g, ?_⟩
    walk_at "go"
    refine ⟨d, _, rfl, p_bits ▸ DGet.k (k := Sum.inr "bits") hp.g, ?_⟩
    have gb := hp.b
    have n0 : (0 : Int) < n := by omega
    walk_at "go"
    rw [List.length_map, hp.lb]
    walk_at "go"
    refine ⟨d, _, rfl, DPut.k (k := Sum.inr "under") hp.g (by show 7 < sizeLine; rw [sizeLine_eq]; decide), ?_⟩
    rw [p_punder]
    have h2 := hp.putD t ((hand + 1) % n)
    have b2 := b1.trans (ButL.put (l := [d, bi]) (H := H1) (p := d) (o := HO.dK (pK "clock" t ((hand + 1) % n) fi us bi fu)) (by simp))
    show _
    generalize upd H1 d (HO.dK (pK "clock" t ((hand + 1) % n) fi us bi fu)) = H2 at *
    clear hp b1 gb
    have ga2 := b2 _ _ nal ga
    have ab : atI (bits.map V.int) hand = some (.int (bits.getD hand.toNat 0)) := atI_getD h0 (by rw [h2.lb]; exact h1)
    unfold hunt at hh
    refine jnS (M := fun σ H' => ¬ (hand ∈ als ∧ bits.getD hand.toNat 0 = 0) ∧ H' = H2 ∧ ∃ y2, σ = [sR d, sR al, y2, sI hand, none, none]) ?_ (fun N2 k2 => ?_)
    rotate_left
    · walk_at "go"
      refine ⟨flat_ints _, ?_⟩
      rw [inV_ints]
      walk_at "go"
      refine ifD (fun c => ?_) (fun c => ?_)
      · rw [if_pos c] at hh
        walk_at "go"
        refine ⟨d, _, rfl, p_bits ▸ DGet.k (k := Sum.inr "bits") h2.g, ?_⟩
        walk_at "go"
        refine ⟨_, _, _, _, rfl, rfl, SqL.of h2.b, ab, ?_⟩
        walk_at "go"
        refine ifEq (fun c2 => ?_) (fun c2 => ?_)
        · rw [if_pos c2] at hh
          cases hh
          walk_at "go"
          exact q _ h2 b2
        · exact k2 _ _ ⟨fun z => c2 z.2, rfl, _, rfl⟩
      · exact k2 _ _ ⟨fun z => c z.1, rfl, _, rfl⟩
    rintro σ H3 ⟨c2, e3, z2, rfl⟩
    subst e3
    refine un ?_
    walk_at "go"
    refine ⟨flat_ints _, ?_⟩
    rw [inV_ints]
    walk_at "go"
    refine ifD (fun c => ?_) (fun c => ?_)
    · rw [if_pos c, if_neg (fun z => c2 ⟨c, z⟩)] at hh
      walk_at "go"
      refine ⟨d, _, rfl, p_bits ▸ DGet.k (k := Sum.inr "bits") h2.g, ?_⟩
      walk_at "go"
      refine ⟨bi, _, hand, _, rfl, rfl, h2.b, ix_ok h0 (by rw [List.length_map, h2.lb]; exact h1), ?_⟩
      rw [set_ints]
      exact ob ⟨b2.trans (ButL.put (by simp)), _, bits.set hand.toNat 0, _, _, h2.putB (by rw [List.length_set]; exact h2.lb), hn.1, hn.2, hh, rfl⟩
    · rw [if_neg c] at hh
      exact ob ⟨b2, _, bits, _, _, h2, hn.1, hn.2, hh, rfl⟩
  rintro σ H0 ⟨nk, e0, rfl⟩
  obtain rfl : H = H0 := e0.symm
  have hk : kd = ("lru" : Str) ∨ kd = ("fifo" : Str) ∨ kd = ("newest" : Str) := by
    rcases hk4 with z | z | z | z
    · exact .inl z
    · exact .inr (.inl z)
    · exact .inr (.inr z)
    · exact absurd z nk
  have q : ∀ fr, fr ∈ als → ageOk kd fis uss als fr → Q (.int fr) H := fun fr m a => qq fr hand bits H (.inr ⟨nk, m, a, rfl, rfl⟩) hp ButL.refl
  clear qq
  walk_at "go"
  refine ⟨d, _, rfl, p_filled ▸ DGet.k (k := Sum.inr "filled") hp.g, ?_⟩
  walk_at "go"
  refine jnS (M := fun σ H' => H' = H ∧ ∃ ga' ages, H ga' = some (.lst (ages.map V.int)) ∧ ages.length = n ∧ ages = (if kd = ("lru" : Str) then uss else fis) ∧ σ = [sR d, sR al, none, none, sR ga', none]) ?_ (fun N kk => ?_)
  rotate_left
  · walk_at "go"
    refine ⟨d, _, rfl, p_kind ▸ DGet.k (k := Sum.inr "kind") hp.g, ?_⟩
    walk_at "go"
    refine ifD (fun c => ?_) (fun c => ?_)
    · walk_at "go"
      refine ⟨d, _, rfl, p_used ▸ DGet.k (k := Sum.inr "used") hp.g, ?_⟩
      walk_at "go"
      exact kk _ _ ⟨rfl, us, uss, hp.u, hp.lu, by rw [if_pos (V.str.inj c)], rfl⟩
    · exact kk _ _ ⟨rfl, fi, fis, hp.f, hp.lf, by rw [if_neg (fun z => c (congrArg V.str z))], rfl⟩
  rintro σ H2 ⟨e2, aa, ages, gg, lg, ea, rfl⟩
  subst e2
  have x0 := hal _ (getD_memI l0)
  walk_at "go"
  refine ⟨_, _, _, _, rfl, rfl, SqL.of ga, atI_getD (Int.le_refl 0) (by omega), ?_⟩
  walk_at "go"
  -- the best so far
  refine jnS (M := fun σ H' => H' = H2 ∧ ∃ best y3, best ∈ als ∧ (∀ x ∈ als, if kd = ("newest" : Str) then ages.getD x.toNat 0 ≤ ages.getD best.toNat 0 else ages.getD best.toNat 0 ≤ ages.getD x.toNat 0) ∧ σ = [sR d, sR al, none, y3, sR aa, sI best]) ?_ (fun N kk => ?_)
  · rintro σ H3 ⟨e3, best, y3, mb, bb, rfl⟩
    subst e3
    walk_at "go"
    refine q best mb ⟨fun z x hx => ?_, fun z x hx => ?_, fun z x hx => ?_⟩
    · have := bb x hx
      rw [if_neg (by rw [z]; decide +kernel), ea, if_pos z] at this
      exact this
    · have := bb x hx
      rw [if_neg (by rw [z]; decide +kernel), ea, if_neg (by rw [z]; decide +kernel)] at this
      exact this
    · have := bb x hx
      rw [if_pos z, ea, if_neg (by rw [z]; decide +kernel)] at this
      exact this
  walk_at "go"
  refine ⟨⟨_, SqL.of ga⟩, for_list (K := K) (a := al) (xs := als.map V.int) (fun i σ H' => Ob (H' = H2 ∧ ∃ best y3, best ∈ als ∧ (∀ x ∈ als.take i, if kd = ("newest" : Str) then ages.getD x.toNat 0 ≤ ages.getD best.toNat 0 else ages.getD best.toNat 0 ≤ ages.getD x.toNat 0) ∧ σ = [sR d, sR al, none, y3, sR aa, sI best])) (ob ⟨rfl, als.getD 0 0, none, getD_memI l0, by simp, rfl⟩) (fun i σ H' _ h => by rw [(unob h).1]; exact SqL.of ga) ?_ ?_⟩
  rotate_left
  · intro σ H3 h
    obtain ⟨e3, best, y3, mb, bb, rfl⟩ := unob h
    rw [List.length_map, List.take_length] at bb
    exact kk _ _ ⟨e3, best, y3, mb, bb, rfl⟩
  intro i v σ H3 hi h
  obtain ⟨e3, best, y3, mb, bb, rfl⟩ := unob h
  subst e3
  clear h kk
  rw [List.getElem?_map] at hi
  obtain ⟨fr, hfr, rfl⟩ : ∃ fr, als[i]? = some fr ∧ V.int fr = v := by
    cases e : als[i]? with
    | none => rw [e] at hi; cases hi
    | some x => rw [e] at hi; exact ⟨x, rfl, Option.some.inj hi⟩
  have mf : fr ∈ als := List.mem_of_getElem? hfr
  have bf := hal _ mf
  have bbst := hal _ mb
  have af : atI (ages.map V.int) fr = some (.int (ages.getD fr.toNat 0)) := atI_getD bf.1 (by rw [lg]; exact bf.2)
  have ab : atI (ages.map V.int) best = some (.int (ages.getD best.toNat 0)) := atI_getD bbst.1 (by rw [lg]; exact bbst.2)
  have tk : ∀ x, x ∈ als.take (i + 1) → x ∈ als.take i ∨ x = fr := fun x hx => by
    rw [List.take_add_one, hfr] at hx
    rcases List.mem_append.mp hx with hx | hx
    · exact .inl hx
    · exact .inr (by simpa using hx)
  walk_at "go"
  by_cases ck : kd = ("newest" : Str)
  · have bb : ∀ x ∈ als.take i, ages.getD x.toNat 0 ≤ ages.getD best.toNat 0 := fun x hx => by
      have := bb x hx
      rw [if_pos ck] at this
      exact this
    refine jnS (M := fun σ H' => H' = H3 ∧ ∃ b2, b2 ∈ als ∧ (∀ x ∈ als.take (i + 1), ages.getD x.toNat 0 ≤ ages.getD b2.toNat 0) ∧ σ = [sR d, sR al, none, sI fr, sR aa, sI b2]) ?_ (fun N kk => ?_)
    · rintro σ H4 ⟨e4, b2, m2, bb2, rfl⟩
      subst e4
      refine un ?_
      walk_at "go"
      refine ⟨d, _, rfl, p_kind ▸ DGet.k (k := Sum.inr "kind") hp.g, ?_⟩
      walk_at "go"
      refine ifN (ifT (congrArg V.str ck) ?_)
      exact ob ⟨rfl, b2, _, m2, fun x hx => by rw [if_pos ck]; exact bb2 x hx, rfl⟩
    · walk_at "go"
      refine ⟨d, _, rfl, p_kind ▸ DGet.k (k := Sum.inr "kind") hp.g, ?_⟩
      walk_at "go"
      refine ifT (congrArg V.str ck) ?_
      walk_at "go"
      refine ⟨_, _, _, _, rfl, rfl, SqL.of gg, af, ?_⟩
      walk_at "go"
      refine ⟨_, _, _, _, rfl, rfl, SqL.of gg, ab, ?_⟩
      walk_at "go"
      refine ifD (fun c => ?_) (fun c => ?_)
      · walk_at "go"
        refine kk _ _ ⟨rfl, fr, mf, fun x hx => ?_, rfl⟩
        rcases tk x hx with h | h
        · have := bb x h
          omega
        · rw [h]
          exact Int.le_refl _
      · refine kk _ _ ⟨rfl, best, mb, fun x hx => ?_, rfl⟩
        rcases tk x hx with h | h
        · exact bb x h
        · rw [h]
          omega
  · have bb : ∀ x ∈ als.take i, ages.getD best.toNat 0 ≤ ages.getD x.toNat 0 := fun x hx => by
      have := bb x hx
      rw [if_neg ck] at this
      exact this
    refine jnS (M := fun σ H' => H' = H3 ∧ σ = [sR d, sR al, none, sI fr, sR aa, sI best]) ?_ (fun N kk => ?_)
    rotate_left
    · walk_at "go"
      refine ⟨d, _, rfl, p_kind ▸ DGet.k (k := Sum.inr "kind") hp.g, ?_⟩
      walk_at "go"
      refine ifF (fun z => ck (V.str.inj z)) ?_
      exact kk _ _ ⟨rfl, rfl⟩
    rintro σ H4 ⟨e4, rfl⟩
    subst e4
    refine un ?_
    walk_at "go"
    refine ⟨d, _, rfl, p_kind ▸ DGet.k (k := Sum.inr "kind") hp.g, ?_⟩
    walk_at "go"
    refine ifN (ifF (fun z => ck (V.str.inj z)) ?_)
    walk_at "go"
    refine ⟨_, _, _, _, rfl, rfl, SqL.of gg, af, ?_⟩
    walk_at "go"
    refine ⟨_, _, _, _, rfl, rfl, SqL.of gg, ab, ?_⟩
    walk_at "go"
    refine ifD (fun c => ?_) (fun c => ?_)
    · walk_at "go"
      refine ob ⟨rfl, fr, _, mf, fun x hx => ?_, rfl⟩
      rw [if_neg ck]
      rcases tk x hx with h | h
      · have := bb x h
        omega
      · rw [h]
        exact Int.le_refl _
    · refine ob ⟨rfl, best, _, mb, fun x hx => ?_, rfl⟩
      rw [if_neg ck]
      rcases tk x hx with h | h
      · exact bb x h
      · rw [h]
        omega
end

end

/-! ### pages in frames; runs -/
def oV : Option Int → V
  | none => .non
  | some x => .int x
theorem eqV_o (a b : Option Int) : eqV (oV a) (oV b) = decide (a = b) := by
  cases a with
  | none => cases b <;> rfl
  | some x =>
    cases b with
    | none => rfl
    | some y =>
      show (x == y) = _
      by_cases h : x = y
      · subst h
        simp
      · simp [h]
theorem flat_o (a : Option Int) : flatV (oV a) = true := by cases a <;> rfl
theorem flats_o : ∀ pg : List (Option Int), (pg.map oV).all flatV = true
  | [] => rfl
  | a :: pg => by
    rw [List.map_cons, List.all_cons, flats_o pg, flat_o]
    rfl
theorem inV_o (a : Option Int) (pg : List (Option Int)) : inV (oV a) (pg.map oV) = decide (a ∈ pg) := by
  unfold inV
  induction pg with
  | nil => simp
  | cons b pg ih =>
    rw [List.map_cons, List.any_cons, ih, eqV_o]
    by_cases h : b = a
    · simp [h]
    · have h3 : ¬ a = b := fun e => h e.symm
      simp [h, h3]
/-- the first place of a -/
def ixO (a : Option Int) : List (Option Int) → Nat
  | [] => 0
  | b :: pg => if b = a then 0 else ixO a pg + 1
theorem ixO_at {a : Option Int} : ∀ {pg : List (Option Int)}, a ∈ pg → pg[ixO a pg]? = some a ∧ ixO a pg < pg.length ∧ ∀ m, m < ixO a pg → pg[m]? ≠ some a
  | [], h => by cases h
  | b :: pg, h => by
    unfold ixO
    by_cases e : b = a
    · rw [if_pos e, e]
      exact ⟨rfl, Nat.succ_pos _, fun m hm => absurd hm (Nat.not_lt_zero _)⟩
    · rw [if_neg e]
      have h' : a ∈ pg := by
        rcases List.mem_cons.mp h with z | z
        · exact absurd z.symm e
        · exact z
      obtain ⟨h1, h2, h3⟩ := ixO_at h'
      refine ⟨h1, Nat.succ_lt_succ h2, fun m hm => ?_⟩
      cases m with
      | zero =>
        intro z
        exact e (Option.some.inj z)
      | succ m => exact h3 m (Nat.lt_of_succ_lt_succ hm)
section
variable {S S2 : Type} (touch fill drop : S → Int → S) (ch : S → Int → S → Prop) (n : Nat)
inductive Run : S → List (Option Int) → Int → List Int → List Int → Prop
  | nil (s : S) (pg : List (Option Int)) (at_ : Int) : Run s pg at_ [] []
  | hit (s : S) (pg : List (Option Int)) (at_ x : Int) (tr ps : List Int) : some x ∈ pg → Run (touch s (ixO (some x) pg : Nat)) pg (at_ + 1) tr ps → Run s pg at_ (x :: tr) ps
  | free (s : S) (pg : List (Option Int)) (at_ x : Int) (tr ps : List Int) : some x ∉ pg → none ∈ pg → Run (fill s (ixO none pg : Nat)) (pg.set (ixO none pg) (some x)) (at_ + 1) tr ps → Run s pg at_ (x :: tr) (at_ :: ps)
  | full (s s' : S) (pg : List (Option Int)) (at_ x f : Int) (tr ps : List Int) : some x ∉ pg → none ∉ pg → ch s f s' → 0 ≤ f → f < n → Run (fill (drop s' f) f) (pg.set f.toNat (some x)) (at_ + 1) tr ps → Run s pg at_ (x :: tr) (at_ :: ps)
end
theorem run_eq {S S2 : Type} {touch fill drop : S → Int → S} {ch : S → Int → S → Prop} {touch2 fill2 drop2 : S2 → Int → S2} {ch2 : S2 → Int → S2 → Prop} {n : Nat} (R : List (Option Int) → S → S2 → Prop)
    (hl : ∀ pg s t, R pg s t → pg.length = n)
    (h1 : ∀ pg s t (i : Nat) x, R pg s t → pg[i]? = some (some x) → R pg (touch s i) (touch2 t i)) (h2 : ∀ pg s t (i : Nat) x, R pg s t → i < n → R (pg.set i (some x)) (fill s i) (fill2 t i))
    (h3 : ∀ pg s t f g s' t', R pg s t → none ∉ pg → ch s f s' → ch2 t g t' → 0 ≤ f → f < n → 0 ≤ g → g < n → f = g ∧ ∀ x, R (pg.set f.toNat (some x)) (fill (drop s' f) f) (fill2 (drop2 t' f) f)) :
    ∀ {s t pg at_ tr ps qs}, R pg s t → Run touch fill drop ch n s pg at_ tr ps → Run touch2 fill2 drop2 ch2 n t pg at_ tr qs → ps = qs := by
  intro s t pg at_ tr ps qs r a
  induction a generalizing t qs with
  | nil s pg at_ =>
    intro b
    cases b
    rfl
  | hit s pg at_ x tr ps m a ih =>
    intro b
    cases b with
    | hit _ _ _ _ _ _ _ b => exact ih (h1 _ _ _ _ x r (ixO_at m).1) b
    | free _ _ _ _ _ _ k _ _ => exact absurd m k
    | full _ _ _ _ _ _ _ _ k _ _ _ _ _ => exact absurd m k
  | free s pg at_ x tr ps m m2 a ih =>
    intro b
    cases b with
    | hit _ _ _ _ _ _ k b => exact absurd k m
    | free _ _ _ _ _ _ k k2 b =>
      rw [ih (h2 _ _ _ _ x r (by rw [← hl _ _ _ r]; exact (ixO_at m2).2.1)) b]
    | full _ _ _ _ _ _ _ _ k k2 _ _ _ _ => exact absurd m2 k2
  | full s s' pg at_ x f tr ps m m2 hc f0 f1 a ih =>
    intro b
    cases b with
    | hit _ _ _ _ _ _ k b => exact absurd k m
    | free _ _ _ _ _ _ k k2 b => exact absurd k2 m2
    | full _ t' _ _ _ g _ _ k k2 hc2 g0 g1 b =>
      obtain ⟨e, k3⟩ := h3 _ _ _ _ _ _ _ r m2 hc hc2 f0 f1 g0 g1
      subst e
      rw [ih (k3 x) b]

/-! ### ages on both sides -/
structure Ag (xs ys : List Int) (full : List Bool) (c d : Int) : Prop where
  o : ∀ i j : Nat, full.getD i false = true → full.getD j false = true → (xs.getD i 0 < xs.getD j 0 ↔ ys.getD i 0 < ys.getD j 0)
  ne : ∀ i j : Nat, full.getD i false = true → full.getD j false = true → i ≠ j → ys.getD i 0 ≠ ys.getD j 0
  bx : ∀ i : Nat, xs.getD i 0 ≤ c
  by_ : ∀ i : Nat, ys.getD i 0 ≤ d
theorem getD_set' {α : Type} {xs : List α} {i j : Nat} {v z : α} (h : i < xs.length) : (xs.set i v).getD j z = if j = i then v else xs.getD j z := by
  rw [List.getD_eq_getElem?_getD, List.getElem?_set]
  by_cases e : i = j
  · rw [if_pos e, if_pos e.symm, if_pos h]
    rfl
  · rw [if_neg e, if_neg (fun z => e z.symm), List.getD_eq_getElem?_getD]
theorem Ag.set {xs ys : List Int} {full : List Bool} {c d : Int} (h : Ag xs ys full c d) {i : Nat} (lx : i < xs.length) (ly : i < ys.length) (lf : i < full.length) : Ag (xs.set i (c + 1)) (ys.set i (d + 1)) (full.set i true) (c + 1) (d + 1) := by
  refine ⟨fun a b ha hb => ?_, fun a b ha hb n => ?_, fun a => ?_, fun a => ?_⟩
  · rw [getD_set' lf] at ha hb
    rw [getD_set' lx, getD_set' lx, getD_set' ly, getD_set' ly]
    have xa := h.bx a
    have xb := h.bx b
    have ya := h.by_ a
    have yb := h.by_ b
    by_cases ea : a = i
    · by_cases eb : b = i
      · rw [if_pos ea, if_pos ea, if_pos eb, if_pos eb]
        omega
      · rw [if_pos ea, if_pos ea, if_neg eb, if_neg eb]
        omega
    · rw [if_neg ea] at ha
      by_cases eb : b = i
      · rw [if_neg ea, if_neg ea, if_pos eb, if_pos eb]
        omega
      · rw [if_neg eb] at hb
        rw [if_neg ea, if_neg ea, if_neg eb, if_neg eb]
        exact h.o a b ha hb
  · rw [getD_set' lf] at ha hb
    rw [getD_set' ly, getD_set' ly]
    have ya := h.by_ a
    have yb := h.by_ b
    by_cases ea : a = i
    · rw [if_pos ea, if_neg (by omega)]
      omega
    · rw [if_neg ea] at ha ⊢
      by_cases eb : b = i
      · rw [if_pos eb]
        omega
      · rw [if_neg eb] at hb ⊢
        exact h.ne a b ha hb n
  · rw [getD_set' lx]
    have := h.bx a
    split <;> omega
  · rw [getD_set' ly]
    have := h.by_ a
    split <;> omega
theorem Ag.sub {xs ys : List Int} {full full' : List Bool} {c d c' d' : Int} (h : Ag xs ys full c d) (hf : ∀ i : Nat, full'.getD i false = true → full.getD i false = true) (hc : c ≤ c') (hd : d ≤ d') : Ag xs ys full' c' d' :=
  ⟨fun a b ha hb => h.o a b (hf a ha) (hf b hb), fun a b ha hb => h.ne a b (hf a ha) (hf b hb), fun a => Int.le_trans (h.bx a) hc, fun a => Int.le_trans (h.by_ a) hd⟩
theorem full_off {full : List Bool} {i : Nat} (l : i < full.length) (j : Nat) (h : (full.set i false).getD j false = true) : full.getD j false = true := by
  rw [getD_set' l] at h
  split at h
  · cases h
  · exact h
theorem full_on {full : List Bool} {i : Nat} (l : i < full.length) (t : full.getD i false = true) (j : Nat) (h : (full.set i true).getD j false = true) : full.getD j false = true := by
  rw [getD_set' l] at h
  split at h
  · rename_i e
    rw [e]
    exact t
  · exact h
theorem on_f : onB ("filled" : Str) = true := by kernel_rfl
theorem on_t : onB ("touched" : Str) = true := by kernel_rfl
theorem on_e : onB ("emptied" : Str) = false := by kernel_rfl
theorem wh_tf : ¬ (("touched" : Str) = ("filled" : Str)) := by decide +kernel
theorem wh_ef : ¬ (("emptied" : Str) = ("filled" : Str)) := by decide +kernel
def Rg (n : Nat) (full : List Bool) (x : Int) : Prop := (0 ≤ x ∧ x < n) ∧ full.getD x.toNat false = true
/-- the same frame -/
theorem age_eq {kd : Str} {n : Nat} {full : List Bool} {fl us fis uss als : List Int} {c d : Int} {f1 f2 : Int} (k3 : kd = ("lru" : Str) ∨ kd = ("fifo" : Str) ∨ kd = ("newest" : Str)) (g1 : Ag fl fis full c d) (g2 : Ag us uss full c d) (hal : ∀ x ∈ als, Rg n full x) (m1 : f1 ∈ als) (m2 : f2 ∈ als) (a1 : ageOk kd fl us als f1) (a2 : ageOk kd fis uss als f2) : f1 = f2 := by
  have r1 := hal _ m1
  have r2 := hal _ m2
  have key : ∀ xs ys, Ag xs ys full c d → xs.getD f1.toNat 0 ≤ xs.getD f2.toNat 0 → ys.getD f2.toNat 0 ≤ ys.getD f1.toNat 0 → f1 = f2 := fun xs ys g h1 h2 => by
    by_cases e : f1.toNat = f2.toNat
    · have := r1.1.1
      have := r2.1.1
      omega
    · have n := g.ne _ _ r1.2 r2.2 e
      have o := (g.o f2.toNat f1.toNat r2.2 r1.2).mpr (by omega)
      omega
  have key2 : ∀ xs ys, Ag xs ys full c d → xs.getD f2.toNat 0 ≤ xs.getD f1.toNat 0 → ys.getD f1.toNat 0 ≤ ys.getD f2.toNat 0 → f1 = f2 := fun xs ys g h1 h2 => by
    by_cases e : f1.toNat = f2.toNat
    · have := r1.1.1
      have := r2.1.1
      omega
    · have n := g.ne _ _ r1.2 r2.2 e
      have o := (g.o f1.toNat f2.toNat r1.2 r2.2).mpr (by omega)
      omega
  rcases k3 with z | z | z
  · exact key _ _ g2 (a1.1 z _ m2) (a2.1 z _ m1)
  · exact key _ _ g1 (a1.2.1 z _ m2) (a2.2.1 z _ m1)
  · exact key2 _ _ g1 (a1.2.2 z _ m2) (a2.2.2 z _ m1)

structure CS where
  calls : Int
  hand : Int
  fl : List Int
  us : List Int
  bits : List Int
def CS.touch (s : CS) (f : Int) : CS := ⟨s.calls + 1, s.hand, s.fl, s.us.set f.toNat (s.calls + 1), s.bits.set f.toNat 1⟩
def CS.fill (s : CS) (f : Int) : CS := ⟨s.calls + 1, s.hand, s.fl.set f.toNat (s.calls + 1), s.us.set f.toNat (s.calls + 1), s.bits.set f.toNat 1⟩
def CS.drop (s : CS) (f : Int) : CS := ⟨s.calls, s.hand, s.fl, s.us, s.bits.set f.toNat 0⟩
def allF (n : Nat) : List Int := (List.range n).map fun (i : Nat) => (i : Int)
def CS.ch (kd : Str) (n : Nat) (s : CS) (f : Int) (s' : CS) : Prop := ∃ hand' bits', ChsR kd n s.hand s.bits s.fl s.us (allF n) f hand' bits' ∧ s' = ⟨s.calls, hand', s.fl, s.us, bits'⟩
structure LS where
  t : Int
  u : Int
  fis : List Int
  uss : List Int
  bits : List Int
  full : List Bool
def LS.touch (s : LS) (f : Int) : LS := ⟨s.t + 1, s.u, s.fis, s.uss.set f.toNat (s.t + 1), s.bits.set f.toNat 1, s.full.set f.toNat true⟩
def LS.fill (s : LS) (f : Int) : LS := ⟨s.t + 1, s.u, s.fis.set f.toNat (s.t + 1), s.uss.set f.toNat (s.t + 1), s.bits.set f.toNat 1, s.full.set f.toNat true⟩
def LS.drop (s : LS) (f : Int) : LS := ⟨s.t + 1, s.u, s.fis, s.uss, s.bits.set f.toNat 0, s.full.set f.toNat false⟩
def LS.ch (kd : Str) (n : Nat) (s : LS) (f : Int) (s' : LS) : Prop := ∃ hand' bits', ChsR kd n s.u s.bits s.fis s.uss (allF n) f hand' bits' ∧ s' = ⟨s.t, hand', s.fis, s.uss, bits', s.full⟩
structure Rel (n : Nat) (pg : List (Option Int)) (s : CS) (l : LS) : Prop where
  g1 : Ag s.fl l.fis (pg.map Option.isSome) s.calls l.t
  g2 : Ag s.us l.uss (pg.map Option.isSome) s.calls l.t
  b : s.bits = l.bits
  h : s.hand = l.u
  lp : pg.length = n
  l1 : s.fl.length = n
  l2 : s.us.length = n
  l3 : l.fis.length = n
  l4 : l.uss.length = n
theorem mem_allF {n : Nat} {x : Int} (h : x ∈ allF n) : 0 ≤ x ∧ x < n := by
  obtain ⟨i, hi, rfl⟩ := List.mem_map.mp h
  have := List.mem_range.mp hi
  omega
theorem isSome_set (pg : List (Option Int)) (i : Nat) (x : Int) : (pg.set i (some x)).map Option.isSome = (pg.map Option.isSome).set i true := by rw [List.map_set]; rfl
theorem getD_isSome {pg : List (Option Int)} {i : Nat} {x : Int} (h : pg[i]? = some (some x)) : (pg.map Option.isSome).getD i false = true := by
  rw [List.getD_eq_getElem?_getD, List.getElem?_map, h]
  rfl
theorem full_of {pg : List (Option Int)} (h : none ∉ pg) {i : Nat} (l : i < pg.length) : (pg.map Option.isSome).getD i false = true := by
  rw [List.getD_eq_getElem?_getD, List.getElem?_map, List.getElem?_eq_getElem l]
  cases e : pg[i] with
  | none => exact absurd (by rw [← e]; exact List.getElem_mem l) h
  | some x => rfl
theorem set_self_true {full : List Bool} {i : Nat} (h : full.getD i false = true) : full.set i true = full := by
  refine List.ext_getElem? fun j => ?_
  rw [List.getElem?_set]
  split
  · rename_i e
    subst e
    rw [List.getD_eq_getElem?_getD] at h
    split
    · rename_i l
      rw [List.getElem?_eq_getElem l] at h ⊢
      rw [show full[i] = true from h]
    · rename_i l
      rw [List.getElem?_eq_none (by omega)]
  · rfl
theorem rel_run {kd : Str} {n : Nat} (k4 : K4 kd) {s : CS} {l : LS} {pg : List (Option Int)} {at_ : Int} {tr ps qs : List Int} (r : Rel n pg s l) (a : Run CS.touch CS.fill CS.drop (CS.ch kd n) n s pg at_ tr ps) (b : Run LS.touch LS.fill LS.drop (LS.ch kd n) n l pg at_ tr qs) : ps = qs := by
  refine run_eq (R := Rel n) (fun _ _ _ r => r.lp) (fun pg s t i x r hx => ?_) (fun pg s t i x r hi => ?_) (fun pg s t f g s' t' r hn c1 c2 f0 f1 g0 g1 => ?_) r a b
  · have hl : i < pg.length := (List.getElem?_eq_some_iff.mp hx).1
    have e : ((i : Nat) : Int).toNat = i := by omega
    have lp := r.lp
    have q := getD_isSome hx
    have st := (r.g2).set (i := i) (by rw [r.l2]; omega) (by rw [r.l4]; omega) (by rw [List.length_map]; omega)
    rw [set_self_true q] at st
    refine ⟨r.g1.sub (fun j h => h) (by show _ ≤ _ + 1; omega) (by show _ ≤ _ + 1; omega), ?_, ?_, r.h, r.lp, r.l1, ?_, r.l3, ?_⟩
    · show Ag (s.us.set ((i : Nat) : Int).toNat _) (t.uss.set ((i : Nat) : Int).toNat _) _ _ _
      rw [e]
      exact st
    · show s.bits.set _ _ = t.bits.set _ _
      rw [r.b]
    · show (s.us.set _ _).length = n
      rw [List.length_set, r.l2]
    · show (t.uss.set _ _).length = n
      rw [List.length_set, r.l4]
  · have lp := r.lp
    have e : ((i : Nat) : Int).toNat = i := by omega
    have s1 := (r.g1).set (i := i) (by rw [r.l1]; omega) (by rw [r.l3]; omega) (by rw [List.length_map]; omega)
    have s2 := (r.g2).set (i := i) (by rw [r.l2]; omega) (by rw [r.l4]; omega) (by rw [List.length_map]; omega)
    rw [← isSome_set pg i x] at s1 s2
    refine ⟨?_, ?_, ?_, r.h, by rw [List.length_set, r.lp], ?_, ?_, ?_, ?_⟩
    · show Ag (s.fl.set ((i : Nat) : Int).toNat _) (t.fis.set ((i : Nat) : Int).toNat _) _ _ _
      rw [e]
      exact s1
    · show Ag (s.us.set ((i : Nat) : Int).toNat _) (t.uss.set ((i : Nat) : Int).toNat _) _ _ _
      rw [e]
      exact s2
    · show s.bits.set _ _ = t.bits.set _ _
      rw [r.b]
    · show (s.fl.set _ _).length = n
      rw [List.length_set, r.l1]
    · show (s.us.set _ _).length = n
      rw [List.length_set, r.l2]
    · show (t.fis.set _ _).length = n
      rw [List.length_set, r.l3]
    · show (t.uss.set _ _).length = n
      rw [List.length_set, r.l4]
  · obtain ⟨ha, ba, c1, rfl⟩ := c1
    obtain ⟨hb, bb, c2, rfl⟩ := c2
    have lp := r.lp
    have hal : ∀ x ∈ allF n, Rg n (pg.map Option.isSome) x := fun x hx => ⟨mem_allF hx, full_of hn (by have := mem_allF hx; omega)⟩
    have key : f = g ∧ ha = hb ∧ ba = bb := by
      rcases c1 with ⟨ek, c1⟩ | ⟨nk, m1, a1, e1, e2⟩
      · rcases c2 with ⟨_, c2⟩ | ⟨nk, _⟩
        · rw [r.b, r.h, c2] at c1
          cases c1
          exact ⟨rfl, rfl, rfl⟩
        · exact absurd ek nk
      · rcases c2 with ⟨ek, _⟩ | ⟨_, m2, a2, e3, e4⟩
        · exact absurd ek nk
        · have k3 : kd = ("lru" : Str) ∨ kd = ("fifo" : Str) ∨ kd = ("newest" : Str) := by
            rcases k4 with z | z | z | z
            · exact .inl z
            · exact .inr (.inl z)
            · exact .inr (.inr z)
            · exact absurd z nk
          exact ⟨age_eq k3 r.g1 r.g2 hal m1 m2 a1 a2, by rw [e1, e3, r.h], by rw [e2, e4, r.b]⟩
    obtain ⟨rfl, rfl, rfl⟩ := key
    refine ⟨rfl, fun x => ?_⟩
    have li : f.toNat < n := by omega
    have s1 := (r.g1.sub (c' := s.calls) (d' := t.t + 1) (full_off (i := f.toNat) (by rw [List.length_map]; omega)) (by omega) (by omega)).set (i := f.toNat) (by rw [r.l1]; omega) (by rw [r.l3]; omega) (by rw [List.length_set, List.length_map]; omega)
    have s2 := (r.g2.sub (c' := s.calls) (d' := t.t + 1) (full_off (i := f.toNat) (by rw [List.length_map]; omega)) (by omega) (by omega)).set (i := f.toNat) (by rw [r.l2]; omega) (by rw [r.l4]; omega) (by rw [List.length_set, List.length_map]; omega)
    rw [List.set_set, ← isSome_set pg f.toNat x] at s1 s2
    refine ⟨s1, s2, rfl, rfl, by rw [List.length_set, r.lp], ?_, ?_, ?_, ?_⟩
    · show (s.fl.set _ _).length = n
      rw [List.length_set, r.l1]
    · show (s.us.set _ _).length = n
      rw [List.length_set, r.l2]
    · show (t.fis.set _ _).length = n
      rw [List.length_set, r.l3]
    · show (t.uss.set _ _).length = n
      rw [List.length_set, r.l4]

section

-- a condition of an operator
local macro_rules | `(tactic| walk_at "cond") => `(tactic| first
  | (show (0 : Int) < _; omega)
  | (show CDiv _ _; constructor <;> (first | decide | omega))
  | (show CMul _ _; first | (refine cmul_l ?_; constructor <;> (first | decide | omega)) | (refine cmul_r ?_; constructor <;> (first | decide | omega)))
  | (show CPow _ _; exact (by refine ⟨by decide, by decide, by decide⟩))
  | (show CDivW _ _; exact ⟨by decide, by decide +kernel⟩))
local macro_rules | `(tactic| walk_at "sq") => `(tactic| first | assumption | exact Dh.mono (same_upd (by assumption)) _ _ (by assumption) | exact .inl (.inl (.inl (by assumption))) | exact .inr (.inl (.inl (by assumption))) | exact SqL.of (by assumption) | exact .inl (by assumption) | exact .inl (SqL.of (by assumption)) | exact SqT.of (by assumption) | exact .inr (SqT.of (by assumption)))
local macro_rules | `(tactic| walk_at "st") => `(tactic| first
  | refine ⟨_, rfl, ?_⟩
  | refine ⟨_, _, rfl, rfl, ?_⟩
  | refine .inl ⟨_, rfl, ?_⟩
  | refine ⟨rfl, ?_⟩
  | refine ⟨_, _, rfl, by walk_at "sq", ?_⟩
  | refine ⟨.inl ⟨rfl, _, SqL.of (by assumption)⟩, ?_⟩
  | refine ⟨by walk_at "cond", ?_⟩
  | (refine' ifBT ?hh ?_; (case hh => first | rfl | assumption))
  | (refine' ifBF ?hh ?_; (case hh => first | rfl | assumption)))
local macro_rules | `(tactic| walk_at "go") => `(tactic| repeat walk_at "st")
local macro_rules | `(tactic| walk_at "yes") => `(tactic| (refine' ifT ?hh ?_; (case hh => first | rfl | decide +kernel)))
local macro_rules | `(tactic| walk_at "no") => `(tactic| (refine' ifF ?hh ?_; (case hh => first | decide +kernel | (intro z; cases z; done))))

/-! ### _obtain_frame -/
abbrev s_obtain_frame : Stmt := topS 4
theorem sc_obtain_frame : FnScope ["pages", "chooser", "frame"] ["pages", "chooser"] (C8.fnScope s_obtain_frame) := C8.fnScope_by (by decide +kernel)
open NdefX
def ChS (C : Addr) (H : Hp) (p fa ua ba dx : Addr) (kd : Str) (n : Nat) (s : CS) : Prop := ChAt C H p fa ua ba dx kd n s.calls s.hand s.fl s.us s.bits
theorem ChAt.but {C : Addr} {H H' : Hp} {p fa ua ba dx : Addr} {kd : Str} {n : Nat} {calls hand : Int} {fl us bits : List Int} {l : List Addr} (h : ChAt C H p fa ua ba dx kd n calls hand fl us bits) (s : ButL l H H') (h0 : p ∉ l) (h1 : fa ∉ l) (h2 : ua ∉ l) (h3 : ba ∉ l) : ChAt C H' p fa ua ba dx kd n calls hand fl us bits :=
  ⟨s _ _ h0 h.g, s _ _ h1 h.f, s _ _ h2 h.u, s _ _ h3 h.b, h.nd, h.lf, h.lu, h.lb⟩
theorem rgV_all (n : Nat) : rgV 0 n = (allF n).map V.int := by
  unfold rgV allF
  rw [List.map_map, show ((n : Int) - 0).toNat = n by omega]
  refine List.map_congr_left fun i _ => ?_
  show V.int (0 + (i : Int)) = V.int (i : Int)
  rw [Int.zero_add]
theorem chs_range {kd : Str} {n : Nat} {hand f hand' : Int} {bits fl us bits' : List Int} (n1 : 1 ≤ n) (h0 : 0 ≤ hand) (h1 : hand < n) (lb : bits.length = n) (c : ChsR kd n hand bits fl us (allF n) f hand' bits') : (0 ≤ f ∧ f < n) ∧ 0 ≤ hand' ∧ hand' < n := by
  rcases c with ⟨_, hh⟩ | ⟨_, m, _, e, _⟩
  · have r := hunt_res n1 _ _ _ _ hh lb h0 h1
    exact ⟨mem_allF r.1, r.2.2.1, r.2.2.2⟩
  · exact ⟨mem_allF m, by rw [e]; exact h0, by rw [e]; exact h1⟩
theorem idx_no {pg : List (Option Int)} {a : Option Int} {m : Nat} {z : V} (h : pg[m]? ≠ some a) (hz : (pg.map oV)[m]? = some z) : eqV z (oV a) = false := by
  rw [List.getElem?_map] at hz
  cases e : pg[m]? with
  | none => rw [e] at hz; cases hz
  | some b =>
    rw [e] at hz
    obtain rfl := Option.some.inj hz
    rw [eqV_o]
    exact decide_eq_false fun c => h (by rw [e, c])
def Obt (kd : Str) (n : Nat) (s : CS) (pg : List (Option Int)) (f : Int) (s2 : CS) : Prop := (none ∈ pg ∧ f = (ixO none pg : Nat) ∧ s2 = s) ∨ (none ∉ pg ∧ ∃ s', CS.ch kd n s f s' ∧ s2 = s'.drop f)
def spObt (C PT : Addr) : Sp := fun vs H Q _ => ∃ (pgA p fa ua ba dx : Addr) (kd : Str) (n : Nat) (s : CS) (pg : List (Option Int)), vs = [.ref pgA, .ref p] ∧ ChS C H p fa ua ba dx kd n s ∧ H pgA = some (.lst (pg.map oV)) ∧ pg.length = n ∧ K4 kd ∧ 1 ≤ n ∧ n ≤ 100 ∧ 0 ≤ s.hand ∧ s.hand < n ∧ Tabs (chT PT) H ∧
  ∀ f s2 H', Obt kd n s pg f s2 → 0 ≤ f → f < n → 0 ≤ s2.hand → s2.hand < n → ChS C H' p fa ua ba dx kd n s2 → ButT [p, ba] H H' → Tabs (chT PT) H' → Q (.int f) H'
section
variable {P : Program} {w : World} {K : PySem.W.Frag} {mg : Str → Option Value} {base : Heap} {C PT : Addr}
theorem ok_obt {f : Addr} {fd : FuncData} (D : Def K mg "_obtain_frame" s_obtain_frame f fd) (b : Binds K fd ["pages", "chooser"] []) (T : Txt mg) (m_choose : C8.Met P w K mg base 3 C "choose" (spChs C PT) []) (m_emptied : C8.Met P w K mg base 1 C "emptied" (spEmp C) []) : Cal P w K mg base 4 "_obtain_frame" (spObt C PT) [] := by
  refine cal0 D b .nil sc_obtain_frame (fun vs H Q E h => ?_) (fun cdv A outer s H vs Q E hr h => ?_)
  · obtain ⟨pgA, p, fa, ua, ba, dx, kd, n, s, pg, rfl, _⟩ := h
    rfl
  obtain ⟨pgA, p, fa, ua, ba, dx, kd, n, s, pg, rfl, hc, gp, lp, k4, n1, n2, h0, h1, hT, q⟩ := h
  refine ⟨_, (pss_cons (ps_mk (ps_if (pt_cmpR (inQ K rfl) pe_non (pv 0) (by rfl))
      (pss_one (ps_ret (pe_bm PySem.F.plainAttrs_list PySem.F.slot_list_index PySem.F.type_list_index mt_index (pv 0) (pa_cons pe_non pa_nil))))
      pss_nil))
      (pss_cons (ps_set (i := 2) sc_obtain_frame.nd rfl (.inl rfl) (C8.pe_mt m_choose hr (by omega) (pv 1) (pa_cons (pe_listRg rfl (by rfl) T.list (prg_1 (by rfl) T.range (pe_callB (lenQ K rfl) (by rfl) T.len PySem.boot_len (pa_cons (pv 0) pa_nil)))) pa_nil)))
      (pss_cons (ps_expr (C8.pe_mt m_emptied hr (by omega) (pv 1) (pa_cons (pv 2) pa_nil)))
      (pss_one (ps_ret (pv 2)))))), ?_⟩
  have lpm : (pg.map oV).length = n := by rw [List.length_map, lp]
  walk_at "go"
  refine un ?_
  walk_at "go"
  refine ⟨flats_o _, ?_⟩
  rw [show inV V.non (pg.map oV) = decide (none ∈ pg) from inV_o none pg]
  walk_at "go"
  refine ifD (fun c => ?_) (fun c => ?_)
  · obtain ⟨a1, a2, a3⟩ := ixO_at c
    walk_at "go"
    refine ⟨pgA, _, .non, ixO none pg, oV none, rfl, rfl, SqL.of gp, rfl, flats_o _, by rw [List.getElem?_map, a1]; rfl, rfl, fun m z hm hz => ?_, ?_⟩
    · exact idx_no (a := none) (a3 m hm) hz
    · exact q _ s H (.inl ⟨c, rfl, rfl⟩) (by omega) (by omega) h0 h1 hc ButT.refl hT
  · walk_at "go"
    refine ⟨p, dx, _, rfl, hc.g, ch_no4, ?_⟩
    walk_at "go"
    rw [lpm]
    refine ⟨⟨by omega, by omega, by omega, by omega, by omega⟩, fun al nal => ?_⟩
    rw [rgV_all]
    have s1 := same_upd (o := HO.lst ((allF n).map V.int)) nal
    have ga := upd_same (H := H) (a := al) (o := HO.lst ((allF n).map V.int))
    have nab : al ≠ ba := (ne_of_none hc.b nal).symm
    show _
    generalize upd H al (HO.lst ((allF n).map V.int)) = H1 at *
    have hc1 : ChAt C H1 p fa ua ba dx kd n s.calls s.hand s.fl s.us s.bits := hc.but (l := []) (Same.but s1) (by simp) (by simp) (by simp) (by simp)
    walk_at "go"
    refine ⟨p, fa, ua, ba, dx, al, kd, n, s.calls, s.hand, s.fl, s.us, s.bits, allF n, rfl, hc1, k4, ga, nab, by unfold allF; rw [List.length_map, List.length_range]; omega, n1, by omega, h0, h1, fun x hx => mem_allF hx, hT.ext s1, fun fr hand' bits' H2 cr h2 b2 T2 => ?_⟩
    obtain ⟨fr0, hd0⟩ := chs_range n1 h0 h1 hc.lb cr
    walk_at "go"
    refine ⟨p, dx, _, rfl, h2.g, ch_no3, ?_⟩
    walk_at "go"
    refine ⟨p, fa, ua, ba, dx, kd, n, s.calls, hand', fr, s.fl, s.us, bits', rfl, h2, fr0.1, fr0.2, fun H3 h3 b3 => ?_⟩
    walk_at "go"
    refine q fr (CS.drop ⟨s.calls, hand', s.fl, s.us, bits'⟩ fr) H3 (.inr ⟨c, _, ⟨hand', bits', cr, rfl⟩, rfl⟩) fr0.1 fr0.2 hd0.1 hd0.2 h3 (((Same.t s1).trans b2).trans (b3.t.mono (by simp))) (tabs_but T2 b3 fun x hx => ?_)
    rw [List.mem_singleton.mp hx]
    exact ⟨_, h2.b, ⟨fun _ z => (by cases z), fun _ z => (by cases z)⟩⟩
end

end

section

-- a condition of an operator
local macro_rules | `(tactic| walk_at "cond") => `(tactic| first
  | (show (0 : Int) < _; omega)
  | (show CDiv _ _; constructor <;> (first | decide | omega))
  | (show CMul _ _; first | (refine cmul_l ?_; constructor <;> (first | decide | omega)) | (refine cmul_r ?_; constructor <;> (first | decide | omega)))
  | (show CPow _ _; exact (by refine ⟨by decide, by decide, by decide⟩))
  | (show CDivW _ _; exact ⟨by decide, by decide +kernel⟩))
local macro_rules | `(tactic| walk_at "sq") => `(tactic| first | assumption | exact Dh.mono (same_upd (by assumption)) _ _ (by assumption) | exact .inl (.inl (.inl (by assumption))) | exact .inr (.inl (.inl (by assumption))) | exact SqL.of (by assumption) | exact .inl (by assumption) | exact .inl (SqL.of (by assumption)) | exact SqT.of (by assumption) | exact .inr (SqT.of (by assumption)))
local macro_rules | `(tactic| walk_at "st") => `(tactic| first
  | refine ⟨_, rfl, ?_⟩
  | refine ⟨_, _, rfl, rfl, ?_⟩
  | refine .inl ⟨_, rfl, ?_⟩
  | refine ⟨rfl, ?_⟩
  | refine ⟨_, _, rfl, by walk_at "sq", ?_⟩
  | refine ⟨.inl ⟨rfl, _, SqL.of (by assumption)⟩, ?_⟩
  | refine ⟨by walk_at "cond", ?_⟩
  | (refine' ifBT ?hh ?_; (case hh => first | rfl | assumption))
  | (refine' ifBF ?hh ?_; (case hh => first | rfl | assumption)))
local macro_rules | `(tactic| walk_at "go") => `(tactic| repeat walk_at "st")
local macro_rules | `(tactic| walk_at "yes") => `(tactic| (refine' ifT ?hh ?_; (case hh => first | rfl | decide +kernel)))
local macro_rules | `(tactic| walk_at "no") => `(tactic| (refine' ifF ?hh ?_; (case hh => first | decide +kernel | (intro z; cases z; done))))

/-! ### page_ins -/
abbrev s_page_ins : Stmt := topS 3
theorem sc_page_ins : FnScope ["trace", "frames", "kind", "chooser", "pages", "positions", "at", "page", "frame"] ["trace", "frames", "kind"] (C8.fnScope s_page_ins) := C8.fnScope_by (by decide +kernel)
theorem seqT {K : PySem.W.Frag} {H H' : Hp} {a : Addr} {xs : List V} (s : ExtN H H') (h : SqL K H a xs) : SqL K H' a xs := by
  rcases h with (h | ⟨o, h⟩) | h
  · exact .inl (.inl (s _ _ h (fun _ z => by cases z)))
  · exact .inl (.inr ⟨o, s _ _ h (fun _ z => by cases z)⟩)
  · exact .inr h
theorem ext_but {l : List Addr} {H H0 H' : Hp} (s : Same H H0) (f : ∀ x ∈ l, H x = none) (b : ButT l H0 H') : ExtN H H' := fun c o e k => b c o (fun z => by
  rw [f c z] at e
  cases e) k (s c o e)
theorem rep_non (n : Nat) : (List.replicate n [V.non]).flatten = (List.replicate n (none : Option Int)).map oV := by
  induction n with
  | zero => rfl
  | succ m ih =>
    rw [List.replicate_succ, List.flatten_cons, ih]
    rfl
theorem set_o (pg : List (Option Int)) (i : Nat) (x : Int) : (pg.map oV).set i (V.int x) = (pg.set i (some x)).map oV := by rw [List.map_set]; rfl
abbrev RunC (kd : Str) (n : Nat) := Run CS.touch CS.fill CS.drop (CS.ch kd n) n
def cs0 (n : Nat) : CS := ⟨0, 0, List.replicate n 0, List.replicate n 0, List.replicate n 0⟩
theorem ChAt.butT {C : Addr} {H H' : Hp} {p fa ua ba dx : Addr} {kd : Str} {n : Nat} {calls hand : Int} {fl us bits : List Int} {l : List Addr} (h : ChAt C H p fa ua ba dx kd n calls hand fl us bits) (s : ButT l H H') (h0 : p ∉ l) (h1 : fa ∉ l) (h2 : ua ∉ l) (h3 : ba ∉ l) : ChAt C H' p fa ua ba dx kd n calls hand fl us bits :=
  ⟨s _ _ h0 (fun _ z => by cases z) h.g, s _ _ h1 (fun _ z => by cases z) h.f, s _ _ h2 (fun _ z => by cases z) h.u, s _ _ h3 (fun _ z => by cases z) h.b, h.nd, h.lf, h.lu, h.lb⟩
def spPI (C PT : Addr) (K : PySem.W.Frag) : Sp := fun vs H Q _ => ∃ (tr : Addr) (ns : List Int) (n : Nat) (kd : Str), vs = [.ref tr, .int n, .str kd] ∧ SqL K H tr (ns.map V.int) ∧ ns.length ≤ 1000 ∧ 1 ≤ n ∧ n ≤ 100 ∧ K4 kd ∧ Tabs (chT PT) H ∧
  ∀ l ps H', RunC kd n (cs0 n) (List.replicate n none) 0 ns ps → ps.length ≤ 1000 → H l = none → H' l = some (.lst (ps.map V.int)) → ExtN H H' → Tabs (chT PT) H' → Q (.ref l) H'
structure TxtE (mg : Str → Option Value) : Prop where
  enumerate : mg "enumerate" = none
section
variable {P : Program} {w : World} {K : PySem.W.Frag} {mg : Str → Option Value} {base : Heap} {C PT : Addr}
theorem ok_pi {f : Addr} {fd : FuncData} (D : Def K mg "page_ins" s_page_ins f fd) (b : Binds K fd ["trace", "frames", "kind"] []) (T0 : Txt mg) (T : TxtE mg) (c_Chooser : C8.Mak P w K mg base 1 "Chooser" C (spChI C) []) (c__obtain_frame : Cal P w K mg base 4 "_obtain_frame" (spObt C PT) []) (m_touched : C8.Met P w K mg base 1 C "touched" (spTch C) []) (m_filled : C8.Met P w K mg base 2 C "filled" (spFil C) []) : Cal P w K mg base 5 "page_ins" (spPI C PT K) [] := by
  refine cal0 D b .nil sc_page_ins (fun vs H Q E h => ?_) (fun cdv A outer s H vs Q E hr h => ?_)
  · obtain ⟨tr, ns, n, kd, rfl, _⟩ := h
    rfl
  obtain ⟨tr, ns, n, kd, rfl, hS, hl, n1, n2, k4, hT, q⟩ := h
  refine ⟨_, (pss_cons (ps_set (i := 3) sc_page_ins.nd rfl (.inl rfl) (C8.pe_mk c_Chooser hr (by omega) (by rfl) (pa_cons (pv 2) (pa_cons (pv 1) pa_nil))))
      (pss_cons (ps_set (i := 4) sc_page_ins.nd rfl (.inl rfl) (pe_op op_rep (pe_lst (pa_cons pe_non pa_nil)) (pv 1)))
      (pss_cons (ps_set (i := 5) sc_page_ins.nd rfl (.inl rfl) (pe_lst pa_nil))
      (pss_cons (ps_mk (ps_for PassesOwn.never rfl (pi_enum (by rfl) T.enumerate (pa_cons (pv 0) pa_nil)) (pg_tup rfl (pgs_cons (pg_name (i := 6) sc_page_ins.nd rfl (.inl rfl)) (pgs_cons (pg_name (i := 7) sc_page_ins.nd rfl (.inl rfl)) pgs_nil)))
      (pss_one (ps_mk (ps_if (pt_cmpR (inQ K rfl) (pv 7) (pv 4) (by rfl))
      (pss_one (ps_expr (C8.pe_mt m_touched hr (by omega) (pv 3) (pa_cons (pe_bm PySem.F.plainAttrs_list PySem.F.slot_list_index PySem.F.type_list_index mt_index (pv 4) (pa_cons (pv 7) pa_nil)) pa_nil))))
      (pss_cons (ps_expr (pe_bm PySem.F.plainAttrs_list PySem.F.slot_list_append PySem.F.type_list_append mt_append (pv 5) (pa_cons (pv 6) pa_nil)))
      (pss_cons (ps_set (i := 8) sc_page_ins.nd rfl (.inl rfl) (C8.pe_c c__obtain_frame hr (by omega) (by rfl) (pa_cons (pv 4) (pa_cons (pv 3) pa_nil))))
      (pss_cons (ps_asg (pv 7) (pg_sub (pv 4) (pv 8) set_list))
      (pss_one (ps_expr (C8.pe_mt m_filled hr (by omega) (pv 3) (pa_cons (pv 8) pa_nil))))))))))))
      (pss_one (ps_ret (pv 5))))))), ?_⟩
  walk_at "go"
  intro p dx np ndx npx
  have sC : Same H (upd (upd H dx (.own p)) p (.ins C dx [])) := (same_upd ndx).trans (same_upd (by rw [upd_ne npx.symm]; exact np))
  refine ⟨p, dx, kd, n, rfl, upd_same, by omega, fun fa ua ba H1 hc nfa nua nba b1 => ⟨rfl, ?_⟩⟩
  have s1 : Same H H1 := fun b o e => b1 _ _ (ne_of_none e np) (sC _ _ e)
  have nfa := sC.free nfa
  have nua := sC.free nua
  have nba := sC.free nba
  clear sC b1 ndx npx
  try dsimp only
  walk_at "go"
  refine ⟨sz, fun l1 nl1 => ?_⟩
  have s2 := s1.trans (same_upd (o := HO.lst [V.non]) nl1)
  have gl1 := upd_same (H := H1) (a := l1) (o := HO.lst [V.non])
  have hc2 := hc.but (l := []) (Same.but (same_upd (o := HO.lst [V.non]) nl1)) (by simp) (by simp) (by simp) (by simp)
  show _
  generalize upd H1 l1 (HO.lst [V.non]) = H2 at *
  walk_at "go"
  refine ⟨l1, n, [V.non], rfl, rfl, gl1, by omega, by omega, (by rw [Int.toNat_natCast, List.length_singleton, sizeLine_eq]; omega), fun pgA npg => ?_⟩
  rw [Int.toNat_natCast, rep_non]
  have npg0 := s2.free npg
  have s3 := s2.trans (same_upd (o := HO.lst ((List.replicate n (none : Option Int)).map oV)) npg)
  have gp := upd_same (H := H2) (a := pgA) (o := HO.lst ((List.replicate n (none : Option Int)).map oV))
  have hc3 := hc2.but (l := []) (Same.but (same_upd (o := HO.lst ((List.replicate n (none : Option Int)).map oV)) npg)) (by simp) (by simp) (by simp) (by simp)
  have d1 : pgA ∉ [p, fa, ua, ba] := fun z => by
    simp only [List.mem_cons, List.not_mem_nil, or_false] at z
    rcases z with e | e | e | e
    · exact ne_of_none hc2.g npg e.symm
    · exact ne_of_none hc2.f npg e.symm
    · exact ne_of_none hc2.u npg e.symm
    · exact ne_of_none hc2.b npg e.symm
  show _
  generalize upd H2 pgA (HO.lst ((List.replicate n (none : Option Int)).map oV)) = H3 at *
  walk_at "go"
  refine ⟨sz, fun posA npo => ?_⟩
  have npo0 := s3.free npo
  have s4 := s3.trans (same_upd (o := HO.lst []) npo)
  have gpo := upd_same (H := H3) (a := posA) (o := HO.lst [])
  have gp4 := same_upd (o := HO.lst []) npo _ _ gp
  have hc4 := hc3.but (l := []) (Same.but (same_upd (o := HO.lst []) npo)) (by simp) (by simp) (by simp) (by simp)
  have d2 : posA ∉ [p, fa, ua, ba] := fun z => by
    simp only [List.mem_cons, List.not_mem_nil, or_false] at z
    rcases z with e | e | e | e
    · exact ne_of_none hc3.g npo e.symm
    · exact ne_of_none hc3.f npo e.symm
    · exact ne_of_none hc3.u npo e.symm
    · exact ne_of_none hc3.b npo e.symm
  have d3 : pgA ≠ posA := ne_of_none gp npo
  show _
  generalize upd H3 posA (HO.lst []) = H4 at *
  clear hc hc2 hc3 gl1 gp npg npo s1 s2 s3 nl1
  have T4 := hT.ext s4
  have fr : ∀ x ∈ [p, fa, ua, ba, pgA, posA], H x = none := fun x hx => by
    simp only [List.mem_cons, List.not_mem_nil, or_false] at hx
    rcases hx with rfl | rfl | rfl | rfl | rfl | rfl <;> assumption
  have hS4 := s4.seq hS
  have init : ∀ x : Int, (List.replicate n x).length = n := fun x => List.length_replicate
  walk_at "go"
  refine jnS (M := fun σ H' => ∃ pos : List Int, RunC kd n (cs0 n) (List.replicate n none) 0 ns pos ∧ pos.length ≤ 1000 ∧ H' posA = some (.lst (pos.map V.int)) ∧ ExtN H H' ∧ Tabs (chT PT) H' ∧ ∃ y6 y7 y8, σ = [sR tr, sI n, sS kd, sR p, sR pgA, sR posA, y6, y7, y8]) ?_ (fun N kk => ?_)
  · rintro σ H5 ⟨pos, ru, lp, g5, e5, T5, y6, y7, y8, rfl⟩
    walk_at "go"
    exact q posA pos H5 ru lp npo0 g5 e5 T5
  walk_at "go"
  refine for_it (walk_enum (K := K) (a := tr) (xs := ns.map V.int)) (fun i σ H' => Ob (∃ (s : CS) (pg : List (Option Int)) (pos : List Int), ChS C H' p fa ua ba dx kd n s ∧ H' pgA = some (.lst (pg.map oV)) ∧ H' posA = some (.lst (pos.map V.int)) ∧ pg.length = n ∧ 0 ≤ s.hand ∧ s.hand < n ∧ pos.length ≤ i ∧ (∀ ps, RunC kd n s pg (i : Nat) (ns.drop i) ps → RunC kd n (cs0 n) (List.replicate n none) 0 ns (pos ++ ps)) ∧ ButT [p, fa, ua, ba, pgA, posA] H4 H' ∧ Tabs (chT PT) H' ∧ ∃ y6 y7 y8, σ = [sR tr, sI n, sS kd, sR p, sR pgA, sR posA, y6, y7, y8])) (ob ⟨cs0 n, List.replicate n none, [], hc4, gp4, gpo, List.length_replicate, Int.le_refl _, by show (0 : Int) < n; omega, Nat.le_refl _, fun ps h => h, ButT.refl, T4, none, none, none, rfl⟩) (fun i σ H' _ h => ?_) ?_ ?_
  · obtain ⟨s, pg, pos, _, _, _, _, _, _, _, _, b5, _⟩ := unob h
    exact seqT (ext_but s4 fr b5) hS
  · intro i x σ H5 H6 hi h hy
    obtain ⟨TT, x1, x2, rfl, nT, rfl, e1, e2⟩ := hy
    cases e1
    obtain ⟨s, pg, pos, h5, gp5, go5, lpg, h0, h1, lpo, ru, b5, T5, y6, y7, y8, rfl⟩ := unob h
    clear h kk q
    rw [List.length_map] at hi
    obtain ⟨x, ex, rfl⟩ : ∃ x, ns[i]? = some x ∧ V.int x = x2 := by
      have e2' : (ns.map V.int)[i]? = some x2 := e2
      rw [List.getElem?_map, List.getElem?_eq_getElem hi] at e2'
      exact ⟨ns[i], List.getElem?_eq_getElem hi, Option.some.inj e2'⟩
    have dx' : ns.drop i = x :: ns.drop (i + 1) := by
      rw [List.drop_eq_getElem_cons hi]
      rw [List.getElem?_eq_getElem hi] at ex
      rw [Option.some.inj ex]
    have s6 := same_upd (o := HO.tup [V.int (i : Nat), V.int x]) nT
    have gT := upd_same (H := H5) (a := TT) (o := HO.tup [V.int (i : Nat), V.int x])
    have b6 : ButT [p, fa, ua, ba, pgA, posA] H4 (upd H5 TT (HO.tup [V.int (i : Nat), V.int x])) := b5.trans (Same.t s6)
    have T6 := T5.ext s6
    have h6 : ChS C (upd H5 TT (HO.tup [V.int (i : Nat), V.int x])) p fa ua ba dx kd n s := ChAt.but (l := []) h5 (Same.but s6) (by simp) (by simp) (by simp) (by simp)
    have gp6 := s6 _ _ gp5
    have go6 := s6 _ _ go5
    generalize upd H5 TT (HO.tup [V.int (i : Nat), V.int x]) = H6 at *
    clear s6 b5 T5 h5 gp5 go5
    refine ⟨TT, _, rfl, SqT.of gT, rfl, ?_⟩
    refine ⟨_, _, rfl, ?_⟩
    refine ⟨_, _, rfl, ?_⟩
    walk_at "go"
    refine un ?_
    walk_at "go"
    refine ⟨flats_o _, ?_⟩
    rw [show inV (V.int x) (pg.map oV) = decide (some x ∈ pg) from inV_o (some x) pg]
    walk_at "go"
    refine ifD (fun c => ?_) (fun c => ?_)
    · obtain ⟨a1, a2, a3⟩ := ixO_at c
      walk_at "go"
      refine ⟨p, dx, _, rfl, h6.g, ch_no1, ?_⟩
      walk_at "go"
      refine ⟨pgA, _, .int x, ixO (some x) pg, oV (some x), rfl, rfl, SqL.of gp6, rfl, flats_o _, by rw [List.getElem?_map, a1]; rfl, by show (x == x) = true; simp, fun m z hm hz => idx_no (a := some x) (a3 m hm) hz, ?_⟩
      walk_at "go"
      refine ⟨p, fa, ua, ba, dx, kd, n, s.calls, s.hand, (ixO (some x) pg : Nat), s.fl, s.us, s.bits, rfl, h6, by omega, by omega, fun H7 h7 b7 => ?_⟩
      have n1' : pgA ∉ [p, ua, ba] := fun z => d1 (by simp only [List.mem_cons, List.not_mem_nil, or_false] at z ⊢; rcases z with e | e | e <;> simp [e])
      have n2' : posA ∉ [p, ua, ba] := fun z => d2 (by simp only [List.mem_cons, List.not_mem_nil, or_false] at z ⊢; rcases z with e | e | e <;> simp [e])
      refine ob ⟨s.touch (ixO (some x) pg : Nat), pg, pos, h7, b7 _ _ n1' gp6, b7 _ _ n2' go6, lpg, h0, h1, by omega, fun ps h => ru ps ?_, b6.trans (b7.t.mono fun z hz => ?_), tabs_but T6 b7 fun z hz => ?_, _, _, _, rfl⟩
      · rw [dx']
        exact .hit _ _ _ _ _ _ c h
      · simp only [List.mem_cons, List.not_mem_nil, or_false] at hz ⊢
        rcases hz with e | e | e <;> simp [e]
      · simp only [List.mem_cons, List.not_mem_nil, or_false] at hz
        rcases hz with e | e | e <;> rw [e]
        · exact ⟨_, h6.g, ⟨fun _ z => (by cases z), fun _ z => (by cases z)⟩⟩
        · exact ⟨_, h6.u, ⟨fun _ z => (by cases z), fun _ z => (by cases z)⟩⟩
        · exact ⟨_, h6.b, ⟨fun _ z => (by cases z), fun _ z => (by cases z)⟩⟩
    · walk_at "go"
      refine ⟨posA, _, _, rfl, rfl, go6, sz5 (by rw [List.length_map]; omega), ?_⟩
      rw [show pos.map V.int ++ [V.int (i : Nat)] = (pos ++ [((i : Nat) : Int)]).map V.int by rw [List.map_append]; rfl]
      have lt1 : ∀ {z : Addr} {xs : List V} {G : Hp}, G z = some (.lst xs) → ∀ y ∈ [z], ∃ o, G y = some o ∧ Plain o := fun {z xs G} g y hy => ⟨HO.lst xs, by rw [List.mem_singleton.mp hy]; exact g, ⟨fun _ z => (by cases z), fun _ z => (by cases z)⟩⟩
      have bo : ButL [posA] H6 (upd H6 posA (HO.lst ((pos ++ [((i : Nat) : Int)]).map V.int))) := ButL.put (by simp)
      have go7 := upd_same (H := H6) (a := posA) (o := HO.lst ((pos ++ [((i : Nat) : Int)]).map V.int))
      have T7 := tabs_but T6 bo (lt1 go6)
      have gp7 := bo _ _ (by simpa using d3) gp6
      have no : ∀ z ∈ [p, fa, ua, ba], z ∉ [posA] := fun z hz e => d2 (by rw [← List.mem_singleton.mp e]; exact hz)
      have np' : ∀ z ∈ [p, fa, ua, ba], z ∉ [pgA] := fun z hz e => d1 (by rw [← List.mem_singleton.mp e]; exact hz)
      have h7 : ChS C (upd H6 posA (HO.lst ((pos ++ [((i : Nat) : Int)]).map V.int))) p fa ua ba dx kd n s := ChAt.but (l := [posA]) h6 bo (no _ (by simp)) (no _ (by simp)) (no _ (by simp)) (no _ (by simp))
      have b7 := b6.trans (bo.t.mono (l' := [p, fa, ua, ba, pgA, posA]) (by simp))
      show _
      generalize upd H6 posA (HO.lst ((pos ++ [((i : Nat) : Int)]).map V.int)) = H7 at *
      clear h6 gp6 go6 b6 T6 bo gT
      walk_at "go"
      refine ⟨pgA, p, fa, ua, ba, dx, kd, n, s, pg, rfl, h7, gp7, lpg, k4, n1, n2, h0, h1, T7, fun fr s2 H8 ob8 f0 f1 hh0 hh1 h8 b8 T8 => ?_⟩
      have m2 : ∀ z ∈ [p, ba], z ∈ [p, fa, ua, ba] := fun z hz => by
        simp only [List.mem_cons, List.not_mem_nil, or_false] at hz ⊢
        rcases hz with e | e <;> simp [e]
      have gp8 := b8 _ _ (fun z => d1 (m2 _ z)) (fun _ z => by cases z) gp7
      have go8 := b8 _ _ (fun z => d2 (m2 _ z)) (fun _ z => by cases z) go7
      have b8' := b7.trans (b8.mono (l' := [p, fa, ua, ba, pgA, posA]) fun z hz => by
        have := m2 z hz
        simp only [List.mem_cons, List.not_mem_nil, or_false] at this ⊢
        rcases this with e | e | e | e <;> simp [e])
      clear h7 gp7 go7 b7 T7 b8
      walk_at "go"
      refine ⟨pgA, _, fr, _, rfl, rfl, gp8, ix_ok f0 (by rw [List.length_map, lpg]; exact f1), ?_⟩
      rw [set_o]
      have bo : ButL [pgA] H8 (upd H8 pgA (HO.lst ((pg.set fr.toNat (some x)).map oV))) := ButL.put (by simp)
      have gp9 := upd_same (H := H8) (a := pgA) (o := HO.lst ((pg.set fr.toNat (some x)).map oV))
      have T9 := tabs_but T8 bo (lt1 gp8)
      have go9 := bo _ _ (by simpa using d3.symm) go8
      have h9 : ChS C (upd H8 pgA (HO.lst ((pg.set fr.toNat (some x)).map oV))) p fa ua ba dx kd n s2 := ChAt.but (l := [pgA]) h8 bo (np' _ (by simp)) (np' _ (by simp)) (np' _ (by simp)) (np' _ (by simp))
      have b9 := b8'.trans (bo.t.mono (l' := [p, fa, ua, ba, pgA, posA]) (by simp))
      show _
      generalize upd H8 pgA (HO.lst ((pg.set fr.toNat (some x)).map oV)) = H9 at *
      clear h8 gp8 go8 b8' T8 bo
      walk_at "go"
      refine ⟨p, dx, _, rfl, h9.g, ch_no2, ?_⟩
      walk_at "go"
      refine ⟨p, fa, ua, ba, dx, kd, n, s2.calls, s2.hand, fr, s2.fl, s2.us, s2.bits, rfl, h9, f0, f1, fun H10 h10 b10 => ?_⟩
      refine ob ⟨s2.fill fr, pg.set fr.toNat (some x), pos ++ [((i : Nat) : Int)], h10, b10 _ _ d1 gp9, b10 _ _ d2 go9, by rw [List.length_set]; exact lpg, hh0, hh1, by rw [List.length_append]; show pos.length + 1 ≤ i + 1; omega, fun ps h => ?_, b9.trans (b10.t.mono fun z hz => ?_), tabs_but T9 b10 fun z hz => ?_, _, _, _, rfl⟩
      · rw [List.append_assoc]
        refine ru _ ?_
        rw [dx']
        rcases ob8 with ⟨cn, ef, es⟩ | ⟨cn, s', ch, es⟩
        · subst ef es
          have e : (((ixO none pg : Nat) : Int)).toNat = ixO none pg := by omega
          rw [e] at h
          exact .free _ _ _ _ _ _ c cn h
        · subst es
          exact .full _ s' _ _ _ _ _ _ c cn ch f0 f1 h
      · simp only [List.mem_cons, List.not_mem_nil, or_false] at hz ⊢
        rcases hz with e | e | e | e <;> simp [e]
      · simp only [List.mem_cons, List.not_mem_nil, or_false] at hz
        rcases hz with e | e | e | e <;> rw [e]
        · exact ⟨_, h9.g, ⟨fun _ z => (by cases z), fun _ z => (by cases z)⟩⟩
        · exact ⟨_, h9.f, ⟨fun _ z => (by cases z), fun _ z => (by cases z)⟩⟩
        · exact ⟨_, h9.u, ⟨fun _ z => (by cases z), fun _ z => (by cases z)⟩⟩
        · exact ⟨_, h9.b, ⟨fun _ z => (by cases z), fun _ z => (by cases z)⟩⟩
  · intro σ H5 h
    obtain ⟨s, pg, pos, h5, gp5, go5, lpg, h0, h1, lpo, ru, b5, T5, y6, y7, y8, rfl⟩ := unob h
    rw [List.length_map] at ru lpo
    rw [List.drop_length] at ru
    have := ru [] (.nil _ _ _)
    rw [List.append_nil] at this
    exact kk _ _ ⟨pos, this, by omega, go5, ext_but s4 fr b5, T5, _, _, _, rfl⟩
end

end

section

-- a condition of an operator
local macro_rules | `(tactic| walk_at "cond") => `(tactic| first
  | (show (0 : Int) < _; omega)
  | (show CDiv _ _; constructor <;> (first | decide | omega))
  | (show CMul _ _; first | (refine cmul_l ?_; constructor <;> (first | decide | omega)) | (refine cmul_r ?_; constructor <;> (first | decide | omega)))
  | (show CPow _ _; exact (by refine ⟨by decide, by decide, by decide⟩))
  | (show CDivW _ _; exact ⟨by decide, by decide +kernel⟩))
local macro_rules | `(tactic| walk_at "sq") => `(tactic| first | assumption | exact Dh.mono (same_upd (by assumption)) _ _ (by assumption) | exact .inl (.inl (.inl (by assumption))) | exact .inr (.inl (.inl (by assumption))) | exact SqL.of (by assumption) | exact .inl (by assumption) | exact .inl (SqL.of (by assumption)) | exact SqT.of (by assumption) | exact .inr (SqT.of (by assumption)))
local macro_rules | `(tactic| walk_at "st") => `(tactic| first
  | refine ⟨_, rfl, ?_⟩
  | refine ⟨_, _, rfl, rfl, ?_⟩
  | refine .inl ⟨_, rfl, ?_⟩
  | refine ⟨rfl, ?_⟩
  | refine ⟨_, _, rfl, by walk_at "sq", ?_⟩
  | refine ⟨.inl ⟨rfl, _, SqL.of (by assumption)⟩, ?_⟩
  | refine ⟨by walk_at "cond", ?_⟩
  | (refine' ifBT ?hh ?_; (case hh => first | rfl | assumption))
  | (refine' ifBF ?hh ?_; (case hh => first | rfl | assumption)))
local macro_rules | `(tactic| walk_at "go") => `(tactic| repeat walk_at "st")
local macro_rules | `(tactic| walk_at "yes") => `(tactic| (refine' ifT ?hh ?_; (case hh => first | rfl | decide +kernel)))
local macro_rules | `(tactic| walk_at "no") => `(tactic| (refine' ifF ?hh ?_; (case hh => first | decide +kernel | (intro z; cases z; done))))

/-! ### the law's own page-ins -/
abbrev s_Lpage_ins : Stmt := topS 14
theorem sc_Lpage_ins : FnScope ["_law_trace_here", "_law_many", "_law_kind", "_law_plain", "_law_inside", "_law_k", "_law_found", "_law_at", "_law_frame"] ["_law_trace_here", "_law_many", "_law_kind"] (C8.fnScope s_Lpage_ins) := C8.fnScope_by (by decide +kernel)
abbrev RunL (kd : Str) (n : Nat) := Run LS.touch LS.fill LS.drop (LS.ch kd n) n
def ls0 (n : Nat) : LS := ⟨0, 0, List.replicate n 0, List.replicate n 0, List.replicate n 0, List.replicate n false⟩
def PlS (H : Hp) (d fi us bi fu : Addr) (kd : Str) (n : Nat) (l : LS) : Prop := PlAt H d fi us bi fu kd n l.t l.u l.fis l.uss l.bits l.full
theorem same_butL {l : List Addr} {H H0 H' : Hp} (s : Same H H0) (f : ∀ x ∈ l, H x = none) (b : ButL l H0 H') : Same H H' := fun c o e => b c o (fun z => by
  rw [f c z] at e
  cases e) (s c o e)
def Obl (kd : Str) (n : Nat) (s : LS) (pg : List (Option Int)) (f : Int) (s2 : LS) : Prop := (none ∈ pg ∧ f = (ixO none pg : Nat) ∧ s2 = s) ∨ (none ∉ pg ∧ ∃ s', LS.ch kd n s f s' ∧ s2 = s'.drop f)
def spLPI (K : PySem.W.Frag) : Sp := fun vs H Q _ => ∃ (tr : Addr) (ns : List Int) (n : Nat) (kd : Str), vs = [.ref tr, .int n, .str kd] ∧ SqL K H tr (ns.map V.int) ∧ ns.length ≤ 1000 ∧ 1 ≤ n ∧ n ≤ 100 ∧ K4 kd ∧
  ∀ l ps H', RunL kd n (ls0 n) (List.replicate n none) 0 ns ps → ps.length ≤ 1000 → H l = none → H' l = some (.lst (ps.map V.int)) → Same H H' → Q (.ref l) H'
theorem nin2' {α : Type} {x a b : α} (h : x ≠ a) (i : x ≠ b) : x ∉ [a, b] := by simp [h, i]
section
variable {P : Program} {w : World} {K : PySem.W.Frag} {mg : Str → Option Value} {base : Heap}
theorem ok_lpi {f : Addr} {fd : FuncData} (D : Def K mg "_law_page_ins" s_Lpage_ins f fd) (b : Binds K fd ["_law_trace_here", "_law_many", "_law_kind"] []) (T : Txt mg) (c_chooser_new : Cal P w K mg base 1 "_law_chooser_new" spNew []) (c_chooser_tell : Cal P w K mg base 1 "_law_chooser_tell" spTell []) (c_chooser_pick : Cal P w K mg base 1 "_law_chooser_pick" (spPick ()) []) : Cal P w K mg base 2 "_law_page_ins" (spLPI K) [] := by
  refine cal0 D b .nil sc_Lpage_ins (fun vs H Q E h => ?_) (fun cdv A outer s H vs Q E hr h => ?_)
  · obtain ⟨tr, ns, n, kd, rfl, _⟩ := h
    rfl
  obtain ⟨tr, ns, n, kd, rfl, hS, hl, n1, n2, k4, q⟩ := h
  refine ⟨_, (pss_cons (ps_set (i := 3) sc_Lpage_ins.nd rfl (.inl rfl) (C8.pe_c c_chooser_new hr (by omega) (by rfl) (pa_cons (pv 2) (pa_cons (pv 1) pa_nil))))
      (pss_cons (ps_setLc (i := 4) (own := [("_law_k", 5)]) (g := gName 5) (tt := tYes) rfl sc_Lpage_ins.nd rfl rfl (sw_true rfl rfl rfl (by decide +kernel)) (pi_range1 (by rfl) T.range (pa_cons (pv 1) pa_nil)) (blkOk_by (own := [("_law_k", 5)]) (N := ["_law_trace_here", "_law_many", "_law_kind", "_law_plain", "_law_inside", "_law_k", "_law_found", "_law_at", "_law_frame"]) (sc := C8.fnScope s_Lpage_ins) (by decide +kernel)) (fun _ _ _ _ _ => (pg_name (i := 5) sc_Lpage_ins.nd rfl (.inl rfl))) (fun _ _ _ _ _ => pts_nil) (fun _ _ _ _ _ => pe_non))
      (pss_cons (ps_set (i := 6) sc_Lpage_ins.nd rfl (.inl rfl) (pe_lst pa_nil))
      (pss_cons (ps_mk (ps_for PassesOwn.never rfl (pi_range1 (by rfl) T.range (pa_cons (pe_callB (lenQ K rfl) (by rfl) T.len PySem.boot_len (pa_cons (pv 0) pa_nil)) pa_nil)) (pg_name (i := 7) sc_Lpage_ins.nd rfl (.inl rfl))
      (pss_cons (ps_mk (ps_if (pt_cmpR (inQ K rfl) (pe_ix (ixL K rfl) (pv 0) (pv 7) (fun _ _ => rfl)) (pv 4) (by rfl))
      (pss_cons (ps_expr (C8.pe_c c_chooser_tell hr (by omega) (by rfl) (pa_cons (pv 3) (pa_cons pe_str (pa_cons (pe_bm PySem.F.plainAttrs_list PySem.F.slot_list_index PySem.F.type_list_index mt_index (pv 4) (pa_cons (pe_ix (ixL K rfl) (pv 0) (pv 7) (fun _ _ => rfl)) pa_nil)) pa_nil)))))
      (pss_one ps_continue))
      pss_nil))
      (pss_cons (ps_expr (pe_bm PySem.F.plainAttrs_list PySem.F.slot_list_append PySem.F.type_list_append mt_append (pv 6) (pa_cons (pv 7) pa_nil)))
      (pss_cons (ps_mk (ps_if (pt_cmpR (inQ K rfl) pe_non (pv 4) (by rfl))
      (pss_one (ps_set (i := 8) sc_Lpage_ins.nd rfl (.inl rfl) (pe_bm PySem.F.plainAttrs_list PySem.F.slot_list_index PySem.F.type_list_index mt_index (pv 4) (pa_cons pe_non pa_nil))))
      (pss_cons (ps_set (i := 8) sc_Lpage_ins.nd rfl (.inl rfl) (C8.pe_c c_chooser_pick hr (by omega) (by rfl) (pa_cons (pv 3) (pa_cons (pe_lc (own := [("_law_k", 5)]) (g := gName 5) (tt := tYes) rfl sc_Lpage_ins.nd (pi_range1 (by rfl) T.range (pa_cons (pv 1) pa_nil)) (blkOk_by (own := [("_law_k", 5)]) (N := ["_law_trace_here", "_law_many", "_law_kind", "_law_plain", "_law_inside", "_law_k", "_law_found", "_law_at", "_law_frame"]) (sc := C8.fnScope s_Lpage_ins) (by decide +kernel)) (fun _ _ _ _ _ => (pg_name (i := 5) sc_Lpage_ins.nd rfl (.inl rfl))) (fun _ _ _ _ _ => pts_nil) (fun _ _ _ _ _ => (pv 5))) pa_nil))))
      (pss_one (ps_expr (C8.pe_c c_chooser_tell hr (by omega) (by rfl) (pa_cons (pv 3) (pa_cons pe_str (pa_cons (pv 8) pa_nil)))))))))
      (pss_cons (ps_asg (pe_ix (ixL K rfl) (pv 0) (pv 7) (fun _ _ => rfl)) (pg_sub (pv 4) (pv 8) set_list))
      (pss_one (ps_expr (C8.pe_c c_chooser_tell hr (by omega) (by rfl) (pa_cons (pv 3) (pa_cons pe_str (pa_cons (pv 8) pa_nil))))))))))))
      (pss_one (ps_ret (pv 6))))))), ?_⟩
  walk_at "go"
  refine ⟨kd, n, rfl, by omega, fun d fi us bi fu H1 s1 nd hp1 => ?_⟩
  try dsimp only
  walk_at "go"
  refine ⟨by omega, by omega, fun pgA npg => lc_range (lo := 0) (n := n) (fun j H' => Ob (Same H1 H' ∧ H' pgA = some (.lst ((List.replicate j (none : Option Int)).map oV)))) (ob ⟨same_upd npg, upd_same⟩) ?_ ?_⟩
  · intro j H2 hj h
    obtain ⟨s2, g2⟩ := unob h
    refine ⟨rfl, ?_⟩
    walk_at "go"
    refine ⟨_, g2, sz5 (by rw [List.length_map, List.length_replicate]; omega), ob ⟨same_put s2 npg, ?_⟩⟩
    rw [upd_same, List.replicate_succ', List.map_append]
    rfl
  intro H2 h
  obtain ⟨s12, gp⟩ := unob h
  clear h
  have hp2 := hp1.but (l := []) (Same.but s12) (by simp) (by simp) (by simp) (by simp) (by simp)
  have npg0 := s1.free npg
  have s2 := s1.trans s12
  have d1 : pgA ∉ [d, fi, us, bi, fu] := fun z => by
    simp only [List.mem_cons, List.not_mem_nil, or_false] at z
    rcases z with e | e | e | e | e
    · exact ne_of_none hp1.g npg e.symm
    · exact ne_of_none hp1.f npg e.symm
    · exact ne_of_none hp1.u npg e.symm
    · exact ne_of_none hp1.b npg e.symm
    · exact ne_of_none hp1.l npg e.symm
  clear hp1 s1 s12 npg
  walk_at "go"
  refine ⟨sz, fun posA npo => ?_⟩
  have npo0 := s2.free npo
  have s4 := s2.trans (same_upd (o := HO.lst []) npo)
  have gpo := upd_same (H := H2) (a := posA) (o := HO.lst [])
  have gp4 := same_upd (o := HO.lst []) npo _ _ gp
  have hp4 := hp2.but (l := []) (Same.but (same_upd (o := HO.lst []) npo)) (by simp) (by simp) (by simp) (by simp) (by simp)
  have d2 : posA ∉ [d, fi, us, bi, fu] := fun z => by
    simp only [List.mem_cons, List.not_mem_nil, or_false] at z
    rcases z with e | e | e | e | e
    · exact ne_of_none hp2.g npo e.symm
    · exact ne_of_none hp2.f npo e.symm
    · exact ne_of_none hp2.u npo e.symm
    · exact ne_of_none hp2.b npo e.symm
    · exact ne_of_none hp2.l npo e.symm
  have d3 : pgA ≠ posA := ne_of_none gp npo
  show _
  generalize upd H2 posA (HO.lst []) = H4 at *
  clear hp2 gp npo s2
  have fr : ∀ x ∈ [d, fi, us, bi, fu, pgA, posA], H x = none := fun x hx => by
    rcases List.mem_append.mp (show x ∈ [d, fi, us, bi, fu] ++ [pgA, posA] from hx) with h | h
    · exact nd x h
    · simp only [List.mem_cons, List.not_mem_nil, or_false] at h
      rcases h with rfl | rfl <;> assumption
  have sub5 : ∀ x ∈ [d, fi, us, bi, fu], x ∈ [d, fi, us, bi, fu, pgA, posA] := fun x hx => List.mem_append_left [pgA, posA] hx
  have hS4 := s4.seq hS
  walk_at "go"
  refine jnS (M := fun σ H' => ∃ pos : List Int, RunL kd n (ls0 n) (List.replicate n none) 0 ns pos ∧ pos.length ≤ 1000 ∧ H' posA = some (.lst (pos.map V.int)) ∧ Same H H' ∧ ∃ y5 y7 y8, σ = [sR tr, sI n, sS kd, sR d, sR pgA, y5, sR posA, y7, y8]) ?_ (fun N kk => ?_)
  · rintro σ H5 ⟨pos, ru, lp, g5, e5, y5, y7, y8, rfl⟩
    walk_at "go"
    exact q posA pos H5 ru lp npo0 g5 e5
  walk_at "go"
  rw [List.length_map]
  refine ⟨by omega, by omega, for_range (lo := 0) (n := ns.length) (fun i σ H' => Ob (∃ (s : LS) (pg : List (Option Int)) (pos : List Int), PlS H' d fi us bi fu kd n s ∧ H' pgA = some (.lst (pg.map oV)) ∧ H' posA = some (.lst (pos.map V.int)) ∧ pg.length = n ∧ 0 ≤ s.u ∧ s.u < n ∧ pos.length ≤ i ∧ (∀ ps, RunL kd n s pg (i : Nat) (ns.drop i) ps → RunL kd n (ls0 n) (List.replicate n none) 0 ns (pos ++ ps)) ∧ ButL [d, fi, us, bi, fu, pgA, posA] H4 H' ∧ ∃ y5 y7 y8, σ = [sR tr, sI n, sS kd, sR d, sR pgA, y5, sR posA, y7, y8])) (ob ⟨ls0 n, List.replicate n none, [], hp4, gp4, gpo, List.length_replicate, Int.le_refl _, by show (0 : Int) < n; omega, Nat.le_refl _, fun ps h => h, ButL.refl, _, none, none, rfl⟩) ?_ ?_⟩
  rotate_left
  · intro σ H5 h
    obtain ⟨s, pg, pos, h5, gp5, go5, lpg, h0, h1, lpo, ru, b5, y5, y7, y8, rfl⟩ := unob h
    rw [List.drop_length] at ru
    have := ru [] (.nil _ _ _)
    rw [List.append_nil] at this
    exact kk _ _ ⟨pos, this, by omega, go5, same_butL s4 fr b5, _, _, _, rfl⟩
  intro i σ H6 hi h
  obtain ⟨s, pg, pos, h6, gp6, go6, lpg, h0, h1, lpo, ru, b6, y5, y7, y8, rfl⟩ := unob h
  clear h kk q
  rw [Int.zero_add]
  obtain ⟨x, ex⟩ : ∃ x, ns[i]? = some x := ⟨_, List.getElem?_eq_getElem hi⟩
  have dx' : ns.drop i = x :: ns.drop (i + 1) := by
    rw [List.drop_eq_getElem_cons hi]
    rw [List.getElem?_eq_getElem hi] at ex
    rw [Option.some.inj ex]
  have hS6 : SqL K H6 tr (ns.map V.int) := (same_butL s4 fr b6).seq hS
  have ax : atI (ns.map V.int) ((i : Nat) : Int) = some (.int x) := atI_nat (by rw [List.getElem?_map, ex]; rfl)
  walk_at "go"
  refine un ?_
  walk_at "go"
  refine ⟨_, _, _, _, rfl, rfl, hS6, ax, ?_⟩
  walk_at "go"
  refine ⟨flats_o _, ?_⟩
  rw [show inV (V.int x) (pg.map oV) = decide (some x ∈ pg) from inV_o (some x) pg]
  walk_at "go"
  have on1 : ¬ (("touched" : Str) = ("filled" : Str)) := wh_tf
  refine ifD (fun c => ?_) (fun c => ?_)
  · obtain ⟨a1, a2, a3⟩ := ixO_at c
    walk_at "go"
    refine ⟨_, _, _, _, rfl, rfl, hS6, ax, ?_⟩
    walk_at "go"
    refine ⟨pgA, _, .int x, ixO (some x) pg, oV (some x), rfl, rfl, SqL.of gp6, rfl, flats_o _, by rw [List.getElem?_map, a1]; rfl, by show (x == x) = true; simp, fun m z hm hz => idx_no (a := some x) (a3 m hm) hz, ?_⟩
    walk_at "go"
    refine ⟨d, fi, us, bi, fu, kd, "touched", n, s.t, s.u, (ixO (some x) pg : Nat), s.fis, s.uss, s.bits, s.full, rfl, h6, by omega, by omega, fun H7 h7 b7 => ?_⟩
    rw [on_t, if_pos rfl, if_pos rfl, if_neg wh_tf] at h7
    refine ob ⟨s.touch (ixO (some x) pg : Nat), pg, pos, h7, b7 _ _ d1 gp6, b7 _ _ d2 go6, lpg, h0, h1, by omega, fun ps h => ru ps ?_, b6.trans (b7.mono sub5), _, _, _, rfl⟩
    rw [dx']
    exact .hit _ _ _ _ _ _ c h
  walk_at "go"
  refine ⟨posA, _, _, rfl, rfl, go6, sz5 (by rw [List.length_map]; omega), ?_⟩
  rw [show pos.map V.int ++ [V.int (i : Nat)] = (pos ++ [((i : Nat) : Int)]).map V.int by rw [List.map_append]; rfl]
  have bo : ButL [posA] H6 (upd H6 posA (HO.lst ((pos ++ [((i : Nat) : Int)]).map V.int))) := ButL.put (by simp)
  have go7 := upd_same (H := H6) (a := posA) (o := HO.lst ((pos ++ [((i : Nat) : Int)]).map V.int))
  have gp7 := bo _ _ (by simpa using d3) gp6
  have no : ∀ z ∈ [d, fi, us, bi, fu], z ∉ [posA] := fun z hz e => d2 (by rw [← List.mem_singleton.mp e]; exact hz)
  have np' : ∀ z ∈ [d, fi, us, bi, fu], z ∉ [pgA] := fun z hz e => d1 (by rw [← List.mem_singleton.mp e]; exact hz)
  have h7 : PlS (upd H6 posA (HO.lst ((pos ++ [((i : Nat) : Int)]).map V.int))) d fi us bi fu kd n s := PlAt.but (l := [posA]) h6 bo (no _ (by simp)) (no _ (by simp)) (no _ (by simp)) (no _ (by simp)) (no _ (by simp))
  have b7 := b6.trans (bo.mono (l' := [d, fi, us, bi, fu, pgA, posA]) (by simp))
  have hS7 : SqL K (upd H6 posA (HO.lst ((pos ++ [((i : Nat) : Int)]).map V.int))) tr (ns.map V.int) := (same_butL s4 fr b7).seq hS
  show _
  generalize upd H6 posA (HO.lst ((pos ++ [((i : Nat) : Int)]).map V.int)) = H7 at *
  clear h6 gp6 go6 b6 bo hS6
  refine jnS (M := fun σ H' => ∃ f s2, Obl kd n s pg f s2 ∧ 0 ≤ f ∧ f < n ∧ 0 ≤ s2.u ∧ s2.u < n ∧ PlS H' d fi us bi fu kd n s2 ∧ ButL [d, fi, us, bi, fu, pgA, posA] H4 H' ∧ H' pgA = some (.lst (pg.map oV)) ∧ H' posA = some (.lst ((pos ++ [((i : Nat) : Int)]).map V.int)) ∧ ∃ y5, σ = [sR tr, sI n, sS kd, sR d, sR pgA, y5, sR posA, sI i, sI f]) ?_ (fun N kk => ?_)
  rotate_left
  · walk_at "go"
    refine ⟨flats_o _, ?_⟩
    rw [show inV V.non (pg.map oV) = decide (none ∈ pg) from inV_o none pg]
    walk_at "go"
    refine ifD (fun c2 => ?_) (fun c2 => ?_)
    · obtain ⟨a1, a2, a3⟩ := ixO_at c2
      walk_at "go"
      refine ⟨pgA, _, .non, ixO none pg, oV none, rfl, rfl, SqL.of gp7, rfl, flats_o _, by rw [List.getElem?_map, a1]; rfl, rfl, fun m z hm hz => idx_no (a := none) (a3 m hm) hz, ?_⟩
      exact kk _ _ ⟨_, s, .inl ⟨c2, rfl, rfl⟩, by omega, by omega, h0, h1, h7, b7, gp7, go7, _, rfl⟩
    · walk_at "go"
      refine ⟨by omega, by omega, fun al nal => lc_range (lo := 0) (n := n) (fun j H' => Ob (Same H7 H' ∧ H' al = some (.lst ((allF j).map V.int)))) (ob ⟨same_upd nal, upd_same⟩) ?_ ?_⟩
      · intro j H8 hj h
        obtain ⟨s8, g8⟩ := unob h
        refine ⟨rfl, ?_⟩
        walk_at "go"
        refine ⟨_, g8, sz5 (by unfold allF; rw [List.length_map, List.length_map, List.length_range]; omega), ob ⟨same_put s8 nal, ?_⟩⟩
        rw [upd_same]
        unfold allF
        rw [List.range_succ, List.map_append, List.map_append, Int.zero_add]
        rfl
      intro H8 h
      obtain ⟨s8, ga⟩ := unob h
      clear h
      have h8 : PlS H8 d fi us bi fu kd n s := PlAt.but (l := []) h7 (Same.but s8) (by simp) (by simp) (by simp) (by simp) (by simp)
      have nal2 : al ∉ [d, bi] := nin2' (fun z => ne_of_none h7.g nal z.symm) (fun z => ne_of_none h7.b nal z.symm)
      try dsimp only
      walk_at "go"
      refine ⟨d, fi, us, bi, fu, al, kd, n, s.t, s.u, s.fis, s.uss, s.bits, allF n, s.full, rfl, h8, k4, ga, nal2, by unfold allF; rw [List.length_map, List.length_range]; omega, n1, by omega, h0, h1, fun x hx => mem_allF hx, fun fr2 hand' bits' H9 cr h9 b9 => ?_⟩
      obtain ⟨fr0, hd0⟩ := chs_range n1 h0 h1 h7.lb cr
      have b9' : ButL [d, fi, us, bi, fu] H8 H9 := b9.mono fun z hz => by
        simp only [List.mem_cons, List.not_mem_nil, or_false] at hz ⊢
        rcases hz with e | e <;> simp [e]
      walk_at "go"
      refine ⟨d, fi, us, bi, fu, kd, "emptied", n, s.t, hand', fr2, s.fis, s.uss, bits', s.full, rfl, h9, fr0.1, fr0.2, fun H10 h10 b10 => ?_⟩
      rw [on_e, if_neg Bool.false_ne_true, if_neg Bool.false_ne_true, if_neg wh_ef] at h10
      have bb := (Same.but s8).trans (b9'.trans b10)
      exact kk _ _ ⟨fr2, LS.drop ⟨s.t, hand', s.fis, s.uss, bits', s.full⟩ fr2, .inr ⟨c2, _, ⟨hand', bits', cr, rfl⟩, rfl⟩, fr0.1, fr0.2, hd0.1, hd0.2, h10, b7.trans (bb.mono sub5), bb _ _ d1 gp7, bb _ _ d2 go7, _, rfl⟩
  clear h7 gp7 go7 b7 hS7
  rintro σ H8 ⟨f8, s2, ob8, f0, f1, hh0, hh1, h8, b8, gp8, go8, y5, rfl⟩
  have hS8 : SqL K H8 tr (ns.map V.int) := (same_butL s4 fr b8).seq hS
  walk_at "go"
  refine ⟨_, _, _, _, rfl, rfl, hS8, ax, ?_⟩
  walk_at "go"
  refine ⟨pgA, _, f8, _, rfl, rfl, gp8, ix_ok f0 (by rw [List.length_map, lpg]; exact f1), ?_⟩
  rw [set_o]
  have bo : ButL [pgA] H8 (upd H8 pgA (HO.lst ((pg.set f8.toNat (some x)).map oV))) := ButL.put (by simp)
  have gp9 := upd_same (H := H8) (a := pgA) (o := HO.lst ((pg.set f8.toNat (some x)).map oV))
  have go9 := bo _ _ (by simpa using d3.symm) go8
  have h9 : PlS (upd H8 pgA (HO.lst ((pg.set f8.toNat (some x)).map oV))) d fi us bi fu kd n s2 := PlAt.but (l := [pgA]) h8 bo (np' _ (by simp)) (np' _ (by simp)) (np' _ (by simp)) (np' _ (by simp)) (np' _ (by simp))
  have b9 := b8.trans (bo.mono (l' := [d, fi, us, bi, fu, pgA, posA]) (by simp))
  show _
  generalize upd H8 pgA (HO.lst ((pg.set f8.toNat (some x)).map oV)) = H9 at *
  clear h8 gp8 go8 b8 bo hS8
  walk_at "go"
  refine ⟨d, fi, us, bi, fu, kd, "filled", n, s2.t, s2.u, f8, s2.fis, s2.uss, s2.bits, s2.full, rfl, h9, f0, f1, fun H10 h10 b10 => ?_⟩
  rw [on_f, if_pos rfl, if_pos rfl, if_pos rfl] at h10
  refine ob ⟨s2.fill f8, pg.set f8.toNat (some x), pos ++ [((i : Nat) : Int)], h10, b10 _ _ d1 gp9, b10 _ _ d2 go9, by rw [List.length_set]; exact lpg, hh0, hh1, by rw [List.length_append]; show pos.length + 1 ≤ i + 1; omega, fun ps h => ?_, b9.trans (b10.mono sub5), _, _, _, rfl⟩
  rw [List.append_assoc]
  refine ru _ ?_
  rw [dx']
  rcases ob8 with ⟨cn, ef, es⟩ | ⟨cn, s', ch, es⟩
  · subst ef es
    have e : (((ixO none pg : Nat) : Int)).toNat = ixO none pg := by omega
    rw [e] at h
    exact .free _ _ _ _ _ _ c cn h
  · subst es
    exact .full _ s' _ _ _ _ _ _ c cn ch f0 f1 h
end

end

section

-- a condition of an operator
local macro_rules | `(tactic| walk_at "cond") => `(tactic| first
  | (show (0 : Int) < _; omega)
  | (show CDiv _ _; constructor <;> (first | decide | omega))
  | (show CMul _ _; first | (refine cmul_l ?_; constructor <;> (first | decide | omega)) | (refine cmul_r ?_; constructor <;> (first | decide | omega)))
  | (show CPow _ _; exact (by refine ⟨by decide, by decide, by decide⟩))
  | (show CDivW _ _; exact ⟨by decide, by decide +kernel⟩))
local macro_rules | `(tactic| walk_at "sq") => `(tactic| first | assumption | exact Dh.mono (same_upd (by assumption)) _ _ (by assumption) | exact .inl (.inl (.inl (by assumption))) | exact .inr (.inl (.inl (by assumption))) | exact SqL.of (by assumption) | exact .inl (by assumption) | exact .inl (SqL.of (by assumption)) | exact SqT.of (by assumption) | exact .inr (SqT.of (by assumption)))
local macro_rules | `(tactic| walk_at "st") => `(tactic| first
  | refine ⟨_, rfl, ?_⟩
  | refine ⟨_, _, rfl, rfl, ?_⟩
  | refine .inl ⟨_, rfl, ?_⟩
  | refine ⟨rfl, ?_⟩
  | refine ⟨_, _, rfl, by walk_at "sq", ?_⟩
  | refine ⟨.inl ⟨rfl, _, SqL.of (by assumption)⟩, ?_⟩
  | refine ⟨by walk_at "cond", ?_⟩
  | (refine' ifBT ?hh ?_; (case hh => first | rfl | assumption))
  | (refine' ifBF ?hh ?_; (case hh => first | rfl | assumption)))
local macro_rules | `(tactic| walk_at "go") => `(tactic| repeat walk_at "st")
local macro_rules | `(tactic| walk_at "yes") => `(tactic| (refine' ifT ?hh ?_; (case hh => first | rfl | decide +kernel)))
local macro_rules | `(tactic| walk_at "no") => `(tactic| (refine' ifF ?hh ?_; (case hh => first | decide +kernel | (intro z; cases z; done))))

local macro_rules | `(tactic| walk_at "st") => `(tactic| refine ⟨_, _, _, _, _, rfl, by assumption, by assumption, by omega, by omega, by omega, by omega, by omega, ?_⟩)
local macro_rules | `(tactic| walk_at "st") => `(tactic| refine ⟨_, _, _, _, _, rfl, Same.seq (by assumption) (by assumption), by assumption, by omega, by omega, by omega, by omega, by omega, ?_⟩)

/-! ### names, trace -/
abbrev s_names : Stmt := topS 12
theorem sc_names : FnScope ["_law_script", "_law_most", "_law_many", "_law_turn", "_law_wide", "_law_low", "_law_k"] ["_law_script", "_law_most"] (C8.fnScope s_names) := C8.fnScope_by (by decide +kernel)
abbrev s_trace : Stmt := topS 13
theorem sc_trace : FnScope ["_law_script", "_law_names_here", "_law_trace_here", "_law_at", "_law_kind", "_law_name"] ["_law_script", "_law_names_here"] (C8.fnScope s_trace) := C8.fnScope_by (by decide +kernel)
def spNames (K : PySem.W.Frag) : Sp := fun vs H Q _ => ∃ (a : Addr) (ns : List Int), vs = [.ref a, .int 9] ∧ SqL K H a (ns.map V.int) ∧ ns.length ≤ 63 ∧ ∀ l xs H', Same H H' → H' l = some (.lst ((xs : List Int).map V.int)) → 1 ≤ xs.length → xs.length ≤ 9 → Q (.ref l) H'
def spTrace (K : PySem.W.Frag) : Sp := fun vs H Q _ => ∃ (a b : Addr) (ns xs : List Int), vs = [.ref a, .ref b] ∧ SqL K H a (ns.map V.int) ∧ ns.length ≤ 63 ∧ H b = some (.lst (xs.map V.int)) ∧ 1 ≤ xs.length ∧ xs.length ≤ 9 ∧ ∀ l ys H', Same H H' → H' l = some (.lst ((ys : List Int).map V.int)) → ys.length ≤ 50 → Q (.ref l) H'
section
variable {P : Program} {w : World} {K : PySem.W.Frag} {mg : Str → Option Value} {base : Heap}
theorem ok_names {f : Addr} {fd : FuncData} (D : Def K mg "_law_names" s_names f fd) (b : Binds K fd ["_law_script", "_law_most"] []) (T : Txt mg) (c_number : Cal P w K mg base 1 "_law_number" (spNum K) []) : Cal P w K mg base 2 "_law_names" (spNames K) [] := by
  refine cal0 D b .nil sc_names (fun vs H Q E h => ?_) (fun cdv A outer s H vs Q E hr h => ?_)
  · obtain ⟨a, ns, rfl, _⟩ := h
    rfl
  obtain ⟨a, ns, rfl, hS, hl, q⟩ := h
  refine ⟨_, (pss_cons (ps_set (i := 2) sc_names.nd rfl (.inl rfl) (pe_op op_add pe_int (C8.pe_c c_number hr (by omega) (by rfl) (pa_cons (pv 0) (pa_cons pe_int (pa_cons pe_int (pa_cons (pv 1) pa_nil)))))))
      (pss_cons (ps_set (i := 3) sc_names.nd rfl (.inr rfl) (pe_op op_add pe_int (C8.pe_c c_number hr (by omega) (by rfl) (pa_cons (pv 0) (pa_cons pe_int (pa_cons pe_int (pa_cons pe_int pa_nil)))))))
      (pss_cons (ps_set (i := 4) sc_names.nd rfl (.inr rfl) (pe_ix (ixL K rfl) (pe_lst (pa_cons pe_int (pa_cons pe_int (pa_cons pe_int (pa_cons (pe_un un_neg pe_int) pa_nil))))) (C8.pe_c c_number hr (by omega) (by rfl) (pa_cons (pv 0) (pa_cons pe_int (pa_cons pe_int (pa_cons pe_int pa_nil))))) (fun _ _ => rfl)))
      (pss_cons (ps_set (i := 5) sc_names.nd rfl (.inr rfl) (pe_ix (ixL K rfl) (pe_lst (pa_cons pe_int (pa_cons pe_int (pa_cons pe_int pa_nil)))) (C8.pe_c c_number hr (by omega) (by rfl) (pa_cons (pv 0) (pa_cons pe_int (pa_cons pe_int (pa_cons pe_int pa_nil))))) (fun _ _ => rfl)))
      (pss_one (ps_ret (pe_lc (own := [("_law_k", 6)]) (g := gName 6) (tt := tYes) rfl sc_names.nd (pi_range1 (by rfl) T.range (pa_cons (pv 2) pa_nil)) (blkOk_by (own := [("_law_k", 6)]) (N := ["_law_script", "_law_most", "_law_many", "_law_turn", "_law_wide", "_law_low", "_law_k"]) (sc := C8.fnScope s_names) (by decide +kernel)) (fun _ _ _ _ _ => (pg_name (i := 6) sc_names.nd rfl (.inl rfl))) (fun _ _ _ _ _ => pts_nil) (fun _ _ _ _ _ => (pe_op op_sub (pe_op op_mul (pv 4) (pe_op op_mod (pe_callTy call_int1 (by rfl) T.int (by decide +kernel) (pa_cons (pe_op op_mul (pv 3) (pe_op op_add (pv 6) pe_int)) pa_nil)) pe_int)) (pv 5)))))))))), ?_⟩
  have m0 : 0 ≤ num ns 0 7 9 := num_nn (by decide)
  have m1 : num ns 0 7 9 < 9 := num_lt (by decide)
  have t0 : 0 ≤ num ns 0 6 10 := num_nn (by decide)
  have t1 : num ns 0 6 10 < 10 := num_lt (by decide)
  have w0 : 0 ≤ num ns 0 8 4 := num_nn (by decide)
  have w1 : num ns 0 8 4 < 4 := num_lt (by decide)
  have v0 : 0 ≤ num ns 0 9 3 := num_nn (by decide)
  have v1 : num ns 0 9 3 < 3 := num_lt (by decide)
  walk_at "go"
  refine ⟨sz, fun l1 nl1 => ?_⟩
  have s1 := same_upd (o := HO.lst [V.int 1, V.int 7, V.int 1000003, V.int (-5)]) nl1
  have g1 := upd_same (H := H) (a := l1) (o := HO.lst [V.int 1, V.int 7, V.int 1000003, V.int (-5)])
  show _
  generalize upd H l1 (HO.lst [V.int 1, V.int 7, V.int 1000003, V.int (-5)]) = H1 at *
  have hS1 := s1.seq hS
  obtain ⟨wd, aw, wd0, wd1⟩ : ∃ wd : Int, atI [V.int 1, V.int 7, V.int 1000003, V.int (-5)] (num ns 0 8 4) = some (.int wd) ∧ -10 ≤ wd ∧ wd ≤ 1000003 := by
    generalize num ns 0 8 4 = m at *
    have : m = 0 ∨ m = 1 ∨ m = 2 ∨ m = 3 := by omega
    rcases this with rfl | rfl | rfl | rfl <;> exact ⟨_, rfl, by decide, by decide⟩
  try dsimp only
  walk_at "go"
  refine ⟨_, _, _, _, rfl, rfl, SqL.of g1, aw, ?_⟩
  try dsimp only
  walk_at "go"
  refine ⟨sz, fun l2 nl2 => ?_⟩
  have s2 := s1.trans (same_upd (o := HO.lst [V.int 0, V.int 4, V.int 1000000000]) nl2)
  have g2 := upd_same (H := H1) (a := l2) (o := HO.lst [V.int 0, V.int 4, V.int 1000000000])
  show _
  generalize upd H1 l2 (HO.lst [V.int 0, V.int 4, V.int 1000000000]) = H2 at *
  have hS2 := s2.seq hS
  obtain ⟨lw, al, lw0, lw1⟩ : ∃ lw : Int, atI [V.int 0, V.int 4, V.int 1000000000] (num ns 0 9 3) = some (.int lw) ∧ 0 ≤ lw ∧ lw ≤ 1000000000 := by
    generalize num ns 0 9 3 = m at *
    have : m = 0 ∨ m = 1 ∨ m = 2 := by omega
    rcases this with rfl | rfl | rfl <;> exact ⟨_, rfl, by decide, by decide⟩
  try dsimp only
  walk_at "go"
  refine ⟨_, _, _, _, rfl, rfl, SqL.of g2, al, ?_⟩
  try dsimp only
  walk_at "go"
  refine ⟨by omega, by omega, fun N nN => lc_range (lo := 0) (n := (1 + num ns 0 7 9).toNat) (fun j H' => Ob (Same H H' ∧ ∃ xs : List Int, H' N = some (.lst (xs.map V.int)) ∧ xs.length = j)) (ob ⟨s2.trans (same_upd nN), [], upd_same, rfl⟩) ?_ ?_⟩
  · intro j H3 hj h
    obtain ⟨s3, xs, g3, l3⟩ := unob h
    refine ⟨rfl, ?_⟩
    rw [Int.zero_add]
    walk_at "go"
    refine ⟨_, g3, sz5 (by rw [List.length_map]; omega), ob ⟨same_put s3 (s2.free nN), xs ++ [wd * ((1 + num ns 0 6 10) * ((j : Int) + 1) % 11) - lw], ?_, by rw [List.length_append, l3]; rfl⟩⟩
    rw [upd_same, List.map_append]
    rfl
  intro H3 h
  obtain ⟨s3, xs, g3, l3⟩ := unob h
  exact q N xs H3 s3 g3 (by omega) (by omega)
theorem ok_trace {f : Addr} {fd : FuncData} (D : Def K mg "_law_trace" s_trace f fd) (b : Binds K fd ["_law_script", "_law_names_here"] []) (T : Txt mg) (c_number : Cal P w K mg base 1 "_law_number" (spNum K) []) : Cal P w K mg base 2 "_law_trace" (spTrace K) [] := by
  refine cal0 D b .nil sc_trace (fun vs H Q E h => ?_) (fun cdv A outer s H vs Q E hr h => ?_)
  · obtain ⟨a, l, ns, xs, rfl, _⟩ := h
    rfl
  obtain ⟨a, l, ns, xs, rfl, hS, hl, gl, x0, x1, q⟩ := h
  refine ⟨_, (pss_cons (ps_set (i := 2) sc_trace.nd rfl (.inl rfl) (pe_lst pa_nil))
      (pss_cons (ps_mk (ps_for PassesOwn.never rfl (pi_range2 (by rfl) T.range (pa_cons pe_int (pa_cons (pe_op op_add pe_int (C8.pe_c c_number hr (by omega) (by rfl) (pa_cons (pv 0) (pa_cons pe_int (pa_cons pe_int (pa_cons pe_int pa_nil)))))) pa_nil))) (pg_name (i := 3) sc_trace.nd rfl (.inl rfl))
      (pss_cons (ps_set (i := 4) sc_trace.nd rfl (.inl rfl) (C8.pe_c c_number hr (by omega) (by rfl) (pa_cons (pv 0) (pa_cons (pv 3) (pa_cons pe_int (pa_cons pe_int pa_nil))))))
      (pss_cons (ps_set (i := 5) sc_trace.nd rfl (.inl rfl) (pe_ix (ixL K rfl) (pv 1) (C8.pe_c c_number hr (by omega) (by rfl) (pa_cons (pv 0) (pa_cons (pv 3) (pa_cons pe_int (pa_cons (pe_callB (lenQ K rfl) (by rfl) T.len PySem.boot_len (pa_cons (pv 1) pa_nil)) pa_nil))))) (fun _ _ => rfl)))
      (pss_cons (ps_mk (ps_if (pt_cmpR op_eq (pv 4) pe_int (nomark _))
      (pss_one (ps_set (i := 5) sc_trace.nd rfl (.inl rfl) (pe_ix (ixL K rfl) (pv 1) (pe_op op_mod (pe_callTy call_int1 (by rfl) T.int (by decide +kernel) (pa_cons (pv 3) pa_nil)) (pe_callB (lenQ K rfl) (by rfl) T.len PySem.boot_len (pa_cons (pv 1) pa_nil))) (fun _ _ => rfl))))
      pss_nil))
      (pss_cons (ps_mk (ps_if (PW.pt (pw_and (pt_cmpR op_eq (pv 4) pe_int (nomark _)) (pw_and1 (pt_cmpR op_gt (pe_callB (lenQ K rfl) (by rfl) T.len PySem.boot_len (pa_cons (pv 2) pa_nil)) pe_int (nomark _)))))
      (pss_one (ps_set (i := 5) sc_trace.nd rfl (.inl rfl) (pe_ix (ixL K rfl) (pv 2) (C8.pe_c c_number hr (by omega) (by rfl) (pa_cons (pv 0) (pa_cons (pv 3) (pa_cons pe_int (pa_cons (pe_callB (lenQ K rfl) (by rfl) T.len PySem.boot_len (pa_cons (pv 2) pa_nil)) pa_nil))))) (fun _ _ => rfl))))
      pss_nil))
      (pss_one (ps_expr (pe_bm PySem.F.plainAttrs_list PySem.F.slot_list_append PySem.F.type_list_append mt_append (pv 2) (pa_cons (pv 5) pa_nil))))))))))
      (pss_one (ps_ret (pv 2))))), ?_⟩
  have m0 : 0 ≤ num ns 0 0 51 := num_nn (by decide)
  have m1 : num ns 0 0 51 < 51 := num_lt (by decide)
  walk_at "go"
  refine ⟨sz, fun tr ntr => ?_⟩
  have s1 := same_upd (o := HO.lst []) ntr
  have g1 := upd_same (H := H) (a := tr) (o := HO.lst [])
  show _
  generalize upd H tr (HO.lst []) = H1 at *
  have hS1 := s1.seq hS
  walk_at "go"
  refine jnS (M := fun σ H' => ∃ ys : List Int, Same H H' ∧ H' tr = some (.lst (ys.map V.int)) ∧ ys.length ≤ 50 ∧ ∃ y3 y4 y5, σ = [sR a, sR l, sR tr, y3, y4, y5]) ?_ (fun N kk => ?_)
  · rintro σ H5 ⟨ys, s5, g5, l5, y3, y4, y5, rfl⟩
    walk_at "go"
    exact q tr ys H5 s5 g5 l5
  walk_at "go"
  refine ⟨_, _, rfl, ⟨by omega, by omega, by omega, by omega⟩, for_range (lo := 1) (n := (1 + num ns 0 0 51 - 1).toNat) (fun j σ H' => Ob (∃ ys : List Int, Same H H' ∧ H' tr = some (.lst (ys.map V.int)) ∧ ys.length = j ∧ ∃ y3 y4 y5, σ = [sR a, sR l, sR tr, y3, y4, y5])) (ob ⟨[], s1, g1, rfl, none, none, none, rfl⟩) ?_ (fun σ H' h => ?_)⟩
  rotate_left
  · obtain ⟨ys, s5, g5, l5, y3, y4, y5, rfl⟩ := unob h
    exact kk _ _ ⟨ys, s5, g5, by omega, _, _, _, rfl⟩
  intro j σ H2 hj h
  obtain ⟨ys, s2, g2, l2, y3, y4, y5, rfl⟩ := unob h
  clear h kk hS1 s1 g1
  have hS2 := s2.seq hS
  have gl2 := s2 _ _ gl
  have xl : (0 : Int) < (xs.length : Int) := by omega
  have k0 : 0 ≤ num ns (1 + (j : Int)) 0 (xs.length : Int) := num_nn xl
  have k1 : num ns (1 + (j : Int)) 0 (xs.length : Int) < (xs.length : Int) := num_lt xl
  walk_at "go"
  rw [List.length_map]
  walk_at "go"
  refine ⟨_, _, _, _, rfl, rfl, SqL.of gl2, atI_getD k0 k1, ?_⟩
  generalize xs.getD (num ns (1 + (j : Int)) 0 (xs.length : Int)).toNat 0 = nm at *
  clear k0 k1
  walk_at "go"
  refine jnS (M := fun σ H' => H' = H2 ∧ ∃ nm, σ = [sR a, sR l, sR tr, sI (1 + (j : Int)), sI (num ns (1 + (j : Int)) 1 6), sI nm]) ?_ (fun N kk => ?_)
  rotate_left
  · walk_at "go"
    refine ifEq (fun c => ?_) (fun c => ?_)
    · walk_at "go"
      rw [List.length_map]
      walk_at "go"
      have z0 := Int.emod_nonneg (1 + (j : Int)) (show (xs.length : Int) ≠ 0 by omega)
      have z1 := Int.emod_lt_of_pos (1 + (j : Int)) xl
      refine ⟨_, _, _, _, rfl, rfl, SqL.of gl2, atI_getD z0 z1, ?_⟩
      exact kk _ _ ⟨rfl, _, rfl⟩
    · exact kk _ _ ⟨rfl, _, rfl⟩
  rintro σ H3 ⟨e3, nm2, rfl⟩
  obtain rfl : H2 = H3 := e3.symm
  refine jnS (M := fun σ H' => H' = H2 ∧ ∃ nm, σ = [sR a, sR l, sR tr, sI (1 + (j : Int)), sI (num ns (1 + (j : Int)) 1 6), sI nm]) ?_ (fun N kk => ?_)
  rotate_left
  · walk_at "go"
    refine ifEq (fun c => ?_) (fun c => ?_)
    · walk_at "go"
      rw [List.length_map]
      refine ifD (fun c2 => ?_) (fun c2 => ?_)
      · have yl : (0 : Int) < (ys.length : Int) := c2
        have k0 : 0 ≤ num ns (1 + (j : Int)) 2 (ys.length : Int) := num_nn yl
        have k1 : num ns (1 + (j : Int)) 2 (ys.length : Int) < (ys.length : Int) := num_lt yl
        walk_at "go"
        rw [List.length_map]
        walk_at "go"
        refine ⟨_, _, _, _, rfl, rfl, SqL.of g2, atI_getD k0 k1, ?_⟩
        exact kk _ _ ⟨rfl, _, rfl⟩
      · exact kk _ _ ⟨rfl, _, rfl⟩
    · exact kk _ _ ⟨rfl, _, rfl⟩
  rintro σ H3 ⟨e3, nm3, rfl⟩
  obtain rfl : H2 = H3 := e3.symm
  walk_at "go"
  refine ⟨tr, _, _, rfl, rfl, g2, sz5 (by rw [List.length_map]; omega), ?_⟩
  refine ob ⟨ys ++ [nm3], same_put s2 ntr, ?_, by rw [List.length_append, l2]; rfl, _, _, _, rfl⟩
  rw [upd_same, List.map_append]
  rfl
end

end

/-! ### lists of ints as data -/
theorem dh_ints {H : Hp} : ∀ (ns : List Int), DhAll H (ns.map PyData.int) (ns.map V.int)
  | [] => rfl
  | n :: ns => ⟨.int n, ns.map V.int, rfl, rfl, dh_ints ns⟩
theorem lay_ints : ∀ ns : List Int, PyData.canLayAll0 (ns.map PyData.int) = true
  | [] => by simp [PyData.canLayAll0]
  | n :: ns => by
    simp only [List.map_cons, PyData.canLayAll0, PyData.canLay0, lay_ints ns, Bool.and_self]
theorem depth_ints : ∀ ns : List Int, PyData.depthAll (ns.map PyData.int) ≤ 1
  | [] => by simp [PyData.depthAll]
  | n :: ns => by
    have h := depth_ints ns
    simp only [List.map_cons, PyData.depthAll, PyData.depth]
    omega
theorem shaped_ints (ns : List Int) : SeqAt.shaped (.list (ns.map PyData.int)) = true := by
  have h1 := depth_ints ns
  have h2 : PyData.depth (.list (ns.map PyData.int)) ≤ 64 := by
    simp only [PyData.depth]
    omega
  show (PyData.canLay0 (.list (ns.map PyData.int)) && decide (PyData.depth (.list (ns.map PyData.int)) ≤ 64)) = true
  rw [Bool.and_eq_true]
  exact ⟨by simp only [PyData.canLay0]; exact lay_ints ns, decide_eq_true h2⟩
theorem eqvA_ints : ∀ ns : List Int, PyData.eqvAll (ns.map PyData.int) (ns.map PyData.int) = true
  | [] => by simp [PyData.eqvAll]
  | n :: ns => by
    simp only [List.map_cons, PyData.eqvAll, PyData.eqv, eqvA_ints ns, beq_self_eq_true, Bool.and_self]
theorem eqv_ints (ns : List Int) : PyData.eqv (.list (ns.map PyData.int)) (.list (ns.map PyData.int)) = true := by
  rw [PyData.eqv]
  exact eqvA_ints ns

section

-- a condition of an operator
local macro_rules | `(tactic| walk_at "cond") => `(tactic| first
  | (show (0 : Int) < _; omega)
  | (show CDiv _ _; constructor <;> (first | decide | omega))
  | (show CMul _ _; first | (refine cmul_l ?_; constructor <;> (first | decide | omega)) | (refine cmul_r ?_; constructor <;> (first | decide | omega)))
  | (show CPow _ _; exact (by refine ⟨by decide, by decide, by decide⟩))
  | (show CDivW _ _; exact ⟨by decide, by decide +kernel⟩))
local macro_rules | `(tactic| walk_at "sq") => `(tactic| first | assumption | exact Dh.mono (same_upd (by assumption)) _ _ (by assumption) | exact .inl (.inl (.inl (by assumption))) | exact .inr (.inl (.inl (by assumption))) | exact SqL.of (by assumption) | exact .inl (by assumption) | exact .inl (SqL.of (by assumption)) | exact SqT.of (by assumption) | exact .inr (SqT.of (by assumption)))
local macro_rules | `(tactic| walk_at "st") => `(tactic| first
  | refine ⟨_, rfl, ?_⟩
  | refine ⟨_, _, rfl, rfl, ?_⟩
  | refine .inl ⟨_, rfl, ?_⟩
  | refine ⟨rfl, ?_⟩
  | refine ⟨_, _, rfl, by walk_at "sq", ?_⟩
  | refine ⟨.inl ⟨rfl, _, SqL.of (by assumption)⟩, ?_⟩
  | refine ⟨by walk_at "cond", ?_⟩
  | (refine' ifBT ?hh ?_; (case hh => first | rfl | assumption))
  | (refine' ifBF ?hh ?_; (case hh => first | rfl | assumption)))
local macro_rules | `(tactic| walk_at "go") => `(tactic| repeat walk_at "st")
local macro_rules | `(tactic| walk_at "yes") => `(tactic| (refine' ifT ?hh ?_; (case hh => first | rfl | decide +kernel)))
local macro_rules | `(tactic| walk_at "no") => `(tactic| (refine' ifF ?hh ?_; (case hh => first | decide +kernel | (intro z; cases z; done))))

local macro_rules | `(tactic| walk_at "st") => `(tactic| refine ⟨_, _, _, _, _, rfl, by assumption, by assumption, by omega, by omega, by omega, by omega, by omega, ?_⟩)
local macro_rules | `(tactic| walk_at "st") => `(tactic| refine ⟨_, _, _, _, _, rfl, Same.seq (by assumption) (by assumption), by assumption, by omega, by omega, by omega, by omega, by omega, ?_⟩)

/-! ### law (k23) -/
abbrev s_law : Stmt := topS 15
theorem sc_law : FnScope ["_law_script", "_law_trace_here", "_law_many", "_law_name", "_law_kinds", "_law_again", "_law_kind", "_law_due", "_law_turn", "_law_handed", "_law_told"] ["_law_script"] (C8.fnScope s_law) := C8.fnScope_by (by decide +kernel)
def spLaw (K : PySem.W.Frag) (PT : Addr) : Sp := fun vs H Q _ => ∃ (a : Addr) (ns : List Int), vs = [.ref a] ∧ H PT = some (.tbl #[]) ∧ SqL K H a (ns.map V.int) ∧ ns.length ≤ 63 ∧ ∀ H', Q (.bl true) H'
theorem rel0 (n : Nat) : Rel n (List.replicate n none) (cs0 n) (ls0 n) := by
  have z : ∀ i : Nat, (List.replicate n (0 : Int)).getD i 0 = 0 := fun i => by
    rw [List.getD_eq_getElem?_getD, List.getElem?_replicate]
    split <;> rfl
  have f : ∀ i : Nat, ((List.replicate n (none : Option Int)).map Option.isSome).getD i false = true → False := fun i h => by
    rw [List.getD_eq_getElem?_getD, List.map_replicate, List.getElem?_replicate] at h
    split at h <;> cases h
  have g : Ag (List.replicate n 0) (List.replicate n 0) ((List.replicate n (none : Option Int)).map Option.isSome) 0 0 := ⟨fun i j hi => (f i hi).elim, fun i j hi => (f i hi).elim, fun i => by rw [z]; exact Int.le_refl _, fun i => by rw [z]; exact Int.le_refl _⟩
  have l : ∀ x : Int, (List.replicate n x).length = n := fun x => List.length_replicate
  exact ⟨g, g, rfl, rfl, List.length_replicate, l _, l _, l _, l _⟩
theorem dh_li {H : Hp} {p : Addr} {ns : List Int} (g : H p = some (.lst (ns.map V.int))) : Dh H (.list (ns.map PyData.int)) (.ref p) := ⟨p, _, rfl, g, dh_ints ns⟩
theorem dle_li {n : Nat} {ns : List Int} (h : ns.length ≤ 100000) : Dle (n + 2) (.list (ns.map PyData.int)) := ⟨by rw [List.length_map]; exact h, fun d m => by
  obtain ⟨i, _, rfl⟩ := List.mem_map.mp m
  exact trivial⟩
section
variable {P : Program} {w : World} {K : PySem.W.Frag} {mg : Str → Option Value} {base : Heap} {C PT : Addr}
theorem ok_law {f : Addr} {fd : FuncData} (D : Def K mg "law" s_law f fd) (T : Txt mg) (c_number : Cal P w K mg base 1 "_law_number" (spNum K) []) (c_same : Cal P w K mg base 4 "_law_same" (spSame 3) []) (c_names : Cal P w K mg base 2 "_law_names" (spNames K) []) (c_trace : Cal P w K mg base 2 "_law_trace" (spTrace K) []) (c_page_ins : Cal P w K mg base 2 "_law_page_ins" (spLPI K) []) (cP : Cal P w K mg base 5 "page_ins" (spPI C PT K) []) : FnOk P w K mg base C8.CX0 6 f fd ["_law_script"] (spLaw K PT) := by
  refine C8.fn0 D.fn sc_law (fun vs H Q E h => ?_) (fun cdv A0 outer s H vs Q E hr h => ?_)
  · obtain ⟨a, ns, rfl, _⟩ := h
    rfl
  obtain ⟨a, ns, rfl, hP, hS, hl, q0⟩ := h
  refine ⟨_, (pss_cons (ps_set (i := 1) sc_law.nd rfl (.inl rfl) (C8.pe_c c_trace hr (by omega) (by rfl) (pa_cons (pv 0) (pa_cons (C8.pe_c c_names hr (by omega) (by rfl) (pa_cons (pv 0) (pa_cons pe_int pa_nil))) pa_nil))))
      (pss_cons (ps_set (i := 2) sc_law.nd rfl (.inl rfl) (pe_op op_add pe_int (C8.pe_c c_number hr (by omega) (by rfl) (pa_cons (pv 0) (pa_cons pe_int (pa_cons pe_int (pa_cons pe_int pa_nil)))))))
      (pss_cons (ps_mk (ps_if (pt_cmpR op_eq (C8.pe_c c_number hr (by omega) (by rfl) (pa_cons (pv 0) (pa_cons pe_int (pa_cons pe_int (pa_cons pe_int pa_nil))))) pe_int (nomark _))
      (pss_cons (ps_set (i := 2) sc_law.nd rfl (.inl rfl) (pe_op op_add (pv 2) pe_int))
      (pss_one (ps_set (i := 1) sc_law.nd rfl (.inl rfl) (pe_op op_rep (pe_op op_cat (pv 1) (pe_lc (own := [("_law_name", 3)]) (g := gName 3) (tt := tYes) rfl sc_law.nd (pi_list (pv 1)) (blkOk_by (own := [("_law_name", 3)]) (N := ["_law_script", "_law_trace_here", "_law_many", "_law_name", "_law_kinds", "_law_again", "_law_kind", "_law_due", "_law_turn", "_law_handed", "_law_told"]) (sc := C8.fnScope s_law) (by decide +kernel)) (fun _ _ _ _ _ => (pg_name (i := 3) sc_law.nd rfl (.inl rfl))) (fun _ _ _ _ _ => pts_nil) (fun _ _ _ _ _ => (pe_op op_add (pv 3) pe_int)))) (pe_ix (ixL K rfl) (pe_lst (pa_cons pe_int (pa_cons pe_int pa_nil))) (C8.pe_c c_number hr (by omega) (by rfl) (pa_cons (pv 0) (pa_cons pe_int (pa_cons pe_int (pa_cons pe_int pa_nil))))) (fun _ _ => rfl))))))
      pss_nil))
      (pss_cons (ps_set (i := 4) sc_law.nd rfl (.inl rfl) (pe_lst (pa_cons pe_str (pa_cons pe_str (pa_cons pe_str (pa_cons pe_str pa_nil))))))
      (pss_cons (ps_set (i := 5) sc_law.nd rfl (.inl rfl) (pe_ix (ixL K rfl) (pv 4) (C8.pe_c c_number hr (by omega) (by rfl) (pa_cons (pv 0) (pa_cons pe_int (pa_cons pe_int (pa_cons pe_int pa_nil))))) (fun _ _ => rfl)))
      (pss_cons (ps_mk (ps_for PassesOwn.never rfl (pi_list (pv 4)) (pg_name (i := 6) sc_law.nd rfl (.inl rfl))
      (pss_cons (ps_set (i := 7) sc_law.nd rfl (.inl rfl) (C8.pe_c c_page_ins hr (by omega) (by rfl) (pa_cons (pv 1) (pa_cons (pv 2) (pa_cons (pv 6) pa_nil)))))
      (pss_one (ps_mk (ps_for PassesOwn.never rfl (pi_range1 (by rfl) T.range (pa_cons (pe_op op_add pe_int (pe_callTy call_int1 (by rfl) T.int (by decide +kernel) (pa_cons (pe_cmpR op_eq (pv 6) (pv 5) (nomark _)) pa_nil))) pa_nil)) (pg_name (i := 8) sc_law.nd rfl (.inl rfl))
      (pss_cons (ps_set (i := 9) sc_law.nd rfl (.inl rfl) (pe_callTy (listQ K rfl) (by rfl) T.list (by decide +kernel) (pa_cons (pv 1) pa_nil)))
      (pss_cons (ps_set (i := 10) sc_law.nd rfl (.inl rfl) (C8.pe_c cP hr (by omega) (by rfl) (pa_cons (pv 9) (pa_cons (pv 2) (pa_cons (pv 6) pa_nil)))))
      (pss_cons (ps_mk (ps_if (PW.pt (pw_or (pt_not (pt_val (C8.pe_c c_same hr (by omega) (by rfl) (pa_cons (pv 10) (pa_cons (pv 7) pa_nil))))) (pw_or1 (pt_cmpR (neQ K rfl hr.units) (pv 9) (pv 1) (nomark _)))))
      (pss_one (ps_ret pe_bl))
      pss_nil))
      (pss_one (ps_expr (pe_bm PySem.F.plainAttrs_list PySem.F.slot_list_append PySem.F.type_list_append mt_append (pv 10) (pa_cons (pv 8) pa_nil)))))))))))))
      (pss_one (ps_ret pe_bl)))))))), ?_⟩
  have m0 : 0 ≤ num ns 0 1 6 := num_nn (by decide)
  have m1 : num ns 0 1 6 < 6 := num_lt (by decide)
  have j0 : 0 ≤ num ns 0 4 2 := num_nn (by decide)
  have j1 : num ns 0 4 2 < 2 := num_lt (by decide)
  have i0 : 0 ≤ num ns 0 3 4 := num_nn (by decide)
  have i1 : num ns 0 3 4 < 4 := num_lt (by decide)
  walk_at "go"
  refine ⟨hl, fun nl xs H1 s1 g1 x0 x1 => ?_⟩
  have hS1 := s1.seq hS
  walk_at "go"
  refine ⟨a, nl, ns, xs, rfl, hS1, hl, g1, x0, x1, fun tr ys H2 s2' g2 ly => ?_⟩
  have s2 := s1.trans s2'
  have hS2 := s2.seq hS
  clear hS1 s2' g1
  walk_at "go"
  refine jnS (M := fun σ H' => ∃ (tr2 : Addr) (zs : List Int) (n : Nat) (y3 : Option V), Same H H' ∧ H' tr2 = some (.lst (zs.map V.int)) ∧ zs.length ≤ 300 ∧ 1 ≤ n ∧ n ≤ 12 ∧ σ = [sR a, sR tr2, sI n, y3, none, none, none, none, none, none, none]) ?_ (fun N kk => ?_)
  rotate_left
  · walk_at "go"
    refine ifEq (fun c => ?_) (fun c => ?_)
    · walk_at "go"
      refine ⟨⟨_, SqL.of g2⟩, fun N1 nN => lc_list (K := K) (a := tr) (xs := ys.map V.int) (fun i H' => Ob (Same H2 H' ∧ H' N1 = some (.lst (((ys.take i).map (· + 1)).map V.int)))) (ob ⟨same_upd nN, upd_same⟩) (fun i H' _ h => SqL.of ((unob h).1 _ _ g2)) ?_ ?_⟩
      · intro i v H3 hi h
        obtain ⟨s3, g3⟩ := unob h
        clear h kk
        rw [List.getElem?_map] at hi
        have hil : i < ys.length := by
          cases e : ys[i]? with
          | none => rw [e] at hi; cases hi
          | some z => exact (List.getElem?_eq_some_iff.mp e).1
        rw [List.getElem?_eq_getElem hil] at hi
        obtain rfl := Option.some.inj hi
        have ek : ((ys.take (i + 1)).map (· + 1)).map V.int = ((ys.take i).map (· + 1)).map V.int ++ [V.int (ys[i] + 1)] := by
          rw [List.take_add_one, List.getElem?_eq_getElem hil, List.map_append, List.map_append]
          rfl
        rw [ek]
        walk_at "go"
        exact ⟨_, g3, sz5 (by rw [List.length_map, List.length_map, List.length_take]; omega), ob ⟨same_put s3 nN, upd_same⟩⟩
      intro H3 h
      obtain ⟨s3, g3⟩ := unob h
      clear h
      rw [List.length_map, List.take_length] at g3
      have g23 := s3 _ _ g2
      have s03 := s2.trans s3
      try dsimp only
      walk_at "go"
      refine ⟨tr, N1, _, _, rfl, rfl, g23, g3, Nat.le_of_lt (sz5 (by rw [List.length_map, List.length_map, List.length_map]; omega)), fun L4 nL4 => ?_⟩
      obtain ⟨us, eus⟩ : ∃ us : List Int, us = ys ++ ys.map (· + 1) := ⟨_, rfl⟩
      rw [show ys.map V.int ++ (ys.map (· + 1)).map V.int = us.map V.int by rw [eus, List.map_append]]
      have lus : us.length ≤ 100 := by
        rw [eus, List.length_append, List.length_map]
        omega
      have s04 := s03.trans (same_upd (o := HO.lst (us.map V.int)) nL4)
      have g4 := upd_same (H := H3) (a := L4) (o := HO.lst (us.map V.int))
      show _
      generalize upd H3 L4 (HO.lst (us.map V.int)) = H4 at *
      clear g3 g23 s3 s03 nL4
      have hS4 := s04.seq hS
      try dsimp only
      walk_at "go"
      refine ⟨sz, fun L5 nL5 => ?_⟩
      have s45 := same_upd (o := HO.lst [V.int 1, V.int 3]) nL5
      have g5 := upd_same (H := H4) (a := L5) (o := HO.lst [V.int 1, V.int 3])
      have g45 := s45 _ _ g4
      have s05 := s04.trans s45
      show _
      generalize upd H4 L5 (HO.lst [V.int 1, V.int 3]) = H5 at *
      have hS5 := s05.seq hS
      obtain ⟨kf, akf, kf0, kf1⟩ : ∃ kf : Nat, atI [V.int 1, V.int 3] (num ns 0 4 2) = some (.int kf) ∧ 1 ≤ kf ∧ kf ≤ 3 := by
        generalize num ns 0 4 2 = m at *
        have : m = 0 ∨ m = 1 := by omega
        rcases this with rfl | rfl
        · exact ⟨1, rfl, by decide, by decide⟩
        · exact ⟨3, rfl, by decide, by decide⟩
      try dsimp only
      walk_at "go"
      refine ⟨_, _, _, _, rfl, rfl, SqL.of g5, akf, ?_⟩
      have lfl : ((List.replicate kf us).flatten).length ≤ 300 := by
        rw [List.length_flatten, List.map_replicate, List.sum_replicate_nat]
        have : kf * us.length ≤ 3 * 100 := Nat.mul_le_mul kf1 lus
        omega
      refine ⟨L4, (kf : Nat), us.map V.int, rfl, rfl, g45, by omega, by omega, (by rw [Int.toNat_natCast, List.length_map, sizeLine_eq]; have : kf * us.length ≤ 3 * 100 := Nat.mul_le_mul kf1 lus; have : us.length * kf ≤ 100 * 3 := Nat.mul_le_mul lus kf1; omega), fun L6 nL6 => ?_⟩
      rw [Int.toNat_natCast, show (List.replicate kf (us.map V.int)).flatten = ((List.replicate kf us).flatten).map V.int by rw [List.map_flatten, List.map_replicate]]
      refine kk _ _ ⟨L6, _, (1 + num ns 0 1 6 + 6).toNat, none, s05.trans (same_upd nL6), upd_same, lfl, by omega, by omega, ?_⟩
      rw [show (((1 + num ns 0 1 6 + 6).toNat : Nat) : Int) = 1 + num ns 0 1 6 + 6 by omega]
      rfl
    · refine kk _ _ ⟨tr, ys, (1 + num ns 0 1 6).toNat, none, s2, g2, by omega, by omega, by omega, ?_⟩
      rw [show (((1 + num ns 0 1 6).toNat : Nat) : Int) = 1 + num ns 0 1 6 by omega]
      rfl
  clear g2 s2 hS2 ly
  rintro σ H2 ⟨tr2, zs, n, y3, s2, gz, lz, n1, n2, rfl⟩
  have hS2 := s2.seq hS
  walk_at "go"
  refine ⟨sz, fun kl nkl => ?_⟩
  have s3 := s2.trans (same_upd (o := HO.lst [V.str "lru", V.str "fifo", V.str "newest", V.str "clock"]) nkl)
  have gk := upd_same (H := H2) (a := kl) (o := HO.lst [V.str "lru", V.str "fifo", V.str "newest", V.str "clock"])
  have gz3 := same_upd (o := HO.lst [V.str "lru", V.str "fifo", V.str "newest", V.str "clock"]) nkl _ _ gz
  show _
  generalize upd H2 kl (HO.lst [V.str "lru", V.str "fifo", V.str "newest", V.str "clock"]) = H3 at *
  clear gz hS2 s2 nkl
  have hS3 := s3.seq hS
  have kall : ∀ (i : Nat) v, [V.str "lru", V.str "fifo", V.str "newest", V.str "clock"][i]? = some v → ∃ kd : Str, v = .str kd ∧ K4 kd := fun i v h => by
    have m := List.mem_of_getElem? h
    simp only [List.mem_cons, List.not_mem_nil, or_false] at m
    rcases m with rfl | rfl | rfl | rfl
    · exact ⟨_, rfl, .inl rfl⟩
    · exact ⟨_, rfl, .inr (.inl rfl)⟩
    · exact ⟨_, rfl, .inr (.inr (.inl rfl))⟩
    · exact ⟨_, rfl, .inr (.inr (.inr rfl))⟩
  obtain ⟨ka, aka⟩ : ∃ ka : Str, atI [V.str "lru", V.str "fifo", V.str "newest", V.str "clock"] (num ns 0 3 4) = some (.str ka) := by
    generalize num ns 0 3 4 = m at *
    have : m = 0 ∨ m = 1 ∨ m = 2 ∨ m = 3 := by omega
    rcases this with rfl | rfl | rfl | rfl <;> exact ⟨_, rfl⟩
  have T3 : Tabs (chT PT) H3 := fun p hp => by
    rw [List.mem_singleton.mp hp]
    exact TabS.nil (s3 _ _ hP)
  walk_at "go"
  refine ⟨_, _, _, _, rfl, rfl, SqL.of gk, aka, ?_⟩
  walk_at "go"
  refine jnS (M := fun _ _ => True) (fun σ H' _ => ?_) (fun N kk => ?_)
  · walk_at "go"
    exact q0 _
  walk_at "go"
  refine ⟨⟨_, SqL.of gk⟩, for_list (K := K) (a := kl) (xs := [V.str "lru", V.str "fifo", V.str "newest", V.str "clock"]) (fun i σ H' => Ob (ExtN H3 H' ∧ Tabs (chT PT) H' ∧ ∃ y6 y7 y8 y9 y10, σ = [sR a, sR tr2, sI n, y3, sR kl, sS ka, y6, y7, y8, y9, y10])) (ob ⟨ExtN.refl _, T3, none, none, none, none, none, rfl⟩) (fun i σ H' _ h => SqL.of ((unob h).1 _ _ gk (fun _ z => by cases z))) ?_ (fun σ H' _ => kk _ _ trivial)⟩
  intro i v σ H4 hi h
  obtain ⟨e4, T4, y6, y7, y8, y9, y10, rfl⟩ := unob h
  clear h kk
  obtain ⟨kd, rfl, k4⟩ := kall i v hi
  have gz4 := e4 _ _ gz3 (fun _ z => by cases z)
  walk_at "go"
  refine ⟨tr2, zs, n, kd, rfl, SqL.of gz4, by omega, n1, by omega, k4, fun dl ps H5 rl lp nd gd s5 => ?_⟩
  have e5 : ExtN H3 H5 := e4.trans (ExtN.of s5)
  have T5 := T4.ext s5
  have gz5 := s5 _ _ gz4
  clear T4 gz4 e4 nd s5
  refine un ?_
  walk_at "go"
  refine .inr ⟨_, rfl, ?_⟩
  obtain ⟨bn, ebn, bn0, bn1⟩ : ∃ bn : Int, bn = (if decide (V.str kd = V.str ka) = true then (1 : Int) else 0) ∧ 0 ≤ bn ∧ bn ≤ 1 := ⟨_, rfl, by split <;> omega, by split <;> omega⟩
  rw [← ebn]
  clear ebn
  walk_at "go"
  refine ⟨by omega, by omega, for_range (lo := 0) (n := (1 + bn).toNat) (fun j σ H' => Ob (ExtN H3 H' ∧ Tabs (chT PT) H' ∧ H' dl = some (.lst (ps.map V.int)) ∧ ∃ y8 y9 y10, σ = [sR a, sR tr2, sI n, y3, sR kl, sS ka, sS kd, sR dl, y8, y9, y10])) (ob ⟨e5, T5, gd, _, _, _, rfl⟩) ?_ (fun σ H' h => ?_)⟩
  rotate_left
  · obtain ⟨e6, T6, _, y8, y9, y10, rfl⟩ := unob h
    exact ob ⟨e6, T6, _, _, _, _, _, rfl⟩
  clear e5 T5 gz5 gd
  intro j σ H6 hj h
  obtain ⟨e6, T6, gd6, y8, y9, y10, rfl⟩ := unob h
  clear h
  have gz6 := e6 _ _ gz3 (fun _ z => by cases z)
  walk_at "go"
  intro Hd nHd
  have s7 := same_upd (o := HO.lst (zs.map V.int)) nHd
  have gh := upd_same (H := H6) (a := Hd) (o := HO.lst (zs.map V.int))
  have gz7 := s7 _ _ gz6
  have gd7 := s7 _ _ gd6
  have T7 := T6.ext s7
  have e7 : ExtN H3 _ := e6.trans (ExtN.of s7)
  show _
  generalize upd H6 Hd (HO.lst (zs.map V.int)) = H7 at *
  clear gz6 gd6 T6 e6 s7 nHd
  walk_at "go"
  refine ⟨Hd, zs, n, kd, rfl, SqL.of gh, by omega, n1, by omega, k4, T7, fun tl ps2 H8 rc lp2 nt gt e8 T8 => ?_⟩
  obtain rfl : ps2 = ps := rel_run k4 (rel0 n) rc rl
  have gh8 := e8 _ _ gh (fun _ z => by cases z)
  have gz8 := e8 _ _ gz7 (fun _ z => by cases z)
  have gd8 := e8 _ _ gd7 (fun _ z => by cases z)
  have ntd : tl ≠ dl := (ne_of_none gd7 nt).symm
  have nt3 : ∀ o, H3 tl = some o → (∀ ps, o ≠ .tbl ps) → False := fun o e k => by
    have := e7 _ _ e k
    rw [nt] at this
    cases this
  clear gh gz7 gd7 T7
  try dsimp only
  walk_at "go"
  refine jnS (M := fun σ H' => Same H8 H' ∧ σ = [sR a, sR tr2, sI n, y3, sR kl, sS ka, sS kd, sR dl, sI (0 + (j : Int)), sR Hd, sR tl]) ?_ (fun N kk => ?_)
  rotate_left
  · walk_at "go"
    refine ⟨_, _, .list (ps2.map .int), .list (ps2.map .int), rfl, dh_li gt, dh_li gd8, dle_li (by omega), fun bb H9 hb s9 => ?_⟩
    obtain rfl := hb.mpr rfl
    walk_at "go"
    refine ⟨.list (zs.map PyData.int), .list (zs.map PyData.int), Dh.dp _ _ ⟨Hd, _, rfl, s9 _ _ gh8, dh_ints _⟩, Dh.dp _ _ ⟨tr2, _, rfl, s9 _ _ gz8, dh_ints _⟩, shaped_ints _, shaped_ints _, ?_⟩
    walk_at "go"
    refine ifN ?_
    refine ifBT (eqv_ints _) ?_
    exact kk _ _ ⟨s9, rfl⟩
  rintro σ H9 ⟨s9, rfl⟩
  have gt9 := s9 _ _ gt
  walk_at "go"
  refine ⟨tl, _, _, rfl, rfl, gt9, sz5 (by rw [List.length_map]; omega), ?_⟩
  have bo : ButL [tl] H9 (upd H9 tl (HO.lst (ps2.map V.int ++ [V.int (0 + (j : Int))]))) := ButL.put (by simp)
  refine ob ⟨fun c o e k => ?_, tabs_but (T8.ext s9) bo (fun y hy => ⟨HO.lst (ps2.map V.int), by rw [List.mem_singleton.mp hy]; exact gt9, ⟨fun _ z => (by cases z), fun _ z => (by cases z)⟩⟩), bo _ _ (by simpa using ntd.symm) (s9 _ _ gd8), _, _, _, rfl⟩
  exact bo _ _ (fun z => nt3 o (by rw [← List.mem_singleton.mp z]; exact e) k) (s9 _ _ (e8 _ _ (e7 _ _ e k) k))
end

end

section

-- a condition of an operator
local macro_rules | `(tactic| walk_at "cond") => `(tactic| first
  | (show (0 : Int) < _; omega)
  | (show CDiv _ _; constructor <;> (first | decide | omega))
  | (show CMul _ _; first | (refine cmul_l ?_; constructor <;> (first | decide | omega)) | (refine cmul_r ?_; constructor <;> (first | decide | omega)))
  | (show CPow _ _; exact (by refine ⟨by decide, by decide, by decide⟩))
  | (show CDivW _ _; exact ⟨by decide, by decide +kernel⟩))
local macro_rules | `(tactic| walk_at "sq") => `(tactic| first | assumption | exact Dh.mono (same_upd (by assumption)) _ _ (by assumption) | exact .inl (.inl (.inl (by assumption))) | exact .inr (.inl (.inl (by assumption))) | exact SqL.of (by assumption) | exact .inl (by assumption) | exact .inl (SqL.of (by assumption)) | exact SqT.of (by assumption) | exact .inr (SqT.of (by assumption)))
local macro_rules | `(tactic| walk_at "st") => `(tactic| first
  | refine ⟨_, rfl, ?_⟩
  | refine ⟨_, _, rfl, rfl, ?_⟩
  | refine .inl ⟨_, rfl, ?_⟩
  | refine ⟨rfl, ?_⟩
  | refine ⟨_, _, rfl, by walk_at "sq", ?_⟩
  | refine ⟨.inl ⟨rfl, _, SqL.of (by assumption)⟩, ?_⟩
  | refine ⟨by walk_at "cond", ?_⟩
  | (refine' ifBT ?hh ?_; (case hh => first | rfl | assumption))
  | (refine' ifBF ?hh ?_; (case hh => first | rfl | assumption)))
local macro_rules | `(tactic| walk_at "go") => `(tactic| repeat walk_at "st")
local macro_rules | `(tactic| walk_at "yes") => `(tactic| (refine' ifT ?hh ?_; (case hh => first | rfl | decide +kernel)))
local macro_rules | `(tactic| walk_at "no") => `(tactic| (refine' ifF ?hh ?_; (case hh => first | decide +kernel | (intro z; cases z; done))))

theorem all_mk {l : PySem.W.OpenLaw} {w : World} {K : PySem.W.Frag} {h : Heap} {mg : Str → Option Value} {fa : Addr} (X : K.In h) (G : h.Ns mainGlobals mg) (hfa : mg "law" = some (.ref fa))
    {CC : Addr} (aCC : PySem.W.nsIn K mainGlobals "Chooser" = some (some (.ref CC)))
    {od_m_init an_m_init : Option Addr} {sl_m_init : Array (Option Value)} {f_m_init : Addr} {oc_m_init kV_m_init dc_m_init pm_m_init cd_m_init ct_m_init : Value}
    (a_m_init : PySem.W.findIn K (.ref CC) "__init__" = some (some (.ref f_m_init))) (i_m_init : PySem.W.isFn K (.ref f_m_init) = true)
    (l_m_init : K.lookup f_m_init = some ⟨oc_m_init, od_m_init, .func (PySem.W.fnOf "__init__" "Chooser.__init__" (C8.fnArgs s_Chooser___init__) (C8.fnBody s_Chooser___init__) (C8.fnScope s_Chooser___init__) .none kV_m_init dc_m_init pm_m_init an_m_init cd_m_init ct_m_init), sl_m_init⟩)
    (c_m_init : PySem.W.codeIn K cd_m_init "Chooser.__init__" = true) (k_m_init : PySem.W.keepIn K (.ref f_m_init) = true)
    {od_m_filled an_m_filled : Option Addr} {sl_m_filled : Array (Option Value)} {f_m_filled : Addr} {oc_m_filled kV_m_filled dc_m_filled pm_m_filled cd_m_filled ct_m_filled : Value}
    (a_m_filled : PySem.W.findIn K (.ref CC) "filled" = some (some (.ref f_m_filled))) (i_m_filled : PySem.W.isFn K (.ref f_m_filled) = true)
    (l_m_filled : K.lookup f_m_filled = some ⟨oc_m_filled, od_m_filled, .func (PySem.W.fnOf "filled" "Chooser.filled" (C8.fnArgs s_Chooser_filled) (C8.fnBody s_Chooser_filled) (C8.fnScope s_Chooser_filled) .none kV_m_filled dc_m_filled pm_m_filled an_m_filled cd_m_filled ct_m_filled), sl_m_filled⟩)
    (c_m_filled : PySem.W.codeIn K cd_m_filled "Chooser.filled" = true) (k_m_filled : PySem.W.keepIn K (.ref f_m_filled) = true)
    {od_m_touched an_m_touched : Option Addr} {sl_m_touched : Array (Option Value)} {f_m_touched : Addr} {oc_m_touched kV_m_touched dc_m_touched pm_m_touched cd_m_touched ct_m_touched : Value}
    (a_m_touched : PySem.W.findIn K (.ref CC) "touched" = some (some (.ref f_m_touched))) (i_m_touched : PySem.W.isFn K (.ref f_m_touched) = true)
    (l_m_touched : K.lookup f_m_touched = some ⟨oc_m_touched, od_m_touched, .func (PySem.W.fnOf "touched" "Chooser.touched" (C8.fnArgs s_Chooser_touched) (C8.fnBody s_Chooser_touched) (C8.fnScope s_Chooser_touched) .none kV_m_touched dc_m_touched pm_m_touched an_m_touched cd_m_touched ct_m_touched), sl_m_touched⟩)
    (c_m_touched : PySem.W.codeIn K cd_m_touched "Chooser.touched" = true) (k_m_touched : PySem.W.keepIn K (.ref f_m_touched) = true)
    {od_m_emptied an_m_emptied : Option Addr} {sl_m_emptied : Array (Option Value)} {f_m_emptied : Addr} {oc_m_emptied kV_m_emptied dc_m_emptied pm_m_emptied cd_m_emptied ct_m_emptied : Value}
    (a_m_emptied : PySem.W.findIn K (.ref CC) "emptied" = some (some (.ref f_m_emptied))) (i_m_emptied : PySem.W.isFn K (.ref f_m_emptied) = true)
    (l_m_emptied : K.lookup f_m_emptied = some ⟨oc_m_emptied, od_m_emptied, .func (PySem.W.fnOf "emptied" "Chooser.emptied" (C8.fnArgs s_Chooser_emptied) (C8.fnBody s_Chooser_emptied) (C8.fnScope s_Chooser_emptied) .none kV_m_emptied dc_m_emptied pm_m_emptied an_m_emptied cd_m_emptied ct_m_emptied), sl_m_emptied⟩)
    (c_m_emptied : PySem.W.codeIn K cd_m_emptied "Chooser.emptied" = true) (k_m_emptied : PySem.W.keepIn K (.ref f_m_emptied) = true)
    {od_m_choose_by_hand an_m_choose_by_hand : Option Addr} {sl_m_choose_by_hand : Array (Option Value)} {f_m_choose_by_hand : Addr} {oc_m_choose_by_hand kV_m_choose_by_hand dc_m_choose_by_hand pm_m_choose_by_hand cd_m_choose_by_hand ct_m_choose_by_hand : Value}
    (a_m_choose_by_hand : PySem.W.findIn K (.ref CC) "_choose_by_hand" = some (some (.ref f_m_choose_by_hand))) (i_m_choose_by_hand : PySem.W.isFn K (.ref f_m_choose_by_hand) = true)
    (l_m_choose_by_hand : K.lookup f_m_choose_by_hand = some ⟨oc_m_choose_by_hand, od_m_choose_by_hand, .func (PySem.W.fnOf "_choose_by_hand" "Chooser._choose_by_hand" (C8.fnArgs s_Chooser__choose_by_hand) (C8.fnBody s_Chooser__choose_by_hand) (C8.fnScope s_Chooser__choose_by_hand) .none kV_m_choose_by_hand dc_m_choose_by_hand pm_m_choose_by_hand an_m_choose_by_hand cd_m_choose_by_hand ct_m_choose_by_hand), sl_m_choose_by_hand⟩)
    (c_m_choose_by_hand : PySem.W.codeIn K cd_m_choose_by_hand "Chooser._choose_by_hand" = true) (k_m_choose_by_hand : PySem.W.keepIn K (.ref f_m_choose_by_hand) = true)
    (pgCC : PySem.W.plainGet K CC Str.empty = true) (hdCC : PySem.W.hasDictIn K CC = true) (poCC : PySem.W.plainOver K CC = true) (saCC : PySem.W.findIn K (.ref CC) "__setattr__" = some (some (.builtin "object.__setattr__"))) (mkCC : PySem.W.makesIn K CC = true) (kcCC : PySem.W.keepIn K (.ref CC) = true)
    (nA0 : PySem.W.findIn K (.ref CC) "_kind" = some none)
    (nA1 : PySem.W.findIn K (.ref CC) "_frames" = some none)
    (nA2 : PySem.W.findIn K (.ref CC) "_calls" = some none)
    (nA3 : PySem.W.findIn K (.ref CC) "_fill_calls" = some none)
    (nA4 : PySem.W.findIn K (.ref CC) "_use_calls" = some none)
    (nA5 : PySem.W.findIn K (.ref CC) "_bits" = some none)
    (nA6 : PySem.W.findIn K (.ref CC) "_hand" = some none)
    {od_ch an_ch cdK : Option Addr} {sl_ch csK : Array (Option Value)} {f_ch cK PK : Addr} {oc_ch kV_ch dc_ch pm_ch ct_ch ccK : Value} {vsK : Array Value}
    (a_ch : PySem.W.findIn K (.ref CC) "choose" = some (some (.ref f_ch))) (i_ch : PySem.W.isFn K (.ref f_ch) = true)
    (l_ch : K.lookup f_ch = some ⟨oc_ch, od_ch, .func (PySem.W.fnOf "choose" "Chooser.choose" (C8.fnArgs s_Chooser_choose) (C8.fnBody s_Chooser_choose) (C8.fnScope s_Chooser_choose) .none kV_ch dc_ch pm_ch an_ch (.ref cK) ct_ch), sl_ch⟩)
    (c_ch : PySem.W.codeIn K (.ref cK) "Chooser.choose" = true) (k_ch : PySem.W.keepIn K (.ref f_ch) = true)
    (l_cK : K.lookup cK = some ⟨ccK, cdK, .fields vsK, csK⟩) (x_pK : vsK[11]? = some (.ref PK)) (x_hK : PySem.W.codeHdIn K cK PK = true) (x_nK : K.lookup PK = none)
    (hPK : h.get? PK = some { cls := .none, data := .fields #[] })
    (zmin : PySem.W.nsIn K mainGlobals "min" = some none) (zmax : PySem.W.nsIn K mainGlobals "max" = some none) (zenum : PySem.W.nsIn K mainGlobals "enumerate" = some none)
    {od_page_ins an_page_ins : Option Addr} {sl_page_ins : Array (Option Value)} {f_page_ins : Addr} {oc_page_ins kV_page_ins dc_page_ins pm_page_ins cd_page_ins ct_page_ins : Value}
    (a_page_ins : PySem.W.nsIn K mainGlobals "page_ins" = some (some (.ref f_page_ins)))
    (l_page_ins : K.lookup f_page_ins = some ⟨oc_page_ins, od_page_ins, .func (PySem.W.fnOf "page_ins" "page_ins" (C8.fnArgs s_page_ins) (C8.fnBody s_page_ins) (C8.fnScope s_page_ins) .none kV_page_ins dc_page_ins pm_page_ins an_page_ins cd_page_ins ct_page_ins), sl_page_ins⟩)
    (c_page_ins : PySem.W.codeIn K cd_page_ins "page_ins" = true) (k_page_ins : PySem.W.keepIn K (.ref f_page_ins) = true)
    {od_obtain_frame an_obtain_frame : Option Addr} {sl_obtain_frame : Array (Option Value)} {f_obtain_frame : Addr} {oc_obtain_frame kV_obtain_frame dc_obtain_frame pm_obtain_frame cd_obtain_frame ct_obtain_frame : Value}
    (a_obtain_frame : PySem.W.nsIn K mainGlobals "_obtain_frame" = some (some (.ref f_obtain_frame)))
    (l_obtain_frame : K.lookup f_obtain_frame = some ⟨oc_obtain_frame, od_obtain_frame, .func (PySem.W.fnOf "_obtain_frame" "_obtain_frame" (C8.fnArgs s_obtain_frame) (C8.fnBody s_obtain_frame) (C8.fnScope s_obtain_frame) .none kV_obtain_frame dc_obtain_frame pm_obtain_frame an_obtain_frame cd_obtain_frame ct_obtain_frame), sl_obtain_frame⟩)
    (c_obtain_frame : PySem.W.codeIn K cd_obtain_frame "_obtain_frame" = true) (k_obtain_frame : PySem.W.keepIn K (.ref f_obtain_frame) = true)
    {od_number an_number : Option Addr} {sl_number : Array (Option Value)} {f_number : Addr} {oc_number kV_number dc_number pm_number cd_number ct_number : Value}
    (a_number : PySem.W.nsIn K mainGlobals "_law_number" = some (some (.ref f_number)))
    (l_number : K.lookup f_number = some ⟨oc_number, od_number, .func (PySem.W.fnOf "_law_number" "_law_number" (C8.fnArgs s_number) (C8.fnBody s_number) (C8.fnScope s_number) .none kV_number dc_number pm_number an_number cd_number ct_number), sl_number⟩)
    (c_number : PySem.W.codeIn K cd_number "_law_number" = true) (k_number : PySem.W.keepIn K (.ref f_number) = true)
    {od_is_whole an_is_whole : Option Addr} {sl_is_whole : Array (Option Value)} {f_is_whole : Addr} {oc_is_whole kV_is_whole dc_is_whole pm_is_whole cd_is_whole ct_is_whole : Value}
    (a_is_whole : PySem.W.nsIn K mainGlobals "_law_is_whole" = some (some (.ref f_is_whole)))
    (l_is_whole : K.lookup f_is_whole = some ⟨oc_is_whole, od_is_whole, .func (PySem.W.fnOf "_law_is_whole" "_law_is_whole" (C8.fnArgs s_is_whole) (C8.fnBody s_is_whole) (C8.fnScope s_is_whole) .none kV_is_whole dc_is_whole pm_is_whole an_is_whole cd_is_whole ct_is_whole), sl_is_whole⟩)
    (c_is_whole : PySem.W.codeIn K cd_is_whole "_law_is_whole" = true) (k_is_whole : PySem.W.keepIn K (.ref f_is_whole) = true)
    {od_same an_same : Option Addr} {sl_same : Array (Option Value)} {f_same : Addr} {oc_same kV_same dc_same pm_same cd_same ct_same : Value}
    (a_same : PySem.W.nsIn K mainGlobals "_law_same" = some (some (.ref f_same)))
    (l_same : K.lookup f_same = some ⟨oc_same, od_same, .func (PySem.W.fnOf "_law_same" "_law_same" (C8.fnArgs s_same) (C8.fnBody s_same) (C8.fnScope s_same) .none kV_same dc_same pm_same an_same cd_same ct_same), sl_same⟩)
    (c_same : PySem.W.codeIn K cd_same "_law_same" = true) (k_same : PySem.W.keepIn K (.ref f_same) = true)
    {od_chooser_new an_chooser_new : Option Addr} {sl_chooser_new : Array (Option Value)} {f_chooser_new : Addr} {oc_chooser_new kV_chooser_new dc_chooser_new pm_chooser_new cd_chooser_new ct_chooser_new : Value}
    (a_chooser_new : PySem.W.nsIn K mainGlobals "_law_chooser_new" = some (some (.ref f_chooser_new)))
    (l_chooser_new : K.lookup f_chooser_new = some ⟨oc_chooser_new, od_chooser_new, .func (PySem.W.fnOf "_law_chooser_new" "_law_chooser_new" (C8.fnArgs s_chooser_new) (C8.fnBody s_chooser_new) (C8.fnScope s_chooser_new) .none kV_chooser_new dc_chooser_new pm_chooser_new an_chooser_new cd_chooser_new ct_chooser_new), sl_chooser_new⟩)
    (c_chooser_new : PySem.W.codeIn K cd_chooser_new "_law_chooser_new" = true) (k_chooser_new : PySem.W.keepIn K (.ref f_chooser_new) = true)
    {od_chooser_tell an_chooser_tell : Option Addr} {sl_chooser_tell : Array (Option Value)} {f_chooser_tell : Addr} {oc_chooser_tell kV_chooser_tell dc_chooser_tell pm_chooser_tell cd_chooser_tell ct_chooser_tell : Value}
    (a_chooser_tell : PySem.W.nsIn K mainGlobals "_law_chooser_tell" = some (some (.ref f_chooser_tell)))
    (l_chooser_tell : K.lookup f_chooser_tell = some ⟨oc_chooser_tell, od_chooser_tell, .func (PySem.W.fnOf "_law_chooser_tell" "_law_chooser_tell" (C8.fnArgs s_chooser_tell) (C8.fnBody s_chooser_tell) (C8.fnScope s_chooser_tell) .none kV_chooser_tell dc_chooser_tell pm_chooser_tell an_chooser_tell cd_chooser_tell ct_chooser_tell), sl_chooser_tell⟩)
    (c_chooser_tell : PySem.W.codeIn K cd_chooser_tell "_law_chooser_tell" = true) (k_chooser_tell : PySem.W.keepIn K (.ref f_chooser_tell) = true)
    {od_chooser_pick an_chooser_pick : Option Addr} {sl_chooser_pick : Array (Option Value)} {f_chooser_pick : Addr} {oc_chooser_pick kV_chooser_pick dc_chooser_pick pm_chooser_pick cd_chooser_pick ct_chooser_pick : Value}
    (a_chooser_pick : PySem.W.nsIn K mainGlobals "_law_chooser_pick" = some (some (.ref f_chooser_pick)))
    (l_chooser_pick : K.lookup f_chooser_pick = some ⟨oc_chooser_pick, od_chooser_pick, .func (PySem.W.fnOf "_law_chooser_pick" "_law_chooser_pick" (C8.fnArgs s_chooser_pick) (C8.fnBody s_chooser_pick) (C8.fnScope s_chooser_pick) .none kV_chooser_pick dc_chooser_pick pm_chooser_pick an_chooser_pick cd_chooser_pick ct_chooser_pick), sl_chooser_pick⟩)
    (c_chooser_pick : PySem.W.codeIn K cd_chooser_pick "_law_chooser_pick" = true) (k_chooser_pick : PySem.W.keepIn K (.ref f_chooser_pick) = true)
    {od_names an_names : Option Addr} {sl_names : Array (Option Value)} {f_names : Addr} {oc_names kV_names dc_names pm_names cd_names ct_names : Value}
    (a_names : PySem.W.nsIn K mainGlobals "_law_names" = some (some (.ref f_names)))
    (l_names : K.lookup f_names = some ⟨oc_names, od_names, .func (PySem.W.fnOf "_law_names" "_law_names" (C8.fnArgs s_names) (C8.fnBody s_names) (C8.fnScope s_names) .none kV_names dc_names pm_names an_names cd_names ct_names), sl_names⟩)
    (c_names : PySem.W.codeIn K cd_names "_law_names" = true) (k_names : PySem.W.keepIn K (.ref f_names) = true)
    {od_trace an_trace : Option Addr} {sl_trace : Array (Option Value)} {f_trace : Addr} {oc_trace kV_trace dc_trace pm_trace cd_trace ct_trace : Value}
    (a_trace : PySem.W.nsIn K mainGlobals "_law_trace" = some (some (.ref f_trace)))
    (l_trace : K.lookup f_trace = some ⟨oc_trace, od_trace, .func (PySem.W.fnOf "_law_trace" "_law_trace" (C8.fnArgs s_trace) (C8.fnBody s_trace) (C8.fnScope s_trace) .none kV_trace dc_trace pm_trace an_trace cd_trace ct_trace), sl_trace⟩)
    (c_trace : PySem.W.codeIn K cd_trace "_law_trace" = true) (k_trace : PySem.W.keepIn K (.ref f_trace) = true)
    {od_Lpage_ins an_Lpage_ins : Option Addr} {sl_Lpage_ins : Array (Option Value)} {f_Lpage_ins : Addr} {oc_Lpage_ins kV_Lpage_ins dc_Lpage_ins pm_Lpage_ins cd_Lpage_ins ct_Lpage_ins : Value}
    (a_Lpage_ins : PySem.W.nsIn K mainGlobals "_law_page_ins" = some (some (.ref f_Lpage_ins)))
    (l_Lpage_ins : K.lookup f_Lpage_ins = some ⟨oc_Lpage_ins, od_Lpage_ins, .func (PySem.W.fnOf "_law_page_ins" "_law_page_ins" (C8.fnArgs s_Lpage_ins) (C8.fnBody s_Lpage_ins) (C8.fnScope s_Lpage_ins) .none kV_Lpage_ins dc_Lpage_ins pm_Lpage_ins an_Lpage_ins cd_Lpage_ins ct_Lpage_ins), sl_Lpage_ins⟩)
    (c_Lpage_ins : PySem.W.codeIn K cd_Lpage_ins "_law_page_ins" = true) (k_Lpage_ins : PySem.W.keepIn K (.ref f_Lpage_ins) = true)
    {od_law an_law : Option Addr} {sl_law : Array (Option Value)} {f_law : Addr} {oc_law kV_law dc_law pm_law cd_law ct_law : Value}
    (a_law : PySem.W.nsIn K mainGlobals "law" = some (some (.ref f_law)))
    (l_law : K.lookup f_law = some ⟨oc_law, od_law, .func (PySem.W.fnOf "law" "law" (C8.fnArgs s_law) (C8.fnBody s_law) (C8.fnScope s_law) .none kV_law dc_law pm_law an_law cd_law ct_law), sl_law⟩)
    (c_law : PySem.W.codeIn K cd_law "law" = true) (k_law : PySem.W.keepIn K (.ref f_law) = true)
    (z_len : PySem.W.nsIn K mainGlobals "len" = some none)
    (z_abs : PySem.W.nsIn K mainGlobals "abs" = some none)
    (z_int : PySem.W.nsIn K mainGlobals "int" = some none)
    (z_range : PySem.W.nsIn K mainGlobals "range" = some none)
    (z_isinstance : PySem.W.nsIn K mainGlobals "isinstance" = some none)
    (z_bool : PySem.W.nsIn K mainGlobals "bool" = some none)
    (z_str : PySem.W.nsIn K mainGlobals "str" = some none)
    (z_list : PySem.W.nsIn K mainGlobals "list" = some none)
    (z_tuple : PySem.W.nsIn K mainGlobals "tuple" = some none) : LawAtS l w K C8.CX0 6 63 "_law_script" mg fa h := by
  have e := hfa.symm.trans (PySem.W.mg_of X G a_law)
  cases e
  have T : Txt mg := ⟨PySem.W.mg_none_of X G z_len, PySem.W.mg_none_of X G z_abs, PySem.W.mg_none_of X G z_int, PySem.W.mg_none_of X G z_range, PySem.W.mg_none_of X G z_isinstance, PySem.W.mg_none_of X G z_bool, PySem.W.mg_none_of X G z_str, PySem.W.mg_none_of X G z_list, PySem.W.mg_none_of X G z_tuple⟩
  have F_m_init : C8.Fun K "__init__" "Chooser.__init__" s_Chooser___init__ f_m_init _ := ⟨oc_m_init, od_m_init, .none, kV_m_init, dc_m_init, pm_m_init, an_m_init, cd_m_init, ct_m_init, sl_m_init, rfl, l_m_init, c_m_init⟩
  have b_m_init := F_m_init.binds (ps := ["self", "kind", "frames"]) rfl fun _ _ _ _ _ _ us hl => match us, hl with | [_, _, _], _ => rfl
  have F_m_filled : C8.Fun K "filled" "Chooser.filled" s_Chooser_filled f_m_filled _ := ⟨oc_m_filled, od_m_filled, .none, kV_m_filled, dc_m_filled, pm_m_filled, an_m_filled, cd_m_filled, ct_m_filled, sl_m_filled, rfl, l_m_filled, c_m_filled⟩
  have b_m_filled := F_m_filled.binds (ps := ["self", "frame"]) rfl fun _ _ _ _ _ _ us hl => match us, hl with | [_, _], _ => rfl
  have F_m_touched : C8.Fun K "touched" "Chooser.touched" s_Chooser_touched f_m_touched _ := ⟨oc_m_touched, od_m_touched, .none, kV_m_touched, dc_m_touched, pm_m_touched, an_m_touched, cd_m_touched, ct_m_touched, sl_m_touched, rfl, l_m_touched, c_m_touched⟩
  have b_m_touched := F_m_touched.binds (ps := ["self", "frame"]) rfl fun _ _ _ _ _ _ us hl => match us, hl with | [_, _], _ => rfl
  have F_m_emptied : C8.Fun K "emptied" "Chooser.emptied" s_Chooser_emptied f_m_emptied _ := ⟨oc_m_emptied, od_m_emptied, .none, kV_m_emptied, dc_m_emptied, pm_m_emptied, an_m_emptied, cd_m_emptied, ct_m_emptied, sl_m_emptied, rfl, l_m_emptied, c_m_emptied⟩
  have b_m_emptied := F_m_emptied.binds (ps := ["self", "frame"]) rfl fun _ _ _ _ _ _ us hl => match us, hl with | [_, _], _ => rfl
  have F_m_choose_by_hand : C8.Fun K "_choose_by_hand" "Chooser._choose_by_hand" s_Chooser__choose_by_hand f_m_choose_by_hand _ := ⟨oc_m_choose_by_hand, od_m_choose_by_hand, .none, kV_m_choose_by_hand, dc_m_choose_by_hand, pm_m_choose_by_hand, an_m_choose_by_hand, cd_m_choose_by_hand, ct_m_choose_by_hand, sl_m_choose_by_hand, rfl, l_m_choose_by_hand, c_m_choose_by_hand⟩
  have b_m_choose_by_hand := F_m_choose_by_hand.binds (ps := ["self", "allowed"]) rfl fun _ _ _ _ _ _ us hl => match us, hl with | [_, _], _ => rfl
  have TS : STxt K mg CC := ⟨⟨pgCC, hdCC, poCC, saCC⟩, nA0, nA1, nA2, nA3, nA4, nA5, nA6, PySem.W.mg_of X G aCC⟩
  have F_ch : C8.Fun K "choose" "Chooser.choose" s_Chooser_choose f_ch (PySem.W.fnOf "choose" "Chooser.choose" (C8.fnArgs s_Chooser_choose) (C8.fnBody s_Chooser_choose) (C8.fnScope s_Chooser_choose) .none kV_ch dc_ch pm_ch an_ch (.ref cK) ct_ch) := ⟨oc_ch, od_ch, .none, kV_ch, dc_ch, pm_ch, an_ch, .ref cK, ct_ch, sl_ch, rfl, l_ch, c_ch⟩
  have b_ch := F_ch.binds (ps := ["self", "allowed"]) rfl fun _ _ _ _ _ _ us hl => match us, hl with | [_, _], _ => rfl
  have D_page_ins : Def K mg "page_ins" s_page_ins f_page_ins _ := ⟨⟨oc_page_ins, od_page_ins, .none, kV_page_ins, dc_page_ins, pm_page_ins, an_page_ins, cd_page_ins, ct_page_ins, sl_page_ins, rfl, l_page_ins, c_page_ins⟩, PySem.W.mg_of X G a_page_ins, k_page_ins⟩
  have b_page_ins := D_page_ins.fn.binds (ps := ["trace", "frames", "kind"]) rfl fun _ _ _ _ _ _ us hl => match us, hl with | [_, _, _], _ => rfl
  have D_obtain_frame : Def K mg "_obtain_frame" s_obtain_frame f_obtain_frame _ := ⟨⟨oc_obtain_frame, od_obtain_frame, .none, kV_obtain_frame, dc_obtain_frame, pm_obtain_frame, an_obtain_frame, cd_obtain_frame, ct_obtain_frame, sl_obtain_frame, rfl, l_obtain_frame, c_obtain_frame⟩, PySem.W.mg_of X G a_obtain_frame, k_obtain_frame⟩
  have b_obtain_frame := D_obtain_frame.fn.binds (ps := ["pages", "chooser"]) rfl fun _ _ _ _ _ _ us hl => match us, hl with | [_, _], _ => rfl
  have D_number : Def K mg "_law_number" s_number f_number _ := ⟨⟨oc_number, od_number, .none, kV_number, dc_number, pm_number, an_number, cd_number, ct_number, sl_number, rfl, l_number, c_number⟩, PySem.W.mg_of X G a_number, k_number⟩
  have b_number := D_number.fn.binds (ps := ["_law_script", "_law_at", "_law_k", "_law_size"]) rfl fun _ _ _ _ _ _ us hl => match us, hl with | [_, _, _, _], _ => rfl
  have D_is_whole : Def K mg "_law_is_whole" s_is_whole f_is_whole _ := ⟨⟨oc_is_whole, od_is_whole, .none, kV_is_whole, dc_is_whole, pm_is_whole, an_is_whole, cd_is_whole, ct_is_whole, sl_is_whole, rfl, l_is_whole, c_is_whole⟩, PySem.W.mg_of X G a_is_whole, k_is_whole⟩
  have b_is_whole := D_is_whole.fn.binds (ps := ["_law_told"]) rfl fun _ _ _ _ _ _ us hl => match us, hl with | [_], _ => rfl
  have D_same : Def K mg "_law_same" s_same f_same _ := ⟨⟨oc_same, od_same, .none, kV_same, dc_same, pm_same, an_same, cd_same, ct_same, sl_same, rfl, l_same, c_same⟩, PySem.W.mg_of X G a_same, k_same⟩
  have b_same := D_same.fn.binds (ps := ["_law_told", "_law_due"]) rfl fun _ _ _ _ _ _ us hl => match us, hl with | [_, _], _ => rfl
  have D_chooser_new : Def K mg "_law_chooser_new" s_chooser_new f_chooser_new _ := ⟨⟨oc_chooser_new, od_chooser_new, .none, kV_chooser_new, dc_chooser_new, pm_chooser_new, an_chooser_new, cd_chooser_new, ct_chooser_new, sl_chooser_new, rfl, l_chooser_new, c_chooser_new⟩, PySem.W.mg_of X G a_chooser_new, k_chooser_new⟩
  have b_chooser_new := D_chooser_new.fn.binds (ps := ["_law_kind", "_law_many"]) rfl fun _ _ _ _ _ _ us hl => match us, hl with | [_, _], _ => rfl
  have D_chooser_tell : Def K mg "_law_chooser_tell" s_chooser_tell f_chooser_tell _ := ⟨⟨oc_chooser_tell, od_chooser_tell, .none, kV_chooser_tell, dc_chooser_tell, pm_chooser_tell, an_chooser_tell, cd_chooser_tell, ct_chooser_tell, sl_chooser_tell, rfl, l_chooser_tell, c_chooser_tell⟩, PySem.W.mg_of X G a_chooser_tell, k_chooser_tell⟩
  have b_chooser_tell := D_chooser_tell.fn.binds (ps := ["_law_plain", "_law_what", "_law_frame"]) rfl fun _ _ _ _ _ _ us hl => match us, hl with | [_, _, _], _ => rfl
  have D_chooser_pick : Def K mg "_law_chooser_pick" s_chooser_pick f_chooser_pick _ := ⟨⟨oc_chooser_pick, od_chooser_pick, .none, kV_chooser_pick, dc_chooser_pick, pm_chooser_pick, an_chooser_pick, cd_chooser_pick, ct_chooser_pick, sl_chooser_pick, rfl, l_chooser_pick, c_chooser_pick⟩, PySem.W.mg_of X G a_chooser_pick, k_chooser_pick⟩
  have b_chooser_pick := D_chooser_pick.fn.binds (ps := ["_law_plain", "_law_allowed"]) rfl fun _ _ _ _ _ _ us hl => match us, hl with | [_, _], _ => rfl
  have D_names : Def K mg "_law_names" s_names f_names _ := ⟨⟨oc_names, od_names, .none, kV_names, dc_names, pm_names, an_names, cd_names, ct_names, sl_names, rfl, l_names, c_names⟩, PySem.W.mg_of X G a_names, k_names⟩
  have b_names := D_names.fn.binds (ps := ["_law_script", "_law_most"]) rfl fun _ _ _ _ _ _ us hl => match us, hl with | [_, _], _ => rfl
  have D_trace : Def K mg "_law_trace" s_trace f_trace _ := ⟨⟨oc_trace, od_trace, .none, kV_trace, dc_trace, pm_trace, an_trace, cd_trace, ct_trace, sl_trace, rfl, l_trace, c_trace⟩, PySem.W.mg_of X G a_trace, k_trace⟩
  have b_trace := D_trace.fn.binds (ps := ["_law_script", "_law_names_here"]) rfl fun _ _ _ _ _ _ us hl => match us, hl with | [_, _], _ => rfl
  have D_Lpage_ins : Def K mg "_law_page_ins" s_Lpage_ins f_Lpage_ins _ := ⟨⟨oc_Lpage_ins, od_Lpage_ins, .none, kV_Lpage_ins, dc_Lpage_ins, pm_Lpage_ins, an_Lpage_ins, cd_Lpage_ins, ct_Lpage_ins, sl_Lpage_ins, rfl, l_Lpage_ins, c_Lpage_ins⟩, PySem.W.mg_of X G a_Lpage_ins, k_Lpage_ins⟩
  have b_Lpage_ins := D_Lpage_ins.fn.binds (ps := ["_law_trace_here", "_law_many", "_law_kind"]) rfl fun _ _ _ _ _ _ us hl => match us, hl with | [_, _, _], _ => rfl
  have D_law : Def K mg "law" s_law fa _ := ⟨⟨oc_law, od_law, .none, kV_law, dc_law, pm_law, an_law, cd_law, ct_law, sl_law, rfl, l_law, c_law⟩, PySem.W.mg_of X G a_law, k_law⟩
  refine ⟨PySem.W.fnOf "law" "law" (C8.fnArgs s_law) (C8.fnBody s_law) (C8.fnScope s_law) .none kV_law dc_law pm_law an_law cd_law ct_law, [(cK, PK)], spLaw K PK, fun p hp => by rw [List.mem_singleton.mp hp]; exact hPK, fun p hp => by rw [List.mem_singleton.mp hp]; exact x_nK, fun p hp => by rw [List.mem_singleton.mp hp]; exact PySem.W.codeHd_of_K X x_hK, fun s v => .of_eq rfl, fun H a ns hl _ hH hS => ⟨a, ns, rfl, hH (cK, PK) List.mem_cons_self, hS, hl, fun _ => rfl⟩, fun base _ _ TB => ?_⟩
  have c_number := ok_number (P := l.prog) (w := w) (base := base) D_number b_number T
  have c_whole := ok_whole (P := l.prog) (w := w) (base := base) D_is_whole b_is_whole T
  have c_Ch := ok_init (P := l.prog) (w := w) (base := base) F_m_init ⟨mkCC, a_m_init, i_m_init, kcCC⟩ b_m_init TS
  have m_em := ok_emptied (P := l.prog) (w := w) (base := base) F_m_emptied ⟨a_m_emptied, i_m_emptied, k_m_emptied⟩ b_m_emptied TS
  have m_to := ok_touched (P := l.prog) (w := w) (base := base) F_m_touched ⟨a_m_touched, i_m_touched, k_m_touched⟩ b_m_touched TS
  have m_fi := ok_filled F_m_filled ⟨a_m_filled, i_m_filled, k_m_filled⟩ b_m_filled TS m_to
  have m_ha := ok_hand (P := l.prog) (w := w) (base := base) F_m_choose_by_hand ⟨a_m_choose_by_hand, i_m_choose_by_hand, k_m_choose_by_hand⟩ b_m_choose_by_hand TS
  have m_ch := ok_chs (Pr := l.prog) (w := w) (base := base) (c := cK) (P := PK) ⟨oc_ch, od_ch, .none, kV_ch, dc_ch, pm_ch, an_ch, ct_ch, sl_ch, rfl, l_ch, c_ch⟩ ⟨a_ch, i_ch, k_ch⟩ b_ch TS (PySem.W.mg_none_of X G zmin) (PySem.W.mg_none_of X G zmax) (TB (cK, PK) List.mem_cons_self) m_ha
  have c_same := ok_same D_same b_same T c_whole 3
  have c_obt := ok_obt D_obtain_frame b_obtain_frame T m_ch m_em
  have c_pi := ok_pi D_page_ins b_page_ins T ⟨PySem.W.mg_none_of X G zenum⟩ c_Ch c_obt m_to m_fi
  have c_tell := ok_tell (P := l.prog) (w := w) (base := base) D_chooser_tell b_chooser_tell T
  have c_new := ok_new (P := l.prog) (w := w) (base := base) D_chooser_new b_chooser_new T
  have c_pick := ok_pick (P := l.prog) (w := w) (base := base) D_chooser_pick b_chooser_pick T
  have c_lpi := ok_lpi D_Lpage_ins b_Lpage_ins T c_new c_tell c_pick
  have c_names := ok_names D_names b_names T c_number
  have c_trace := ok_trace D_trace b_trace T c_number
  exact ok_law D_law T c_number c_same c_names c_trace c_lpi c_pi

end

end Lw
open PySem PySem.W PyProof.Rows
set_option maxRecDepth 100000 in
set_option maxHeartbeats 0 in
theorem PySem.Challenge.cw_lentpages_k23_page_ins_holds : PySem.Challenge.rw_lentpages_k23_page_ins.Holds := by
  w_on; o_law; k_head; (case hw => w_witness2)
  k_fill
  refine LamX.walk_ofTs (l := PySem.Challenge.rw_lentpages_k23_page_ins) (n := 63) (k := 6) (x := "_law_script") (CX := fun _ => C8.CX0) rfl (by decide) rfl ⟨rfl, by decide, by decide⟩ (fun w h Y => by first | exact PySem.W.kIn_of Y | exact PySem.W.km_in_of Y) ?F (fun _ _ _ _ _ h => h)
  case F =>
    intro w mg fa h Y KX G hmg
    refine' Lw.all_mk KX G hmg ?aCC ?a_m_init ?i_m_init ?l_m_init ?c_m_init ?k_m_init ?a_m_filled ?i_m_filled ?l_m_filled ?c_m_filled ?k_m_filled ?a_m_touched ?i_m_touched ?l_m_touched ?c_m_touched ?k_m_touched ?a_m_emptied ?i_m_emptied ?l_m_emptied ?c_m_emptied ?k_m_emptied ?a_m_choose_by_hand ?i_m_choose_by_hand ?l_m_choose_by_hand ?c_m_choose_by_hand ?k_m_choose_by_hand ?pgCC ?hdCC ?poCC ?saCC ?mkCC ?kcCC ?nA0 ?nA1 ?nA2 ?nA3 ?nA4 ?nA5 ?nA6 ?a_ch ?i_ch ?l_ch ?c_ch ?k_ch ?l_cK ?x_pK ?x_hK ?x_nK ?hPK ?zmin ?zmax ?zenum ?a_page_ins ?l_page_ins ?c_page_ins ?k_page_ins ?a_obtain_frame ?l_obtain_frame ?c_obtain_frame ?k_obtain_frame ?a_number ?l_number ?c_number ?k_number ?a_is_whole ?l_is_whole ?c_is_whole ?k_is_whole ?a_same ?l_same ?c_same ?k_same ?a_chooser_new ?l_chooser_new ?c_chooser_new ?k_chooser_new ?a_chooser_tell ?l_chooser_tell ?c_chooser_tell ?k_chooser_tell ?a_chooser_pick ?l_chooser_pick ?c_chooser_pick ?k_chooser_pick ?a_names ?l_names ?c_names ?k_names ?a_trace ?l_trace ?c_trace ?k_trace ?a_Lpage_ins ?l_Lpage_ins ?c_Lpage_ins ?k_Lpage_ins ?a_law ?l_law ?c_law ?k_law ?z_len ?z_abs ?z_int ?z_range ?z_isinstance ?z_bool ?z_str ?z_list ?z_tuple
    (case aCC => k_is)
    (case a_m_init => k_is)
    (case i_m_init => k_is)
    (case l_m_init => k_is)
    (case c_m_init => k_is)
    (case k_m_init => k_is)
    (case a_m_filled => k_is)
    (case i_m_filled => k_is)
    (case l_m_filled => k_is)
    (case c_m_filled => k_is)
    (case k_m_filled => k_is)
    (case a_m_touched => k_is)
    (case i_m_touched => k_is)
    (case l_m_touched => k_is)
    (case c_m_touched => k_is)
    (case k_m_touched => k_is)
    (case a_m_emptied => k_is)
    (case i_m_emptied => k_is)
    (case l_m_emptied => k_is)
    (case c_m_emptied => k_is)
    (case k_m_emptied => k_is)
    (case a_m_choose_by_hand => k_is)
    (case i_m_choose_by_hand => k_is)
    (case l_m_choose_by_hand => k_is)
    (case c_m_choose_by_hand => k_is)
    (case k_m_choose_by_hand => k_is)
    (case pgCC => k_is)
    (case hdCC => k_is)
    (case poCC => k_is)
    (case saCC => k_is)
    (case mkCC => k_is)
    (case kcCC => k_is)
    (case nA0 => k_is)
    (case nA1 => k_is)
    (case nA2 => k_is)
    (case nA3 => k_is)
    (case nA4 => k_is)
    (case nA5 => k_is)
    (case nA6 => k_is)
    (case a_ch => k_is)
    (case i_ch => k_is)
    (case l_ch => k_is)
    (case c_ch => k_is)
    (case k_ch => k_is)
    (case l_cK => k_is)
    (case x_pK => first | k_is | rfl | decide +kernel)
    (case x_hK => first | k_is | rfl | decide +kernel)
    (case x_nK => first | k_is | rfl | decide +kernel)
    (case hPK => exact PySem.W.km_tabs_of Y _ (by decide +kernel))
    (case zmin => k_is)
    (case zmax => k_is)
    (case zenum => k_is)
    (case a_page_ins => k_is)
    (case l_page_ins => k_is)
    (case c_page_ins => k_is)
    (case k_page_ins => k_is)
    (case a_obtain_frame => k_is)
    (case l_obtain_frame => k_is)
    (case c_obtain_frame => k_is)
    (case k_obtain_frame => k_is)
    (case a_number => k_is)
    (case l_number => k_is)
    (case c_number => k_is)
    (case k_number => k_is)
    (case a_is_whole => k_is)
    (case l_is_whole => k_is)
    (case c_is_whole => k_is)
    (case k_is_whole => k_is)
    (case a_same => k_is)
    (case l_same => k_is)
    (case c_same => k_is)
    (case k_same => k_is)
    (case a_chooser_new => k_is)
    (case l_chooser_new => k_is)
    (case c_chooser_new => k_is)
    (case k_chooser_new => k_is)
    (case a_chooser_tell => k_is)
    (case l_chooser_tell => k_is)
    (case c_chooser_tell => k_is)
    (case k_chooser_tell => k_is)
    (case a_chooser_pick => k_is)
    (case l_chooser_pick => k_is)
    (case c_chooser_pick => k_is)
    (case k_chooser_pick => k_is)
    (case a_names => k_is)
    (case l_names => k_is)
    (case c_names => k_is)
    (case k_names => k_is)
    (case a_trace => k_is)
    (case l_trace => k_is)
    (case c_trace => k_is)
    (case k_trace => k_is)
    (case a_Lpage_ins => k_is)
    (case l_Lpage_ins => k_is)
    (case c_Lpage_ins => k_is)
    (case k_Lpage_ins => k_is)
    (case a_law => k_is)
    (case l_law => k_is)
    (case c_law => k_is)
    (case k_law => k_is)
    (case z_len => k_is)
    (case z_abs => k_is)
    (case z_int => k_is)
    (case z_range => k_is)
    (case z_isinstance => k_is)
    (case z_bool => k_is)
    (case z_str => k_is)
    (case z_list => k_is)
    (case z_tuple => k_is)
