import PyProof.Rows.All
import Wide.All
import OpenK.AllK
import Wide.FinOn
import HandS.ForMost
import HandS.Codes
import HandS.IsInst
import HandS.Wide
import HandS.Conv
import HandS.DictTup
import PyProof.DictMoreH
import HandS.TupLen
import HandS.Zip
import HandS.Walk
import HandS.Style
import HandS.Rev
import HandS.DictComp
import KE.SortData
import KE.GoesEnumKw
import HandS.SortKw
import PySem.Challenge.RW_lentpages_k54_whole_bags_and_lies
set_option Elab.async false
set_option linter.all false
set_option maxRecDepth 100000
set_option maxHeartbeats 4000000
namespace Lw
open PySem PySem.Spec PyProof.Rows L2
open C8 (Def Cal cal0 pe_c)
def topS (i : Nat) : Stmt := PySem.Challenge.pw_lentpages_k54_whole_bags_and_lies.main.body.getD i (.Pass ⟨0, 0, 0, 0⟩)

/-! ### data in the heap, tracked -/
mutual
def Dh (H : Hp) : PyData → V → Prop
  | .none, x => x = .non
  | .bool b, x => x = .bl b
  | .int i, x => x = .int i
  | .str s, x => x = .str s
  | .list ds, x => ∃ a xs, x = .ref a ∧ H a = some (.lst xs) ∧ DhAll H ds xs
  | .tuple ds, x => ∃ a xs, x = .ref a ∧ H a = some (.tup xs) ∧ DhAll H ds xs
  | .dict _, _ => False
def DhAll (H : Hp) : List PyData → List V → Prop
  | [], xs => xs = []
  | d :: ds, xs => ∃ v vs, xs = v :: vs ∧ Dh H d v ∧ DhAll H ds vs
end
mutual
theorem Dh.mono {H H' : Hp} (s : Same H H') : ∀ (d : PyData) (x : V), Dh H d x → Dh H' d x
  | .none, x, h => h
  | .bool b, x, h => h
  | .int i, x, h => h
  | .str i, x, h => h
  | .list ds, x, h => by
    obtain ⟨a, xs, e, g, r⟩ := h
    exact ⟨a, xs, e, s _ _ g, DhAll.mono s ds xs r⟩
  | .tuple ds, x, h => by
    obtain ⟨a, xs, e, g, r⟩ := h
    exact ⟨a, xs, e, s _ _ g, DhAll.mono s ds xs r⟩
  | .dict _, x, h => False.elim h
theorem DhAll.mono {H H' : Hp} (s : Same H H') : ∀ (ds : List PyData) (xs : List V), DhAll H ds xs → DhAll H' ds xs
  | [], xs, h => h
  | d :: ds, xs, h => by
    obtain ⟨v, vs, e, g, r⟩ := h
    exact ⟨v, vs, e, Dh.mono s d v g, DhAll.mono s ds vs r⟩
end
theorem DhAll.len {H : Hp} : ∀ {ds : List PyData} {xs : List V}, DhAll H ds xs → xs.length = ds.length
  | [], xs, h => by
    cases (show xs = [] from h)
    rfl
  | d :: ds, xs, h => by
    obtain ⟨v, vs, e, g, r⟩ := h
    rw [e, List.length_cons, List.length_cons, DhAll.len r]
theorem DhAll.get {H : Hp} : ∀ {ds : List PyData} {xs : List V} {i : Nat} {d : PyData}, DhAll H ds xs → ds[i]? = some d → ∃ x, xs[i]? = some x ∧ Dh H d x
  | [], xs, i, d, h, e => by simp at e
  | d' :: ds, xs, 0, d, h, e => by
    obtain ⟨v, vs, e', g, r⟩ := h
    simp at e
    subst e
    exact ⟨v, by rw [e']; rfl, g⟩
  | d' :: ds, xs, i + 1, d, h, e => by
    obtain ⟨v, vs, e', g, r⟩ := h
    obtain ⟨x, h1, h2⟩ := DhAll.get (i := i) (d := d) r (by simpa using e)
    exact ⟨x, by rw [e']; simpa using h1, h2⟩
mutual
theorem Dh.dp {K : PySem.W.Frag} {H : Hp} : ∀ (d : PyData) (x : V), Dh H d x → Dp K H x d
  | .none, x, h => by
    cases (show x = .non from h)
    exact .non
  | .bool b, x, h => by
    cases (show x = .bl b from h)
    exact .bl b
  | .int i, x, h => by
    cases (show x = .int i from h)
    exact .int i
  | .str i, x, h => by
    cases (show x = .str i from h)
    exact .str i
  | .list ds, x, h => by
    obtain ⟨a, xs, e, g, r⟩ := h
    rw [e]
    exact .lst (SqL.of g) (DhAll.dp ds xs r)
  | .tuple ds, x, h => by
    obtain ⟨a, xs, e, g, r⟩ := h
    rw [e]
    exact .tup (SqT.of g) (DhAll.dp ds xs r)
  | .dict _, x, h => False.elim h
theorem DhAll.dp {K : PySem.W.Frag} {H : Hp} : ∀ (ds : List PyData) (xs : List V), DhAll H ds xs → DpAll K H xs ds
  | [], xs, h => by
    cases (show xs = [] from h)
    exact .nil
  | d :: ds, xs, h => by
    obtain ⟨v, vs, e, g, r⟩ := h
    rw [e]
    exact .cons (Dh.dp d v g) (DhAll.dp ds vs r)
end
/-- a datum's type -/
def tyN : PyData → String
  | .none => "NoneType"
  | .bool _ => "bool"
  | .int _ => "int"
  | .str _ => "str"
  | .list _ => "list"
  | .tuple _ => "tuple"
  | .dict _ => "dict"
theorem Dh.ty {K : PySem.W.Frag} {H : Hp} : ∀ {d : PyData} {x : V}, Dh H d x → TyX K H x (.type (tyN d))
  | .none, x, h => by
    cases (show x = .non from h)
    exact .base .non
  | .bool b, x, h => by
    cases (show x = .bl b from h)
    exact .base (.bl b)
  | .int i, x, h => by
    cases (show x = .int i from h)
    exact .base (.int i)
  | .str i, x, h => by
    cases (show x = .str i from h)
    exact .base (.str i)
  | .list ds, x, h => by
    obtain ⟨a, xs, e, g, r⟩ := h
    rw [e]
    exact .base (.lst g)
  | .tuple ds, x, h => by
    obtain ⟨a, xs, e, g, r⟩ := h
    rw [e]
    exact .base (.tup g)
  | .dict _, x, h => False.elim h
/-- at most n lists and tuples in one another, none of them long -/
def Dle : Nat → PyData → Prop
  | 0, _ => False
  | n + 1, .list ds => ds.length ≤ 100000 ∧ ∀ d ∈ ds, Dle n d
  | n + 1, .tuple ds => ds.length ≤ 100000 ∧ ∀ d ∈ ds, Dle n d
  | _, .dict _ => False
  | _, _ => True
theorem same_upd {H : Hp} {p : Addr} {o : HO} (h : H p = none) : Same H (upd H p o) := fun b x e => by
  rw [upd_ne (ne_of_none e h)]
  exact e
theorem same_rfl {H : Hp} : Same H H := fun _ _ e => e
/-- what is asked of the top's names -/
structure Txt (mg : Str → Option Value) : Prop where
  len : mg "len" = none
  abs : mg "abs" = none
  int : mg "int" = none
  range : mg "range" = none
  isinstance : mg "isinstance" = none
  bool : mg "bool" = none
  str : mg "str" = none
  list : mg "list" = none
  tuple : mg "tuple" = none
abbrev sI (i : Int) : Option V := some (.int i)
abbrev sR (a : Addr) : Option V := some (.ref a)
abbrev sS (x : Str) : Option V := some (.str x)
abbrev sB (b : Bool) : Option V := some (.bl b)

/-! ### steps of a reading -/
theorem ifD {p : Prop} [Decidable p] {A B : Prop} (a : p → A) (b : ¬ p → B) : if decide p = true then A else B := by
  by_cases h : p
  · rw [if_pos (decide_eq_true h)]
    exact a h
  · rw [if_neg (fun z => h (of_decide_eq_true z))]
    exact b h
theorem ifEq {x y : Int} {A B : Prop} (a : x = y → A) (b : x ≠ y → B) : if decide (V.int x = V.int y) = true then A else B :=
  ifD (fun h => a (V.int.inj h)) (fun h => b (fun z => h (congrArg V.int z)))
theorem ifT {p : Prop} [Decidable p] {A B : Prop} (h : p) (a : A) : if decide p = true then A else B := by
  rw [if_pos (decide_eq_true h)]
  exact a
theorem ifF {p : Prop} [Decidable p] {A B : Prop} (h : ¬ p) (b : B) : if decide p = true then A else B := by
  rw [if_neg (fun z => h (of_decide_eq_true z))]
  exact b
theorem ifEqT {x y : Int} {A B : Prop} (h : x = y) (a : A) : if decide (V.int x = V.int y) = true then A else B := ifT (congrArg V.int h) a
theorem ifEqF {x y : Int} {A B : Prop} (h : x ≠ y) (b : B) : if decide (V.int x = V.int y) = true then A else B := ifF (fun z => h (V.int.inj z)) b
theorem cmul_l {i j : Int} (h : -(2 ^ 64) < i ∧ i < 2 ^ 64) : CMul i j := .inl h
theorem cmul_r {i j : Int} (h : -(2 ^ 64) < j ∧ j < 2 ^ 64) : CMul i j := .inr h
/-- a statement that the steps stop at -/
@[irreducible] def tMk (t : TS) : TS := t
theorem tMk_eq (t : TS) : tMk t = t := by
  unfold tMk
  rfl
theorem ps_mk {X : Cx} {s : Stmt} {t : TS} (h : PS X s t) : PS X s (tMk t) := by
  rw [tMk_eq]
  exact h
theorem un {t : TS} {D : Ends} {σ : L2.St} {H : Hp} (h : t D σ H) : tMk t D σ H := by
  rw [tMk_eq]
  exact h
/-- what follows, said once -/
theorem jn {t : TS} {D : Ends} {σ : L2.St} {H : Hp} (M : L2.St → Hp → Prop) (h2 : ∀ σ H, M σ H → D.nx σ H) (h1 : ∀ N : L2.St → Hp → Prop, (∀ σ H, M σ H → N σ H) → t { D with nx := N } σ H) : tMk t D σ H := by
  rw [tMk_eq]
  exact h1 D.nx h2
/-- a wish that the steps stop at -/
@[irreducible] def Ob (p : Prop) : Prop := p
theorem ob {p : Prop} (h : p) : Ob p := by
  unfold Ob
  exact h
theorem unob {p : Prop} (h : Ob p) : p := by
  unfold Ob at h
  exact h
theorem atI_getD {ns : List Int} {j : Int} (h0 : 0 ≤ j) (h1 : j < (ns.length : Int)) : atI (ns.map V.int) j = some (.int (ns.getD j.toNat 0)) := by
  have e : j = ((j.toNat : Nat) : Int) := by omega
  have hj : j.toNat < ns.length := by omega
  have q : atI (ns.map V.int) ((j.toNat : Nat) : Int) = some (.int (ns.getD j.toNat 0)) := atI_nat (by
    rw [List.getElem?_map, List.getElem?_eq_getElem hj, List.getD_eq_getElem?_getD, List.getElem?_eq_getElem hj]
    rfl)
  rw [← e] at q
  exact q
theorem sz {n : Nat} (h : n ≤ 1000 := by first | decide | simp) : n ≤ sizeLine := Nat.le_of_lt (small1000 h)
theorem sz5 {n : Nat} (h : n ≤ 1000000) : n < sizeLine := by
  rw [sizeLine_eq]
  omega
theorem take_succ_eq {α : Type} {xs ys : List α} {i : Nat} {x y : α} (hx : xs[i]? = some x) (hy : ys[i]? = some y) : xs.take (i + 1) = ys.take (i + 1) ↔ xs.take i = ys.take i ∧ x = y := by
  rw [List.take_add_one, List.take_add_one, hx, hy]
  constructor
  · intro h
    have h1 := List.append_inj' h rfl
    refine ⟨h1.1, ?_⟩
    have h2 := h1.2
    simpa using h2
  · rintro ⟨h1, rfl⟩
    rw [h1]
-- size2
theorem ifN {b : Bool} {A B : Prop} (h : if b = true then B else A) : if (!b) = true then A else B := by
  cases b
  · exact h
  · exact h
theorem ifNe {x y : Int} {A B : Prop} (a : x ≠ y → A) (b : x = y → B) : if (!decide (V.int x = V.int y)) = true then A else B := ifN (ifEq b a)
theorem ixAny {K : PySem.W.Frag} {H : Hp} {a : Addr} {xs : List V} {i : Int} {v : V} {Q : VK} (h : SqL K H a xs ∨ SqT K H a xs) (e : atI xs i = some v) (q : Q v H) : rIx K (.ref a) (.int i) H Q := by
  rcases h with h | h
  · exact .inl ⟨a, xs, i, v, rfl, rfl, h, e, q⟩
  · exact .inr (.inl ⟨a, xs, i, v, rfl, rfl, h, e, q⟩)
theorem sameT {K : PySem.W.Frag} {H H' : Hp} {a : Addr} {xs : List V} (s : Same H H') (h : SqT K H a xs) : SqT K H' a xs := by
  rcases h with (g | ⟨o, g⟩) | g
  · exact .inl (.inl (s _ _ g))
  · exact .inl (.inr ⟨o, s _ _ g⟩)
  · exact .inr g
theorem sqAny {K : PySem.W.Frag} {H H' : Hp} {a : Addr} {xs : List V} (s : Same H H') (h : SqL K H a xs ∨ SqT K H a xs) : SqL K H' a xs ∨ SqT K H' a xs := h.imp (fun z => s.seq z) (fun z => sameT s z)
theorem same_put {H H1 : Hp} {D : Addr} {o : HO} (s : Same H H1) (h : H D = none) : Same H (upd H1 D o) := fun b x e => by
  rw [upd_ne (ne_of_none e h)]
  exact s b x e

/-! ### rules that say the written part by a letter -/
theorem ixL {X : Cx} (K : PySem.W.Frag) (h : X.K = K) : IxR X (rIxL K) := by
  subst h
  exact ix_list
theorem ixT {X : Cx} (K : PySem.W.Frag) (h : X.K = K) : IxR X (rIxT K) := by
  subst h
  exact ix_tup
theorem ixA {X : Cx} (K : PySem.W.Frag) (h : X.K = K) : IxR X (rIx K) := by
  subst h
  exact ix_seq
def rLen (K : PySem.W.Frag) : List V → Hp → VK → Prop := fun xs H Q => ∃ p ys, xs = [.ref p] ∧ (SqL K H p ys ∨ SqT K H p ys) ∧ Q (.int ys.length) H
theorem lenQ {X : Cx} (K : PySem.W.Frag) (h : X.K = K) : CallR X (.builtin "len") (rLen K) := by
  subst h
  exact call_len_seq
def isB : PyData → Bool
  | .bool _ => true
  | _ => false
def isI : PyData → Bool
  | .int _ => true
  | _ => false
def isS : PyData → Bool
  | .str _ => true
  | _ => false
def isL : PyData → Bool
  | .list _ => true
  | _ => false
def isT : PyData → Bool
  | .tuple _ => true
  | _ => false
theorem kit_B {K : PySem.W.Frag} : ∀ (d : PyData), PySem.W.kitOne K (.type (tyN d)) (.type "bool") = some (isB d)
  | .none => kit_ty (show kitB "NoneType" "bool" = some false by decide +kernel)
  | .bool _ => kit_ty (show kitB "bool" "bool" = some true by decide +kernel)
  | .int _ => kit_ty (show kitB "int" "bool" = some false by decide +kernel)
  | .str _ => kit_ty (show kitB "str" "bool" = some false by decide +kernel)
  | .list _ => kit_ty (show kitB "list" "bool" = some false by decide +kernel)
  | .tuple _ => kit_ty (show kitB "tuple" "bool" = some false by decide +kernel)
  | .dict _ => kit_ty (show kitB "dict" "bool" = some false by decide +kernel)
theorem kit_I {K : PySem.W.Frag} : ∀ (d : PyData), PySem.W.kitOne K (.type (tyN d)) (.type "int") = some (isI d || isB d)
  | .none => kit_ty (show kitB "NoneType" "int" = some false by decide +kernel)
  | .bool _ => kit_ty (show kitB "bool" "int" = some true by decide +kernel)
  | .int _ => kit_ty (show kitB "int" "int" = some true by decide +kernel)
  | .str _ => kit_ty (show kitB "str" "int" = some false by decide +kernel)
  | .list _ => kit_ty (show kitB "list" "int" = some false by decide +kernel)
  | .tuple _ => kit_ty (show kitB "tuple" "int" = some false by decide +kernel)
  | .dict _ => kit_ty (show kitB "dict" "int" = some false by decide +kernel)
theorem kit_S {K : PySem.W.Frag} : ∀ (d : PyData), PySem.W.kitOne K (.type (tyN d)) (.type "str") = some (isS d)
  | .none => kit_ty (show kitB "NoneType" "str" = some false by decide +kernel)
  | .bool _ => kit_ty (show kitB "bool" "str" = some false by decide +kernel)
  | .int _ => kit_ty (show kitB "int" "str" = some false by decide +kernel)
  | .str _ => kit_ty (show kitB "str" "str" = some true by decide +kernel)
  | .list _ => kit_ty (show kitB "list" "str" = some false by decide +kernel)
  | .tuple _ => kit_ty (show kitB "tuple" "str" = some false by decide +kernel)
  | .dict _ => kit_ty (show kitB "dict" "str" = some false by decide +kernel)
theorem kit_L {K : PySem.W.Frag} : ∀ (d : PyData), PySem.W.kitOne K (.type (tyN d)) (.type "list") = some (isL d)
  | .none => kit_ty (show kitB "NoneType" "list" = some false by decide +kernel)
  | .bool _ => kit_ty (show kitB "bool" "list" = some false by decide +kernel)
  | .int _ => kit_ty (show kitB "int" "list" = some false by decide +kernel)
  | .str _ => kit_ty (show kitB "str" "list" = some false by decide +kernel)
  | .list _ => kit_ty (show kitB "list" "list" = some true by decide +kernel)
  | .tuple _ => kit_ty (show kitB "tuple" "list" = some false by decide +kernel)
  | .dict _ => kit_ty (show kitB "dict" "list" = some false by decide +kernel)
theorem kit_T {K : PySem.W.Frag} : ∀ (d : PyData), PySem.W.kitOne K (.type (tyN d)) (.type "tuple") = some (isT d)
  | .none => kit_ty (show kitB "NoneType" "tuple" = some false by decide +kernel)
  | .bool _ => kit_ty (show kitB "bool" "tuple" = some false by decide +kernel)
  | .int _ => kit_ty (show kitB "int" "tuple" = some false by decide +kernel)
  | .str _ => kit_ty (show kitB "str" "tuple" = some false by decide +kernel)
  | .list _ => kit_ty (show kitB "list" "tuple" = some false by decide +kernel)
  | .tuple _ => kit_ty (show kitB "tuple" "tuple" = some true by decide +kernel)
  | .dict _ => kit_ty (show kitB "dict" "tuple" = some false by decide +kernel)
theorem kit_LT {K : PySem.W.Frag} (d : PyData) : PySem.W.kitAny K (.type (tyN d)) [.type "list", .type "tuple"] = some (isL d || isT d) := by
  refine kitAny_cons (kit_L d) (fun h => ?_) (fun h => by rw [h]; rfl)
  rw [h]
  refine kitAny_cons (kit_T d) (fun h => by rw [h]; rfl) (fun h => by rw [h]; rfl)
/-- isinstance of a datum -/
def rIsD (T : String) (g : PyData → Bool) : List V → Hp → VK → Prop := fun xs H Q => ∃ x d, xs = [x, .ty T] ∧ Dh H d x ∧ Q (.bl (g d)) H
theorem isOf {X : Cx} {T : String} {g : PyData → Bool} (h : ∀ d, PySem.W.kitOne X.K (.type (tyN d)) (.type T) = some (g d)) : CallR X (.builtin "isinstance") (rIsD T g) := by
  intro pins s σ H xs us Q I r z
  obtain ⟨x, d, rfl, hx, q⟩ := z
  exact call_isi pins s σ H _ us Q I r ⟨_, _, _, _, _, rfl, .ty T, hx.ty, h d, q⟩
theorem is_bool {X : Cx} : CallR X (.builtin "isinstance") (rIsD "bool" isB) := isOf kit_B
theorem is_int {X : Cx} : CallR X (.builtin "isinstance") (rIsD "int" fun d => isI d || isB d) := isOf kit_I
theorem is_str {X : Cx} : CallR X (.builtin "isinstance") (rIsD "str" isS) := isOf kit_S
theorem is_list {X : Cx} : CallR X (.builtin "isinstance") (rIsD "list" isL) := isOf kit_L
theorem is_tuple {X : Cx} : CallR X (.builtin "isinstance") (rIsD "tuple" isT) := isOf kit_T
/-- isinstance(x, (list, tuple)) of a datum -/
def rIsLT : List V → Hp → VK → Prop := fun xs H Q => ∃ x d p, xs = [x, .ref p] ∧ H p = some (.tup [.ty "list", .ty "tuple"]) ∧ Dh H d x ∧ Q (.bl (isL d || isT d)) H
theorem is_lt {X : Cx} : CallR X (.builtin "isinstance") rIsLT := by
  intro pins s σ H xs us Q I r z
  obtain ⟨x, d, p, rfl, hp, hx, q⟩ := z
  exact call_isiT pins s σ H _ us Q I r ⟨_, _, _, _, _, _, rfl, hp, .cons (.ty "list") (.cons (.ty "tuple") .nil), hx.ty, kit_LT d, q⟩
theorem ifBT {b : Bool} {A B : Prop} (h : b = true) (a : A) : if b = true then A else B := by
  rw [if_pos h]
  exact a
theorem ifBF {b : Bool} {A B : Prop} (h : b = false) (q : B) : if b = true then A else B := by
  rw [h, if_neg Bool.false_ne_true]
  exact q
theorem inQ {X : Cx} (K : PySem.W.Frag) (h : X.K = K) : OpR X (compareOp .In) (rIn K false) := by
  subst h
  exact op_in_seq
theorem notInQ {X : Cx} (K : PySem.W.Frag) (h : X.K = K) : OpR X (compareOp .NotIn) (rIn K true) := by
  subst h
  exact op_notIn_seq
theorem eqQ {X : Cx} (K : PySem.W.Frag) (h : X.K = K) (hu : X.A.units + 64 < cLine) : OpR X (compareOp .Eq) (rEqD K) := by
  subst h
  exact op_eqD hu
theorem neQ {X : Cx} (K : PySem.W.Frag) (h : X.K = K) (hu : X.A.units + 64 < cLine) : OpR X (compareOp .NotEq) (rNeD K) := by
  subst h
  exact op_neD hu
def rLst (K : PySem.W.Frag) : List V → Hp → VK → Prop := fun xs H Q => ∃ p ys, xs = [.ref p] ∧ (SqL K H p ys ∨ SqT K H p ys) ∧ ∀ l, H l = none → Q (.ref l) (upd H l (.lst ys))
theorem listQ {X : Cx} (K : PySem.W.Frag) (h : X.K = K) : CallR X (.type "list") (rLst K) := by
  subst h
  exact call_list_of

/-- what follows a wrapped statement, said once -/
theorem jnS {a b : TS} {D : Ends} {σ : L2.St} {H : Hp} (M : L2.St → Hp → Prop) (h2 : ∀ σ H, M σ H → b D σ H) (h1 : ∀ N : L2.St → Hp → Prop, (∀ σ H, M σ H → N σ H) → a { D with nx := N } σ H) : tSeq (tMk a) b D σ H := by
  rw [tMk_eq]
  exact h1 (b D) h2

mutual
/-- no lists inside -/
def noL : PyData → Bool
  | .list _ => false
  | .dict _ => false
  | .tuple ds => noLs ds
  | _ => true
def noLs : List PyData → Bool
  | [] => true
  | d :: ds => noL d && noLs ds
end
mutual
theorem Dh.tups {H H' : Hp} (s : ∀ a us, H a = some (.tup us) → H' a = some (.tup us)) : ∀ (d : PyData) (x : V), noL d = true → Dh H d x → Dh H' d x
  | .none, x, _, h => h
  | .bool b, x, _, h => h
  | .int i, x, _, h => h
  | .str i, x, _, h => h
  | .list ds, x, n, h => by cases n
  | .tuple ds, x, n, h => by
    obtain ⟨a, xs, e, g, r⟩ := h
    exact ⟨a, xs, e, s _ _ g, DhAll.tups s ds xs n r⟩
  | .dict _, x, n, h => by cases n
theorem DhAll.tups {H H' : Hp} (s : ∀ a us, H a = some (.tup us) → H' a = some (.tup us)) : ∀ (ds : List PyData) (xs : List V), noLs ds = true → DhAll H ds xs → DhAll H' ds xs
  | [], xs, _, h => h
  | d :: ds, xs, n, h => by
    obtain ⟨v, vs, e, g, r⟩ := h
    have n2 : noL d = true ∧ noLs ds = true := Bool.and_eq_true_iff.mp n
    exact ⟨v, vs, e, Dh.tups s d v n2.1 g, DhAll.tups s ds vs n2.2 r⟩
end
theorem DhAll.snoc {H : Hp} : ∀ {ds : List PyData} {xs : List V} {d : PyData} {x : V}, DhAll H ds xs → Dh H d x → DhAll H (ds ++ [d]) (xs ++ [x])
  | [], xs, d, x, h, hx => by
    cases (show xs = [] from h)
    exact ⟨x, [], rfl, hx, rfl⟩
  | d' :: ds, xs, d, x, h, hx => by
    obtain ⟨v, vs, rfl, h1, h2⟩ := h
    exact ⟨v, vs ++ [x], rfl, h1, DhAll.snoc h2 hx⟩

section

-- a condition of an operator
local macro_rules | `(tactic| walk_at "cond") => `(tactic| first
  | (show (0 : Int) < _; omega)
  | (show CDiv _ _; constructor <;> (first | decide | omega))
  | (show CMul _ _; first | (refine cmul_l ?_; constructor <;> (first | decide | omega)) | (refine cmul_r ?_; constructor <;> (first | decide | omega)))
  | (show CPow _ _; exact (by refine ⟨by decide, by decide, by decide⟩))
  | (show CDivW _ _; exact ⟨by decide, by decide +kernel⟩))
local macro_rules | `(tactic| walk_at "sq") => `(tactic| first | assumption | exact Dh.mono (same_upd (by assumption)) _ _ (by assumption) | exact .inl (.inl (.inl (by assumption))) | exact .inr (.inl (.inl (by assumption))) | exact SqL.of (by assumption) | exact .inl (by assumption) | exact .inl (SqL.of (by assumption)) | exact SqT.of (by assumption) | exact .inr (SqT.of (by assumption)))
local macro_rules | `(tactic| walk_at "st") => `(tactic| first
  | refine ⟨_, rfl, ?_⟩
  | refine ⟨_, _, rfl, rfl, ?_⟩
  | refine .inl ⟨_, rfl, ?_⟩
  | refine ⟨rfl, ?_⟩
  | refine ⟨_, _, rfl, by walk_at "sq", ?_⟩
  | refine ⟨.inl ⟨rfl, _, SqL.of (by assumption)⟩, ?_⟩
  | refine ⟨by walk_at "cond", ?_⟩
  | (refine' ifBT ?hh ?_; (case hh => first | rfl | assumption))
  | (refine' ifBF ?hh ?_; (case hh => first | rfl | assumption)))
local macro_rules | `(tactic| walk_at "go") => `(tactic| repeat walk_at "st")
local macro_rules | `(tactic| walk_at "yes") => `(tactic| (refine' ifT ?hh ?_; (case hh => first | rfl | decide +kernel)))
local macro_rules | `(tactic| walk_at "no") => `(tactic| (refine' ifF ?hh ?_; (case hh => first | decide +kernel | (intro z; cases z; done))))

/-! ### _law_number -/
/-- n times // 1000 -/
def itd : Nat → Int → Int
  | 0, r => r
  | n + 1, r => itd n r / 1000
theorem itd_zero : ∀ n, itd n 0 = 0
  | 0 => rfl
  | n + 1 => by
    show itd n 0 / 1000 = 0
    rw [itd_zero n]
    rfl
theorem itd_add (r : Int) (h : itd n r = 0) : ∀ m, itd (n + m) r = 0
  | 0 => h
  | m + 1 => by
    show itd (n + m) r / 1000 = 0
    rw [itd_add r h m]
    rfl
theorem itd_nn {r : Int} (h : 0 ≤ r) : ∀ n, 0 ≤ itd n r
  | 0 => h
  | n + 1 => Int.ediv_nonneg (itd_nn h n) (by decide)
def nCell (ns : List Int) (i : Int) : Int := if ns.length = 0 then 0 else (ns.getD (i % (ns.length : Int)).toNat 0).natAbs
def nTurn (ns : List Int) (i : Int) : Int := if ns.length = 0 then i else i / (ns.length : Int)
def nPick (ns : List Int) (i k : Int) : Int := k + 16 * nTurn ns i
def nMix (c p : Int) : Int :=
  let a := (c + 7919 * p + 13) % 2147483647
  let b := (a * (a + 48271)) % 2147483629
  (b * (b + 69621) + 31 * p) % 2147483647
def num (ns : List Int) (i k size : Int) : Int :=
  let c := nCell ns i
  let p := nPick ns i k
  if c ≥ 10 ^ 18 then
    if itd p.toNat (c / 10 ^ 18) > 0 then itd p.toNat (c / 10 ^ 18) % 1000 % size else nMix c p / 9 % size
  else nMix c p / 9 % size
theorem num_nn {ns : List Int} {i k size : Int} (h : 0 < size) : 0 ≤ num ns i k size := by
  unfold num
  dsimp only
  split
  · split
    · exact Int.emod_nonneg _ (by omega)
    · exact Int.emod_nonneg _ (by omega)
  · exact Int.emod_nonneg _ (by omega)
theorem num_lt {ns : List Int} {i k size : Int} (h : 0 < size) : num ns i k size < size := by
  unfold num
  dsimp only
  split
  · split
    · exact Int.emod_lt_of_pos _ h
    · exact Int.emod_lt_of_pos _ h
  · exact Int.emod_lt_of_pos _ h
def spNum (K : PySem.W.Frag) : Sp := fun vs H Q _ => ∃ (a : Addr) (ns : List Int) (i k size : Int), vs = [.ref a, .int i, .int k, .int size] ∧ SqL K H a (ns.map V.int) ∧ ns.length ≤ 63 ∧
  0 ≤ i ∧ i ≤ 1000000000 ∧ 0 ≤ k ∧ k ≤ 1000000000 ∧ 0 < size ∧ Q (.int (num ns i k size)) H

abbrev s_number : Stmt := topS 4
theorem sc_number : FnScope ["_law_script", "_law_at", "_law_k", "_law_size", "_law_cell", "_law_turn", "_law_pick", "_law_rest", "_law_step", "_law_mixed"] ["_law_script", "_law_at", "_law_k", "_law_size"] (C8.fnScope s_number) := C8.fnScope_by (by decide +kernel)
section
variable {P : Program} {w : World} {K : PySem.W.Frag} {mg : Str → Option Value} {base : Heap}
theorem ok_number {f : Addr} {fd : FuncData} (D : Def K mg "_law_number" s_number f fd) (b : Binds K fd ["_law_script", "_law_at", "_law_k", "_law_size"] []) (T : Txt mg) : Cal P w K mg base 1 "_law_number" (spNum K) [] := by
  refine cal0 D b .nil sc_number (fun vs H Q E h => ?_) (fun cdv A outer s H vs Q E hr h => ?_)
  · obtain ⟨a, ns, i, k, size, rfl, _⟩ := h
    rfl
  obtain ⟨a, ns, i, k, size, rfl, hS, hl, i0, i1, k0, k1, hz, q⟩ := h
  refine ⟨_, (pss_cons (ps_set (i := 4) sc_number.nd rfl (.inl rfl) pe_int)
      (pss_cons (ps_set (i := 5) sc_number.nd rfl (.inl rfl) (pv 1))
      (pss_cons (ps_mk (ps_if (pt_cmpR op_gt (pe_callB (lenQ K rfl) (by rfl) T.len PySem.boot_len (pa_cons (pv 0) pa_nil)) pe_int (nomark _))
      (pss_cons (ps_set (i := 4) sc_number.nd rfl (.inl rfl) (pe_callB call_abs (by rfl) T.abs (by decide +kernel) (pa_cons (pe_ix (ixL K rfl) (pv 0) (pe_op op_mod (pe_callTy call_int1 (by rfl) T.int (by decide +kernel) (pa_cons (pv 1) pa_nil)) (pe_callB (lenQ K rfl) (by rfl) T.len PySem.boot_len (pa_cons (pv 0) pa_nil))) (fun _ _ => rfl)) pa_nil)))
      (pss_one (ps_set (i := 5) sc_number.nd rfl (.inl rfl) (pe_op op_fdiv (pv 1) (pe_callB (lenQ K rfl) (by rfl) T.len PySem.boot_len (pa_cons (pv 0) pa_nil))))))
      pss_nil))
      (pss_cons (ps_set (i := 6) sc_number.nd rfl (.inl rfl) (pe_op op_add (pv 2) (pe_op op_mul pe_int (pv 5))))
      (pss_cons (ps_mk (ps_if (pt_cmpR op_ge (pv 4) (pe_op op_pow pe_int pe_int) (nomark _))
      (pss_cons (ps_set (i := 7) sc_number.nd rfl (.inl rfl) (pe_op op_fdivW (pv 4) (pe_op op_pow pe_int pe_int)))
      (pss_cons (ps_mk (ps_for PassesOwn.never rfl (pi_range1 (by rfl) T.range (pa_cons (pv 6) pa_nil)) (pg_name (i := 8) sc_number.nd rfl (.inl rfl))
      (pss_cons (ps_mk (ps_if (pt_cmpR op_eq (pv 7) pe_int (nomark _))
      (pss_one ps_break)
      pss_nil))
      (pss_one (ps_set (i := 7) sc_number.nd rfl (.inl rfl) (pe_op op_fdiv (pv 7) pe_int))))))
      (pss_one (ps_mk (ps_if (pt_cmpR op_gt (pv 7) pe_int (nomark _))
      (pss_one (ps_ret (pe_op op_mod (pe_callTy call_int1 (by rfl) T.int (by decide +kernel) (pa_cons (pe_op op_mod (pe_callTy call_int1 (by rfl) T.int (by decide +kernel) (pa_cons (pv 7) pa_nil)) pe_int) pa_nil)) (pv 3))))
      pss_nil)))))
      pss_nil))
      (pss_cons (ps_set (i := 9) sc_number.nd rfl (.inl rfl) (pe_op op_mod (pe_callTy call_int1 (by rfl) T.int (by decide +kernel) (pa_cons (pe_op op_add (pe_op op_add (pv 4) (pe_op op_mul pe_int (pv 6))) pe_int) pa_nil)) pe_int))
      (pss_cons (ps_set (i := 9) sc_number.nd rfl (.inl rfl) (pe_op op_mod (pe_callTy call_int1 (by rfl) T.int (by decide +kernel) (pa_cons (pe_op op_mul (pv 9) (pe_op op_add (pv 9) pe_int)) pa_nil)) pe_int))
      (pss_cons (ps_set (i := 9) sc_number.nd rfl (.inl rfl) (pe_op op_mod (pe_callTy call_int1 (by rfl) T.int (by decide +kernel) (pa_cons (pe_op op_add (pe_op op_mul (pv 9) (pe_op op_add (pv 9) pe_int)) (pe_op op_mul pe_int (pv 6))) pa_nil)) pe_int))
      (pss_one (ps_ret (pe_op op_mod (pe_callTy call_int1 (by rfl) T.int (by decide +kernel) (pa_cons (pe_op op_fdiv (pv 9) pe_int) pa_nil)) (pv 3)))))))))))), ?_⟩
  have hml : (ns.map V.int).length = ns.length := List.length_map _
  have t0 : 0 ≤ nTurn ns i ∧ nTurn ns i ≤ 1000000000 := by
    unfold nTurn
    split
    · exact ⟨i0, i1⟩
    · exact ⟨Int.ediv_nonneg i0 (by omega), Int.le_trans (Int.ediv_le_self _ i0) i1⟩
  have p0 : 0 ≤ nPick ns i k ∧ nPick ns i k ≤ 17000000000 := by
    unfold nPick
    omega
  walk_at "go"
  refine jn (M := fun σ H' => ∃ c t : Int, c = nCell ns i ∧ t = nTurn ns i ∧ H' = H ∧ σ = [sR a, sI i, sI k, sI size, sI c, sI t, none, none, none, none]) ?_ (fun N kk => ?_)
  · rintro σ H' ⟨c, t, ec, et, rfl, rfl⟩
    walk_at "go"
    -- behind the pick
    have ep : k + 16 * t = nPick ns i k := by
      rw [et]
      rfl
    have c0 : 0 ≤ c := by
      rw [ec]
      unfold nCell
      split <;> omega
    have en : c < 10 ^ 18 ∨ ¬ itd (nPick ns i k).toNat (c / 10 ^ 18) > 0 → num ns i k size = nMix c (nPick ns i k) / 9 % size := fun h => by
      unfold num
      dsimp only
      rw [← ec]
      rcases h with h | h
      · rw [if_neg (by omega)]
      · split
        · rfl
        · rfl
    refine jn (M := fun σ H2 => H2 = H' ∧ (c < 10 ^ 18 ∨ ¬ itd (nPick ns i k).toNat (c / 10 ^ 18) > 0) ∧ ∃ y8 y9, σ = [sR a, sI i, sI k, sI size, sI c, sI t, sI (nPick ns i k), y8, y9, none]) ?_ (fun N kk => ?_)
    · rintro σ H2 ⟨rfl, hc, y8, y9, rfl⟩
      walk_at "go"
      have e := en hc
      unfold nMix at e
      dsimp only at e
      rw [e] at q
      exact q
    · walk_at "go"
      refine ifD (fun g => ?_) (fun g => ?_)
      · have g' : c ≥ 10 ^ 18 := g
        walk_at "go"
        have r0 : 0 ≤ c / 10 ^ 18 := Int.ediv_nonneg c0 (by decide)
        refine jn (M := fun σ H2 => H2 = H' ∧ ∃ y9, σ = [sR a, sI i, sI k, sI size, sI c, sI t, sI (nPick ns i k), sI (itd (nPick ns i k).toNat (c / 10 ^ 18)), y9, none]) ?_ (fun N2 k2 => ?_)
        · rintro σ H2 ⟨rfl, y9, rfl⟩
          refine un ?_
          walk_at "go"
          refine ifD (fun g2 => ?_) (fun g2 => ?_)
          · walk_at "go"
            have e : num ns i k size = itd (nPick ns i k).toNat (c / 10 ^ 18) % 1000 % size := by
              unfold num
              dsimp only
              rw [← ec, if_pos g', if_pos g2]
            rw [e] at q
            exact q
          · walk_at "go"
            exact kk _ _ ⟨rfl, .inr g2, _, _, rfl⟩
        · walk_at "go"
          refine ⟨(show -(2 ^ 62) ≤ k + 16 * t by omega), (show k + 16 * t < 2 ^ 62 by omega), for_range (lo := 0) (n := (k + 16 * t).toNat) (fun j σ H2 => Ob (H2 = H' ∧ ∃ y9, σ = [sR a, sI i, sI k, sI size, sI c, sI t, sI (nPick ns i k), sI (itd j (c / 10 ^ 18)), y9, none])) (ob ⟨rfl, none, ?_⟩) ?_ ?_⟩
          · rw [← ep]
            rfl
          · rintro j σ H2 hj h
            obtain ⟨rfl, y9, rfl⟩ := unob h
            refine un ?_
            walk_at "go"
            refine ifEq (fun z => ?_) (fun z => ?_)
            · walk_at "go"
              refine k2 _ _ ⟨rfl, sI (0 + (j : Int)), ?_⟩
              have z2 : itd (nPick ns i k).toNat (c / 10 ^ 18) = 0 := by
                have z3 := itd_add _ z ((nPick ns i k).toNat - j)
                rw [show j + ((nPick ns i k).toNat - j) = (nPick ns i k).toNat by omega] at z3
                exact z3
              rw [z2, ← z]
              rfl
            · walk_at "go"
              exact ob ⟨rfl, _, rfl⟩
          · rintro σ H2 h
            obtain ⟨rfl, y9, rfl⟩ := unob h
            refine k2 _ _ ⟨rfl, y9, ?_⟩
            rw [ep]
      · walk_at "go"
        have g' : ¬ c ≥ 10 ^ 18 := g
        refine kk _ _ ⟨rfl, .inl (by omega), none, none, ?_⟩
        rw [← ep]
        rfl
  · walk_at "go"
    refine ifD (fun c => ?_) (fun c => ?_)
    · walk_at "go"
      rw [hml] at c
      refine ⟨_, _, _, _, rfl, rfl, hS, atI_getD (Int.emod_nonneg _ (by omega)) (by rw [hml]; exact Int.emod_lt_of_pos _ (by omega)), ?_⟩
      walk_at "go"
      refine kk _ _ ⟨_, _, ?_, ?_, rfl, rfl⟩
      · unfold nCell
        rw [if_neg (show ¬ ns.length = 0 by omega)]
        simp only [hml]
        split
        · omega
        · omega
      · unfold nTurn
        rw [if_neg (by omega), hml]
    · walk_at "go"
      rw [hml] at c
      refine kk _ _ ⟨_, _, ?_, ?_, rfl, rfl⟩
      · unfold nCell
        rw [if_pos (by omega)]
      · unfold nTurn
        rw [if_pos (by omega)]
end

/-! ### _law_is_whole, _law_same -/
abbrev s_is_whole : Stmt := topS 5
theorem sc_is_whole : FnScope ["_law_told"] ["_law_told"] (C8.fnScope s_is_whole) := C8.fnScope_by (by decide +kernel)
abbrev s_same : Stmt := topS 6
theorem sc_same : FnScope ["_law_told", "_law_due", "_law_k"] ["_law_told", "_law_due"] (C8.fnScope s_same) := C8.fnScope_by (by decide +kernel)
def spWhole : Sp := fun vs H Q _ => ∃ (x : V) (d : PyData), vs = [x] ∧ Dh H d x ∧ Q (.bl (isI d)) H
def spSame (n : Nat) : Sp := fun vs H Q _ => ∃ (x y : V) (d e : PyData), vs = [x, y] ∧ Dh H d x ∧ Dh H e y ∧ Dle n e ∧ ∀ (b : Bool) (H' : Hp), (b = true ↔ d = e) → Same H H' → Q (.bl b) H'
section
variable {P : Program} {w : World} {K : PySem.W.Frag} {mg : Str → Option Value} {base : Heap}
theorem ok_whole {f : Addr} {fd : FuncData} (D : Def K mg "_law_is_whole" s_is_whole f fd) (b : Binds K fd ["_law_told"] []) (T : Txt mg) : Cal P w K mg base 1 "_law_is_whole" spWhole [] := by
  refine cal0 D b .nil sc_is_whole (fun vs H Q E h => ?_) (fun cdv A outer s H vs Q E hr h => ?_)
  · obtain ⟨x, d, rfl, _⟩ := h
    rfl
  obtain ⟨x, d, rfl, hx, q⟩ := h
  refine ⟨_, (pss_one (ps_ret (pe_and (pe_callB is_int (by rfl) T.isinstance (by decide +kernel) (pa_cons (pv 0) (pa_cons (pe_bltn (v := .ty "int") (by rfl) T.int (by decide +kernel) rfl) pa_nil))) (pe_one (pe_not (pe_callB is_bool (by rfl) T.isinstance (by decide +kernel) (pa_cons (pv 0) (pa_cons (pe_bltn (v := .ty "bool") (by rfl) T.bool (by decide +kernel) rfl) pa_nil)))))))), ?_⟩
  cases d <;> (walk_at "go"; exact q)
theorem ok_same_step {f : Addr} {fd : FuncData} (D : Def K mg "_law_same" s_same f fd) (b : Binds K fd ["_law_told", "_law_due"] []) (T : Txt mg) (c_is_whole : Cal P w K mg base 1 "_law_is_whole" spWhole []) {n : Nat}
    (c_same : Cal P w K mg base (n + 1) "_law_same" (spSame n) []) : Cal P w K mg base (n + 2) "_law_same" (spSame (n + 1)) [] := by
  refine cal0 D b .nil sc_same (fun vs H Q E h => ?_) (fun cdv A outer s H vs Q E hr h => ?_)
  · obtain ⟨x, y, d, e, rfl, _⟩ := h
    rfl
  obtain ⟨x, y, d, e, rfl, hx, hy, he, q⟩ := h
  refine ⟨_, (pss_cons (ps_mk (ps_if (pt_val (pe_callB is_lt (by rfl) T.isinstance (by decide +kernel) (pa_cons (pv 1) (pa_cons (pe_tup (pa_cons (pe_bltn (v := .ty "list") (by rfl) T.list (by decide +kernel) rfl) (pa_cons (pe_bltn (v := .ty "tuple") (by rfl) T.tuple (by decide +kernel) rfl) pa_nil))) pa_nil))))
      (pss_cons (ps_mk (ps_if (PW.pt (pw_or (pt_not (pt_val (pe_callB is_lt (by rfl) T.isinstance (by decide +kernel) (pa_cons (pv 0) (pa_cons (pe_tup (pa_cons (pe_bltn (v := .ty "list") (by rfl) T.list (by decide +kernel) rfl) (pa_cons (pe_bltn (v := .ty "tuple") (by rfl) T.tuple (by decide +kernel) rfl) pa_nil))) pa_nil))))) (pw_or1 (pt_cmpR op_ne (pe_callB is_list (by rfl) T.isinstance (by decide +kernel) (pa_cons (pv 0) (pa_cons (pe_bltn (v := .ty "list") (by rfl) T.list (by decide +kernel) rfl) pa_nil))) (pe_callB is_list (by rfl) T.isinstance (by decide +kernel) (pa_cons (pv 1) (pa_cons (pe_bltn (v := .ty "list") (by rfl) T.list (by decide +kernel) rfl) pa_nil))) (nomark _)))))
      (pss_one (ps_ret pe_bl))
      pss_nil))
      (pss_cons (ps_mk (ps_if (pt_cmpR op_ne (pe_callB (lenQ K rfl) (by rfl) T.len PySem.boot_len (pa_cons (pv 0) pa_nil)) (pe_callB (lenQ K rfl) (by rfl) T.len PySem.boot_len (pa_cons (pv 1) pa_nil)) (nomark _))
      (pss_one (ps_ret pe_bl))
      pss_nil))
      (pss_one (ps_ret (pe_cmpR op_eq (pe_callB (lenQ K rfl) (by rfl) T.len PySem.boot_len (pa_cons (pe_lc (own := [("_law_k", 2)]) (g := gName 2) rfl sc_same.nd (pi_range1 (by rfl) T.range (pa_cons (pe_callB (lenQ K rfl) (by rfl) T.len PySem.boot_len (pa_cons (pv 1) pa_nil)) pa_nil)) (blkOk_by (own := [("_law_k", 2)]) (N := ["_law_told", "_law_due", "_law_k"]) (sc := C8.fnScope s_same) (by decide +kernel)) (fun _ _ _ _ _ => (pg_name (i := 2) sc_same.nd rfl (.inl rfl))) (fun _ _ _ _ _ => (pts_one (pt_not (pt_val (C8.pe_c c_same hr (by omega) (by rfl) (pa_cons (pe_ix (ixA K rfl) (pv 0) (pv 2) (fun _ _ => rfl)) (pa_cons (pe_ix (ixA K rfl) (pv 1) (pv 2) (fun _ _ => rfl)) pa_nil))))))) (fun _ _ _ _ _ => (pv 2))) pa_nil)) pe_int (nomark _))))))
      pss_nil))
      (pss_cons (ps_mk (ps_if (pt_val (pe_callB is_bool (by rfl) T.isinstance (by decide +kernel) (pa_cons (pv 1) (pa_cons (pe_bltn (v := .ty "bool") (by rfl) T.bool (by decide +kernel) rfl) pa_nil))))
      (pss_one (ps_ret (pe_and (pe_callB is_bool (by rfl) T.isinstance (by decide +kernel) (pa_cons (pv 0) (pa_cons (pe_bltn (v := .ty "bool") (by rfl) T.bool (by decide +kernel) rfl) pa_nil))) (pe_one (pe_cmpR op_eq (pv 0) (pv 1) (nomark _))))))
      pss_nil))
      (pss_cons (ps_mk (ps_if (pt_val (pe_callB is_int (by rfl) T.isinstance (by decide +kernel) (pa_cons (pv 1) (pa_cons (pe_bltn (v := .ty "int") (by rfl) T.int (by decide +kernel) rfl) pa_nil))))
      (pss_one (ps_ret (pe_and (C8.pe_c c_is_whole hr (by omega) (by rfl) (pa_cons (pv 0) pa_nil)) (pe_one (pe_cmpR op_eq (pv 0) (pv 1) (nomark _))))))
      pss_nil))
      (pss_cons (ps_mk (ps_if (pt_val (pe_callB is_str (by rfl) T.isinstance (by decide +kernel) (pa_cons (pv 1) (pa_cons (pe_bltn (v := .ty "str") (by rfl) T.str (by decide +kernel) rfl) pa_nil))))
      (pss_one (ps_ret (pe_and (pe_callB is_str (by rfl) T.isinstance (by decide +kernel) (pa_cons (pv 0) (pa_cons (pe_bltn (v := .ty "str") (by rfl) T.str (by decide +kernel) rfl) pa_nil))) (pe_one (pe_cmpR op_eq (pv 0) (pv 1) (nomark _))))))
      pss_nil))
      (pss_one (ps_ret (pe_and (pe_cmpR op_isN (pv 0) pe_non (nomark _)) (pe_one (pe_cmpR op_isN (pv 1) pe_non (nomark _)))))))))), ?_⟩
  refine jn (M := fun σ H' => Same H H' ∧ σ = [some x, some y, none] ∧ (isL e || isT e) = false) ?_ (fun N kk => ?_)
  · rintro σ H1 ⟨s1, rfl, hf⟩
    have hx1 := Dh.mono s1 _ _ hx
    have hy1 := Dh.mono s1 _ _ hy
    clear hx hy he
    cases e with
    | list es => cases hf
    | tuple es => cases hf
    | dict kvs => exact False.elim hy1
    | none =>
      cases (show y = V.non from hy1)
      cases d
      case dict => exact False.elim hx1
      all_goals first | (obtain ⟨_, _, e1, _, _⟩ := id hx1; cases e1) | (cases (show x = _ from hx1))
      all_goals repeat (first | refine un ?_ | walk_at "st")
      all_goals exact q _ _ (by simp) s1
    | bool c =>
      cases (show y = V.bl c from hy1)
      cases d
      case dict => exact False.elim hx1
      all_goals first | (obtain ⟨_, _, e1, _, _⟩ := id hx1; cases e1) | (cases (show x = _ from hx1))
      all_goals repeat (first | refine un ?_ | walk_at "st")
      all_goals exact q _ _ (by simp) s1
    | int c =>
      cases (show y = V.int c from hy1)
      cases d
      case dict => exact False.elim hx1
      all_goals first | (obtain ⟨_, _, e1, _, _⟩ := id hx1; cases e1) | (cases (show x = _ from hx1))
      all_goals repeat (first | refine un ?_ | walk_at "st")
      all_goals first | exact q _ _ (by simp) s1 | skip
      all_goals refine ⟨_, _, rfl, hx1, ?_⟩
      all_goals repeat (first | refine un ?_ | walk_at "st")
      all_goals exact q _ _ (by simp) s1
    | str c =>
      cases (show y = V.str c from hy1)
      cases d
      case dict => exact False.elim hx1
      all_goals first | (obtain ⟨_, _, e1, _, _⟩ := id hx1; cases e1) | (cases (show x = _ from hx1))
      all_goals repeat (first | refine un ?_ | walk_at "st")
      all_goals exact q _ _ (by simp) s1
  · walk_at "go"
    refine ⟨sz, fun p hp => ?_⟩
    refine ⟨_, _, _, rfl, upd_same, Dh.mono (same_upd hp) _ _ hy, ?_⟩
    walk_at "go"
    have s1 : Same H (upd H p (.tup [.ty "list", .ty "tuple"])) := same_upd hp
    have hx1 := Dh.mono s1 _ _ hx
    have hy1 := Dh.mono s1 _ _ hy
    cases hf : (isL e || isT e) with
    | false =>
      refine ifBF rfl ?_
      exact kk _ _ ⟨s1, rfl, hf⟩
    | true =>
      refine ifBT rfl ?_
      generalize upd H p (HO.tup [V.ty "list", V.ty "tuple"]) = H1 at *
      clear hx hy kk hp
      walk_at "go"
      refine jn (M := fun σ H2 => Same H1 H2 ∧ ∃ a c xs ys ds es, σ = [sR a, sR c, none] ∧ (SqL K H2 a xs ∨ SqT K H2 a xs) ∧ (SqL K H2 c ys ∨ SqT K H2 c ys) ∧ DhAll H2 ds xs ∧ DhAll H2 es ys ∧ es.length ≤ 100000 ∧ (∀ e' ∈ es, Dle n e') ∧ (d = e ↔ ds = es)) ?_ (fun N2 k2 => ?_)
      · rintro σ H2 ⟨s2, a, c, xs, ys, ds, es, rfl, hA, hC, hds, hes, hlen, hle, hiff⟩
        have lx := hds.len
        have ly := hes.len
        walk_at "go"
        refine jn (M := fun σ H3 => H3 = H2 ∧ σ = [sR a, sR c, none] ∧ ds.length = es.length) ?_ (fun N3 k3 => ?_)
        · rintro σ H3 ⟨rfl, rfl, el⟩
          walk_at "go"
          refine ⟨by omega, by omega, fun L hL => lc_range (lo := 0) (n := ((ys.length : Nat) : Int).toNat)
            (fun i H' => Ob (Same H3 H' ∧ ∃ acc, H' L = some (.lst acc) ∧ acc.length ≤ i ∧ (acc = [] ↔ ds.take i = es.take i))) (ob ⟨same_upd hL, [], upd_same, Nat.le_refl _, by simp⟩) ?_ ?_⟩
          · intro i H4 hi h4
            obtain ⟨s4, acc, g4, l4, e4⟩ := unob h4
            have hi2 : i < es.length := by omega
            have hi3 : i < ds.length := by omega
            obtain ⟨xv, ex, dx⟩ := hds.get (List.getElem?_eq_getElem hi3)
            obtain ⟨yv, ey, dy⟩ := hes.get (List.getElem?_eq_getElem hi2)
            have tk := take_succ_eq (List.getElem?_eq_getElem hi3) (List.getElem?_eq_getElem hi2)
            have ax : atI xs (0 + (i : Int)) = some xv := by
              rw [Int.zero_add]
              exact atI_nat ex
            have ay : atI ys (0 + (i : Int)) = some yv := by
              rw [Int.zero_add]
              exact atI_nat ey
            refine ⟨rfl, ?_⟩
            walk_at "go"
            refine ixAny (sqAny s4 hA) ax ?_
            walk_at "go"
            refine ixAny (sqAny s4 hC) ay ?_
            walk_at "go"
            refine ⟨_, _, _, _, rfl, Dh.mono s4 _ _ dx, Dh.mono s4 _ _ dy, hle _ (List.getElem_mem hi2), fun b5 H5 hb s5 => ?_⟩
            walk_at "go"
            refine ifN ?_
            cases b5 with
            | true =>
              refine ifBT rfl (ob ⟨s4.trans s5, acc, s5 _ _ g4, Nat.le_succ_of_le l4, ?_⟩)
              rw [e4, tk]
              exact ⟨fun z => ⟨z, hb.mp rfl⟩, fun z => z.1⟩
            | false =>
              refine ifBF rfl ?_
              walk_at "go"
              refine ⟨acc, s5 _ _ g4, sz5 (by omega), ob ⟨same_put (s4.trans s5) hL, _, upd_same, ?_, ?_⟩⟩
              · rw [List.length_append]
                exact Nat.add_le_add_right l4 1
              · constructor
                · intro z
                  exact absurd (congrArg List.length z) (by rw [List.length_append]; simp)
                · intro z
                  exact absurd (hb.mpr (tk.mp z).2) Bool.false_ne_true
          · intro H4 h4
            obtain ⟨s4, acc, g4, l4, e4⟩ := unob h4
            walk_at "go"
            refine q _ _ ?_ ((s1.trans s2).trans s4)
            rw [hiff]
            have et : ((ys.length : Nat) : Int).toNat = es.length := by omega
            rw [et, List.take_of_length_le (by omega), List.take_of_length_le (Nat.le_refl _)] at e4
            rw [← e4, decide_eq_true_iff]
            constructor
            · intro z
              have z2 := V.int.inj z
              exact List.eq_nil_of_length_eq_zero (by omega)
            · intro z
              rw [z]
              rfl
        · walk_at "go"
          refine ifNe (fun z => ?_) (fun z => ?_)
          · walk_at "go"
            refine q _ _ ?_ (s1.trans s2)
            rw [hiff]
            constructor
            · intro h
              cases h
            · intro h
              rw [h] at lx
              omega
          · walk_at "go"
            exact k3 _ _ ⟨rfl, rfl, by omega⟩
      · walk_at "go"
        refine ⟨sz, fun p2 hp2 => ?_⟩
        have s2 : Same H1 (upd H1 p2 (HO.tup [V.ty "list", V.ty "tuple"])) := same_upd hp2
        refine ⟨_, _, _, rfl, upd_same, Dh.mono s2 _ _ hx1, ?_⟩
        have hx2 := Dh.mono s2 _ _ hx1
        have hy2 := Dh.mono s2 _ _ hy1
        walk_at "go"
        generalize upd H1 p2 (HO.tup [V.ty "list", V.ty "tuple"]) = H2 at *
        clear hp2
        cases e with
        | none => cases hf
        | bool _ => cases hf
        | int _ => cases hf
        | str _ => cases hf
        | dict kvs => cases hf
        | list es =>
          obtain ⟨c, ys, rfl, gy, hes⟩ := id hy2
          cases d
          case dict => exact False.elim hx2
          case list ds =>
            obtain ⟨a, xs, rfl, gx, hds⟩ := id hx2
            walk_at "go"
            exact k2 _ _ ⟨s2, _, _, _, _, ds, es, rfl, .inl (.inl (.inl gx)), .inl (.inl (.inl gy)), hds, hes, he.1, he.2, by simp⟩
          all_goals walk_at "go"
          all_goals exact q _ _ (by simp) (s1.trans s2)
        | tuple es =>
          obtain ⟨c, ys, rfl, gy, hes⟩ := id hy2
          cases d
          case dict => exact False.elim hx2
          case tuple ds =>
            obtain ⟨a, xs, rfl, gx, hds⟩ := id hx2
            walk_at "go"
            exact k2 _ _ ⟨s2, _, _, _, _, ds, es, rfl, .inr (.inl (.inl gx)), .inr (.inl (.inl gy)), hds, hes, he.1, he.2, by simp⟩
          all_goals walk_at "go"
          all_goals exact q _ _ (by simp) (s1.trans s2)
theorem ok_same {f : Addr} {fd : FuncData} (D : Def K mg "_law_same" s_same f fd) (b : Binds K fd ["_law_told", "_law_due"] []) (T : Txt mg) (c_is_whole : Cal P w K mg base 1 "_law_is_whole" spWhole []) :
    ∀ n, Cal P w K mg base (n + 1) "_law_same" (spSame n) []
  | 0 => by
    have no : ∀ vs H Q E, ¬ spSame 0 vs H Q E := fun vs H Q E h => by
      obtain ⟨x, y, d, e, _, _, _, h1, _⟩ := h
      exact h1
    exact ⟨f, fd, _, _, ⟨fun vs H Q E h => absurd h (no vs H Q E), fun A outer s H args us vs Q E _ _ _ _ h => absurd h (no vs H Q E)⟩, D.mgf, D.kp, b, .nil⟩
  | n + 1 => ok_same_step D b T c_is_whole (ok_same D b T c_is_whole n)
end

end

/-! ### sorted of data, of any length -/
theorem pz_each {α : Type} {R : α → Value → Prop} : ∀ {xs : List α} {us : List Value} {ds : List PyData}, Paired R xs us → xs.length = ds.length → PySem.W.EachIs (fun v (b : α × PyData) => R b.1 v) us (xs.zip ds)
  | _, _, ds, .nil, h => by
    cases ds
    · exact .nil
    · cases h
  | _, _, ds, .cons r t, h => by
    cases ds with
    | nil => cases h
    | cons d ds => exact .cons r (pz_each t (by simpa using h))
theorem vals_each : ∀ {out : List Value} {ms : List (V × PyData)}, PySem.W.EachIs (fun v (b : V × PyData) => RelV b.1 v) out ms → Vals (ms.map (·.1)) out
  | _, _, .nil => .nil
  | _, _, .cons r t => .cons r (vals_each t)
theorem dhAll_of {α : Type} {H : Hp} {f : α → PyData} {g : α → V} : ∀ {ms : List α}, (∀ b ∈ ms, Dh H (f b) (g b)) → DhAll H (ms.map f) (ms.map g)
  | [], _ => rfl
  | b :: ms, h => ⟨_, _, rfl, h b List.mem_cons_self, dhAll_of fun c hc => h c (List.mem_cons_of_mem _ hc)⟩
theorem DhAll.zipped {H : Hp} : ∀ {ds : List PyData} {xs : List V}, DhAll H ds xs → ∀ b ∈ xs.zip ds, Dh H b.2 b.1
  | [], xs, h, b, hb => by
    rw [List.zip_nil_right] at hb
    cases hb
  | d :: ds, xs, h, b, hb => by
    obtain ⟨v, vs, rfl, h1, h2⟩ := h
    rw [List.zip_cons_cons] at hb
    rcases List.mem_cons.mp hb with rfl | hb
    · exact h1
    · exact DhAll.zipped h2 b hb
def srt (ds : List PyData) : List PyData := ds.mergeSort (PySem.W.dataLe false fun d => d)
theorem srt_zip {α : Type} (ms : List (α × PyData)) : (ms.mergeSort (PySem.W.dataLe false fun b => b.2)).map (·.2) = srt (ms.map (·.2)) := by
  unfold srt
  exact List.map_mergeSort fun a _ b _ => rfl
def rSortD (K : PySem.W.Frag) : List V → Hp → VK → Prop := fun vs H Q => ∃ (a : Addr) (xs : List V) (ds : List PyData), vs = [V.ref a] ∧ SqL K H a xs ∧ DhAll H ds xs ∧ PySem.W.AllAlike ds ∧ PySem.W.Sortable ds ∧ (∀ d ∈ ds, d.depth ≤ 60) ∧
  ∀ ys p, DhAll H (srt ds) ys → H p = none → Q (.ref p) (upd H p (.lst ys))
section
variable {X : Cx} {pins : List (Addr × Obj)} {σ : L2.St} {H : Hp} {s : Shared}
theorem each_dh (I : Inv X pins σ H s) : ∀ {ds : List PyData} {xs : List V} {us : List Value}, DhAll H ds xs → Vals xs us → PySem.W.EachIs (fun v (b : V × PyData) => ∃ as, Reads s.heap v b.2 as) us (xs.zip ds)
  | [], xs, us, h, r => by
    cases (show xs = [] from h)
    cases r
    exact .nil
  | d :: ds, xs, us, h, r => by
    obtain ⟨v, vs, rfl, h1, h2⟩ := h
    cases r with
    | cons r1 r2 => exact .cons (Dp.reads I d v _ (Dh.dp d v h1) r1) (each_dh I h2 r2)
end
theorem cr_sortedD {X : Cx} (hu : X.A.units + 64 < cLine) : CallR X (.builtin "sorted") (rSortD X.K) := by
  intro pins s σ H vs us Q I r h
  obtain ⟨a, xs, ds, rfl, hs, hd, hal, hk, hdp, q⟩ := h
  obtain ⟨its, rv, hl, hz⟩ := I.list hs
  have lx := hd.len
  have e2 : (xs.zip ds).map (·.2) = ds := List.map_snd_zip (by omega)
  rw [Vals.ref1 r]
  refine PySem.W.sorted_data (R := fun (v : Value) (b : V × PyData) => RelV b.1 v) (enc := fun b => b.2) (bs := xs.zip ds) hl.isList (pz_each rv lx) (each_dh I hd rv) (by rw [e2]; exact hal) (by rw [e2]; exact hk) (by rw [List.length_zip]; omega)
    (fun b hb => ?_) fun out ho eo => ?_
  · have := hdp b.2 (by rw [← e2]; exact List.mem_map.mpr ⟨b, hb, rfl⟩)
    show X.A.units + 2 + b.2.depth < cLine
    omega
  · obtain ⟨ep, he'⟩ := PyProof.Rows.sortedAll_at s.heap its out.toArray
    have ms := vals_each eo
    have dd : DhAll H (srt ds) (((xs.zip ds).mergeSort (PySem.W.dataLe false fun b => b.2)).map (·.1)) := by
      rw [show srt ds = ((xs.zip ds).mergeSort (PySem.W.dataLe false fun b => b.2)).map (·.2) by rw [srt_zip, e2]]
      exact dhAll_of fun b hb => DhAll.zipped hd b ((List.mergeSort_perm _ _).mem_iff.mp hb)
    have hlen : (((xs.zip ds).mergeSort (PySem.W.dataLe false fun b => b.2)).map (·.1)).length ≤ sizeLine := by
      rw [List.length_map, List.length_mergeSort, List.length_zip]
      omega
    exact ⟨.ref _, upd H (s.heap.objs.size + 1) (.lst _), I.laid (t' := s.toks) (fun _ _ => PyProof.Rows.sortedAll_old) (Nat.le_succ _) ⟨hlen, out, ep, ms, he'⟩, rfl, q _ _ dd (I.hok.fresh (Nat.le_succ _))⟩
theorem sortedQ {X : Cx} (K : PySem.W.Frag) (h : X.K = K) (hu : X.A.units + 64 < cLine) : CallR X (.builtin "sorted") (rSortD K) := by
  subst h
  exact cr_sortedD hu

/-! ### sorted(d.items()), keys numbers or texts -/
def kD : Key → PyData
  | .inl i => .int i
  | .inr x => .str x
theorem dh_key {H : Hp} : ∀ k : Key, Dh H (kD k) (kV k)
  | .inl _ => rfl
  | .inr _ => rfl
theorem key_reads {h : Heap} : ∀ {k : Key} {u : Value}, keyIs k u = true → Reads h u (kD k) [] := fun {k u} e => by
  rcases keyIs_shape e with ⟨i, t, rfl, rfl⟩ | ⟨x, t, rfl, rfl⟩
  · exact .int i t
  · exact .str x t
def itD (p : (Key × V) × PyData) : PyData := .tuple [kD p.1.1, p.2]
def rItemsK : V → List V → Hp → VK → Prop := fun x xs H Q => ∃ (a : Addr) (kvs : List (Key × V)), x = .ref a ∧ xs = [] ∧ H a = some (.dK kvs) ∧ ∀ p, H p = none → Q (.ref p) (upd H p (L2.DX.itemsO p a))
def rSortIt (X : Cx) : List V → Hp → VK → Prop := fun vs H Q => ∃ (p a : Addr) (kvs : List (Key × V)) (ds : List PyData), vs = [.ref p] ∧ H p = some (L2.DX.itemsO p a) ∧ H a = some (.dK kvs) ∧ DhAll H ds (kvs.map (·.2)) ∧ PySem.W.AllAlike ((kvs.zip ds).map itD) ∧ (∀ d ∈ ds, d.depth ≤ 50) ∧
  ∀ (H' : Hp) (l : Addr) (ys : List V), Same H H' → H l = none → H' l = some (.lst ys) → DhAll H' (srt ((kvs.zip ds).map itD)) ys → Q (.ref l) H'
theorem mt_itemsK {X : Cx} : MtR X "dict.items" rItemsK := by
  intro pins s σ H x xs v us Q I rx rxs h
  obtain ⟨a, kvs, rfl, rfl, ha, q⟩ := h
  cases rx
  cases rxs
  obtain ⟨_, hy, vs', _, o, es, ep, ho, hx, hdat, _⟩ := dk_of I.hok ha
  refine DT.callItems (es := es) (ep := ep) hy ⟨o, ho, hx, hdat⟩ ?_
  exact ⟨.ref _, upd H _ (L2.DX.itemsO _ a), I.laid (t' := s.toks) (fun b u e => Heap.get?_push_of_some _ e) (Nat.le_refl _) (L2.DX.itemsO_ok (Heap.get?_push_size _ rfl)), rfl, q _ (I.hok.fresh (Nat.le_refl _))⟩
theorem zget {α : Type} {H : Hp} {f : α → V} : ∀ {xs : List α} {ds : List PyData} {j : Nat} {x : α}, DhAll H ds (xs.map f) → xs[j]? = some x → ∃ d, ds[j]? = some d ∧ (xs.zip ds)[j]? = some (x, d) ∧ Dh H d (f x)
  | [], ds, j, x, _, e => by simp at e
  | y :: ys, ds, j, x, h, e => by
    cases ds with
    | nil => cases (show (y :: ys).map f = [] from h)
    | cons d ds =>
      obtain ⟨v, vs, ev, h1, h2⟩ := h
      obtain ⟨rfl, rfl⟩ := List.cons.inj ev
      cases j with
      | zero =>
        obtain rfl : y = x := by simpa using e
        exact ⟨d, rfl, rfl, h1⟩
      | succ j =>
        obtain ⟨d', q1, q2, q3⟩ := zget (j := j) h2 (by simpa using e)
        exact ⟨d', by simpa using q1, by simpa using q2, q3⟩
theorem each_at {α β : Type} {R : α → β → Prop} : ∀ {as : List α} {bs : List β}, as.length = bs.length → (∀ (j : Nat) a b, as[j]? = some a → bs[j]? = some b → R a b) → PySem.W.EachIs R as bs
  | [], [], _, _ => .nil
  | [], _ :: _, h, _ => by cases h
  | _ :: _, [], h, _ => by cases h
  | a :: as, b :: bs, h, g => .cons (g 0 a b rfl rfl) (each_at (by simpa using h) fun j x y e f => g (j + 1) x y (by simpa using e) (by simpa using f))
theorem each_refs : ∀ {out : List Value} {ms : List (Addr × PyData)}, PySem.W.EachIs (fun v (b : Addr × PyData) => v = Value.ref b.1) out ms → out = ms.map fun b => Value.ref b.1
  | _, _, .nil => rfl
  | _, _, .cons r t => by
    rw [each_refs t, r]
    rfl
theorem pg_at {α β : Type} {F : α → β → Prop} : ∀ {xs : List α} {ys : List β}, Paired F xs ys → ∀ {j : Nat} {y : β}, ys[j]? = some y → ∃ x, xs[j]? = some x ∧ F x y
  | _, _, .nil, j, y, h => by cases h
  | _, _, .cons r t, 0, y, h => by
    obtain rfl := Option.some.inj h
    exact ⟨_, rfl, r⟩
  | _, _, .cons r t, j + 1, y, h => pg_at t h
theorem cr_sortedIt {X : Cx} (hc : X.calm = true) (hu : X.A.units + 64 < cLine) : CallR X (.builtin "sorted") (rSortIt X) := by
  intro pins s σ H vs us Q I r h
  obtain ⟨p, a, kvs, ds, rfl, hp, ha, hds, hal, hdp, q⟩ := h
  obtain rfl := Vals.ref1 r
  have view : s.heap.IsItemsView p a := (show ObjOk X.prog X.w H s.heap p (L2.DX.itemsO p a) from I.hok p _ hp).1
  obtain ⟨hz, hy, ws, rel, o, es, ep, ho, hx, hdat, _, hpr, _⟩ := dk_of I.hok ha
  have lkw : kvs.length = ws.length := Paired.length rel
  have lew : es.size = ws.length := by
    rw [← Array.length_toList]
    exact hpr.length
  have ldk := hds.len
  rw [List.length_map] at ldk
  refine DT.sortedI (es := es) (ep := ep) (I.ok.hd hc) view ⟨o, ho, hx, hdat⟩ (by omega) fun g tk as kg hlt hl hG => ?_
  have nd : as.Nodup := List.Pairwise.imp (fun h => Nat.ne_of_lt h) hG.rise
  -- each new pair
  have made : ∀ (j : Nat) (t : Addr), as[j]? = some t → ∃ (kv : Key × V) (d : PyData) (ku vu : Value), kvs[j]? = some kv ∧ (kvs.zip ds)[j]? = some (kv, d) ∧ g.get? t = some { cls := .type "tuple", data := .seq #[ku, vu] } ∧ keyIs kv.1 ku = true ∧ RelV kv.2 vu ∧ Dh H d kv.2 := by
    intro j t hj
    obtain ⟨en, he, hg⟩ := hG.pairs j t hj
    have hjw : j < ws.length := by
      have := (Array.getElem?_eq_some_iff.mp he).1
      omega
    obtain ⟨kv, hk, ek, rk⟩ := pg_at rel (List.getElem?_eq_getElem hjw)
    obtain ⟨d, _, hzd, hd⟩ := zget hds hk
    obtain ⟨e1, e2⟩ := hpr.get? (e := en) (k := ws[j].1) (v := ws[j].2) (by simpa using he) (List.getElem?_eq_getElem hjw)
    refine ⟨kv, d, en.key, en.val, hk, hzd, hg, ?_, ?_, hd⟩
    · rw [ek]
      exact e1
    · rw [e2]
      exact rk
  have lb : as.length = ((kvs.zip ds).map itD).length := by
    rw [List.length_map, List.length_zip]
    omega
  have hob : (g.push { cls := .type "list", data := .seq (as.map Value.ref).toArray }).get? g.objs.size = some (seqObj "list" (as.map Value.ref).toArray 0) := Heap.get?_push_size _ rfl
  have low : ∀ b ob, g.get? b = some ob → b ≠ g.objs.size := fun b ob e => Nat.ne_of_lt (Heap.lt_size e)
  have kp2 : ∀ b ob, g.get? b = some ob → (g.push { cls := .type "list", data := .seq (as.map Value.ref).toArray }).get? b = some ob := fun b ob e => Heap.get?_push_of_some _ e
  generalize g.push { cls := .type "list", data := .seq (as.map Value.ref).toArray } = g2 at hob kp2 ⊢
  have kpS : ∀ b ob, g.get? b = some ob → (PySem.W.sortingHeap g2 g.objs.size (as.map Value.ref)).get? b = some ob := fun b ob e => PySem.W.sortingHeap_old (low b ob e) (kp2 b ob e)
  have er : PySem.W.EachIs (fun v (b : Addr × PyData) => ∃ rs, Reads (PySem.W.sortingHeap g2 g.objs.size (as.map Value.ref)) v b.2 rs) (as.map Value.ref) (as.zip ((kvs.zip ds).map itD)) := by
    refine each_at (by rw [List.length_map, List.length_zip]; omega) fun j v b h1 h2 => ?_
    obtain ⟨e1, e2⟩ := List.getElem?_zip_eq_some.mp h2
    rw [List.getElem?_map, e1] at h1
    obtain rfl := Option.some.inj h1
    obtain ⟨kv, d, ku, vu, hk, hzd, hg, hku, rv, hd⟩ := made j _ e1
    rw [List.getElem?_map, hzd] at e2
    rw [← Option.some.inj e2]
    obtain ⟨rs, hr⟩ := Dp.reads I d _ _ (Dh.dp (K := X.K) d _ hd) rv
    exact ⟨_, Reads.tuple (kpS _ _ hg) rfl rfl (.cons (key_reads hku) (.cons (PyProof.Rows.Reads.keeps (fun b ob e => kpS b ob (kg b ob e)) hr) .nil))⟩
  have e2 : (as.zip ((kvs.zip ds).map itD)).map (·.2) = (kvs.zip ds).map itD := List.map_snd_zip (by omega)
  have e1 : PySem.W.EachIs (fun v (b : Addr × PyData) => v = Value.ref b.1) (as.map Value.ref) (as.zip ((kvs.zip ds).map itD)) := each_at (by rw [List.length_map, List.length_zip]; omega) fun j v b h1 h2 => by
    obtain ⟨f1, _⟩ := List.getElem?_zip_eq_some.mp h2
    rw [List.getElem?_map, f1] at h1
    exact (Option.some.inj h1).symm
  have hal2 : PySem.W.AllAlike ((as.zip ((kvs.zip ds).map itD)).map (·.2)) := by
    rw [e2]
    exact hal
  have hbd : ∀ b ∈ as.zip ((kvs.zip ds).map itD), X.A.units + 2 + b.2.depth < cLine := fun b hb => by
    have m : b.2 ∈ (kvs.zip ds).map itD := by
      rw [← e2]
      exact List.mem_map.mpr ⟨b, hb, rfl⟩
    obtain ⟨z, hz2, ez⟩ := List.mem_map.mp m
    have := hdp z.2 (List.of_mem_zip hz2).2
    have kd : (kD z.1.1).depth = 0 := by
      cases z.1.1 <;> simp [kD, PyData.depth]
    have : b.2.depth ≤ 52 := by
      rw [← ez]
      simp only [itD, PyData.depth, PyData.depthAll, kd]
      omega
    omega
  refine wpAny_call_entry PyProof.Rows.slot_list_sort ⟨_, hob, rfl⟩ PyProof.Rows.entry_list_sort
    (PySem.W.list_sort_vals (κ := PySem.W.dataKind (PySem.W.sortingHeap g2 g.objs.size (as.map Value.ref)) ((as.zip ((kvs.zip ds).map itD)).map (·.2))) hob
      (PySem.W.SortsAt.data (s := { s with heap := PySem.W.sortingHeap g2 g.objs.size (as.map Value.ref), toks := tk }) (PySem.W.each_map (R := fun v d => ∃ rs, Reads (PySem.W.sortingHeap g2 g.objs.size (as.map Value.ref)) v d rs) (fun (b : Addr × PyData) => b.2) er) hal2 (by
        rw [e2]
        exact .inl fun d hd => by
          obtain ⟨z, _, rfl⟩ := List.mem_map.mp hd
          exact ⟨_, _, rfl⟩) (PySem.W.bound_map hbd)) (by rw [List.length_map]; omega) ⟨.none, rfl, ?_⟩) (PyProof.Rows.args_list_sort _)
  have eo := each_refs (PySem.W.sortVals_data false e1 er hal2)
  have hlo := PySem.W.sortVals_length false (κ := PySem.W.dataKind (PySem.W.sortingHeap g2 g.objs.size (as.map Value.ref)) ((as.zip ((kvs.zip ds).map itD)).map (·.2))) (ks := as.map Value.ref) (vs := as.map Value.ref) rfl
  generalize PySem.W.sortVals (PySem.W.dataKind (PySem.W.sortingHeap g2 g.objs.size (as.map Value.ref)) ((as.zip ((kvs.zip ds).map itD)).map (·.2))) false (as.map Value.ref) (as.map Value.ref) = out at *
  have eq2 : ((as.zip ((kvs.zip ds).map itD)).mergeSort (PySem.W.dataLe false fun b => b.2)).map (·.2) = srt ((kvs.zip ds).map itD) := by
    rw [srt_zip, e2]
  have mem : ∀ b ∈ (as.zip ((kvs.zip ds).map itD)).mergeSort (PySem.W.dataLe false fun b => b.2), ∃ j : Nat, as[j]? = some b.1 ∧ ((kvs.zip ds).map itD)[j]? = some b.2 := fun b hb => by
    obtain ⟨j, hj⟩ := List.mem_iff_getElem?.mp ((List.mergeSort_perm _ _).mem_iff.mp hb)
    exact ⟨j, List.getElem?_zip_eq_some.mp hj⟩
  have lms : ((as.zip ((kvs.zip ds).map itD)).mergeSort (PySem.W.dataLe false fun b => b.2)).length ≤ sizeLine := by
    rw [List.length_mergeSort, List.length_zip]
    omega
  generalize (as.zip ((kvs.zip ds).map itD)).mergeSort (PySem.W.dataLe false fun b => b.2) = ms at *
  -- the heap behind the sort
  obtain ⟨eF, heF⟩ := PyProof.Rows.sortedHeap_at (vs := as.map Value.ref) (out := out.toArray) hob
  have kF : ∀ b ob, g.get? b = some ob → (PyProof.Rows.sortedHeap g2 g.objs.size (as.map Value.ref) out.toArray).get? b = some ob := fun b ob e => (PyProof.Rows.sortedHeap_old (low b ob e) (Heap.lt_size (kp2 b ob e))).trans (kp2 b ob e)
  have I1 : Inv X pins σ H { s with heap := PyProof.Rows.sortedHeap g2 g.objs.size (as.map Value.ref) out.toArray, toks := tk } := I.kept (t' := tk) fun b ob e => kF b ob (kg b ob e)
  have nL : H g.objs.size = none := I.hok.fresh (Nat.le_of_lt hlt)
  have I2 : Inv X pins σ (upd H g.objs.size (.lst (ms.map fun b => V.ref b.1))) { s with heap := PyProof.Rows.sortedHeap g2 g.objs.size (as.map Value.ref) out.toArray, toks := tk } :=
    I1.take (h' := PyProof.Rows.sortedHeap g2 g.objs.size (as.map Value.ref) out.toArray) (t' := tk) (fun b ob _ e => e) (I.fpOk (Nat.le_of_lt hlt) nL) ⟨by rw [List.length_map]; exact lms, out, eF, by rw [eo]; exact vals_maps (fun b : Addr × PyData => V.ref b.1) (fun b => Value.ref b.1) ms fun _ _ => rfl, heF⟩
  obtain ⟨H2, I3, kH, tH⟩ := L2.DX.takeT (P := fun t ts => ∃ (j : Nat) (kv : Key × V) (d : PyData), as[j]? = some t ∧ (kvs.zip ds)[j]? = some (kv, d) ∧ ts = [kV kv.1, kv.2] ∧ Dh H d kv.2) I as _ I2 nd fun t ht => by
    obtain ⟨j, hj⟩ := List.mem_iff_getElem?.mp ht
    obtain ⟨kv, d, ku, vu, hk, hzd, hg, hku, rv, hd⟩ := made j t hj
    have hb : s.heap.objs.size ≤ t := Nat.le_of_lt (hG.above t ht)
    refine ⟨hb, ?_, _, ⟨j, kv, d, hj, hzd, rfl, hd⟩, fun H3 => ⟨by rw [sizeLine_eq]; show 2 ≤ 16777216; omega, [ku, vu], .cons (relV_key hku) (.cons rv .nil), ⟨_, kF _ _ hg, rfl, 0, rfl⟩⟩⟩
    rw [upd_ne (low _ _ hg)]
    exact I.hok.fresh hb
  have sm : Same H H2 := fun b ob e => kH b ob (by rw [upd_ne (ne_of_none e nL)]; exact e)
  refine ⟨.ref g.objs.size, H2, I3, rfl, q H2 g.objs.size _ sm nL (kH _ _ upd_same) ?_⟩
  rw [← eq2]
  refine dhAll_of fun b hb => ?_
  obtain ⟨i, i1, i2⟩ := mem b hb
  obtain ⟨ts, ⟨j, kv, d, j1, j2, rfl, hd⟩, hH⟩ := tH b.1 (List.mem_of_getElem? i1)
  obtain rfl : i = j := (List.getElem?_inj (List.getElem?_eq_some_iff.mp i1).1 nd).mp (i1.trans j1.symm)
  rw [List.getElem?_map, j2] at i2
  rw [← Option.some.inj i2]
  exact ⟨_, _, rfl, hH, _, _, rfl, dh_key _, _, _, rfl, Dh.mono sm _ _ hd, rfl⟩

/-! ### a local set to a dict comprehension; over a range -/
section
variable {X : Cx}
theorem sw_dict {kx vx : Expr} {gs : List Comprehension} {scope : Scope} {pos py : Pos} {y : Str} {l : Nat} {env : Env} (hk : env.scope.kind = .function) (hy : env.scope.names.lookup y = some .local) (hl : (py.line == pos.line) = true)
    (ha : (scope.names.any fun (n, k) => n == y && (k == .local || k == .cell)) = false) : swapsWith (.DictComp kx vx gs scope pos) (some (.Name y py)) l env = pure true := by
  have k1 : env.kindOf y = some .local := hy
  have k2 : env.blockKind = .function := by
    unfold Env.blockKind
    rw [hk]
    rfl
  unfold swapsWith
  simp only [k2, k1, ha, Expr.pos, hl]
  rfl
theorem ps_setDc {i : Nat} {y : Str} {py : Pos} {kx vx tg iter : Expr} {ifs : List Expr} {scope : Scope} {own : List (Str × Nat)} {pos spos : Pos} {wi : TI} {g : TG} {tt : TT} {tk tv : TE} (hc : X.calm = true) (hN : X.N.Nodup) (hy : X.N[i]? = some y)
    (hyl : X.env.scope.names.lookup y = some .local) (hsw : swapsWith (.DictComp kx vx [⟨tg, iter, ifs, 0⟩] scope pos) (some (.Name y py)) spos.line X.env = pure true) (hi : PI X tg iter wi)
    (ok : BlkOk X.N X.env.scope scope own)
    (pg : ∀ (s : Shared) (H : Hp) (C : Addr) (cl : List (Str × Addr)) (fp : List Addr), PG (X.blk s H scope (compEnvC scope cl C X.env) fp) tg g)
    (pt : ∀ (s : Shared) (H : Hp) (C : Addr) (cl : List (Str × Addr)) (fp : List Addr), PTs (X.blk s H scope (compEnvC scope cl C X.env) fp) ifs tt)
    (pk : ∀ (s : Shared) (H : Hp) (C : Addr) (cl : List (Str × Addr)) (fp : List Addr), PE (X.blk s H scope (compEnvC scope cl C X.env) fp) kx tk)
    (pv : ∀ (s : Shared) (H : Hp) (C : Addr) (cl : List (Str × Addr)) (fp : List Addr), PE (X.blk s H scope (compEnvC scope cl C X.env) fp) vx tv)
    (hs : ∀ x, foldedSetIterable iter X.env x = pure x := by intro _; rfl) :
    PS X (.Assign [.Name y py] (.DictComp kx vx [⟨tg, iter, ifs, 0⟩] scope pos) spos) (tAsg (tDc wi g tt tk tv (own.map (·.2))) (gName i)) := by
  refine ⟨fun pins s σ H D I h => ?_⟩
  rw [exec_Assign_Name_used _ _ _ _ hsw]
  refine wpAny_bind (wpAny_standAt (wpAny_bind ?_))
  show wpAny _ X.A (do let _ ← comprehension (.DictComp kx vx [⟨tg, iter, ifs, 0⟩] scope pos) scope X.env (firstIterPos [⟨tg, iter, ifs, 0⟩] pos) newDict false (eval iter X.env) (some (assign (.Name y py) X.env))) _ _ s
  have h1 : tDc wi g tt tk tv (own.map (·.2)) σ H (fun x H1 => gName i x σ H1 D.nx) := h
  refine wpAny_bind (thn (dc_core (Qf := fun _ s' => SP X pins D .next s') hc hN I hi ok pg pt pk pv hs h1 fun L C s1 m H1 I1 q hn f => ?_) fun _ s1 hq => wpAny_pure (wpAny_pure hq))
  show wpAny _ _ (assign (.Name y py) X.env (.ref L)) _ _ _
  refine wpAny_assign_Name (store_ok2 (v := V.ref L) I1 hN hy (.inl hyl) rfl (fun s2 I2 ⟨a, sb, ha⟩ => ?_) (.inr hyl))
  obtain ⟨f0, f1, f2, f3, f4, f5⟩ := f
  have na : C ≠ a := ha.elim (fun z => by rw [z]; exact f1) fun z e => f4 y a z e.symm
  exact ⟨m, hn.sameBut sb na, fun h3 sb3 => ⟨_, H1, I2.turned (t' := s2.toks) (fun b o hb e => (sb3.2 b hb).trans e) f0 f1 f3 f4 f5, q⟩⟩
theorem dc_range {lo : Int} {n : Nat} {g : TG} {tt : TT} {tk tv : TE} {vs : List Nat} {σ : L2.St} {H1 : Hp} {D : Addr} {Qd : Hp → Prop} (Pv : Nat → Hp → Prop) (h0 : Pv 0 (upd H1 D (.dK [])))
    (hs : ∀ i H, i < n → Pv i H → g (.int (lo + i)) (wipe σ vs) H fun σ2 H2 => wipe σ2 vs = wipe σ vs ∧ tt σ2 H2 fun b H3 =>
      if b = true then tk σ2 H3 fun y H4 => tv σ2 H4 fun z H5 => ∃ kvs k, y = kV k ∧ H5 D = some (.dK kvs) ∧ kvs.length < sizeLine ∧ Pv (i + 1) (upd H5 D (.dK (putK kvs k z))) else Pv (i + 1) H3) (hd : ∀ H, Pv n H → Qd H) :
    ∃ W : Nat → Nat → Hp → Prop, (∃ m, W 0 m (upd H1 D (.dK []))) ∧ ∀ i m H, W i m H →
      ((Itr lo n).stop i H ∧ Qd H) ∨ ((Itr lo n).go i H ∧ ∃ Nx : Hp → Prop, (∀ H', Nx H' → ∃ m', m' < m ∧ W (i + 1) m' H') ∧ ∀ x H', (Itr lo n).yld i H x H' → g x (wipe σ vs) H' fun σ2 H2 => wipe σ2 vs = wipe σ vs ∧ tt σ2 H2 fun b H3 =>
        if b = true then tk σ2 H3 fun y H4 => tv σ2 H4 fun z H5 => ∃ kvs k, y = kV k ∧ H5 D = some (.dK kvs) ∧ kvs.length < sizeLine ∧ Nx (upd H5 D (.dK (putK kvs k z))) else Nx H3) := by
  refine ⟨fun i m H => m = n - i ∧ i ≤ n ∧ Pv i H, ⟨n, by simp, Nat.zero_le _, h0⟩, ?_⟩
  rintro i m H ⟨rfl, hi, z⟩
  by_cases c : i < n
  · refine .inr ⟨c, Pv (i + 1), fun H' z' => ⟨n - (i + 1), by omega, rfl, c, z'⟩, fun x H' y => ?_⟩
    obtain ⟨e, y⟩ := y
    subst e y
    exact hs i _ c z
  · obtain rfl : i = n := by omega
    exact .inl ⟨Nat.le_refl _, hd H z⟩
end

/-! ### ledgers: what is left, what is found -/
structure LR where
  p : Nat
  s : Int
  t : Int
  l : Int
abbrev LP := Int × Int
def lrD (r : LR) : PyData := .tuple [.int r.p, .int r.s, .int r.t, .int r.l]
def swD (k : Nat) (x : LP) : PyData := .tuple [.int k, .int x.1, .int x.2]
def swDs (sw : List LP) : List PyData := sw.mapIdx swD
/-- the first row that lies, from time n on -/
def lieF (n : Nat) (last : List LP) (rows : List LR) (sw : List LP) : Option Nat :=
  match rows with
  | [] => if sw = last then none else some n
  | r :: rs => if (r.s, r.t) = last.getD r.p (0, 0) then lieF (n + 1) (last.set r.p (r.l, (n : Int) + 1)) rs sw else some n
def lie (m : Nat) (rows : List LR) (sw : List LP) : Option Nat := lieF 0 (List.replicate m (0, 0)) rows sw
def oN : Option Nat → V
  | none => .non
  | some n => .int (n : Nat)
def oND : Option Nat → PyData
  | none => .none
  | some n => .int (n : Nat)
theorem dh_oN {H : Hp} : ∀ o, Dh H (oND o) (oN o)
  | none => rfl
  | some _ => rfl
theorem oND_inj : ∀ {a b : Option Nat}, oND a = oND b → a = b
  | none, none, _ => rfl
  | none, some _, h => by cases h
  | some _, none, h => by cases h
  | some a, some b, h => by
    have : (a : Int) = (b : Int) := PyData.int.inj h
    exact congrArg some (by omega)
abbrev lpD (x : LP) : PyData := .tuple [.int x.1, .int x.2]
/-- a dict whose keys count from n on -/
def mkD : Nat → List V → List (Key × V)
  | _, [] => []
  | n, v :: vs => (Sum.inl (n : Int), v) :: mkD (n + 1) vs
def itL : Nat → List LP → List PyData
  | _, [] => []
  | n, x :: xs => .tuple [.int (n : Int), lpD x] :: itL (n + 1) xs
def swL : Nat → List LP → List PyData
  | _, [] => []
  | n, x :: xs => swD n x :: swL (n + 1) xs
theorem mkD_len : ∀ (vs : List V) (n : Nat), (mkD n vs).length = vs.length
  | [], _ => rfl
  | _ :: vs, n => congrArg (· + 1) (mkD_len vs (n + 1))
theorem itL_len : ∀ (xs : List LP) (n : Nat), (itL n xs).length = xs.length
  | [], _ => rfl
  | _ :: xs, n => congrArg (· + 1) (itL_len xs (n + 1))
theorem swL_len : ∀ (xs : List LP) (n : Nat), (swL n xs).length = xs.length
  | [], _ => rfl
  | _ :: xs, n => congrArg (· + 1) (swL_len xs (n + 1))
theorem mkD_vals : ∀ (vs : List V) (n : Nat), (mkD n vs).map (·.2) = vs
  | [], _ => rfl
  | v :: vs, n => congrArg (v :: ·) (mkD_vals vs (n + 1))
theorem inl_ne {a b : Nat} (h : a ≠ b) : ¬ (Sum.inl (a : Int) : Key) = Sum.inl (b : Int) := fun z => h (by have := Sum.inl.inj z; omega)
theorem valV_mkD : ∀ (vs : List V) (n p : Nat), valV (mkD n vs) (Sum.inl ((n + p : Nat) : Int)) = vs[p]?
  | [], _, _ => rfl
  | v :: vs, n, 0 => valV_pos (p := (Sum.inl (n : Int), v)) rfl
  | v :: vs, n, p + 1 => by
    show valV ((Sum.inl (n : Int), v) :: mkD (n + 1) vs) _ = _
    rw [valV_neg (p := (Sum.inl (n : Int), v)) (inl_ne (by omega)), show n + (p + 1) = n + 1 + p by omega, valV_mkD vs (n + 1) p]
    rfl
theorem map_mkD_lt (z : V) (k : Nat) : ∀ (vs : List V) (n : Nat), k < n → (mkD n vs).map (fun kv => if kv.1 = (Sum.inl (k : Int) : Key) then (kv.1, z) else kv) = mkD n vs
  | [], _, _ => rfl
  | v :: vs, n, h => by
    show (if (Sum.inl (n : Int) : Key) = Sum.inl (k : Int) then _ else _) :: _ = _
    rw [if_neg (inl_ne (by omega)), map_mkD_lt z k vs (n + 1) (by omega)]
    rfl
theorem map_mkD (z : V) : ∀ (vs : List V) (n p : Nat), (mkD n vs).map (fun kv => if kv.1 = (Sum.inl ((n + p : Nat) : Int) : Key) then (kv.1, z) else kv) = mkD n (vs.set p z)
  | [], _, _ => rfl
  | v :: vs, n, 0 => by
    show (if (Sum.inl (n : Int) : Key) = Sum.inl (n : Int) then _ else _) :: _ = _
    rw [if_pos rfl]
    exact congrArg (_ :: ·) (map_mkD_lt z n vs (n + 1) (by omega))
  | v :: vs, n, p + 1 => by
    show (if (Sum.inl (n : Int) : Key) = Sum.inl ((n + (p + 1) : Nat) : Int) then _ else _) :: _ = _
    rw [if_neg (inl_ne (by omega)), show n + (p + 1) = n + 1 + p by omega, map_mkD z vs (n + 1) p]
    rfl
theorem putK_mkD {vs : List V} {n p : Nat} (z : V) (h : p < vs.length) : putK (mkD n vs) (Sum.inl ((n + p : Nat) : Int)) z = mkD n (vs.set p z) := by
  unfold putK
  rw [valV_any, valV_mkD, List.getElem?_eq_getElem h]
  exact (if_pos rfl).trans (map_mkD z vs n p)
theorem mkD_snoc (z : V) : ∀ (vs : List V) (n : Nat), mkD n vs ++ [(Sum.inl ((n + vs.length : Nat) : Int), z)] = mkD n (vs ++ [z])
  | [], _ => rfl
  | v :: vs, n => by
    show _ :: (mkD (n + 1) vs ++ _) = _ :: mkD (n + 1) (vs ++ [z])
    rw [← mkD_snoc z vs (n + 1), show n + (v :: vs).length = n + 1 + vs.length by rw [List.length_cons]; omega]
theorem putK_end {vs : List V} {n : Nat} (z : V) : putK (mkD n vs) (Sum.inl ((n + vs.length : Nat) : Int)) z = mkD n (vs ++ [z]) := by
  rw [putK_new z (by rw [valV_mkD]; exact List.getElem?_eq_none (Nat.le_refl _)), mkD_snoc]
theorem zip_itD : ∀ (vs : List V) (xs : List LP) (n : Nat), vs.length = xs.length → ((mkD n vs).zip (xs.map lpD)).map itD = itL n xs
  | [], [], _, _ => rfl
  | [], _ :: _, _, h => by cases h
  | _ :: _, [], _, h => by cases h
  | v :: vs, x :: xs, n, h => congrArg (_ :: ·) (zip_itD vs xs (n + 1) (by simpa using h))
theorem swL_get : ∀ (xs : List LP) (n k : Nat), (swL n xs)[k]? = xs[k]?.map (swD (n + k))
  | [], _, _ => rfl
  | x :: xs, n, 0 => rfl
  | x :: xs, n, k + 1 => by
    show (swL (n + 1) xs)[k]? = _
    rw [swL_get xs (n + 1) k, show n + 1 + k = n + (k + 1) by omega]
    rfl
theorem itL_get : ∀ (xs : List LP) (n k : Nat), (itL n xs)[k]? = xs[k]?.map fun x => .tuple [.int ((n + k : Nat) : Int), lpD x]
  | [], _, _ => rfl
  | x :: xs, n, 0 => rfl
  | x :: xs, n, k + 1 => by
    show (itL (n + 1) xs)[k]? = _
    rw [itL_get xs (n + 1) k, show n + 1 + k = n + (k + 1) by omega]
    rfl
theorem itL_snoc (x : LP) : ∀ (xs : List LP) (n : Nat), itL n (xs ++ [x]) = itL n xs ++ [.tuple [.int ((n + xs.length : Nat) : Int), lpD x]]
  | [], _ => rfl
  | y :: ys, n => by
    show _ :: itL (n + 1) (ys ++ [x]) = _ :: (itL (n + 1) ys ++ _)
    rw [itL_snoc x ys (n + 1), show n + (y :: ys).length = n + 1 + ys.length by rw [List.length_cons]; omega]
theorem swL_snoc (x : LP) : ∀ (xs : List LP) (n : Nat), swL n (xs ++ [x]) = swL n xs ++ [swD (n + xs.length) x]
  | [], _ => rfl
  | y :: ys, n => by
    show _ :: swL (n + 1) (ys ++ [x]) = _ :: (swL (n + 1) ys ++ _)
    rw [swL_snoc x ys (n + 1), show n + (y :: ys).length = n + 1 + ys.length by rw [List.length_cons]; omega]
theorem itL_mem : ∀ {xs : List LP} {n : Nat} {d : PyData}, d ∈ itL n xs → ∃ (k : Nat) (x : LP), n ≤ k ∧ d = .tuple [.int (k : Int), lpD x]
  | [], _, _, h => by cases h
  | x :: xs, n, d, h => by
    rcases List.mem_cons.mp h with rfl | h
    · exact ⟨n, x, Nat.le_refl _, rfl⟩
    · obtain ⟨k, y, h1, h2⟩ := itL_mem h
      exact ⟨k, y, by omega, h2⟩
theorem itL_alike {xs : List LP} {n : Nat} : PySem.W.AllAlike (itL n xs) := fun d hd e he => by
  obtain ⟨k, x, _, rfl⟩ := itL_mem hd
  obtain ⟨j, y, _, rfl⟩ := itL_mem he
  simp [PySem.W.alike, PySem.W.alikeAll]
theorem itL_le {k j : Nat} {x y : LP} (h : k < j) : PySem.W.dataLe false (fun d => d) (.tuple [.int (k : Int), lpD x]) (.tuple [.int (j : Int), lpD y]) = true := by
  rw [PySem.W.dataLe_eq]
  show (!PySem.W.dataLt (.tuple [.int (j : Int), lpD y]) (.tuple [.int (k : Int), lpD x])) = true
  rw [PySem.W.dataLt_pair (by simp [PySem.W.alike]) (by simp [PySem.W.alike, PySem.W.alikeAll]), PySem.W.dataLt_int, if_neg]
  · have : ¬ (j : Int) < (k : Int) := by omega
    simp [this]
  · have : ¬ (j : Int) = (k : Int) := by omega
    simp [PyData.eqv, this]
theorem itL_rise : ∀ (xs : List LP) (n : Nat), (itL n xs).Pairwise fun a b => PySem.W.dataLe false (fun d => d) a b = true
  | [], _ => .nil
  | x :: xs, n => .cons (fun d hd => by
    obtain ⟨k, y, h, rfl⟩ := itL_mem hd
    exact itL_le (by omega)) (itL_rise xs (n + 1))
theorem srt_itL (xs : List LP) (n : Nat) : srt (itL n xs) = itL n xs := List.mergeSort_of_pairwise (itL_rise xs n)
theorem itL_depth {xs : List LP} {n : Nat} : ∀ d ∈ itL n xs, d.depth ≤ 2 := fun d hd => by
  obtain ⟨k, x, _, rfl⟩ := itL_mem hd
  simp [PyData.depth, PyData.depthAll]
theorem eqv_lp (x y : LP) : PyData.eqv (lpD x) (lpD y) = decide (x = y) := by
  obtain ⟨a, b⟩ := x
  obtain ⟨c, d⟩ := y
  simp only [PyData.eqv, PyData.eqvAll, Bool.and_true]
  by_cases h1 : a = c <;> by_cases h2 : b = d <;> simp [h1, h2]
theorem eqvA_itL : ∀ (xs ys : List LP) (n : Nat), PyData.eqvAll (itL n xs) (itL n ys) = decide (xs = ys)
  | [], [], _ => by simp [itL, PyData.eqvAll]
  | [], _ :: _, _ => by simp [itL, PyData.eqvAll]
  | _ :: _, [], _ => by simp [itL, PyData.eqvAll]
  | x :: xs, y :: ys, n => by
    show PyData.eqvAll (_ :: itL (n + 1) xs) (_ :: itL (n + 1) ys) = _
    rw [PyData.eqvAll, eqvA_itL xs ys (n + 1), PyData.eqv, PyData.eqvAll, PyData.eqvAll, PyData.eqvAll, PyData.eqv, eqv_lp]
    by_cases h1 : x = y <;> by_cases h2 : xs = ys <;> simp [h1, h2]
theorem eqv_itL (xs ys : List LP) (n : Nat) : PyData.eqv (.list (itL n xs)) (.list (itL n ys)) = decide (xs = ys) := by
  rw [PyData.eqv]
  exact eqvA_itL xs ys n
theorem lay_lp (x : LP) : PyData.canLay0 (lpD x) = true := by simp [PyData.canLay0, PyData.canLayAll0]
theorem shaped_lp (x : LP) : SeqAt.shaped (lpD x) = true := by
  show (PyData.canLay0 (lpD x) && decide (PyData.depth (lpD x) ≤ 64)) = true
  rw [lay_lp]
  simp [PyData.depth, PyData.depthAll]
theorem lay_itL : ∀ (xs : List LP) (n : Nat), PyData.canLayAll0 (itL n xs) = true
  | [], _ => by simp [itL, PyData.canLayAll0]
  | x :: xs, n => by
    show PyData.canLayAll0 (_ :: itL (n + 1) xs) = true
    simp only [PyData.canLayAll0, PyData.canLay0, lay_itL xs (n + 1), Bool.and_self]
theorem depthA_le {m : Nat} : ∀ (ds : List PyData), (∀ d ∈ ds, d.depth ≤ m) → PyData.depthAll ds ≤ m + 1
  | [], _ => by simp [PyData.depthAll]
  | d :: ds, h => by
    have h1 := h d List.mem_cons_self
    have h2 := depthA_le ds fun e he => h e (List.mem_cons_of_mem _ he)
    simp only [PyData.depthAll]
    omega
theorem shaped_itL (xs : List LP) (n : Nat) : SeqAt.shaped (.list (itL n xs)) = true := by
  have h1 := depthA_le (itL n xs) itL_depth
  have h2 : PyData.depth (.list (itL n xs)) ≤ 64 := by
    simp only [PyData.depth]
    omega
  show (PyData.canLay0 (.list (itL n xs)) && decide (PyData.depth (.list (itL n xs)) ≤ 64)) = true
  rw [Bool.and_eq_true]
  exact ⟨by simp only [PyData.canLay0]; exact lay_itL xs n, decide_eq_true h2⟩

/-! ### for i, x in enumerate(xs, start=k) -/
def IteC (K : PySem.W.Frag) (a : Addr) (c : Int) : It :=
  ⟨fun i H => ∃ (xs : List V) (x : V), SqL K H a xs ∧ xs[i]? = some x,
    fun i H v H' => ∃ T x, v = .ref T ∧ H T = none ∧ H' = upd H T (.tup [.int (c + (i : Nat)), x]) ∧ ∀ xs, SqL K H a xs → xs[i]? = some x,
    fun i H => ∃ xs : List V, SqL K H a xs ∧ xs.length = i⟩
theorem turn_enumC {P : Program} {w : World} {K : PySem.W.Frag} {elts : List Expr} {kk : Nat} {tpos : Pos} (a e it : Addr) (c : Int) :
    Turn P w K (.Tuple elts kk tpos) (IteC K a c) [e, it] e (fun i h => (∃ old, IsEnum h e it (c + (i : Nat)) old) ∧ h.IsListIter it a i ∧ e ≠ it ∧ a ≠ it ∧ a ≠ e) where
  mem := List.mem_cons_self
  obj := fun i h st b hb => by
    obtain ⟨⟨old, he⟩, ⟨o, ho, _, hd⟩, _⟩ := st
    rcases List.mem_cons.mp hb with z | hb
    · rw [z]
      exact ⟨_, he, fun v q => nomatch q⟩
    · rw [List.mem_singleton.mp hb]
      exact ⟨o, ho, fun v q => by rw [hd] at q; cases q⟩
  keep := fun i h h' st k => by
    obtain ⟨⟨old, he⟩, hi, r⟩ := st
    exact ⟨⟨old, k e List.mem_cons_self _ he⟩, hi.at fun o q => k it (List.mem_cons_of_mem _ List.mem_cons_self) o q, r⟩
  item := by
    intro X hP hw hK hc i pins s σ H E I hf st hg
    subst hP hw hK
    obtain ⟨⟨old, he⟩, hit, h1, h2, h3⟩ := st
    obtain ⟨xs, x, hq, hx⟩ := hg
    obtain ⟨its, rv, p, hz⟩ := I.list hq
    obtain ⟨u, hu, ru⟩ := rv.get hx
    have hel : e < s.heap.objs.size := Heap.lt_size he
    have hil : it < s.heap.objs.size := by
      obtain ⟨_, q, _⟩ := hit
      exact Heap.lt_size q
    have hef : e ∉ [it, a] := fun z => by
      rcases List.mem_cons.mp z with z | z
      · exact h1 z
      · exact h3 (List.mem_singleton.mp z).symm
    have ll : i < its.toArray.size := by
      rw [List.size_toArray]
      exact (List.getElem?_eq_some_iff.mp hu).1
    refine wpAny_pyNext_enum_itemC (Draws.list (A := X.A.in1) (I.ok.hd hc) it a h2 its.toArray) he ⟨hit, p.isList⟩ ll h1 hef fun y h' tk hy ho st' hT hsz hk => ?_
    have hy : its[i]? = some y := by simpa using hy
    obtain rfl : y = u := Option.some.inj (hy.symm.trans hu)
    refine ⟨_, rfl, wpAny_letOwnedTupleGo_enum (s := { s with heap := h', toks := tk + 1 }) ho fun h2' he' sb => ?_⟩
    have hT2 : h2'.get? s.heap.objs.size = some { cls := .type "tuple", data := .seq #[.int (c + (i : Nat)) tk, y] } := (sb.2 _ (Nat.ne_of_gt hel)).trans hT
    have new : ObjOk X.prog X.w (upd H s.heap.objs.size (.tup [.int (c + (i : Nat)), x])) h2' s.heap.objs.size (.tup [.int (c + (i : Nat)), x]) := ⟨sz, [.int (c + (i : Nat)) tk, y], .cons ⟨_, rfl⟩ (.cons ru .nil), ⟨_, hT2, rfl, _, rfl⟩⟩
    have nin : ∀ b, b ∉ [e, it] → b ≠ e ∧ b ≠ it := fun b hb => ⟨fun z => hb (by rw [z]; exact List.mem_cons_self), fun z => hb (by rw [z]; exact List.mem_cons_of_mem _ List.mem_cons_self)⟩
    have I1 : Inv X pins σ (upd H s.heap.objs.size (.tup [.int (c + (i : Nat)), x])) { s with heap := h2', toks := tk + 1 } :=
      I.turnedNew (ch := [e, it]) (fun b ob hb q => (sb.2 b (nin b hb).1).trans (hk b ob (nin b hb).1 (nin b hb).2 q)) hf (Nat.le_refl _) new
    refine ⟨.ref s.heap.objs.size, _, I1, rfl, ⟨_, x, rfl, I.hok.fresh (Nat.le_refl _), rfl, fun ys hy => by rw [I.list_inj hy hq]; exact hx⟩, ⟨⟨y, ?_⟩, st'.1.at fun o q => (sb.2 it (Ne.symm h1)).trans q, h1, h2, h3⟩, fun b hb => ?_⟩
    · rw [show c + ((i + 1 : Nat) : Int) = c + ((i : Nat) : Int) + 1 by omega]
      exact he'
    · have hlt : b < s.heap.objs.size := by
        rcases List.mem_cons.mp hb with z | hb
        · rw [z]
          exact hel
        · rw [List.mem_singleton.mp hb]
          exact hil
      rw [upd_ne (Nat.ne_of_lt hlt)]
      exact (hf b hb).1
  done := by
    intro X hP hw hK hc i pins s σ H E I hf st hg
    subst hP hw hK
    obtain ⟨⟨old, he⟩, hit, h1, h2, h3⟩ := st
    obtain ⟨xs, hq, hx⟩ := hg
    obtain ⟨its, rv, p, hz⟩ := I.list hq
    obtain ⟨f0, f1, f2, f3, f4, f5⟩ := hf it (List.mem_cons_of_mem _ List.mem_cons_self)
    have hl := rv.length
    have en : i = its.toArray.size := by
      rw [List.size_toArray]
      omega
    exact wpAny_pyNext_enum_endD (Draws.list (A := X.A.in1) (I.ok.hd hc) it a h2 its.toArray) he (by rw [← en]; exact ⟨hit, p.isList⟩) fun h' eb => ⟨rfl, I.turned (t' := s.toks) (fun b o hb q => eb b o hb q) f0 f1 f3 f4 f5⟩
  self := fun A i s Q E st h => by
    obtain ⟨⟨_, he⟩, _⟩ := st
    exact wpAny_pyIter_enum he h
theorem callWith_tyKw {M : Model} {A : Around} {E : Value → Shared → Prop} {s : Shared} {env : Env} {pos : Pos} {T : String} {e : Expr} {rest : List Expr} {kws : List Keyword} {Q : Value → Shared → Prop}
    (h : wpAny M A (spliced (backTo pos (starEach (e :: rest) env))) (fun vs s1 => wpAny M A (evalAll ((backToKw pos (keywordEach kws env)).map (·.2)))
      (fun ks s2 => wpAny M A (call (.type T) vs (((backToKw pos (keywordEach kws env)).filterMap (·.1)).zip ks)) Q E s2) E s1) E s)
    (he : backTo pos (starEach (e :: rest) env) = (false, eval e env) :: backTo pos (starEach rest env)) (hp : (backTo pos (starEach (e :: rest) env)).any (·.1) = false)
    (ha : (backToKw pos (keywordEach kws env)).all (·.1.isSome) = true) (hk : (backToKw pos (keywordEach kws env)).any (·.1.isNone) = false) :
    wpAny M A (callWith pos (.type T) [] (backTo pos (starEach (e :: rest) env)) (backToKw pos (keywordEach kws env))) Q E s := by
  have h2 : wpAny M A (evalArgs (.type T) true (backTo pos (starEach (e :: rest) env)) (backToKw pos (keywordEach kws env))) (fun a s1 => wpAny M A (call (.type T) a.pos a.kw) Q E s1) E s := by
    rw [he] at h ⊢
    exact PyProof.Rows.evalArgs_kwB ha h
  unfold callWith
  refine wpAny_bind (wpAny_holding (wpAny_mono h2 (fun a s1 h1 => wpAny_bind (wpAny_standAt ?_)) fun _ _ x => x))
  simp only [hp, hk, Bool.or_false]
  refine wpAny_bind (wpAny_pure ?_)
  exact wpAny_bind (wpAny_mono h1 (fun r s2 hr => wpAny_bind (wpAny_holding (wpAny_point (wpAny_pure hr)))) fun _ _ x => x)
def iEnumC (K : PySem.W.Frag) (ta tk : TA) : TI := fun σ H R => ta σ H fun vs H1 => tk σ H1 fun zs H2 => ∃ a xs c, vs = [.ref a] ∧ zs = [.int c] ∧ SqL K H2 a xs ∧ -1000 ≤ c ∧ c ≤ 1000 ∧ R (IteC K a c) H2
theorem pi_enumC {X : Cx} {e : Expr} {ta tk : TA} {p pos tpos : Pos} {elts : List Expr} {kk : Nat} {kws : List Keyword} (hg : Gl X "enumerate") (hm : X.mg "enumerate" = none) (ha : PA X [e] ta) (hkw : PK X kws tk)
    (he : backTo pos (starEach [e] X.env) = (false, eval e X.env) :: backTo pos (starEach [] X.env) := by rfl) (hp : (backTo pos (starEach [e] X.env)).any (·.1) = false := by rfl)
    (hall : (backToKw pos (keywordEach kws X.env)).all (·.1.isSome) = true := by rfl) (hno : (backToKw pos (keywordEach kws X.env)).any (·.1.isNone) = false := by rfl) (hks : (backToKw pos (keywordEach kws X.env)).filterMap (·.1) = [Str.ofString "start"] := by rfl) :
    PI X (.Tuple elts kk tpos) (.Call (.Name "enumerate" p) [e] kws pos) (iEnumC X.K ta tk) := by
  refine ⟨fun pins s σ H R I h => ?_⟩
  refine wpAny_Call_Name_kw (ld_blt I hg hm boot_enumerate ?_)
  refine callWith_tyKw (thn (ha.run pos pins s σ H _ I h) fun us s1 ⟨vs, H1, I1, r1, q1⟩ => thn (hkw.run pos pins s1 σ H1 _ I1 q1) fun ws s2 ⟨zs, H2, I2, r2, q2⟩ => ?_) he hp hall hno
  obtain ⟨a, xs, c, rfl, rfl, hq, c0, c1, q⟩ := q2
  obtain rfl := Vals.ref1 r1
  cases r2 with
  | cons ri rr =>
    cases rr
    obtain ⟨t, rfl⟩ := ri
    rw [hks]
    obtain ⟨its, rv, p', hz⟩ := I2.list hq
    refine enum_begins_start (begins_list a its.toArray) p'.isList (by omega) (by omega) fun h' hE hI hsz hk => wpAny_pyIter_enum hE ?_
    have lt : a < s2.heap.objs.size := p'.lt
    have I3 : Inv X pins σ H2 { s2 with heap := h' } := I2.kept (t' := s2.toks) hk
    refine ⟨s2.heap.objs.size + 1, [s2.heap.objs.size + 1, s2.heap.objs.size], _, _, H2, rfl, I3, turn_enumC a (s2.heap.objs.size + 1) s2.heap.objs.size c, ⟨⟨.none, by rw [show c + ((0 : Nat) : Int) = c by omega]; exact hE⟩, ⟨_, hI, rfl, rfl⟩, Nat.succ_ne_self _, Nat.ne_of_lt lt, Nat.ne_of_lt (Nat.lt_succ_of_lt lt)⟩, fun b hb => ?_, q⟩
    have hle : s2.heap.objs.size ≤ b := by
      rcases List.mem_cons.mp hb with z | hb
      · rw [z]
        exact Nat.le_succ _
      · rw [List.mem_singleton.mp hb]
        exact Nat.le_refl _
    exact I2.fpOk hle (I2.hok.fresh hle)
theorem walk_enumC {K : PySem.W.Frag} {a : Addr} {xs : List V} {c : Int} : Walk (IteC K a c) xs.length (fun H => SqL K H a xs) (YPair (fun i => some (.int (c + (i : Nat)))) (fun i => xs[i]?)) := by
  refine ⟨fun i _ hi q => ⟨xs, xs[i], q, by simp [hi]⟩, fun _ q => ⟨xs, q, rfl⟩, fun i H v H' _ q y => ?_⟩
  obtain ⟨T, x, e1, e2, e3, e4⟩ := y
  exact ⟨T, .int (c + (i : Nat)), x, e1, e2, e3, rfl, e4 xs q⟩

/-! ### bags -/
abbrev T3 := Nat × LP
abbrev tD (a : T3) : PyData := .tuple [.int (a.1 : Nat), .int a.2.1, .int a.2.2]
def tL : Nat → List LP → List T3
  | _, [] => []
  | n, x :: xs => (n, x) :: tL (n + 1) xs
theorem tL_swL : ∀ (xs : List LP) (n : Nat), (tL n xs).map tD = swL n xs
  | [], _ => rfl
  | x :: xs, n => congrArg (_ :: ·) (tL_swL xs (n + 1))
theorem tL_len : ∀ (xs : List LP) (n : Nat), (tL n xs).length = xs.length
  | [], _ => rfl
  | _ :: xs, n => congrArg (· + 1) (tL_len xs (n + 1))
def leftR : Nat → List LR → List T3
  | _, [] => []
  | n, r :: rs => (r.p, (r.l, (n : Int) + 1)) :: leftR (n + 1) rs
def foundR (rs : List LR) : List T3 := rs.map fun r => (r.p, (r.s, r.t))
def early : Nat → List LR → Prop
  | _, [] => True
  | n, r :: rs => r.t < (n : Int) + 1 ∧ early (n + 1) rs
theorem tL_mem : ∀ {xs : List LP} {n : Nat} {a : T3}, a ∈ tL n xs → ∃ p, a.1 = n + p ∧ xs[p]? = some a.2
  | [], _, _, h => by cases h
  | x :: xs, n, a, h => by
    rcases List.mem_cons.mp h with rfl | h
    · exact ⟨0, rfl, rfl⟩
    · obtain ⟨p, h1, h2⟩ := tL_mem h
      exact ⟨p + 1, by omega, h2⟩
theorem tL_rise : ∀ (xs : List LP) (n : Nat), (tL n xs).Pairwise fun a b => a.1 < b.1
  | [], _ => .nil
  | x :: xs, n => .cons (fun a ha => by
    obtain ⟨p, h, _⟩ := tL_mem ha
    show n < a.1
    omega) (tL_rise xs (n + 1))
theorem tL_inj : ∀ {xs ys : List LP} {n : Nat}, tL n xs = tL n ys → xs = ys
  | [], [], _, _ => rfl
  | [], _ :: _, _, h => by cases h
  | _ :: _, [], _, h => by cases h
  | x :: xs, y :: ys, n, h => by
    obtain ⟨h1, h2⟩ := List.cons.inj h
    rw [(Prod.mk.inj h1).2, tL_inj h2]
theorem tL_perm {xs ys : List LP} {n : Nat} : (tL n xs).Perm (tL n ys) ↔ xs = ys := by
  constructor
  · intro h
    exact tL_inj (List.Perm.eq_of_pairwise (le := fun a b => a.1 < b.1) (fun a b _ _ h1 h2 => by omega) (tL_rise xs n) (tL_rise ys n) h)
  · rintro rfl
    exact .refl _
theorem tL_set : ∀ {xs : List LP} {n p : Nat} (h : p < xs.length), ∃ E, (tL n xs).Perm ((n + p, xs[p]) :: E) ∧ ∀ x, (tL n (xs.set p x)).Perm ((n + p, x) :: E)
  | [], _, _, h => absurd h (Nat.not_lt_zero _)
  | x :: xs, n, 0, _ => ⟨tL (n + 1) xs, .refl _, fun _ => .refl _⟩
  | x :: xs, n, p + 1, h => by
    obtain ⟨E, h1, h2⟩ := tL_set (xs := xs) (n := n + 1) (p := p) (by simpa using h)
    have e : n + 1 + p = n + (p + 1) := by omega
    rw [e] at h1
    refine ⟨(n, x) :: E, ?_, fun z => ?_⟩
    · exact (List.Perm.cons _ h1).trans (.swap _ _ _)
    · have h3 := h2 z
      rw [e] at h3
      exact (List.Perm.cons _ h3).trans (.swap _ _ _)
theorem leftR_mem : ∀ {rs : List LR} {n : Nat} {a : T3}, a ∈ leftR n rs → (n : Int) + 1 ≤ a.2.2
  | [], _, _, h => by cases h
  | r :: rs, n, a, h => by
    rcases List.mem_cons.mp h with rfl | h
    · exact Int.le_refl _
    · have := leftR_mem h
      omega
theorem bag_lie : ∀ (rs : List LR) (n : Nat) (last sw : List LP), (∀ r ∈ rs, r.p < last.length) → sw.length = last.length → (∀ x ∈ last, x.2 ≤ n) → (early n rs ∧ (tL 0 last ++ leftR n rs).Perm (foundR rs ++ tL 0 sw) ↔ lieF n last rs sw = none)
  | [], n, last, sw, _, _, _ => by
    rw [lieF]
    show (True ∧ (tL 0 last ++ []).Perm ([] ++ tL 0 sw)) ↔ _
    rw [List.append_nil, List.nil_append, tL_perm]
    by_cases c : sw = last
    · rw [if_pos c, c]
      simp
    · rw [if_neg c]
      simp only [true_and]
      exact ⟨fun h => absurd h.symm c, fun h => by cases h⟩
  | r :: rs, n, last, sw, hp, hl, ht => by
    have hr := hp r List.mem_cons_self
    obtain ⟨E, p1, p2⟩ := tL_set (n := 0) hr
    rw [Nat.zero_add] at p1 p2
    have ih := bag_lie rs (n + 1) (last.set r.p (r.l, (n : Int) + 1)) sw (fun q hq => by rw [List.length_set]; exact hp q (List.mem_cons_of_mem _ hq)) (by rw [List.length_set]; exact hl) (fun x hx => by
      rcases List.mem_or_eq_of_mem_set hx with hx | rfl
      · have := ht x hx
        omega
      · show (n : Int) + 1 ≤ ((n + 1 : Nat) : Int)
        omega)
    have eg : last.getD r.p (0, 0) = last[r.p] := by rw [List.getD_eq_getElem?_getD, List.getElem?_eq_getElem hr]; rfl
    -- the step: once the row has found what was last left
    have step : (r.s, r.t) = last[r.p] → ((tL 0 last ++ leftR n (r :: rs)).Perm (foundR (r :: rs) ++ tL 0 sw) ↔ (tL 0 (last.set r.p (r.l, (n : Int) + 1)) ++ leftR (n + 1) rs).Perm (foundR rs ++ tL 0 sw)) := fun e => by
      have l1 : (tL 0 last ++ leftR n (r :: rs)).Perm ((r.p, last[r.p]) :: (E ++ (r.p, (r.l, (n : Int) + 1)) :: leftR (n + 1) rs)) := List.Perm.append_right _ p1
      have l2 : (tL 0 (last.set r.p (r.l, (n : Int) + 1)) ++ leftR (n + 1) rs).Perm (E ++ (r.p, (r.l, (n : Int) + 1)) :: leftR (n + 1) rs) := (List.Perm.append_right _ (p2 _)).trans List.perm_middle.symm
      have l3 : foundR (r :: rs) ++ tL 0 sw = (r.p, last[r.p]) :: (foundR rs ++ tL 0 sw) := by
        show (r.p, (r.s, r.t)) :: (foundR rs ++ tL 0 sw) = _
        rw [e]
      rw [l3]
      exact ⟨fun h => l2.trans (List.perm_cons _ |>.mp (l1.symm.trans h)), fun h => l1.trans (List.Perm.cons _ (l2.symm.trans h))⟩
    rw [lieF, eg]
    by_cases c : (r.s, r.t) = last[r.p]
    · rw [if_pos c, ← ih, step c]
      show ((r.t < (n : Int) + 1 ∧ early (n + 1) rs) ∧ _) ↔ _
      constructor
      · exact fun h => ⟨h.1.2, h.2⟩
      · intro h
        have z := ht _ (List.getElem_mem hr)
        rw [← c] at z
        have z : r.t ≤ n := z
        exact ⟨⟨by omega, h.1⟩, h.2⟩
    · rw [if_neg c]
      refine ⟨fun h => ?_, fun h => by cases h⟩
      have m : (r.p, (r.s, r.t)) ∈ tL 0 last ++ leftR n (r :: rs) := h.2.mem_iff.mpr (List.mem_append_left _ List.mem_cons_self)
      rcases List.mem_append.mp m with m | m
      · obtain ⟨p, e1, e2⟩ := tL_mem m
        rw [Nat.zero_add] at e1
        have e1 : r.p = p := e1
        rw [← e1, List.getElem?_eq_getElem hr] at e2
        exact absurd (Option.some.inj e2).symm c
      · have h1 := leftR_mem m
        have h2 : r.t < (n : Int) + 1 := h.1.1
        have h1 : (n : Int) + 1 ≤ r.t := h1
        omega
/-- what the rows leave -/
def lastF (n : Nat) (last : List LP) : List LR → List LP
  | [] => last
  | r :: rs => lastF (n + 1) (last.set r.p (r.l, (n : Int) + 1)) rs
theorem lastF_len : ∀ (rs : List LR) (n : Nat) (last : List LP), (lastF n last rs).length = last.length
  | [], _, _ => rfl
  | r :: rs, n, last => by
    show (lastF (n + 1) _ rs).length = _
    rw [lastF_len rs, List.length_set]
theorem lie_ge : ∀ (rs : List LR) (n : Nat) (last sw : List LP) (j : Nat), lieF n last rs sw = some j → n ≤ j
  | [], n, last, sw, j, h => by
    rw [lieF] at h
    split at h
    · cases h
    · exact Nat.le_of_eq (Option.some.inj h)
  | r :: rs, n, last, sw, j, h => by
    rw [lieF] at h
    split at h
    · have := lie_ge rs (n + 1) _ sw j h
      omega
    · exact Nat.le_of_eq (Option.some.inj h)
theorem lie_pre : ∀ (rs : List LR) (n k : Nat) (last sw : List LP), k ≤ rs.length → (lieF n last (rs.take k) (lastF n last (rs.take k)) = none ↔ ∀ j, lieF n last rs sw = some j → n + k ≤ j)
  | [], n, k, last, sw, h => by
    obtain rfl : k = 0 := Nat.le_zero.mp h
    show (if last = last then none else some n) = none ↔ _
    rw [if_pos rfl]
    exact ⟨fun _ j hj => lie_ge [] n last sw j hj, fun _ => rfl⟩
  | r :: rs, n, 0, last, sw, h => by
    show (if last = last then none else some n) = none ↔ _
    rw [if_pos rfl]
    exact ⟨fun _ j hj => lie_ge _ n last sw j hj, fun _ => rfl⟩
  | r :: rs, n, k + 1, last, sw, h => by
    have ih := lie_pre rs (n + 1) k (last.set r.p (r.l, (n : Int) + 1)) sw (by simpa using h)
    show lieF n last (r :: rs.take k) (lastF (n + 1) (last.set r.p (r.l, (n : Int) + 1)) (rs.take k)) = none ↔ _
    rw [lieF, lieF]
    by_cases c : (r.s, r.t) = last.getD r.p (0, 0)
    · rw [if_pos c, if_pos c, ih]
      exact ⟨fun z j hj => by have := z j hj; omega, fun z j hj => by have := z j hj; omega⟩
    · rw [if_neg c, if_neg c]
      exact ⟨fun z => (by cases z), fun z => absurd (z n rfl) (by omega)⟩
/-! the order of triples -/
def ltT (a b : T3) : Bool := decide ((a.1 : Int) < b.1 ∨ ((a.1 : Int) = b.1 ∧ (a.2.1 < b.2.1 ∨ (a.2.1 = b.2.1 ∧ a.2.2 < b.2.2))))
theorem ltT_data (a b : T3) : PySem.W.dataLt (tD a) (tD b) = ltT a b := by
  rw [PySem.W.dataLt_tuple]
  have e := PySem.W.dataLt_ints [(a.1 : Int), a.2.1, a.2.2] [(b.1 : Int), b.2.1, b.2.2]
  unfold PySem.W.rowLt at e
  refine Eq.trans e ?_
  unfold ltT
  simp only [List.cons_lt_cons_iff, List.not_lt_nil, and_false, or_false]
def leT (a b : T3) : Bool := !ltT b a
theorem leT_iff (a b : T3) : leT a b = true ↔ ¬ ((b.1 : Int) < a.1 ∨ ((b.1 : Int) = a.1 ∧ (b.2.1 < a.2.1 ∨ (b.2.1 = a.2.1 ∧ b.2.2 < a.2.2)))) := by
  unfold leT ltT
  rw [Bool.not_eq_true', decide_eq_false_iff_not]
theorem leT_trans (a b c : T3) (h1 : leT a b = true) (h2 : leT b c = true) : leT a c = true := by
  rw [leT_iff] at *
  omega
theorem leT_total (a b : T3) : (leT a b || leT b a) = true := by
  rw [Bool.or_eq_true, leT_iff, leT_iff]
  omega
theorem leT_anti (a b : T3) (h1 : leT a b = true) (h2 : leT b a = true) : a = b := by
  obtain ⟨a1, a2, a3⟩ := a
  obtain ⟨b1, b2, b3⟩ := b
  rw [leT_iff] at *
  simp only at h1 h2
  have e1 : a1 = b1 := by omega
  have e2 : a2 = b2 := by omega
  have e3 : a3 = b3 := by omega
  rw [e1, e2, e3]
theorem srt_tD (xs : List T3) : srt (xs.map tD) = (xs.mergeSort leT).map tD := by
  unfold srt
  refine (List.map_mergeSort fun a _ b _ => ?_).symm
  rw [PySem.W.dataLe_eq]
  show leT a b = !PySem.W.dataLt (tD b) (tD a)
  rw [ltT_data]
  rfl
theorem sort_perm {xs ys : List T3} : xs.mergeSort leT = ys.mergeSort leT ↔ xs.Perm ys := by
  constructor
  · intro h
    exact (List.mergeSort_perm xs leT).symm.trans (h ▸ List.mergeSort_perm ys leT)
  · intro h
    exact List.Perm.eq_of_pairwise (fun a b _ _ h1 h2 => leT_anti a b h1 h2) (List.pairwise_mergeSort leT_trans leT_total xs) (List.pairwise_mergeSort leT_trans leT_total ys) ((List.mergeSort_perm xs leT).trans (h.trans (List.mergeSort_perm ys leT).symm))
theorem eqvA_tD : ∀ (xs ys : List T3), PyData.eqvAll (xs.map tD) (ys.map tD) = decide (xs = ys)
  | [], [] => by simp [PyData.eqvAll]
  | [], _ :: _ => by simp [PyData.eqvAll]
  | _ :: _, [] => by simp [PyData.eqvAll]
  | (a, b, c) :: xs, (d, e, f) :: ys => by
    simp only [List.map_cons, PyData.eqvAll, PyData.eqv, eqvA_tD xs ys, Bool.and_true]
    have hc : ((a : Int) = (d : Int)) ↔ a = d := by omega
    by_cases h1 : a = d <;> by_cases h2 : b = e <;> by_cases h3 : c = f <;> by_cases h4 : xs = ys <;> simp [h1, h2, h3, h4, hc]
theorem eqv_srt (xs ys : List T3) : PyData.eqv (.list (srt (xs.map tD))) (.list (srt (ys.map tD))) = true ↔ xs.Perm ys := by
  rw [srt_tD, srt_tD, PyData.eqv, eqvA_tD, decide_eq_true_iff, sort_perm]
theorem tD_alike {xs : List T3} : PySem.W.AllAlike (xs.map tD) := fun d hd e he => by
  obtain ⟨a, _, rfl⟩ := List.mem_map.mp hd
  obtain ⟨b, _, rfl⟩ := List.mem_map.mp he
  simp [PySem.W.alike, PySem.W.alikeAll]
theorem tD_sortable {xs : List T3} : PySem.W.Sortable (xs.map tD) := .inl fun d hd => by
  obtain ⟨a, _, rfl⟩ := List.mem_map.mp hd
  exact ⟨_, _, rfl⟩
theorem tD_depth {xs : List T3} : ∀ d ∈ xs.map tD, d.depth ≤ 2 := fun d hd => by
  obtain ⟨a, _, rfl⟩ := List.mem_map.mp hd
  simp [PyData.depth, PyData.depthAll]
theorem lay_tD : ∀ (xs : List T3), PyData.canLayAll0 (xs.map tD) = true
  | [] => by simp [PyData.canLayAll0]
  | x :: xs => by
    simp only [List.map_cons, PyData.canLayAll0, PyData.canLay0, lay_tD xs, Bool.and_self]
theorem shaped_tD (xs : List T3) : SeqAt.shaped (.list (srt (xs.map tD))) = true := by
  rw [srt_tD]
  have h1 := depthA_le _ (tD_depth (xs := xs.mergeSort leT))
  have h2 : PyData.depth (.list ((xs.mergeSort leT).map tD)) ≤ 64 := by
    simp only [PyData.depth]
    omega
  show (PyData.canLay0 (.list ((xs.mergeSort leT).map tD)) && decide (PyData.depth (.list ((xs.mergeSort leT).map tD)) ≤ 64)) = true
  rw [Bool.and_eq_true]
  exact ⟨by simp only [PyData.canLay0]; exact lay_tD _, decide_eq_true h2⟩
theorem noLs_tD : ∀ xs : List T3, noLs (xs.map tD) = true
  | [] => rfl
  | x :: xs => by
    show (noL (tD x) && noLs (xs.map tD)) = true
    rw [noLs_tD xs]
    rfl
theorem rep_t {n m : Nat} : ∀ x ∈ List.replicate m ((0, 0) : LP), x.2 ≤ (n : Int) := fun x hx => by
  rw [List.eq_of_mem_replicate hx]
  exact Int.natCast_nonneg n

section

-- a condition of an operator
local macro_rules | `(tactic| walk_at "cond") => `(tactic| first
  | (show (0 : Int) < _; omega)
  | (show CDiv _ _; constructor <;> (first | decide | omega))
  | (show CMul _ _; first | (refine cmul_l ?_; constructor <;> (first | decide | omega)) | (refine cmul_r ?_; constructor <;> (first | decide | omega)))
  | (show CPow _ _; exact (by refine ⟨by decide, by decide, by decide⟩))
  | (show CDivW _ _; exact ⟨by decide, by decide +kernel⟩))
local macro_rules | `(tactic| walk_at "sq") => `(tactic| first | assumption | exact Dh.mono (same_upd (by assumption)) _ _ (by assumption) | exact .inl (.inl (.inl (by assumption))) | exact .inr (.inl (.inl (by assumption))) | exact SqL.of (by assumption) | exact .inl (by assumption) | exact .inl (SqL.of (by assumption)) | exact SqT.of (by assumption) | exact .inr (SqT.of (by assumption)))
local macro_rules | `(tactic| walk_at "st") => `(tactic| first
  | refine ⟨_, rfl, ?_⟩
  | refine ⟨_, _, rfl, rfl, ?_⟩
  | refine .inl ⟨_, rfl, ?_⟩
  | refine ⟨rfl, ?_⟩
  | refine ⟨_, _, rfl, by walk_at "sq", ?_⟩
  | refine ⟨.inl ⟨rfl, _, SqL.of (by assumption)⟩, ?_⟩
  | refine ⟨by walk_at "cond", ?_⟩
  | (refine' ifBT ?hh ?_; (case hh => first | rfl | assumption))
  | (refine' ifBF ?hh ?_; (case hh => first | rfl | assumption)))
local macro_rules | `(tactic| walk_at "go") => `(tactic| repeat walk_at "st")
local macro_rules | `(tactic| walk_at "yes") => `(tactic| (refine' ifT ?hh ?_; (case hh => first | rfl | decide +kernel)))
local macro_rules | `(tactic| walk_at "no") => `(tactic| (refine' ifF ?hh ?_; (case hh => first | decide +kernel | (intro z; cases z; done))))

local macro_rules | `(tactic| walk_at "st") => `(tactic| refine ⟨_, _, _, _, _, rfl, by assumption, by assumption, by omega, by omega, by omega, by omega, by omega, ?_⟩)
local macro_rules | `(tactic| walk_at "st") => `(tactic| refine ⟨_, _, _, _, _, rfl, Same.seq (by assumption) (by assumption), by assumption, by omega, by omega, by omega, by omega, by omega, ?_⟩)

/-! ### first_lie -/
abbrev s_first_lie : Stmt := topS 2
theorem sc_first_lie : FnScope ["places", "rows", "sweep", "remembered", "place", "at", "found_stamp", "found_time", "left_stamp", "told", "stamp", "time"] ["places", "rows", "sweep"] (C8.fnScope s_first_lie) := C8.fnScope_by (by decide +kernel)
structure TxtL (mg : Str → Option Value) : Prop extends Txt mg where
  enumerate : mg "enumerate" = none
  sorted : mg "sorted" = none
  min : mg "min" = none
def spFirst : Sp := fun vs H Q _ => ∃ (m : Nat) (a b : Addr) (R : List LR) (sw : List LP), vs = [.int m, .ref a, .ref b] ∧ Dh H (.list (R.map lrD)) (.ref a) ∧ Dh H (.list (swL 0 sw)) (.ref b) ∧ sw.length = m ∧ m ≤ 100 ∧ R.length ≤ 1000 ∧ (∀ r ∈ R, r.p < m) ∧
  ∀ H', Same H H' → Q (oN (lie m R sw)) H'
theorem DhAll.app {H : Hp} : ∀ {ds es : List PyData} {xs ys : List V}, DhAll H ds xs → DhAll H es ys → DhAll H (ds ++ es) (xs ++ ys)
  | [], _, _, _, h, k => by
    cases (show _ = [] from h)
    exact k
  | d :: ds, es, xs, ys, h, k => by
    obtain ⟨v, vs, rfl, h1, h2⟩ := h
    exact ⟨v, vs ++ ys, rfl, h1, DhAll.app h2 k⟩
theorem DhAll.set {H : Hp} : ∀ {ds : List PyData} {xs : List V} {i : Nat} {d : PyData} {x : V}, DhAll H ds xs → Dh H d x → DhAll H (ds.set i d) (xs.set i x)
  | [], xs, i, d, x, h, hx => by
    cases (show xs = [] from h)
    exact h
  | e :: ds, xs, 0, d, x, h, hx => by
    obtain ⟨v, vs, rfl, h1, h2⟩ := h
    exact ⟨x, vs, rfl, hx, h2⟩
  | e :: ds, xs, i + 1, d, x, h, hx => by
    obtain ⟨v, vs, rfl, h1, h2⟩ := h
    exact ⟨v, _, rfl, h1, DhAll.set h2 hx⟩
theorem noLs_it : ∀ (xs : List LP) (n : Nat), noLs (itL n xs) = true
  | [], _ => rfl
  | x :: xs, n => by
    show (noL (.tuple [.int (n : Int), lpD x]) && noLs (itL (n + 1) xs)) = true
    rw [noLs_it xs (n + 1)]
    rfl
theorem noLs_lp : ∀ xs : List LP, noLs (xs.map lpD) = true
  | [] => rfl
  | x :: xs => by
    show (noL (lpD x) && noLs (xs.map lpD)) = true
    rw [noLs_lp xs]
    rfl
section
variable {P : Program} {w : World} {K : PySem.W.Frag} {mg : Str → Option Value} {base : Heap}
theorem ok_first {f : Addr} {fd : FuncData} (D : Def K mg "first_lie" s_first_lie f fd) (b : Binds K fd ["places", "rows", "sweep"] []) (T : TxtL mg) : Cal P w K mg base 1 "first_lie" spFirst [] := by
  refine cal0 D b .nil sc_first_lie (fun vs H Q E h => ?_) (fun cdv A outer s H vs Q E hr h => ?_)
  · obtain ⟨m, a, b, R, sw, rfl, _⟩ := h
    rfl
  obtain ⟨m, a, b, R, sw, rfl, ⟨_, xs, e1, ga, hR⟩, ⟨_, us, e2, gb, hS⟩, hm, m1, lR, hp, q⟩ := h
  cases e1
  cases e2
  refine ⟨_, (pss_cons (ps_setDc (i := 3) (own := [("place", 4)]) (g := gName 4) (tt := tYes) rfl sc_first_lie.nd rfl rfl (sw_dict rfl rfl rfl (by decide +kernel)) (pi_range1 (by rfl) T.range (pa_cons (pv 0) pa_nil)) (blkOk_by (own := [("place", 4)]) (N := ["places", "rows", "sweep", "remembered", "place", "at", "found_stamp", "found_time", "left_stamp", "told", "stamp", "time"]) (sc := C8.fnScope s_first_lie) (by decide +kernel)) (fun _ _ _ _ _ => (pg_name (i := 4) sc_first_lie.nd rfl (.inl rfl))) (fun _ _ _ _ _ => pts_nil) (fun _ _ _ _ _ => (pv 4)) (fun _ _ _ _ _ => (pe_tup (pa_cons pe_int (pa_cons pe_int pa_nil)))))
      (pss_cons (ps_mk (ps_for PassesOwn.never rfl (pi_enum (by rfl) T.enumerate (pa_cons (pv 1) pa_nil)) (pg_tup rfl (pgs_cons (pg_name (i := 5) sc_first_lie.nd rfl (.inl rfl)) (pgs_cons (pg_tup rfl (pgs_cons (pg_name (i := 4) sc_first_lie.nd rfl (.inl rfl)) (pgs_cons (pg_name (i := 6) sc_first_lie.nd rfl (.inl rfl)) (pgs_cons (pg_name (i := 7) sc_first_lie.nd rfl (.inl rfl)) (pgs_cons (pg_name (i := 8) sc_first_lie.nd rfl (.inl rfl)) pgs_nil))))) pgs_nil)))
      (pss_cons (ps_mk (ps_if (pt_cmpR (neQ K rfl hr.units) (pe_dget1 (hu_of hr) (pv 3) (pv 4) ⟨rfl, rfl, rfl, rfl⟩) (pe_tup (pa_cons (pv 6) (pa_cons (pv 7) pa_nil))) (nomark _))
      (pss_one (ps_ret (pv 5)))
      pss_nil))
      (pss_one (ps_dput (hu_of hr) (pv 3) (pv 4) (pe_tup (pa_cons (pv 8) (pa_cons (pe_op op_add (pv 5) pe_int) pa_nil))) rfl)))))
      (pss_cons (ps_set (i := 9) sc_first_lie.nd rfl (.inl rfl) (pe_callB (sortedQ K rfl hr.units) (by rfl) T.sorted (by decide +kernel) (pa_cons (pe_lc (own := [("place", 4), ("stamp", 10), ("time", 11)]) (g := gTup K 3 (gCons (gName 4) (gCons (gName 10) (gCons (gName 11) gNil)))) (tt := tYes) rfl sc_first_lie.nd (pi_list (pv 2)) (blkOk_by (own := [("place", 4), ("stamp", 10), ("time", 11)]) (N := ["places", "rows", "sweep", "remembered", "place", "at", "found_stamp", "found_time", "left_stamp", "told", "stamp", "time"]) (sc := C8.fnScope s_first_lie) (by decide +kernel)) (fun _ _ _ _ _ => (pg_tup rfl (pgs_cons (pg_name (i := 4) sc_first_lie.nd rfl (.inl rfl)) (pgs_cons (pg_name (i := 10) sc_first_lie.nd rfl (.inl rfl)) (pgs_cons (pg_name (i := 11) sc_first_lie.nd rfl (.inl rfl)) pgs_nil))))) (fun _ _ _ _ _ => pts_nil) (fun _ _ _ _ _ => (pe_tup (pa_cons (pv 4) (pa_cons (pe_tup (pa_cons (pv 10) (pa_cons (pv 11) pa_nil))) pa_nil))))) pa_nil)))
      (pss_one (ps_ret (pe_ifExp (pt_cmpR (eqQ K rfl hr.units) (pv 9) (pe_callB (cr_sortedIt rfl hr.units) (by rfl) T.sorted (by decide +kernel) (pa_cons (pe_bm0 PySem.F.plainAttrs_dict PySem.F.slot_dict_items PySem.F.type_dict_items mt_itemsK (pv 3)) pa_nil)) (nomark _)) pe_non (pe_callB (lenQ K rfl) (by rfl) T.len PySem.boot_len (pa_cons (pv 1) pa_nil)))))))), ?_⟩
  walk_at "go"
  refine ⟨by omega, by omega, fun D0 nD => dc_range (lo := 0) (n := m) (fun j H' => Ob (Same H H' ∧ ∃ vs, H' D0 = some (.dK (mkD 0 vs)) ∧ DhAll H' ((List.replicate j ((0, 0) : LP)).map lpD) vs)) (ob ⟨same_upd nD, [], upd_same, rfl⟩) ?_ ?_⟩
  · intro j H1 hj h
    obtain ⟨s1, vs, g1, d1⟩ := unob h
    have lv := d1.len
    rw [List.length_map, List.length_replicate] at lv
    refine ⟨rfl, ?_⟩
    walk_at "go"
    refine ⟨sz, fun t nt => ?_⟩
    have s2 := same_upd (o := HO.tup [V.int 0, V.int 0]) nt
    refine ⟨mkD 0 vs, Sum.inl (0 + (j : Int)), rfl, s2 _ _ g1, sz5 (by rw [mkD_len]; omega), ob ⟨same_put (s1.trans s2) nD, vs ++ [.ref t], ?_, ?_⟩⟩
    · rw [upd_same, show (0 : Int) + (j : Int) = ((0 + vs.length : Nat) : Int) by omega, putK_end]
    · rw [List.replicate_succ', List.map_append]
      refine DhAll.snoc (DhAll.tups (fun b us e => ?_) _ _ (noLs_lp _) (DhAll.mono s2 _ _ d1)) ⟨t, _, rfl, ?_, _, _, rfl, rfl, _, _, rfl, rfl, rfl⟩
      · rw [upd_ne (fun z => by rw [z, s2 _ _ g1] at e; cases e)]
        exact e
      · rw [upd_ne (ne_of_none g1 nt).symm]
        exact upd_same
  intro H1 h
  obtain ⟨s1, vs0, gD, dv⟩ := unob h
  clear h
  try dsimp only
  refine jnS (M := fun σ H' => ∃ last vs y4 y5 y6 y7 y8, Same H H' ∧ H' D0 = some (.dK (mkD 0 vs)) ∧ DhAll H' (last.map lpD) vs ∧ last.length = m ∧ lie m R sw = lieF R.length last [] sw ∧ σ = [sI m, sR a, sR b, sR D0, y4, y5, y6, y7, y8, none, none, none]) ?_ (fun N kk => ?_)
  rotate_left
  · have ga1 := s1 _ _ ga
    walk_at "go"
    refine for_it (walk_enum (K := K) (a := a) (xs := xs)) (fun i σ H' => Ob (∃ last vs y4 y5 y6 y7 y8, Same H H' ∧ H' D0 = some (.dK (mkD 0 vs)) ∧ DhAll H' (last.map lpD) vs ∧ last.length = m ∧ lie m R sw = lieF i last (R.drop i) sw ∧ σ = [sI m, sR a, sR b, sR D0, y4, y5, y6, y7, y8, none, none, none])) (ob ⟨_, vs0, none, none, none, none, none, s1, gD, dv, List.length_replicate, rfl, rfl⟩) (fun i σ H' _ h => ?_) ?_ ?_
    · obtain ⟨_, _, _, _, _, _, _, s2, _⟩ := unob h
      exact SqL.of (s2 _ _ ga)
    · intro i x σ H2 H3 hi h hy
      obtain ⟨TT, x1, x2, rfl, nT, rfl, e1, e2⟩ := hy
      cases e1
      obtain ⟨last, vs, y4, y5, y6, y7, y8, s2, g2, d2, l2, el, rfl⟩ := unob h
      clear h kk
      have lx := hR.len
      rw [List.length_map] at lx
      have hil : i < R.length := by
        rw [← lx]
        exact hi
      obtain ⟨vt, et, dt⟩ := hR.get (i := i) (d := lrD R[i]) (by rw [List.getElem?_map, List.getElem?_eq_getElem hil]; rfl)
      have e2' : xs[i]? = some x2 := e2
      rw [e2'] at et
      obtain rfl := Option.some.inj et
      have hpi := hp _ (List.getElem_mem hil)
      rw [List.drop_eq_getElem_cons hil] at el
      have dt := Dh.mono s2 _ _ dt
      generalize R[i] = r at *
      obtain ⟨ta, ts, rfl, gt, u1, r1, rfl, f1, u2, r2, rfl, f2, u3, r3, rfl, f3, u4, r4, rfl, f4, f5⟩ := dt
      cases (show u1 = _ from f1)
      cases (show u2 = _ from f2)
      cases (show u3 = _ from f3)
      cases (show u4 = _ from f4)
      cases (show r4 = _ from f5)
      have s3 := same_upd (o := HO.tup [V.int (i : Nat), V.ref ta]) nT
      have gT := upd_same (H := H2) (a := TT) (o := HO.tup [V.int (i : Nat), V.ref ta])
      have gt := s3 _ _ gt
      have g2 := s3 _ _ g2
      have d2 := DhAll.mono s3 _ _ d2
      have s2 := s2.trans s3
      generalize upd H2 TT (HO.tup [V.int (i : Nat), V.ref ta]) = H3 at *
      clear s3 nT e2 e2' et hi
      refine ⟨TT, _, rfl, SqT.of gT, rfl, ?_⟩
      refine ⟨_, _, rfl, ?_⟩
      refine ⟨_, _, rfl, ?_⟩
      refine ⟨ta, _, rfl, SqT.of gt, rfl, ?_⟩
      refine ⟨_, _, rfl, ?_⟩
      refine ⟨_, _, rfl, ?_⟩
      refine ⟨_, _, rfl, ?_⟩
      refine ⟨_, _, rfl, ?_⟩
      have lv := d2.len
      rw [List.length_map] at lv
      obtain ⟨v, ev, dv1⟩ := d2.get (i := r.p) (d := lpD (last.getD r.p (0, 0))) (by rw [List.getElem?_map, List.getElem?_eq_getElem (by omega), List.getD_eq_getElem?_getD, List.getElem?_eq_getElem (by omega)]; rfl)
      have evK : some v = valV (mkD 0 vs) (Sum.inl (r.p : Int)) := by
        have z := valV_mkD vs 0 r.p
        rw [Nat.zero_add] at z
        rw [z, ev]
      walk_at "go"
      refine un ?_
      refine ⟨_, rfl, ?_⟩
      refine ⟨D0, rfl, .inl ⟨_, .inl g2⟩, ?_⟩
      refine ⟨_, rfl, some v, by rw [evK]; exact DGet.k (k := Sum.inl (r.p : Int)) g2, ?_⟩
      walk_at "go"
      refine ⟨sz, fun t nt => ?_⟩
      have s4 := same_upd (o := HO.tup [V.int r.s, V.int r.t]) nt
      have gt4 := upd_same (H := H3) (a := t) (o := HO.tup [V.int r.s, V.int r.t])
      have g4 := s4 _ _ g2
      have d4 := DhAll.mono s4 _ _ d2
      have dv4 := Dh.mono s4 _ _ dv1
      have s24 := s2.trans s4
      refine ⟨lpD (last.getD r.p (0, 0)), lpD (r.s, r.t), Dh.dp _ _ dv4, Dh.dp _ _ ⟨t, _, rfl, gt4, _, _, rfl, rfl, _, _, rfl, rfl, rfl⟩, shaped_lp _, shaped_lp _, ?_⟩
      generalize upd H3 t (HO.tup [V.int r.s, V.int r.t]) = H4 at *
      rw [eqv_lp]
      walk_at "go"
      refine ifN ?_
      refine ifD (fun c => ?_) (fun c => ?_)
      · walk_at "go"
        refine ⟨sz, fun t2 nt2 => ?_⟩
        have s5 := same_upd (o := HO.tup [V.int r.l, V.int ((i : Int) + 1)]) nt2
        have g5 := upd_same (H := H4) (a := t2) (o := HO.tup [V.int r.l, V.int ((i : Int) + 1)])
        have d5 := DhAll.mono s5 _ _ d4
        have s25 := s24.trans s5
        refine ⟨_, rfl, ?_⟩
        refine ⟨_, rfl, ?_⟩
        refine ⟨D0, _, rfl, DPut.k (k := Sum.inl (r.p : Int)) (s5 _ _ g4) (sz5 (by rw [mkD_len]; omega)), ?_⟩
        have ep : putK (mkD 0 vs) (Sum.inl (r.p : Int)) (V.ref t2) = mkD 0 (vs.set r.p (.ref t2)) := by
          have z := putK_mkD (n := 0) (p := r.p) (V.ref t2) (by omega : r.p < vs.length)
          rw [Nat.zero_add] at z
          exact z
        rw [ep]
        have ntD : t2 ≠ D0 := (ne_of_none g4 nt2).symm
        have kt : ∀ b us, upd H4 t2 (HO.tup [V.int r.l, V.int ((i : Int) + 1)]) b = some (.tup us) → upd (upd H4 t2 (HO.tup [V.int r.l, V.int ((i : Int) + 1)])) D0 (.dK (mkD 0 (vs.set r.p (.ref t2)))) b = some (.tup us) := fun b us e => by
          rw [upd_ne (fun z => by rw [z, s5 _ _ g4] at e; cases e)]
          exact e
        refine ob ⟨last.set r.p (r.l, (i : Int) + 1), vs.set r.p (.ref t2), _, _, _, _, _, same_put s25 nD, upd_same, ?_, by rw [List.length_set]; exact l2, ?_, rfl⟩
        · rw [List.map_set]
          exact DhAll.set (DhAll.tups kt _ _ (noLs_lp _) d5) ⟨t2, _, rfl, kt _ _ g5, _, _, rfl, rfl, _, _, rfl, rfl, rfl⟩
        · rw [el, lieF, if_pos c.symm]
      · walk_at "go"
        have e : lie m R sw = some i := by rw [el, lieF, if_neg fun z => c z.symm]
        rw [e] at q
        exact q _ s24
    · intro σ H2 h
      obtain ⟨last, vs, y4, y5, y6, y7, y8, s2, g2, d2, l2, el, rfl⟩ := unob h
      have lx := hR.len
      rw [List.length_map] at lx
      rw [lx, List.drop_length] at el
      exact kk _ _ ⟨last, vs, y4, y5, y6, y7, y8, s2, g2, d2, l2, el, rfl⟩
  rintro σ H2 ⟨last, vs, y4, y5, y6, y7, y8, s2, g2, d2, l2, el, rfl⟩
  have gb2 := s2 _ _ gb
  walk_at "go"
  refine ⟨⟨_, SqL.of gb2⟩, fun N1 nN => lc_list (K := K) (a := b) (xs := us) (fun i H' => Ob (Same H2 H' ∧ ∃ ys, H' N1 = some (.lst ys) ∧ DhAll H' (itL 0 (sw.take i)) ys)) (ob ⟨same_upd nN, [], upd_same, rfl⟩) (fun i H' _ h => SqL.of ((unob h).1 _ _ gb2)) ?_ ?_⟩
  · intro i v H3 hi h
    obtain ⟨s3, ys, g3, d3⟩ := unob h
    clear h
    have lu := hS.len
    rw [swL_len] at lu
    have hil : i < sw.length := by
      rw [← lu]
      exact (List.getElem?_eq_some_iff.mp hi).1
    obtain ⟨vt, et, dt⟩ := hS.get (i := i) (d := swD i sw[i]) (by rw [swL_get, List.getElem?_eq_getElem hil, Nat.zero_add]; rfl)
    rw [hi] at et
    obtain rfl := Option.some.inj et
    have dt := Dh.mono (s2.trans s3) _ _ dt
    have ek : itL 0 (sw.take (i + 1)) = itL 0 (sw.take i) ++ [.tuple [.int (i : Int), lpD sw[i]]] := by
      rw [List.take_add_one, List.getElem?_eq_getElem hil]
      show itL 0 (sw.take i ++ [sw[i]]) = _
      rw [itL_snoc, List.length_take, Nat.min_eq_left (by omega), Nat.zero_add]
    have ly := d3.len
    rw [itL_len, List.length_take] at ly
    rw [ek]
    generalize sw[i] = x at *
    obtain ⟨ta, ts, rfl, gt, u1, r1, rfl, f1, u2, r2, rfl, f2, u3, r3, rfl, f3, f4⟩ := dt
    cases (show u1 = _ from f1)
    cases (show u2 = _ from f2)
    cases (show u3 = _ from f3)
    cases (show r3 = _ from f4)
    clear el s2 hi et ek
    refine ⟨ta, _, rfl, SqT.of gt, rfl, ?_⟩
    refine ⟨_, _, rfl, ?_⟩
    refine ⟨_, _, rfl, ?_⟩
    refine ⟨_, _, rfl, ?_⟩
    refine ⟨rfl, ?_⟩
    walk_at "go"
    refine ⟨sz, fun t nt => ?_⟩
    have s4 := same_upd (o := HO.tup [V.int x.1, V.int x.2]) nt
    have gt4 := upd_same (H := H3) (a := t) (o := HO.tup [V.int x.1, V.int x.2])
    have s34 := s3.trans s4
    have g4 := s4 _ _ g3
    have d4 := DhAll.mono s4 _ _ d3
    generalize upd H3 t (HO.tup [V.int x.1, V.int x.2]) = H4 at *
    refine ⟨sz, fun t2 nt2 => ?_⟩
    have s5 := same_upd (o := HO.tup [V.int (i : Nat), V.ref t]) nt2
    have gt5 := upd_same (H := H4) (a := t2) (o := HO.tup [V.int (i : Nat), V.ref t])
    have s35 := s34.trans s5
    have g5 := s5 _ _ g4
    have gt4 := s5 _ _ gt4
    have d5 := DhAll.mono s5 _ _ d4
    generalize upd H4 t2 (HO.tup [V.int (i : Nat), V.ref t]) = H5 at *
    have kt : ∀ b us, H5 b = some (.tup us) → upd H5 N1 (.lst (ys ++ [.ref t2])) b = some (.tup us) := fun b us e => by
      rw [upd_ne (fun z => by rw [z, g5] at e; cases e)]
      exact e
    refine ⟨ys, g5, sz5 (by omega), ob ⟨same_put s35 nN, ys ++ [.ref t2], upd_same, ?_⟩⟩
    exact DhAll.snoc (DhAll.tups kt _ _ (noLs_it _ _) d5) ⟨t2, _, rfl, kt _ _ gt5, _, _, rfl, rfl, _, _, rfl, ⟨t, _, rfl, kt _ _ gt4, _, _, rfl, rfl, _, _, rfl, rfl, rfl⟩, rfl⟩
  intro H3 h
  obtain ⟨s3, ys, g3, d3⟩ := unob h
  rw [show us.length = sw.length by rw [hS.len, swL_len], List.take_length] at d3
  clear h
  have g2 := s3 _ _ g2
  have d2 := DhAll.mono s3 _ _ d2
  have s2 := s2.trans s3
  clear s3
  try dsimp only
  refine ⟨N1, ys, itL 0 sw, rfl, SqL.of g3, d3, itL_alike, .inl (fun d hd => ?_), fun d hd => Nat.le_trans (itL_depth d hd) (by decide), fun zs N2 dz nN2 => ?_⟩
  · obtain ⟨k, x, _, rfl⟩ := itL_mem hd
    exact ⟨_, _, rfl⟩
  rw [srt_itL] at dz
  have s4 := same_upd (o := HO.lst zs) nN2
  have gN2 := upd_same (H := H3) (a := N2) (o := HO.lst zs)
  have g4 := s4 _ _ g2
  have d4 := DhAll.mono s4 _ _ d2
  have dz := DhAll.mono s4 _ _ dz
  have s24 := s2.trans s4
  generalize upd H3 N2 (HO.lst zs) = H4 at *
  clear d2 g2 s2 s4 d3 g3 nN2
  walk_at "go"
  refine ⟨.inr (.inr (.inl ⟨rfl, .inl ⟨_, g4⟩⟩)), ?_⟩
  refine ⟨D0, _, rfl, rfl, g4, fun p np => ?_⟩
  have s5 := same_upd (o := L2.DX.itemsO p D0) np
  have gp := upd_same (H := H4) (a := p) (o := L2.DX.itemsO p D0)
  have s25 := s24.trans s5
  have g5 := s5 _ _ g4
  have gN5 := s5 _ _ gN2
  have dz5 := DhAll.mono s5 _ _ dz
  have d5 := DhAll.mono s5 _ _ d4
  generalize upd H4 p (L2.DX.itemsO p D0) = H5 at *
  have lv := d5.len
  rw [List.length_map] at lv
  refine ⟨p, D0, mkD 0 vs, last.map lpD, rfl, gp, g5, by rw [mkD_vals]; exact d5, by rw [zip_itD _ _ _ lv]; exact itL_alike, fun d hd => ?_, fun H6 l ws s6 nl gl dl => ?_⟩
  · obtain ⟨x, _, rfl⟩ := List.mem_map.mp hd
    simp [PyData.depth, PyData.depthAll]
  rw [zip_itD _ _ _ lv, srt_itL] at dl
  refine ⟨.list (itL 0 sw), .list (itL 0 last), Dh.dp _ _ ⟨N2, _, rfl, s6 _ _ gN5, DhAll.mono s6 _ _ dz5⟩, Dh.dp _ _ ⟨l, _, rfl, gl, dl⟩, shaped_itL _ _, shaped_itL _ _, ?_⟩
  rw [eqv_itL]
  have s26 := s25.trans s6
  walk_at "go"
  refine ifD (fun c => ?_) (fun c => ?_)
  · have e : lie m R sw = none := by rw [el, lieF, if_pos c]
    rw [e] at q
    exact q _ s26
  · have e : lie m R sw = some R.length := by rw [el, lieF, if_neg c]
    have ga6 := s26 _ _ ga
    have lx := hR.len
    rw [List.length_map] at lx
    walk_at "go"
    rw [lx]
    rw [e] at q
    exact q _ s26
end

end

section

-- a condition of an operator
local macro_rules | `(tactic| walk_at "cond") => `(tactic| first
  | (show (0 : Int) < _; omega)
  | (show CDiv _ _; constructor <;> (first | decide | omega))
  | (show CMul _ _; first | (refine cmul_l ?_; constructor <;> (first | decide | omega)) | (refine cmul_r ?_; constructor <;> (first | decide | omega)))
  | (show CPow _ _; exact (by refine ⟨by decide, by decide, by decide⟩))
  | (show CDivW _ _; exact ⟨by decide, by decide +kernel⟩))
local macro_rules | `(tactic| walk_at "sq") => `(tactic| first | assumption | exact Dh.mono (same_upd (by assumption)) _ _ (by assumption) | exact .inl (.inl (.inl (by assumption))) | exact .inr (.inl (.inl (by assumption))) | exact SqL.of (by assumption) | exact .inl (by assumption) | exact .inl (SqL.of (by assumption)) | exact SqT.of (by assumption) | exact .inr (SqT.of (by assumption)))
local macro_rules | `(tactic| walk_at "st") => `(tactic| first
  | refine ⟨_, rfl, ?_⟩
  | refine ⟨_, _, rfl, rfl, ?_⟩
  | refine .inl ⟨_, rfl, ?_⟩
  | refine ⟨rfl, ?_⟩
  | refine ⟨_, _, rfl, by walk_at "sq", ?_⟩
  | refine ⟨.inl ⟨rfl, _, SqL.of (by assumption)⟩, ?_⟩
  | refine ⟨by walk_at "cond", ?_⟩
  | (refine' ifBT ?hh ?_; (case hh => first | rfl | assumption))
  | (refine' ifBF ?hh ?_; (case hh => first | rfl | assumption)))
local macro_rules | `(tactic| walk_at "go") => `(tactic| repeat walk_at "st")
local macro_rules | `(tactic| walk_at "yes") => `(tactic| (refine' ifT ?hh ?_; (case hh => first | rfl | decide +kernel)))
local macro_rules | `(tactic| walk_at "no") => `(tactic| (refine' ifF ?hh ?_; (case hh => first | decide +kernel | (intro z; cases z; done))))

local macro_rules | `(tactic| walk_at "st") => `(tactic| refine ⟨_, _, _, _, _, rfl, by assumption, by assumption, by omega, by omega, by omega, by omega, by omega, ?_⟩)
local macro_rules | `(tactic| walk_at "st") => `(tactic| refine ⟨_, _, _, _, _, rfl, Same.seq (by assumption) (by assumption), by assumption, by omega, by omega, by omega, by omega, by omega, ?_⟩)

/-! ### the law's own reading -/
abbrev s_ledger_lie : Stmt := topS 11
theorem sc_ledger_lie : FnScope ["_law_many", "_law_rows", "_law_sweep", "_law_last", "_law_k", "_law_at", "_law_row"] ["_law_many", "_law_rows", "_law_sweep"] (C8.fnScope s_ledger_lie) := C8.fnScope_by (by decide +kernel)
theorem ix_at {n p : Nat} (h : p < n) : ixN n (p : Int) = some p := by
  unfold ixN
  rw [if_pos (by omega), if_pos (by omega), Int.toNat_natCast]
/-- a tuple of two ints that stands -/
theorem dh_lp {H : Hp} {t : Addr} {x y : Int} (g : H t = some (.tup [.int x, .int y])) : Dh H (lpD (x, y)) (.ref t) := ⟨t, _, rfl, g, _, _, rfl, rfl, _, _, rfl, rfl, rfl⟩
theorem lpAll_put {H : Hp} {L : Addr} {xs ys : List V} {ls : List LP} (g : H L = some (.lst xs)) (h : DhAll H (ls.map lpD) ys) : DhAll (upd H L (.lst ys)) (ls.map lpD) ys :=
  DhAll.tups (fun b us e => by
    rw [upd_ne (fun z => by rw [z, g] at e; cases e)]
    exact e) _ _ (noLs_lp _) h
theorem dh_rep {H : Hp} {n : Nat} {vs : List V} {t : Addr} (h : DhAll H ((List.replicate n ((0, 0) : LP)).map lpD) vs) (g : H t = some (.tup [.int 0, .int 0])) : DhAll H ((List.replicate (n + 1) ((0, 0) : LP)).map lpD) (vs ++ [.ref t]) := by
  rw [List.replicate_succ', List.map_append]
  exact DhAll.snoc h (dh_lp g)
section
variable {P : Program} {w : World} {K : PySem.W.Frag} {mg : Str → Option Value} {base : Heap}
theorem ok_lie {f : Addr} {fd : FuncData} (D : Def K mg "_law_ledger_lie" s_ledger_lie f fd) (b : Binds K fd ["_law_many", "_law_rows", "_law_sweep"] []) (T : Txt mg) : Cal P w K mg base 1 "_law_ledger_lie" spFirst [] := by
  refine cal0 D b .nil sc_ledger_lie (fun vs H Q E h => ?_) (fun cdv A outer s H vs Q E hr h => ?_)
  · obtain ⟨m, a, b, R, sw, rfl, _⟩ := h
    rfl
  obtain ⟨m, a, b, R, sw, rfl, ⟨_, xs, e1, ga, hR⟩, ⟨_, us, e2, gb, hS⟩, hm, m1, lR, hp, q⟩ := h
  cases e1
  cases e2
  have lx := hR.len
  rw [List.length_map] at lx
  have lu := hS.len
  rw [swL_len] at lu
  refine ⟨_, (pss_cons (ps_setLc (i := 3) (own := [("_law_k", 4)]) (g := gName 4) (tt := tYes) rfl sc_ledger_lie.nd rfl rfl (sw_true rfl rfl rfl (by decide +kernel)) (pi_range1 (by rfl) T.range (pa_cons (pv 0) pa_nil)) (blkOk_by (own := [("_law_k", 4)]) (N := ["_law_many", "_law_rows", "_law_sweep", "_law_last", "_law_k", "_law_at", "_law_row"]) (sc := C8.fnScope s_ledger_lie) (by decide +kernel)) (fun _ _ _ _ _ => (pg_name (i := 4) sc_ledger_lie.nd rfl (.inl rfl))) (fun _ _ _ _ _ => pts_nil) (fun _ _ _ _ _ => (pe_tup (pa_cons pe_int (pa_cons pe_int pa_nil)))))
      (pss_cons (ps_mk (ps_for PassesOwn.never rfl (pi_range1 (by rfl) T.range (pa_cons (pe_callB (lenQ K rfl) (by rfl) T.len PySem.boot_len (pa_cons (pv 1) pa_nil)) pa_nil)) (pg_name (i := 5) sc_ledger_lie.nd rfl (.inl rfl))
      (pss_cons (ps_set (i := 6) sc_ledger_lie.nd rfl (.inl rfl) (pe_ix (ixL K rfl) (pv 1) (pv 5) (fun _ _ => rfl)))
      (pss_cons (ps_mk (ps_if (pt_cmpR (neQ K rfl hr.units) (pe_tup (pa_cons (pe_ix (ixT K rfl) (pv 6) pe_int (fun _ _ => rfl)) (pa_cons (pe_ix (ixT K rfl) (pv 6) pe_int (fun _ _ => rfl)) pa_nil))) (pe_ix (ixL K rfl) (pv 3) (pe_ix (ixT K rfl) (pv 6) pe_int (fun _ _ => rfl)) (fun _ _ => rfl)) (nomark _))
      (pss_one (ps_ret (pv 5)))
      pss_nil))
      (pss_one (ps_asg (pe_tup (pa_cons (pe_ix (ixT K rfl) (pv 6) pe_int (fun _ _ => rfl)) (pa_cons (pe_op op_add (pv 5) pe_int) pa_nil))) (pg_sub (pv 3) (pe_ix (ixT K rfl) (pv 6) pe_int (fun _ _ => rfl)) set_list)))))))
      (pss_cons (ps_mk (ps_for PassesOwn.never rfl (pi_range1 (by rfl) T.range (pa_cons (pv 0) pa_nil)) (pg_name (i := 4) sc_ledger_lie.nd rfl (.inl rfl))
      (pss_one (ps_mk (ps_if (pt_cmpR (neQ K rfl hr.units) (pe_tup (pa_cons (pe_ix (ixT K rfl) (pe_ix (ixL K rfl) (pv 2) (pv 4) (fun _ _ => rfl)) pe_int (fun _ _ => rfl)) (pa_cons (pe_ix (ixT K rfl) (pe_ix (ixL K rfl) (pv 2) (pv 4) (fun _ _ => rfl)) pe_int (fun _ _ => rfl)) pa_nil))) (pe_ix (ixL K rfl) (pv 3) (pv 4) (fun _ _ => rfl)) (nomark _))
      (pss_one (ps_ret (pe_callB (lenQ K rfl) (by rfl) T.len PySem.boot_len (pa_cons (pv 1) pa_nil))))
      pss_nil)))))
      (pss_one (ps_ret pe_non))))), ?_⟩
  walk_at "go"
  refine ⟨by omega, by omega, fun L nL => lc_range (lo := 0) (n := m) (fun j H' => Ob (Same H H' ∧ ∃ vs, H' L = some (.lst vs) ∧ DhAll H' ((List.replicate j ((0, 0) : LP)).map lpD) vs)) (ob ⟨same_upd nL, [], upd_same, rfl⟩) ?_ ?_⟩
  · intro j H1 hj h
    obtain ⟨s1, vs, g1, d1⟩ := unob h
    have lv := d1.len
    rw [List.length_map, List.length_replicate] at lv
    refine ⟨rfl, ?_⟩
    walk_at "go"
    refine ⟨sz, fun t nt => ?_⟩
    have s2 := same_upd (o := HO.tup [V.int 0, V.int 0]) nt
    refine ⟨vs, s2 _ _ g1, sz5 (by omega), ob ⟨same_put (s1.trans s2) nL, vs ++ [.ref t], upd_same, ?_⟩⟩
    exact lpAll_put (s2 _ _ g1) (dh_rep (DhAll.mono s2 _ _ d1) upd_same)
  intro H1 h
  obtain ⟨s1, vs0, gL, dv⟩ := unob h
  clear h
  try dsimp only
  refine jnS (M := fun σ H' => ∃ last vs y4 y5 y6, Same H H' ∧ H' L = some (.lst vs) ∧ DhAll H' (last.map lpD) vs ∧ last.length = m ∧ lie m R sw = lieF R.length last [] sw ∧ σ = [sI m, sR a, sR b, sR L, y4, y5, y6]) ?_ (fun N kk => ?_)
  rotate_left
  · have ga1 := s1 _ _ ga
    walk_at "go"
    rw [lx]
    refine ⟨by omega, by omega, for_range (lo := 0) (n := R.length) (fun i σ H' => Ob (∃ last vs y4 y5 y6, Same H H' ∧ H' L = some (.lst vs) ∧ DhAll H' (last.map lpD) vs ∧ last.length = m ∧ lie m R sw = lieF i last (R.drop i) sw ∧ σ = [sI m, sR a, sR b, sR L, y4, y5, y6])) (ob ⟨_, vs0, none, none, none, s1, gL, dv, List.length_replicate, rfl, rfl⟩) ?_ ?_⟩
    · intro i σ H2 hil h
      obtain ⟨last, vs, y4, y5, y6, s2, g2, d2, l2, el, rfl⟩ := unob h
      clear h kk
      have ga2 := s2 _ _ ga
      obtain ⟨vt, et, dt⟩ := hR.get (i := i) (d := lrD R[i]) (by rw [List.getElem?_map, List.getElem?_eq_getElem hil]; rfl)
      have hpi := hp _ (List.getElem_mem hil)
      rw [List.drop_eq_getElem_cons hil] at el
      have dt := Dh.mono s2 _ _ dt
      generalize R[i] = r at *
      obtain ⟨ta, ts, rfl, gt, u1, r1, rfl, f1, u2, r2, rfl, f2, u3, r3, rfl, f3, u4, r4, rfl, f4, f5⟩ := dt
      cases (show u1 = _ from f1)
      cases (show u2 = _ from f2)
      cases (show u3 = _ from f3)
      cases (show u4 = _ from f4)
      cases (show r4 = _ from f5)
      have lv := d2.len
      rw [List.length_map] at lv
      obtain ⟨v, ev, dv1⟩ := d2.get (i := r.p) (d := lpD (last.getD r.p (0, 0))) (by rw [List.getElem?_map, List.getElem?_eq_getElem (by omega), List.getD_eq_getElem?_getD, List.getElem?_eq_getElem (by omega)]; rfl)
      rw [Int.zero_add]
      walk_at "go"
      refine ⟨a, _, _, _, rfl, rfl, SqL.of ga2, atI_nat et, ?_⟩
      walk_at "go"
      refine un ?_
      walk_at "go"
      refine ⟨ta, _, _, _, rfl, rfl, SqT.of gt, rfl, ?_⟩
      walk_at "go"
      refine ⟨ta, _, _, _, rfl, rfl, SqT.of gt, rfl, ?_⟩
      refine ⟨sz, fun t nt => ?_⟩
      have s4 := same_upd (o := HO.tup [V.int r.s, V.int r.t]) nt
      have gt4 := upd_same (H := H2) (a := t) (o := HO.tup [V.int r.s, V.int r.t])
      have g4 := s4 _ _ g2
      have gta := s4 _ _ gt
      have d4 := DhAll.mono s4 _ _ d2
      have dv4 := Dh.mono s4 _ _ dv1
      have s24 := s2.trans s4
      have dt4 := dh_lp gt4
      generalize upd H2 t (HO.tup [V.int r.s, V.int r.t]) = H4 at *
      walk_at "go"
      refine ⟨ta, _, _, _, rfl, rfl, SqT.of gta, rfl, ?_⟩
      refine ⟨L, _, _, _, rfl, rfl, SqL.of g4, atI_nat ev, ?_⟩
      refine ⟨lpD (r.s, r.t), lpD (last.getD r.p (0, 0)), Dh.dp _ _ dt4, Dh.dp _ _ dv4, shaped_lp _, shaped_lp _, ?_⟩
      rw [eqv_lp]
      walk_at "go"
      refine ifN ?_
      refine ifD (fun c => ?_) (fun c => ?_)
      · walk_at "go"
        refine ⟨ta, _, _, _, rfl, rfl, SqT.of gta, rfl, ?_⟩
        walk_at "go"
        refine ⟨sz, fun t2 nt2 => ?_⟩
        have s5 := same_upd (o := HO.tup [V.int r.l, V.int ((i : Int) + 1)]) nt2
        have g5 := upd_same (H := H4) (a := t2) (o := HO.tup [V.int r.l, V.int ((i : Int) + 1)])
        have d5 := DhAll.mono s5 _ _ d4
        have s25 := s24.trans s5
        have g45 := s5 _ _ g4
        have gta := s5 _ _ gta
        generalize upd H4 t2 (HO.tup [V.int r.l, V.int ((i : Int) + 1)]) = H5 at *
        walk_at "go"
        refine ⟨ta, _, _, _, rfl, rfl, SqT.of gta, rfl, ?_⟩
        refine ⟨L, _, _, r.p, rfl, rfl, g45, ix_at (by omega), ?_⟩
        refine ob ⟨last.set r.p (r.l, (i : Int) + 1), vs.set r.p (.ref t2), _, _, _, same_put s25 nL, upd_same, ?_, by rw [List.length_set]; exact l2, ?_, rfl⟩
        · have z := DhAll.set (i := r.p) d5 (dh_lp g5)
          rw [← List.map_set] at z
          exact lpAll_put g45 z
        · rw [el, lieF, if_pos c]
      · walk_at "go"
        have e : lie m R sw = some i := by rw [el, lieF, if_neg c]
        rw [e] at q
        exact q _ s24
    · intro σ H2 h
      obtain ⟨last, vs, y4, y5, y6, s2, g2, d2, l2, el, rfl⟩ := unob h
      rw [List.drop_length] at el
      exact kk _ _ ⟨last, vs, y4, y5, y6, s2, g2, d2, l2, el, rfl⟩
  rintro σ H2 ⟨last, vs, y4, y5, y6, s2, g2, d2, l2, el, rfl⟩
  walk_at "go"
  refine jnS (M := fun σ H' => ∃ y4 y5 y6, Same H2 H' ∧ sw = last ∧ σ = [sI m, sR a, sR b, sR L, y4, y5, y6]) ?_ (fun N kk => ?_)
  · rintro σ H3 ⟨y4, y5, y6, s3, c, rfl⟩
    have e : lie m R sw = none := by rw [el, lieF, if_pos c]
    rw [e] at q
    walk_at "go"
    exact q _ (s2.trans s3)
  have ga2 := s2 _ _ ga
  have gb2 := s2 _ _ gb
  walk_at "go"
  refine ⟨by omega, by omega, for_range (lo := 0) (n := m) (fun i σ H' => Ob (Same H2 H' ∧ sw.take i = last.take i ∧ ∃ y4 y5 y6, σ = [sI m, sR a, sR b, sR L, y4, y5, y6])) (ob ⟨same_rfl, rfl, _, _, _, rfl⟩) ?_ ?_⟩
  · intro i σ H3 hi h
    obtain ⟨s3, tk, z4, z5, z6, rfl⟩ := unob h
    clear h kk
    have hil : i < sw.length := by omega
    have hla : i < last.length := by omega
    obtain ⟨vt, et, dt⟩ := hS.get (i := i) (d := swD i sw[i]) (by rw [swL_get, List.getElem?_eq_getElem hil, Nat.zero_add]; rfl)
    obtain ⟨v, ev, dv1⟩ := d2.get (i := i) (d := lpD last[i]) (by rw [List.getElem?_map, List.getElem?_eq_getElem hla]; rfl)
    have dt := Dh.mono (s2.trans s3) _ _ dt
    have dv1 := Dh.mono s3 _ _ dv1
    have ts := take_succ_eq (List.getElem?_eq_getElem hil) (List.getElem?_eq_getElem hla)
    have ne : sw[i] ≠ last[i] → sw ≠ last := fun h e => h (by subst e; rfl)
    have gb3 := s3 _ _ gb2
    have g3 := s3 _ _ g2
    have ga3 := s3 _ _ ga2
    generalize sw[i] = x at *
    generalize last[i] = w at *
    obtain ⟨ta, us3, rfl, gt, u1, r1, rfl, f1, u2, r2, rfl, f2, u3, r3, rfl, f3, f4⟩ := dt
    cases (show u1 = _ from f1)
    cases (show u2 = _ from f2)
    cases (show u3 = _ from f3)
    cases (show r3 = _ from f4)
    rw [Int.zero_add]
    walk_at "go"
    refine un ?_
    walk_at "go"
    refine ⟨b, _, _, _, rfl, rfl, SqL.of gb3, atI_nat et, ?_⟩
    walk_at "go"
    refine ⟨ta, _, _, _, rfl, rfl, SqT.of gt, rfl, ?_⟩
    walk_at "go"
    refine ⟨b, _, _, _, rfl, rfl, SqL.of gb3, atI_nat et, ?_⟩
    walk_at "go"
    refine ⟨ta, _, _, _, rfl, rfl, SqT.of gt, rfl, ?_⟩
    refine ⟨sz, fun t nt => ?_⟩
    have s4 := same_upd (o := HO.tup [V.int x.1, V.int x.2]) nt
    have gt4 := upd_same (H := H3) (a := t) (o := HO.tup [V.int x.1, V.int x.2])
    have g4 := s4 _ _ g3
    have ga4 := s4 _ _ ga3
    have dv4 := Dh.mono s4 _ _ dv1
    have s24 := s3.trans s4
    have dt4 := dh_lp gt4
    generalize upd H3 t (HO.tup [V.int x.1, V.int x.2]) = H4 at *
    walk_at "go"
    refine ⟨L, _, _, _, rfl, rfl, SqL.of g4, atI_nat ev, ?_⟩
    refine ⟨lpD (x.1, x.2), lpD w, Dh.dp _ _ dt4, Dh.dp _ _ dv4, shaped_lp _, shaped_lp _, ?_⟩
    rw [eqv_lp]
    walk_at "go"
    refine ifN ?_
    refine ifD (fun c => ?_) (fun c => ?_)
    · exact ob ⟨s24, ts.mpr ⟨tk, c⟩, _, _, _, rfl⟩
    · have e : lie m R sw = some R.length := by rw [el, lieF, if_neg (ne c)]
      rw [e] at q
      walk_at "go"
      rw [lx]
      exact q _ (s2.trans s24)
  · intro σ H3 h
    obtain ⟨s3, tk, z4, z5, z6, rfl⟩ := unob h
    rw [List.take_of_length_le (by omega), List.take_of_length_le (by omega)] at tk
    exact kk _ _ ⟨_, _, _, s3, tk, rfl⟩
end

end

section

-- a condition of an operator
local macro_rules | `(tactic| walk_at "cond") => `(tactic| first
  | (show (0 : Int) < _; omega)
  | (show CDiv _ _; constructor <;> (first | decide | omega))
  | (show CMul _ _; first | (refine cmul_l ?_; constructor <;> (first | decide | omega)) | (refine cmul_r ?_; constructor <;> (first | decide | omega)))
  | (show CPow _ _; exact (by refine ⟨by decide, by decide, by decide⟩))
  | (show CDivW _ _; exact ⟨by decide, by decide +kernel⟩))
local macro_rules | `(tactic| walk_at "sq") => `(tactic| first | assumption | exact Dh.mono (same_upd (by assumption)) _ _ (by assumption) | exact .inl (.inl (.inl (by assumption))) | exact .inr (.inl (.inl (by assumption))) | exact SqL.of (by assumption) | exact .inl (by assumption) | exact .inl (SqL.of (by assumption)) | exact SqT.of (by assumption) | exact .inr (SqT.of (by assumption)))
local macro_rules | `(tactic| walk_at "st") => `(tactic| first
  | refine ⟨_, rfl, ?_⟩
  | refine ⟨_, _, rfl, rfl, ?_⟩
  | refine .inl ⟨_, rfl, ?_⟩
  | refine ⟨rfl, ?_⟩
  | refine ⟨_, _, rfl, by walk_at "sq", ?_⟩
  | refine ⟨.inl ⟨rfl, _, SqL.of (by assumption)⟩, ?_⟩
  | refine ⟨by walk_at "cond", ?_⟩
  | (refine' ifBT ?hh ?_; (case hh => first | rfl | assumption))
  | (refine' ifBF ?hh ?_; (case hh => first | rfl | assumption)))
local macro_rules | `(tactic| walk_at "go") => `(tactic| repeat walk_at "st")
local macro_rules | `(tactic| walk_at "yes") => `(tactic| (refine' ifT ?hh ?_; (case hh => first | rfl | decide +kernel)))
local macro_rules | `(tactic| walk_at "no") => `(tactic| (refine' ifF ?hh ?_; (case hh => first | decide +kernel | (intro z; cases z; done))))

local macro_rules | `(tactic| walk_at "st") => `(tactic| refine ⟨_, _, _, _, _, rfl, by assumption, by assumption, by omega, by omega, by omega, by omega, by omega, ?_⟩)
local macro_rules | `(tactic| walk_at "st") => `(tactic| refine ⟨_, _, _, _, _, rfl, Same.seq (by assumption) (by assumption), by assumption, by omega, by omega, by omega, by omega, by omega, ?_⟩)

/-! ### bags_agree -/
abbrev s_bags_agree : Stmt := topS 1
theorem sc_bags_agree : FnScope ["places", "rows", "sweep", "left", "place", "found", "time", "found_stamp", "found_time", "left_stamp"] ["places", "rows", "sweep"] (C8.fnScope s_bags_agree) := C8.fnScope_by (by decide +kernel)
def spBags : Sp := fun vs H Q _ => ∃ (m : Nat) (a b : Addr) (R : List LR) (sw : List LP), vs = [.int m, .ref a, .ref b] ∧ Dh H (.list (R.map lrD)) (.ref a) ∧ Dh H (.list (swL 0 sw)) (.ref b) ∧ sw.length = m ∧ m ≤ 100 ∧ R.length ≤ 1000 ∧ (∀ r ∈ R, r.p < m) ∧
  ∀ (c : Bool) H', (c = true ↔ lie m R sw = none) → Same H H' → Q (.bl c) H'
theorem leftR_snoc (r : LR) : ∀ (rs : List LR) (n : Nat), leftR n (rs ++ [r]) = leftR n rs ++ [(r.p, (r.l, ((n + rs.length : Nat) : Int) + 1))]
  | [], _ => rfl
  | q :: rs, n => by
    show _ :: leftR (n + 1) (rs ++ [r]) = _ :: (leftR (n + 1) rs ++ _)
    rw [leftR_snoc r rs (n + 1), show n + (q :: rs).length = n + 1 + rs.length by rw [List.length_cons]; omega]
theorem leftR_len : ∀ (rs : List LR) (n : Nat), (leftR n rs).length = rs.length
  | [], _ => rfl
  | _ :: rs, n => congrArg (· + 1) (leftR_len rs (n + 1))
theorem early_snoc (r : LR) : ∀ (rs : List LR) (n : Nat), early n (rs ++ [r]) ↔ early n rs ∧ r.t < ((n + rs.length : Nat) : Int) + 1
  | [], n => by
    show (r.t < (n : Int) + 1 ∧ True) ↔ True ∧ _
    simp
  | q :: rs, n => by
    show (q.t < _ ∧ early (n + 1) (rs ++ [r])) ↔ (q.t < _ ∧ early (n + 1) rs) ∧ _
    rw [early_snoc r rs (n + 1), show n + (q :: rs).length = n + 1 + rs.length by rw [List.length_cons]; omega, and_assoc]
theorem early_pre : ∀ (xs ys : List LR) (n : Nat), early n (xs ++ ys) → early n xs
  | [], _, _, _ => trivial
  | _ :: xs, ys, n, h => ⟨h.1, early_pre xs ys (n + 1) h.2⟩
theorem bag_lie0 {m : Nat} {R : List LR} {sw : List LP} (hp : ∀ r ∈ R, r.p < m) (hl : sw.length = m) : (early 0 R ∧ (tL 0 (List.replicate m (0, 0)) ++ leftR 0 R).Perm (foundR R ++ tL 0 sw)) ↔ lie m R sw = none :=
  bag_lie R 0 _ sw (fun r hr => by rw [List.length_replicate]; exact hp r hr) (by rw [List.length_replicate]; exact hl) rep_t
theorem tL_snoc (x : LP) : ∀ (xs : List LP) (n : Nat), tL n (xs ++ [x]) = tL n xs ++ [(n + xs.length, x)]
  | [], _ => rfl
  | y :: ys, n => by
    show _ :: tL (n + 1) (ys ++ [x]) = _ :: (tL (n + 1) ys ++ _)
    rw [tL_snoc x ys (n + 1), show n + (y :: ys).length = n + 1 + ys.length by rw [List.length_cons]; omega]
/-- a tuple of three ints that stands -/
theorem dh_t3 {H : Hp} {t : Addr} {p : Nat} {x y : Int} (g : H t = some (.tup [.int (p : Nat), .int x, .int y])) : Dh H (tD (p, (x, y))) (.ref t) := ⟨t, _, rfl, g, _, _, rfl, rfl, _, _, rfl, rfl, _, _, rfl, rfl, rfl⟩
theorem t3_put {H : Hp} {G : Addr} {xs ys zs : List V} {ls : List T3} (g : H G = some (.lst xs)) (h : DhAll H (ls.map tD) zs) : DhAll (upd H G (.lst ys)) (ls.map tD) zs :=
  DhAll.tups (fun b us e => by
    rw [upd_ne (fun z => by rw [z, g] at e; cases e)]
    exact e) _ _ (noLs_tD _) h
theorem zero_snoc (j : Nat) : (tL 0 (List.replicate (j + 1) ((0, 0) : LP))).map tD = (tL 0 (List.replicate j ((0, 0) : LP))).map tD ++ [tD (j, (0, 0))] := by
  rw [List.replicate_succ', tL_snoc, List.map_append, List.length_replicate, Nat.zero_add]
  rfl
section
variable {P : Program} {w : World} {K : PySem.W.Frag} {mg : Str → Option Value} {base : Heap}
theorem ok_agree {f : Addr} {fd : FuncData} (D : Def K mg "bags_agree" s_bags_agree f fd) (b : Binds K fd ["places", "rows", "sweep"] []) (T : TxtL mg) : Cal P w K mg base 1 "bags_agree" spBags [] := by
  refine cal0 D b .nil sc_bags_agree (fun vs H Q E h => ?_) (fun cdv A outer s H vs Q E hr h => ?_)
  · obtain ⟨m, a, b, R, sw, rfl, _⟩ := h
    rfl
  obtain ⟨m, a, b, R, sw, rfl, ⟨_, xs, e1, ga, hR⟩, ⟨_, us, e2, gb, hS⟩, hm, m1, lR, hp, q⟩ := h
  cases e1
  cases e2
  have bl := bag_lie0 hp hm
  have lx := hR.len
  rw [List.length_map] at lx
  refine ⟨_, (pss_cons (ps_setLc (i := 3) (own := [("place", 4)]) (g := gName 4) (tt := tYes) rfl sc_bags_agree.nd rfl rfl (sw_true rfl rfl rfl (by decide +kernel)) (pi_range1 (by rfl) T.range (pa_cons (pv 0) pa_nil)) (blkOk_by (own := [("place", 4)]) (N := ["places", "rows", "sweep", "left", "place", "found", "time", "found_stamp", "found_time", "left_stamp"]) (sc := C8.fnScope s_bags_agree) (by decide +kernel)) (fun _ _ _ _ _ => (pg_name (i := 4) sc_bags_agree.nd rfl (.inl rfl))) (fun _ _ _ _ _ => pts_nil) (fun _ _ _ _ _ => (pe_tup (pa_cons (pv 4) (pa_cons pe_int (pa_cons pe_int pa_nil))))))
      (pss_cons (ps_set (i := 5) sc_bags_agree.nd rfl (.inl rfl) (pe_callTy (listQ K rfl) (by rfl) T.list (by decide +kernel) (pa_cons (pv 2) pa_nil)))
      (pss_cons (ps_mk (ps_for PassesOwn.never rfl (pi_enumC (by rfl) T.enumerate (pa_cons (pv 1) pa_nil) (pk_cons pe_int pk_nil)) (pg_tup rfl (pgs_cons (pg_name (i := 6) sc_bags_agree.nd rfl (.inl rfl)) (pgs_cons (pg_tup rfl (pgs_cons (pg_name (i := 4) sc_bags_agree.nd rfl (.inl rfl)) (pgs_cons (pg_name (i := 7) sc_bags_agree.nd rfl (.inl rfl)) (pgs_cons (pg_name (i := 8) sc_bags_agree.nd rfl (.inl rfl)) (pgs_cons (pg_name (i := 9) sc_bags_agree.nd rfl (.inl rfl)) pgs_nil))))) pgs_nil)))
      (pss_cons (ps_mk (ps_if (pt_cmpR op_ge (pv 8) (pv 6) (nomark _))
      (pss_one (ps_ret pe_bl))
      pss_nil))
      (pss_cons (ps_expr (pe_bm PySem.F.plainAttrs_list PySem.F.slot_list_append PySem.F.type_list_append mt_append (pv 3) (pa_cons (pe_tup (pa_cons (pv 4) (pa_cons (pv 9) (pa_cons (pv 6) pa_nil)))) pa_nil)))
      (pss_one (ps_expr (pe_bm PySem.F.plainAttrs_list PySem.F.slot_list_append PySem.F.type_list_append mt_append (pv 5) (pa_cons (pe_tup (pa_cons (pv 4) (pa_cons (pv 7) (pa_cons (pv 8) pa_nil)))) pa_nil))))))))
      (pss_one (ps_ret (pe_cmpR (eqQ K rfl hr.units) (pe_callB (sortedQ K rfl hr.units) (by rfl) T.sorted (by decide +kernel) (pa_cons (pv 3) pa_nil)) (pe_callB (sortedQ K rfl hr.units) (by rfl) T.sorted (by decide +kernel) (pa_cons (pv 5) pa_nil)) (nomark _))))))), ?_⟩
  walk_at "go"
  refine ⟨by omega, by omega, fun L nL => lc_range (lo := 0) (n := m) (fun j H' => Ob (Same H H' ∧ ∃ vs, H' L = some (.lst vs) ∧ DhAll H' ((tL 0 (List.replicate j ((0, 0) : LP))).map tD) vs)) (ob ⟨same_upd nL, [], upd_same, rfl⟩) ?_ ?_⟩
  · intro j H1 hj h
    obtain ⟨s1, vs, g1, d1⟩ := unob h
    have lv := d1.len
    rw [List.length_map, tL_len, List.length_replicate] at lv
    refine ⟨rfl, ?_⟩
    rw [Int.zero_add]
    walk_at "go"
    refine ⟨sz, fun t nt => ?_⟩
    have s2 := same_upd (o := HO.tup [V.int (j : Nat), V.int 0, V.int 0]) nt
    have gt := upd_same (H := H1) (a := t) (o := HO.tup [V.int (j : Nat), V.int 0, V.int 0])
    have g2 := s2 _ _ g1
    have d2 := DhAll.mono s2 _ _ d1
    have s12 := s1.trans s2
    generalize upd H1 t (HO.tup [V.int (j : Nat), V.int 0, V.int 0]) = H2 at *
    refine ⟨vs, g2, sz5 (by omega), ob ⟨same_put s12 nL, vs ++ [.ref t], upd_same, ?_⟩⟩
    rw [zero_snoc]
    refine DhAll.snoc (t3_put g2 d2) (dh_t3 ?_)
    rw [upd_ne (fun z => by rw [z, g2] at gt; cases gt)]
    exact gt
  intro H1 h
  obtain ⟨s1, vs, gL, dL⟩ := unob h
  clear h
  have gb1 := s1 _ _ gb
  have hS1 := DhAll.mono s1 _ _ hS
  try dsimp only
  walk_at "go"
  intro F nF
  have s2 := same_upd (o := HO.lst us) nF
  have gF := upd_same (H := H1) (a := F) (o := HO.lst us)
  have nF0 := s1.free nF
  have nLF : L ≠ F := ne_of_none gL nF
  have gL := s2 _ _ gL
  have dL := DhAll.mono s2 _ _ dL
  have dF := DhAll.mono s2 _ _ hS1
  have s12 := s1.trans s2
  generalize upd H1 F (HO.lst us) = H2 at *
  clear s1 s2 gb1 hS1 nF
  rw [← tL_swL] at dF
  refine jnS (M := fun σ H' => ∃ ls fs y4 y6 y7 y8 y9, Same H H' ∧ H' L = some (.lst ls) ∧ DhAll H' ((tL 0 (List.replicate m ((0, 0) : LP)) ++ leftR 0 R).map tD) ls ∧ H' F = some (.lst fs) ∧ DhAll H' ((tL 0 sw ++ foundR R).map tD) fs ∧ early 0 R ∧ σ = [sI m, sR a, sR b, sR L, y4, sR F, y6, y7, y8, y9]) ?_ (fun N kk => ?_)
  rotate_left
  · have ga1 := s12 _ _ ga
    walk_at "go"
    refine ⟨a, xs, 1, rfl, rfl, SqL.of ga1, by omega, by omega, ?_⟩
    refine for_it (walk_enumC (K := K) (a := a) (xs := xs)) (fun i σ H' => Ob (∃ ls fs y4 y6 y7 y8 y9, Same H H' ∧ H' L = some (.lst ls) ∧ DhAll H' ((tL 0 (List.replicate m ((0, 0) : LP)) ++ leftR 0 (R.take i)).map tD) ls ∧ H' F = some (.lst fs) ∧ DhAll H' ((tL 0 sw ++ foundR (R.take i)).map tD) fs ∧ early 0 (R.take i) ∧ σ = [sI m, sR a, sR b, sR L, y4, sR F, y6, y7, y8, y9])) (ob ⟨vs, us, none, none, none, none, none, s12, gL, ?_, gF, ?_, trivial, rfl⟩) (fun i σ H' _ h => ?_) ?_ ?_
    · show DhAll H2 ((tL 0 (List.replicate m ((0, 0) : LP)) ++ []).map tD) vs
      rw [List.append_nil]
      exact dL
    · show DhAll H2 ((tL 0 sw ++ []).map tD) us
      rw [List.append_nil]
      exact dF
    · obtain ⟨_, _, _, _, _, _, _, s3, _⟩ := unob h
      exact SqL.of (s3 _ _ ga)
    · intro i x σ H3 H4 hi h hy
      obtain ⟨TT, x1, x2, rfl, nT, rfl, e1, e2⟩ := hy
      cases e1
      obtain ⟨ls, fs, y4, y6, y7, y8, y9, s3, gL3, dL3, gF3, dF3, er, rfl⟩ := unob h
      clear h kk dL dF gL gF s12 ga1
      have hil : i < R.length := by
        rw [← lx]
        exact hi
      obtain ⟨vt, et, dt⟩ := hR.get (i := i) (d := lrD R[i]) (by rw [List.getElem?_map, List.getElem?_eq_getElem hil]; rfl)
      have e2' : xs[i]? = some x2 := e2
      rw [e2'] at et
      obtain rfl := Option.some.inj et
      have tk : R.take (i + 1) = R.take i ++ [R[i]] := by
        rw [List.take_add_one, List.getElem?_eq_getElem hil]
        rfl
      have dt := Dh.mono s3 _ _ dt
      have ll := dL3.len
      have lf := dF3.len
      simp only [List.length_map, List.length_append, tL_len, List.length_replicate, leftR_len, List.length_take, foundR] at ll lf
      have nearly : ¬ R[i].t < (i : Int) + 1 → lie m R sw ≠ none := fun c e => by
        have z := (bl.mpr e).1
        rw [← List.take_append_drop (i + 1) R, tk] at z
        have z := early_pre _ _ _ z
        rw [early_snoc, List.length_take, Nat.min_eq_left (by omega), Nat.zero_add] at z
        exact c z.2
      have erly : R[i].t < (i : Int) + 1 → early 0 (R.take (i + 1)) := fun c => by
        rw [tk, early_snoc, List.length_take, Nat.min_eq_left (by omega), Nat.zero_add]
        exact ⟨er, c⟩
      have eL : (tL 0 (List.replicate m ((0, 0) : LP)) ++ leftR 0 (R.take (i + 1))).map tD = (tL 0 (List.replicate m ((0, 0) : LP)) ++ leftR 0 (R.take i)).map tD ++ [tD (R[i].p, (R[i].l, (i : Int) + 1))] := by
        rw [tk, leftR_snoc, List.length_take, Nat.min_eq_left (by omega), Nat.zero_add, ← List.append_assoc, List.map_append]
        rfl
      have eF : (tL 0 sw ++ foundR (R.take (i + 1))).map tD = (tL 0 sw ++ foundR (R.take i)).map tD ++ [tD (R[i].p, (R[i].s, R[i].t))] := by
        rw [tk]
        simp only [foundR, List.map_append, List.append_assoc]
        rfl
      generalize R[i] = r at *
      obtain ⟨ta, ts, rfl, gt, u1, r1, rfl, f1, u2, r2, rfl, f2, u3, r3, rfl, f3, u4, r4, rfl, f4, f5⟩ := dt
      cases (show u1 = _ from f1)
      cases (show u2 = _ from f2)
      cases (show u3 = _ from f3)
      cases (show u4 = _ from f4)
      cases (show r4 = _ from f5)
      have s4 := same_upd (o := HO.tup [V.int (1 + (i : Nat)), V.ref ta]) nT
      have gT := upd_same (H := H3) (a := TT) (o := HO.tup [V.int (1 + (i : Nat)), V.ref ta])
      have gt := s4 _ _ gt
      have gL3 := s4 _ _ gL3
      have dL3 := DhAll.mono s4 _ _ dL3
      have gF3 := s4 _ _ gF3
      have dF3 := DhAll.mono s4 _ _ dF3
      have s3 := s3.trans s4
      generalize upd H3 TT (HO.tup [V.int (1 + (i : Nat)), V.ref ta]) = H4 at *
      clear s4 nT e2 e2' et hi
      refine ⟨TT, _, rfl, SqT.of gT, rfl, ?_⟩
      refine ⟨_, _, rfl, ?_⟩
      refine ⟨_, _, rfl, ?_⟩
      refine ⟨ta, _, rfl, SqT.of gt, rfl, ?_⟩
      refine ⟨_, _, rfl, ?_⟩
      refine ⟨_, _, rfl, ?_⟩
      refine ⟨_, _, rfl, ?_⟩
      refine ⟨_, _, rfl, ?_⟩
      walk_at "go"
      refine jnS (M := fun σ H' => H' = H4 ∧ r.t < (i : Int) + 1 ∧ σ = [sI m, sR a, sR b, sR L, sI r.p, sR F, sI (1 + (i : Nat)), sI r.s, sI r.t, sI r.l]) ?_ (fun N kk => ?_)
      rotate_left
      · walk_at "go"
        refine ifD (fun c => ?_) (fun c => ?_)
        · walk_at "go"
          exact q false _ ⟨fun z => (by cases z), fun z => absurd z (nearly (by omega))⟩ s3
        · exact kk _ _ ⟨rfl, by omega, rfl⟩
      rintro σ H5 ⟨rfl, c, rfl⟩
      walk_at "go"
      refine ⟨sz, fun t nt => ?_⟩
      have s6 := same_upd (o := HO.tup [V.int r.p, V.int r.l, V.int (1 + (i : Nat))]) nt
      have gt6 := upd_same (H := H5) (a := t) (o := HO.tup [V.int r.p, V.int r.l, V.int (1 + (i : Nat))])
      have gL6 := s6 _ _ gL3
      have dL6 := DhAll.mono s6 _ _ dL3
      have gF6 := s6 _ _ gF3
      have dF6 := DhAll.mono s6 _ _ dF3
      have s36 := s3.trans s6
      generalize upd H5 t (HO.tup [V.int r.p, V.int r.l, V.int (1 + (i : Nat))]) = H6 at *
      clear s6 nt s3 gL3 dL3 gF3 dF3
      have dt6 := dh_t3 gt6
      have snl : DhAll H6 ((tL 0 (List.replicate m ((0, 0) : LP)) ++ leftR 0 (R.take (i + 1))).map tD) (ls ++ [.ref t]) := by
        rw [eL, show (i : Int) + 1 = 1 + (i : Nat) by omega]
        exact DhAll.snoc dL6 dt6
      refine ⟨L, _, _, rfl, rfl, gL6, sz5 (by omega), ?_⟩
      have snl := t3_put (ys := ls ++ [V.ref t]) gL6 snl
      have dF7 := t3_put (ys := ls ++ [V.ref t]) gL6 dF6
      have gL7 := upd_same (H := H6) (a := L) (o := HO.lst (ls ++ [V.ref t]))
      have gF7 : upd H6 L (HO.lst (ls ++ [V.ref t])) F = some (.lst fs) := by
        rw [upd_ne nLF.symm]
        exact gF6
      have s37 := same_put (o := HO.lst (ls ++ [V.ref t])) s36 nL
      generalize upd H6 L (HO.lst (ls ++ [V.ref t])) = H7 at *
      clear gL6 gF6 dL6 dF6 s36 dt6 gt6
      walk_at "go"
      refine ⟨sz, fun t2 nt2 => ?_⟩
      have s8 := same_upd (o := HO.tup [V.int r.p, V.int r.s, V.int r.t]) nt2
      have gt8 := upd_same (H := H7) (a := t2) (o := HO.tup [V.int r.p, V.int r.s, V.int r.t])
      have gL8 := s8 _ _ gL7
      have dL8 := DhAll.mono s8 _ _ snl
      have gF8 := s8 _ _ gF7
      have dF8 := DhAll.mono s8 _ _ dF7
      have s38 := s37.trans s8
      generalize upd H7 t2 (HO.tup [V.int r.p, V.int r.s, V.int r.t]) = H8 at *
      clear s8 nt2 s37 gL7 snl gF7 dF7
      have snf : DhAll H8 ((tL 0 sw ++ foundR (R.take (i + 1))).map tD) (fs ++ [.ref t2]) := by
        rw [eF]
        exact DhAll.snoc dF8 (dh_t3 gt8)
      refine ⟨F, _, _, rfl, rfl, gF8, sz5 (by omega), ?_⟩
      refine ob ⟨ls ++ [.ref t], fs ++ [.ref t2], _, _, _, _, _, same_put s38 nF0, ?_, t3_put gF8 dL8, upd_same, t3_put gF8 snf, erly c, rfl⟩
      rw [upd_ne nLF]
      exact gL8
    · intro σ H3 h
      obtain ⟨ls, fs, y4, y6, y7, y8, y9, s3, gL3, dL3, gF3, dF3, er, rfl⟩ := unob h
      rw [lx, List.take_length] at dL3 dF3 er
      exact kk _ _ ⟨ls, fs, y4, y6, y7, y8, y9, s3, gL3, dL3, gF3, dF3, er, rfl⟩
  rintro σ H3 ⟨ls, fs, y4, y6, y7, y8, y9, s3, gL3, dL3, gF3, dF3, er, rfl⟩
  walk_at "go"
  refine ⟨L, ls, _, rfl, SqL.of gL3, dL3, tD_alike, tD_sortable, fun d hd => Nat.le_trans (tD_depth d hd) (by decide), fun zs N1 dz nN1 => ?_⟩
  have s4 := same_upd (o := HO.lst zs) nN1
  have g1 := upd_same (H := H3) (a := N1) (o := HO.lst zs)
  have gF4 := s4 _ _ gF3
  have dF4 := DhAll.mono s4 _ _ dF3
  have dz4 := DhAll.mono s4 _ _ dz
  have s34 := s3.trans s4
  generalize upd H3 N1 (HO.lst zs) = H4 at *
  walk_at "go"
  refine ⟨F, fs, _, rfl, SqL.of gF4, dF4, tD_alike, tD_sortable, fun d hd => Nat.le_trans (tD_depth d hd) (by decide), fun ws N2 dw nN2 => ?_⟩
  have s5 := same_upd (o := HO.lst ws) nN2
  refine ⟨.list (srt _), .list (srt _), Dh.dp _ _ ⟨N1, _, rfl, s5 _ _ g1, DhAll.mono s5 _ _ dz4⟩, Dh.dp _ _ ⟨N2, _, rfl, upd_same, DhAll.mono s5 _ _ dw⟩, shaped_tD _, shaped_tD _, ?_⟩
  refine q _ _ ?_ (s34.trans s5)
  rw [eqv_srt, ← bl]
  exact ⟨fun h => ⟨er, h.trans List.perm_append_comm⟩, fun h => h.2.trans List.perm_append_comm⟩
end

end

section

-- a condition of an operator
local macro_rules | `(tactic| walk_at "cond") => `(tactic| first
  | (show (0 : Int) < _; omega)
  | (show CDiv _ _; constructor <;> (first | decide | omega))
  | (show CMul _ _; first | (refine cmul_l ?_; constructor <;> (first | decide | omega)) | (refine cmul_r ?_; constructor <;> (first | decide | omega)))
  | (show CPow _ _; exact (by refine ⟨by decide, by decide, by decide⟩))
  | (show CDivW _ _; exact ⟨by decide, by decide +kernel⟩))
local macro_rules | `(tactic| walk_at "sq") => `(tactic| first | assumption | exact Dh.mono (same_upd (by assumption)) _ _ (by assumption) | exact .inl (.inl (.inl (by assumption))) | exact .inr (.inl (.inl (by assumption))) | exact SqL.of (by assumption) | exact .inl (by assumption) | exact .inl (SqL.of (by assumption)) | exact SqT.of (by assumption) | exact .inr (SqT.of (by assumption)))
local macro_rules | `(tactic| walk_at "st") => `(tactic| first
  | refine ⟨_, rfl, ?_⟩
  | refine ⟨_, _, rfl, rfl, ?_⟩
  | refine .inl ⟨_, rfl, ?_⟩
  | refine ⟨rfl, ?_⟩
  | refine ⟨_, _, rfl, by walk_at "sq", ?_⟩
  | refine ⟨.inl ⟨rfl, _, SqL.of (by assumption)⟩, ?_⟩
  | refine ⟨by walk_at "cond", ?_⟩
  | (refine' ifBT ?hh ?_; (case hh => first | rfl | assumption))
  | (refine' ifBF ?hh ?_; (case hh => first | rfl | assumption)))
local macro_rules | `(tactic| walk_at "go") => `(tactic| repeat walk_at "st")
local macro_rules | `(tactic| walk_at "yes") => `(tactic| (refine' ifT ?hh ?_; (case hh => first | rfl | decide +kernel)))
local macro_rules | `(tactic| walk_at "no") => `(tactic| (refine' ifF ?hh ?_; (case hh => first | decide +kernel | (intro z; cases z; done))))

local macro_rules | `(tactic| walk_at "st") => `(tactic| refine ⟨_, _, _, _, _, rfl, by assumption, by assumption, by omega, by omega, by omega, by omega, by omega, ?_⟩)
local macro_rules | `(tactic| walk_at "st") => `(tactic| refine ⟨_, _, _, _, _, rfl, Same.seq (by assumption) (by assumption), by assumption, by omega, by omega, by omega, by omega, by omega, ?_⟩)

/-! ### the law's bags -/
abbrev s_ledger_bags : Stmt := topS 12
theorem sc_ledger_bags : FnScope ["_law_many", "_law_rows", "_law_sweep", "_law_left", "_law_k", "_law_at", "_law_found", "_law_row", "_law_spot", "_law_late"] ["_law_many", "_law_rows", "_law_sweep"] (C8.fnScope s_ledger_bags) := C8.fnScope_by (by decide +kernel)
theorem early_iff : ∀ (R : List LR) (n : Nat), early n R ↔ ∀ (i : Nat) r, R[i]? = some r → r.t < ((n + i : Nat) : Int) + 1
  | [], n => ⟨fun _ i r h => (by simp at h), fun _ => trivial⟩
  | q :: R, n => by
    show (q.t < (n : Int) + 1 ∧ early (n + 1) R) ↔ _
    rw [early_iff R (n + 1)]
    constructor
    · rintro ⟨h1, h2⟩ i r h
      cases i with
      | zero =>
        obtain rfl : q = r := Option.some.inj h
        exact h1
      | succ i =>
        have := h2 i r h
        rw [show n + (i + 1) = n + 1 + i by omega]
        exact this
    · intro h
      refine ⟨h 0 q rfl, fun i r hr => ?_⟩
      have := h (i + 1) r hr
      rw [show n + 1 + i = n + (i + 1) by omega]
      exact this
section
variable {P : Program} {w : World} {K : PySem.W.Frag} {mg : Str → Option Value} {base : Heap}
theorem ok_lbags {f : Addr} {fd : FuncData} (D : Def K mg "_law_ledger_bags" s_ledger_bags f fd) (b : Binds K fd ["_law_many", "_law_rows", "_law_sweep"] []) (T : TxtL mg) : Cal P w K mg base 1 "_law_ledger_bags" spBags [] := by
  refine cal0 D b .nil sc_ledger_bags (fun vs H Q E h => ?_) (fun cdv A outer s H vs Q E hr h => ?_)
  · obtain ⟨m, a, b, R, sw, rfl, _⟩ := h
    rfl
  obtain ⟨m, a, b, R, sw, rfl, ⟨_, xs, e1, ga, hR⟩, ⟨_, us, e2, gb, hS⟩, hm, m1, lR, hp, q⟩ := h
  cases e1
  cases e2
  have bl := bag_lie0 hp hm
  have lx := hR.len
  rw [List.length_map] at lx
  have lu := hS.len
  rw [swL_len] at lu
  have row : ∀ {H' : Hp} (i : Nat) (hi : i < R.length), Same H H' → ∃ ta, xs[i]? = some (.ref ta) ∧ H' ta = some (.tup [.int (R[i].p : Nat), .int R[i].s, .int R[i].t, .int R[i].l]) := fun {H'} i hi s => by
    obtain ⟨vt, et, dt⟩ := hR.get (i := i) (d := lrD R[i]) (by rw [List.getElem?_map, List.getElem?_eq_getElem hi]; rfl)
    have dt := Dh.mono s _ _ dt
    obtain ⟨ta, ts, rfl, gt, u1, r1, rfl, f1, u2, r2, rfl, f2, u3, r3, rfl, f3, u4, r4, rfl, f4, f5⟩ := dt
    cases (show u1 = _ from f1)
    cases (show u2 = _ from f2)
    cases (show u3 = _ from f3)
    cases (show u4 = _ from f4)
    cases (show r4 = _ from f5)
    exact ⟨ta, et, gt⟩
  refine ⟨_, (pss_cons (ps_set (i := 3) sc_ledger_bags.nd rfl (.inl rfl) (pe_op op_cat (pe_lc (own := [("_law_k", 4)]) (g := gName 4) (tt := tYes) rfl sc_ledger_bags.nd (pi_range1 (by rfl) T.range (pa_cons (pv 0) pa_nil)) (blkOk_by (own := [("_law_k", 4)]) (N := ["_law_many", "_law_rows", "_law_sweep", "_law_left", "_law_k", "_law_at", "_law_found", "_law_row", "_law_spot", "_law_late"]) (sc := C8.fnScope s_ledger_bags) (by decide +kernel)) (fun _ _ _ _ _ => (pg_name (i := 4) sc_ledger_bags.nd rfl (.inl rfl))) (fun _ _ _ _ _ => pts_nil) (fun _ _ _ _ _ => (pe_tup (pa_cons (pv 4) (pa_cons pe_int (pa_cons pe_int pa_nil)))))) (pe_lc (own := [("_law_at", 5)]) (g := gName 5) (tt := tYes) rfl sc_ledger_bags.nd (pi_range1 (by rfl) T.range (pa_cons (pe_callB (lenQ K rfl) (by rfl) T.len PySem.boot_len (pa_cons (pv 1) pa_nil)) pa_nil)) (blkOk_by (own := [("_law_at", 5)]) (N := ["_law_many", "_law_rows", "_law_sweep", "_law_left", "_law_k", "_law_at", "_law_found", "_law_row", "_law_spot", "_law_late"]) (sc := C8.fnScope s_ledger_bags) (by decide +kernel)) (fun _ _ _ _ _ => (pg_name (i := 5) sc_ledger_bags.nd rfl (.inl rfl))) (fun _ _ _ _ _ => pts_nil) (fun _ _ _ _ _ => (pe_tup (pa_cons (pe_ix (ixT K rfl) (pe_ix (ixL K rfl) (pv 1) (pv 5) (fun _ _ => rfl)) pe_int (fun _ _ => rfl)) (pa_cons (pe_ix (ixT K rfl) (pe_ix (ixL K rfl) (pv 1) (pv 5) (fun _ _ => rfl)) pe_int (fun _ _ => rfl)) (pa_cons (pe_op op_add (pv 5) pe_int) pa_nil))))))))
      (pss_cons (ps_set (i := 6) sc_ledger_bags.nd rfl (.inl rfl) (pe_op op_cat (pe_lc (own := [("_law_row", 7)]) (g := gName 7) (tt := tYes) rfl sc_ledger_bags.nd (pi_list (pv 1)) (blkOk_by (own := [("_law_row", 7)]) (N := ["_law_many", "_law_rows", "_law_sweep", "_law_left", "_law_k", "_law_at", "_law_found", "_law_row", "_law_spot", "_law_late"]) (sc := C8.fnScope s_ledger_bags) (by decide +kernel)) (fun _ _ _ _ _ => (pg_name (i := 7) sc_ledger_bags.nd rfl (.inl rfl))) (fun _ _ _ _ _ => pts_nil) (fun _ _ _ _ _ => (pe_tup (pa_cons (pe_ix (ixT K rfl) (pv 7) pe_int (fun _ _ => rfl)) (pa_cons (pe_ix (ixT K rfl) (pv 7) pe_int (fun _ _ => rfl)) (pa_cons (pe_ix (ixT K rfl) (pv 7) pe_int (fun _ _ => rfl)) pa_nil)))))) (pe_lc (own := [("_law_spot", 8)]) (g := gName 8) (tt := tYes) rfl sc_ledger_bags.nd (pi_list (pv 2)) (blkOk_by (own := [("_law_spot", 8)]) (N := ["_law_many", "_law_rows", "_law_sweep", "_law_left", "_law_k", "_law_at", "_law_found", "_law_row", "_law_spot", "_law_late"]) (sc := C8.fnScope s_ledger_bags) (by decide +kernel)) (fun _ _ _ _ _ => (pg_name (i := 8) sc_ledger_bags.nd rfl (.inl rfl))) (fun _ _ _ _ _ => pts_nil) (fun _ _ _ _ _ => (pe_tup (pa_cons (pe_ix (ixT K rfl) (pv 8) pe_int (fun _ _ => rfl)) (pa_cons (pe_ix (ixT K rfl) (pv 8) pe_int (fun _ _ => rfl)) (pa_cons (pe_ix (ixT K rfl) (pv 8) pe_int (fun _ _ => rfl)) pa_nil))))))))
      (pss_cons (ps_setLc (i := 9) (own := [("_law_at", 5)]) (g := gName 5) rfl sc_ledger_bags.nd rfl rfl (sw_true rfl rfl rfl (by decide +kernel)) (pi_range1 (by rfl) T.range (pa_cons (pe_callB (lenQ K rfl) (by rfl) T.len PySem.boot_len (pa_cons (pv 1) pa_nil)) pa_nil)) (blkOk_by (own := [("_law_at", 5)]) (N := ["_law_many", "_law_rows", "_law_sweep", "_law_left", "_law_k", "_law_at", "_law_found", "_law_row", "_law_spot", "_law_late"]) (sc := C8.fnScope s_ledger_bags) (by decide +kernel)) (fun _ _ _ _ _ => (pg_name (i := 5) sc_ledger_bags.nd rfl (.inl rfl))) (fun _ _ _ _ _ => (pts_one (pt_cmpR op_gt (pe_ix (ixT K rfl) (pe_ix (ixL K rfl) (pv 1) (pv 5) (fun _ _ => rfl)) pe_int (fun _ _ => rfl)) (pv 5) (nomark _)))) (fun _ _ _ _ _ => (pv 5)))
      (pss_one (ps_ret (pe_and (pe_cmpR op_eq (pe_callB (lenQ K rfl) (by rfl) T.len PySem.boot_len (pa_cons (pv 9) pa_nil)) pe_int (nomark _)) (pe_one (pe_cmpR (eqQ K rfl hr.units) (pe_callB (sortedQ K rfl hr.units) (by rfl) T.sorted (by decide +kernel) (pa_cons (pv 3) pa_nil)) (pe_callB (sortedQ K rfl hr.units) (by rfl) T.sorted (by decide +kernel) (pa_cons (pv 6) pa_nil)) (nomark _))))))))), ?_⟩
  walk_at "go"
  refine ⟨by omega, by omega, fun L nL => lc_range (lo := 0) (n := m) (fun j H' => Ob (Same H H' ∧ ∃ vs, H' L = some (.lst vs) ∧ DhAll H' ((tL 0 (List.replicate j ((0, 0) : LP))).map tD) vs)) (ob ⟨same_upd nL, [], upd_same, rfl⟩) ?_ ?_⟩
  · intro j H1 hj h
    obtain ⟨s1, vs, g1, d1⟩ := unob h
    have lv := d1.len
    rw [List.length_map, tL_len, List.length_replicate] at lv
    refine ⟨rfl, ?_⟩
    rw [Int.zero_add]
    walk_at "go"
    refine ⟨sz, fun t nt => ?_⟩
    have s2 := same_upd (o := HO.tup [V.int (j : Nat), V.int 0, V.int 0]) nt
    have gt := upd_same (H := H1) (a := t) (o := HO.tup [V.int (j : Nat), V.int 0, V.int 0])
    have g2 := s2 _ _ g1
    have d2 := DhAll.mono s2 _ _ d1
    have s12 := s1.trans s2
    generalize upd H1 t (HO.tup [V.int (j : Nat), V.int 0, V.int 0]) = H2 at *
    refine ⟨vs, g2, sz5 (by omega), ob ⟨same_put s12 nL, vs ++ [.ref t], upd_same, ?_⟩⟩
    rw [zero_snoc]
    refine DhAll.snoc (t3_put g2 d2) (dh_t3 ?_)
    rw [upd_ne (fun z => by rw [z, g2] at gt; cases gt)]
    exact gt
  intro H1 h
  obtain ⟨s1, vs, gL, dL⟩ := unob h
  clear h
  have ga1 := s1 _ _ ga
  try dsimp only
  walk_at "go"
  rw [lx]
  refine ⟨by omega, by omega, fun M nM => lc_range (lo := 0) (n := R.length) (fun j H' => Ob (Same H1 H' ∧ ∃ ws, H' M = some (.lst ws) ∧ DhAll H' ((leftR 0 (R.take j)).map tD) ws)) (ob ⟨same_upd nM, [], upd_same, rfl⟩) ?_ ?_⟩
  · intro j H2 hj h
    obtain ⟨s2, ws, g2, d2⟩ := unob h
    clear h
    have lw := d2.len
    rw [List.length_map, leftR_len, List.length_take] at lw
    have s12 := s1.trans s2
    obtain ⟨ta, et, gt⟩ := row j hj s12
    have ga2 := s12 _ _ ga
    have tk : (leftR 0 (R.take (j + 1))).map tD = (leftR 0 (R.take j)).map tD ++ [tD (R[j].p, (R[j].l, (j : Int) + 1))] := by
      rw [List.take_add_one, List.getElem?_eq_getElem hj]
      show (leftR 0 (R.take j ++ [R[j]])).map tD = _
      rw [leftR_snoc, List.length_take, Nat.min_eq_left (by omega), Nat.zero_add, List.map_append]
      rfl
    generalize R[j] = r at *
    refine ⟨rfl, ?_⟩
    rw [Int.zero_add]
    walk_at "go"
    refine ⟨a, _, _, _, rfl, rfl, SqL.of ga2, atI_nat et, ?_⟩
    walk_at "go"
    refine ⟨ta, _, _, _, rfl, rfl, SqT.of gt, atI_nat (j := 0) rfl, ?_⟩
    walk_at "go"
    refine ⟨a, _, _, _, rfl, rfl, SqL.of ga2, atI_nat et, ?_⟩
    walk_at "go"
    refine ⟨ta, _, _, _, rfl, rfl, SqT.of gt, atI_nat (j := 3) rfl, ?_⟩
    walk_at "go"
    refine ⟨sz, fun t nt => ?_⟩
    have s3 := same_upd (o := HO.tup [V.int r.p, V.int r.l, V.int ((j : Int) + 1)]) nt
    have gt3 := upd_same (H := H2) (a := t) (o := HO.tup [V.int r.p, V.int r.l, V.int ((j : Int) + 1)])
    have g3 := s3 _ _ g2
    have d3 := DhAll.mono s3 _ _ d2
    have s23 := s2.trans s3
    generalize upd H2 t (HO.tup [V.int r.p, V.int r.l, V.int ((j : Int) + 1)]) = H3 at *
    have sn : DhAll H3 ((leftR 0 (R.take (j + 1))).map tD) (ws ++ [.ref t]) := by
      rw [tk]
      exact DhAll.snoc d3 (dh_t3 gt3)
    exact ⟨ws, g3, sz5 (by omega), ob ⟨same_put s23 nM, ws ++ [.ref t], upd_same, t3_put g3 sn⟩⟩
  intro H2 h
  obtain ⟨s2, ws, gM, dM⟩ := unob h
  clear h
  rw [List.take_length] at dM
  have gL := s2 _ _ gL
  have dL := DhAll.mono s2 _ _ dL
  have s12 := s1.trans s2
  have lv := dL.len
  rw [List.length_map, tL_len, List.length_replicate] at lv
  have lw := dM.len
  rw [List.length_map, leftR_len] at lw
  try dsimp only
  walk_at "go"
  refine ⟨L, M, _, _, rfl, rfl, gL, gM, Nat.le_of_lt (sz5 (by omega)), fun A1 nA1 => ?_⟩
  have s3 := same_upd (o := HO.lst (vs ++ ws)) nA1
  have gA1 := upd_same (H := H2) (a := A1) (o := HO.lst (vs ++ ws))
  have dA1 : DhAll (upd H2 A1 (HO.lst (vs ++ ws))) ((tL 0 (List.replicate m ((0, 0) : LP)) ++ leftR 0 R).map tD) (vs ++ ws) := by
    rw [List.map_append]
    exact DhAll.mono s3 _ _ (DhAll.app dL dM)
  have s13 := s12.trans s3
  generalize upd H2 A1 (HO.lst (vs ++ ws)) = H3 at *
  clear s1 s2 s3 s12 gL dL gM dM nL nM nA1 ga1
  have ga3 := s13 _ _ ga
  walk_at "go"
  refine ⟨⟨_, SqL.of ga3⟩, fun L nL => lc_list (K := K) (a := a) (xs := xs) (fun j H' => Ob (Same H3 H' ∧ ∃ vs, H' L = some (.lst vs) ∧ DhAll H' ((foundR (R.take j)).map tD) vs)) (ob ⟨same_upd nL, [], upd_same, rfl⟩) (fun j H' _ h => SqL.of ((unob h).1 _ _ ga3)) ?_ ?_⟩
  · intro j v H4 hi h
    obtain ⟨s4, vs, g4, d4⟩ := unob h
    clear h
    have hj : j < R.length := by
      have := (List.getElem?_eq_some_iff.mp hi).1
      omega
    have lv := d4.len
    rw [List.length_map, foundR, List.length_map, List.length_take] at lv
    obtain ⟨ta, et, gt⟩ := row j hj (s13.trans s4)
    rw [hi] at et
    obtain rfl := Option.some.inj et
    have tk : (foundR (R.take (j + 1))).map tD = (foundR (R.take j)).map tD ++ [tD (R[j].p, (R[j].s, R[j].t))] := by
      rw [List.take_add_one, List.getElem?_eq_getElem hj]
      show (foundR (R.take j ++ [R[j]])).map tD = _
      simp only [foundR, List.map_append]
      rfl
    generalize R[j] = r at *
    refine ⟨rfl, ?_⟩
    walk_at "go"
    refine ⟨ta, _, _, _, rfl, rfl, SqT.of gt, atI_nat (j := 0) rfl, ?_⟩
    walk_at "go"
    refine ⟨ta, _, _, _, rfl, rfl, SqT.of gt, atI_nat (j := 1) rfl, ?_⟩
    walk_at "go"
    refine ⟨ta, _, _, _, rfl, rfl, SqT.of gt, atI_nat (j := 2) rfl, ?_⟩
    refine ⟨sz, fun t nt => ?_⟩
    have s5 := same_upd (o := HO.tup [V.int r.p, V.int r.s, V.int r.t]) nt
    have gt5 := upd_same (H := H4) (a := t) (o := HO.tup [V.int r.p, V.int r.s, V.int r.t])
    have g5 := s5 _ _ g4
    have d5 := DhAll.mono s5 _ _ d4
    have s45 := s4.trans s5
    generalize upd H4 t (HO.tup [V.int r.p, V.int r.s, V.int r.t]) = H5 at *
    have sn : DhAll H5 ((foundR (R.take (j + 1))).map tD) (vs ++ [.ref t]) := by
      rw [tk]
      exact DhAll.snoc d5 (dh_t3 gt5)
    exact ⟨vs, g5, sz5 (by omega), ob ⟨same_put s45 nL, vs ++ [.ref t], upd_same, t3_put g5 sn⟩⟩
  intro H4 h
  obtain ⟨s4, vs1, gL, dL⟩ := unob h
  rw [lx, List.take_length] at dL
  clear h
  have gb4 := s4 _ _ (s13 _ _ gb)
  try dsimp only
  walk_at "go"
  refine ⟨⟨_, SqL.of gb4⟩, fun M nM => lc_list (K := K) (a := b) (xs := us) (fun j H' => Ob (Same H4 H' ∧ ∃ vs, H' M = some (.lst vs) ∧ DhAll H' ((tL 0 (sw.take j)).map tD) vs)) (ob ⟨same_upd nM, [], upd_same, rfl⟩) (fun j H' _ h => SqL.of ((unob h).1 _ _ gb4)) ?_ ?_⟩
  · intro j v H5 hi h
    obtain ⟨s5, ws, g5, d5⟩ := unob h
    clear h
    have hj : j < sw.length := by
      have := (List.getElem?_eq_some_iff.mp hi).1
      omega
    have lw := d5.len
    rw [List.length_map, tL_len, List.length_take] at lw
    obtain ⟨vt, et, dt⟩ := hS.get (i := j) (d := swD j sw[j]) (by rw [swL_get, List.getElem?_eq_getElem hj, Nat.zero_add]; rfl)
    have dt := Dh.mono (s13.trans (s4.trans s5)) _ _ dt
    have tk : (tL 0 (sw.take (j + 1))).map tD = (tL 0 (sw.take j)).map tD ++ [tD (j, sw[j])] := by
      rw [List.take_add_one, List.getElem?_eq_getElem hj]
      show (tL 0 (sw.take j ++ [sw[j]])).map tD = _
      rw [tL_snoc, List.map_append, List.length_take, Nat.min_eq_left (by omega), Nat.zero_add]
      rfl
    rw [hi] at et
    obtain rfl := Option.some.inj et
    generalize sw[j] = x at *
    obtain ⟨ta, us3, rfl, gt, u1, r1, rfl, f1, u2, r2, rfl, f2, u3, r3, rfl, f3, f4⟩ := dt
    cases (show u1 = _ from f1)
    cases (show u2 = _ from f2)
    cases (show u3 = _ from f3)
    cases (show r3 = _ from f4)
    refine ⟨rfl, ?_⟩
    walk_at "go"
    refine ⟨ta, _, _, _, rfl, rfl, SqT.of gt, atI_nat (j := 0) rfl, ?_⟩
    walk_at "go"
    refine ⟨ta, _, _, _, rfl, rfl, SqT.of gt, atI_nat (j := 1) rfl, ?_⟩
    walk_at "go"
    refine ⟨ta, _, _, _, rfl, rfl, SqT.of gt, atI_nat (j := 2) rfl, ?_⟩
    refine ⟨sz, fun t nt => ?_⟩
    have s6 := same_upd (o := HO.tup [V.int (j : Nat), V.int x.1, V.int x.2]) nt
    have gt6 := upd_same (H := H5) (a := t) (o := HO.tup [V.int (j : Nat), V.int x.1, V.int x.2])
    have g6 := s6 _ _ g5
    have d6 := DhAll.mono s6 _ _ d5
    have s56 := s5.trans s6
    generalize upd H5 t (HO.tup [V.int (j : Nat), V.int x.1, V.int x.2]) = H6 at *
    have sn : DhAll H6 ((tL 0 (sw.take (j + 1))).map tD) (ws ++ [.ref t]) := by
      rw [tk]
      exact DhAll.snoc d6 (dh_t3 gt6)
    exact ⟨ws, g6, sz5 (by omega), ob ⟨same_put s56 nM, ws ++ [.ref t], upd_same, t3_put g6 sn⟩⟩
  intro H5 h
  obtain ⟨s5, ws1, gM, dM⟩ := unob h
  rw [show us.length = sw.length by omega, List.take_length] at dM
  clear h
  have gL := s5 _ _ gL
  have dL := DhAll.mono s5 _ _ dL
  have gA1 := s5 _ _ (s4 _ _ gA1)
  have dA1 := DhAll.mono (s4.trans s5) _ _ dA1
  have lv1 := dL.len
  rw [List.length_map, foundR, List.length_map] at lv1
  have lw1 := dM.len
  rw [List.length_map, tL_len] at lw1
  have s15 := s13.trans (s4.trans s5)
  try dsimp only
  walk_at "go"
  refine ⟨L, M, _, _, rfl, rfl, gL, gM, Nat.le_of_lt (sz5 (by omega)), fun A2 nA2 => ?_⟩
  have s6 := same_upd (o := HO.lst (vs1 ++ ws1)) nA2
  have gA2 := upd_same (H := H5) (a := A2) (o := HO.lst (vs1 ++ ws1))
  have dA2 : DhAll (upd H5 A2 (HO.lst (vs1 ++ ws1))) ((foundR R ++ tL 0 sw).map tD) (vs1 ++ ws1) := by
    rw [List.map_append]
    exact DhAll.mono s6 _ _ (DhAll.app dL dM)
  have s16 := s15.trans s6
  have gA1 := s6 _ _ gA1
  have dA1 := DhAll.mono s6 _ _ dA1
  generalize upd H5 A2 (HO.lst (vs1 ++ ws1)) = H6 at *
  clear s4 s5 s6 s13 s15 gL dL gM dM nL nM nA2 gb4 ga3
  have ga6 := s16 _ _ ga
  walk_at "go"
  rw [lx]
  refine ⟨by omega, by omega, fun B1 nB1 => lc_range (lo := 0) (n := R.length) (fun j H' => Ob (Same H6 H' ∧ ∃ zs, H' B1 = some (.lst zs) ∧ zs.length ≤ j ∧ (zs = [] ↔ early 0 (R.take j)))) (ob ⟨same_upd nB1, [], upd_same, Nat.le_refl _, by simp [early]⟩) ?_ ?_⟩
  · intro j H7 hj h
    obtain ⟨s7, zs, g7, l7, e7⟩ := unob h
    clear h
    have s17 := s16.trans s7
    obtain ⟨ta, et, gt⟩ := row j hj s17
    have ga7 := s17 _ _ ga
    have tk : early 0 (R.take (j + 1)) ↔ early 0 (R.take j) ∧ R[j].t < (j : Int) + 1 := by
      rw [List.take_add_one, List.getElem?_eq_getElem hj]
      show early 0 (R.take j ++ [R[j]]) ↔ _
      rw [early_snoc, List.length_take, Nat.min_eq_left (by omega), Nat.zero_add]
    generalize R[j] = r at *
    refine ⟨rfl, ?_⟩
    rw [Int.zero_add]
    walk_at "go"
    refine ⟨a, _, _, _, rfl, rfl, SqL.of ga7, atI_nat et, ?_⟩
    walk_at "go"
    refine ⟨ta, _, _, _, rfl, rfl, SqT.of gt, atI_nat (j := 2) rfl, ?_⟩
    walk_at "go"
    refine ifD (fun c => ?_) (fun c => ?_)
    · walk_at "go"
      refine ⟨zs, g7, sz5 (by omega), ob ⟨same_put s7 nB1, _, upd_same, by rw [List.length_append]; exact Nat.add_le_add_right l7 1, ?_⟩⟩
      rw [tk]
      exact ⟨fun z => absurd (congrArg List.length z) (by rw [List.length_append]; simp), fun z => absurd z.2 (by omega)⟩
    · refine ob ⟨s7, zs, g7, Nat.le_succ_of_le l7, ?_⟩
      rw [tk, e7]
      exact ⟨fun z => ⟨z, by omega⟩, fun z => z.1⟩
  intro H7 h
  obtain ⟨s7, zs, gB, lB, eB⟩ := unob h
  rw [List.take_length] at eB
  clear h
  have gA1 := s7 _ _ gA1
  have dA1 := DhAll.mono s7 _ _ dA1
  have gA2 := s7 _ _ gA2
  have dA2 := DhAll.mono s7 _ _ dA2
  have s17 := s16.trans s7
  try dsimp only
  walk_at "go"
  refine ifEq (fun c => ?_) (fun c => ?_)
  rotate_left
  · refine q false _ ⟨fun z => (by cases z), fun z => ?_⟩ s17
    have z := eB.mpr (bl.mpr z).1
    exact absurd (by rw [z]; rfl) c
  have er : early 0 R := eB.mp (List.eq_nil_of_length_eq_zero (by omega))
  walk_at "go"
  refine ⟨A1, _, _, rfl, SqL.of gA1, dA1, tD_alike, tD_sortable, fun d hd => Nat.le_trans (tD_depth d hd) (by decide), fun zs N1 dz nN1 => ?_⟩
  have s8 := same_upd (o := HO.lst zs) nN1
  have g1 := upd_same (H := H7) (a := N1) (o := HO.lst zs)
  have gA2 := s8 _ _ gA2
  have dA2 := DhAll.mono s8 _ _ dA2
  have dz8 := DhAll.mono s8 _ _ dz
  have s18 := s17.trans s8
  generalize upd H7 N1 (HO.lst zs) = H8 at *
  walk_at "go"
  refine ⟨A2, _, _, rfl, SqL.of gA2, dA2, tD_alike, tD_sortable, fun d hd => Nat.le_trans (tD_depth d hd) (by decide), fun ws N2 dw nN2 => ?_⟩
  have s9 := same_upd (o := HO.lst ws) nN2
  refine ⟨.list (srt _), .list (srt _), Dh.dp _ _ ⟨N1, _, rfl, s9 _ _ g1, DhAll.mono s9 _ _ dz8⟩, Dh.dp _ _ ⟨N2, _, rfl, upd_same, DhAll.mono s9 _ _ dw⟩, shaped_tD _, shaped_tD _, ?_⟩
  refine q _ _ ?_ (s18.trans s9)
  rw [eqv_srt, ← bl]
  exact ⟨fun h => ⟨er, h⟩, fun h => h.2⟩
end

end

section

-- a condition of an operator
local macro_rules | `(tactic| walk_at "cond") => `(tactic| first
  | (show (0 : Int) < _; omega)
  | (show CDiv _ _; constructor <;> (first | decide | omega))
  | (show CMul _ _; first | (refine cmul_l ?_; constructor <;> (first | decide | omega)) | (refine cmul_r ?_; constructor <;> (first | decide | omega)))
  | (show CPow _ _; exact (by refine ⟨by decide, by decide, by decide⟩))
  | (show CDivW _ _; exact ⟨by decide, by decide +kernel⟩))
local macro_rules | `(tactic| walk_at "sq") => `(tactic| first | assumption | exact Dh.mono (same_upd (by assumption)) _ _ (by assumption) | exact .inl (.inl (.inl (by assumption))) | exact .inr (.inl (.inl (by assumption))) | exact SqL.of (by assumption) | exact .inl (by assumption) | exact .inl (SqL.of (by assumption)) | exact SqT.of (by assumption) | exact .inr (SqT.of (by assumption)))
local macro_rules | `(tactic| walk_at "st") => `(tactic| first
  | refine ⟨_, rfl, ?_⟩
  | refine ⟨_, _, rfl, rfl, ?_⟩
  | refine .inl ⟨_, rfl, ?_⟩
  | refine ⟨rfl, ?_⟩
  | refine ⟨_, _, rfl, by walk_at "sq", ?_⟩
  | refine ⟨.inl ⟨rfl, _, SqL.of (by assumption)⟩, ?_⟩
  | refine ⟨by walk_at "cond", ?_⟩
  | (refine' ifBT ?hh ?_; (case hh => first | rfl | assumption))
  | (refine' ifBF ?hh ?_; (case hh => first | rfl | assumption)))
local macro_rules | `(tactic| walk_at "go") => `(tactic| repeat walk_at "st")
local macro_rules | `(tactic| walk_at "yes") => `(tactic| (refine' ifT ?hh ?_; (case hh => first | rfl | decide +kernel)))
local macro_rules | `(tactic| walk_at "no") => `(tactic| (refine' ifF ?hh ?_; (case hh => first | decide +kernel | (intro z; cases z; done))))

local macro_rules | `(tactic| walk_at "st") => `(tactic| refine ⟨_, _, _, _, _, rfl, by assumption, by assumption, by omega, by omega, by omega, by omega, by omega, ?_⟩)
local macro_rules | `(tactic| walk_at "st") => `(tactic| refine ⟨_, _, _, _, _, rfl, Same.seq (by assumption) (by assumption), by assumption, by omega, by omega, by omega, by omega, by omega, ?_⟩)

/-! ### left, swap, spoil -/
abbrev s_ledger_left : Stmt := topS 7
theorem sc_ledger_left : FnScope ["_law_script", "_law_at", "_law_stamp", "_law_number_here", "_law_kind"] ["_law_script", "_law_at", "_law_stamp"] (C8.fnScope s_ledger_left) := C8.fnScope_by (by decide +kernel)
abbrev s_ledger_swap : Stmt := topS 8
theorem sc_ledger_swap : FnScope ["_law_one", "_law_two", "_law_held"] ["_law_one", "_law_two"] (C8.fnScope s_ledger_swap) := C8.fnScope_by (by decide +kernel)
def spLeft (K : PySem.W.Frag) : Sp := fun vs H Q _ => ∃ (a : Addr) (ns : List Int) (i st : Int), vs = [.ref a, .int i, .int st] ∧ SqL K H a (ns.map V.int) ∧ ns.length ≤ 63 ∧ 0 ≤ i ∧ i ≤ 1000 ∧ ∀ l : Int, Q (.int l) H
/-- a list whose items, the first one aside, are ints -/
def Spot (H : Hp) (b : Addr) : Prop := ∃ (v : V) (n1 n2 : Int) (r : List Int), H b = some (.lst (v :: .int n1 :: .int n2 :: r.map V.int))
/-- what stands at an address of l may get other ints -/
def Chg (l : List Addr) (H H' : Hp) : Prop := ∀ b o, H b = some o → H' b = some o ∨ (b ∈ l ∧ ∃ (v : V) (n1 n2 m1 m2 : Int) (r s : List Int), o = .lst (v :: .int n1 :: .int n2 :: r.map V.int) ∧ s.length = r.length ∧ H' b = some (.lst (v :: .int m1 :: .int m2 :: s.map V.int)))
theorem Chg.refl {l : List Addr} {H : Hp} : Chg l H H := fun _ _ e => .inl e
theorem Chg.same {l : List Addr} {H H' : Hp} (s : Same H H') : Chg l H H' := fun b o e => .inl (s b o e)
theorem Chg.trans {l : List Addr} {H H1 H2 : Hp} (a : Chg l H H1) (b : Chg l H1 H2) : Chg l H H2 := fun c o e => by
  rcases a c o e with h | ⟨hl, v, n1, n2, m1, m2, r, s, rfl, ls, h⟩
  · exact b c o h
  · rcases b c _ h with k | ⟨_, v', _, _, k1, k2, r', s', e', ls', k⟩
    · exact .inr ⟨hl, v, n1, n2, m1, m2, r, s, rfl, ls, k⟩
    · refine .inr ⟨hl, v, n1, n2, k1, k2, r, s', rfl, ?_, ?_⟩
      · have := congrArg List.length (HO.lst.inj e')
        simp only [List.length_cons, List.length_map] at this
        omega
      · rw [k, (List.cons.inj (HO.lst.inj e')).1]
theorem Chg.mono {l l' : List Addr} {H H' : Hp} (a : Chg l H H') (h : ∀ x ∈ l, x ∈ l') : Chg l' H H' := fun c o e => (a c o e).imp id fun z => ⟨h c z.1, z.2⟩
theorem Chg.put {l : List Addr} {H : Hp} {b : Addr} {v : V} {n1 n2 m1 m2 : Int} {r s : List Int} (g : H b = some (.lst (v :: .int n1 :: .int n2 :: r.map V.int))) (m : b ∈ l) (ls : s.length = r.length) : Chg l H (upd H b (.lst (v :: .int m1 :: .int m2 :: s.map V.int))) := fun c o e => by
  by_cases h : c = b
  · subst h
    rw [g] at e
    cases e
    exact .inr ⟨m, v, n1, n2, m1, m2, r, s, rfl, ls, upd_same⟩
  · rw [upd_ne h]
    exact .inl e
theorem Spot.chg {l : List Addr} {H H' : Hp} {b : Addr} (h : Spot H b) (c : Chg l H H') : Spot H' b := by
  obtain ⟨v, n1, n2, r, g⟩ := h
  rcases c b _ g with k | ⟨_, v', _, _, m1, m2, _, s, _, _, k⟩
  · exact ⟨v, n1, n2, r, k⟩
  · exact ⟨v', m1, m2, s, k⟩
theorem Chg.tup {l : List Addr} {H H' : Hp} (c : Chg l H H') {b : Addr} {o : HO} (e : H b = some o) (n : b ∉ l) : H' b = some o := (c b o e).elim id fun z => absurd z.1 n
def spSwap : Sp := fun vs H Q _ => ∃ (o w : Addr), vs = [.ref o, .ref w] ∧ Spot H o ∧ Spot H w ∧ ∀ H', Chg [o, w] H H' → Q .non H'
section
variable {P : Program} {w : World} {K : PySem.W.Frag} {mg : Str → Option Value} {base : Heap}
theorem ok_left {f : Addr} {fd : FuncData} (D : Def K mg "_law_ledger_left" s_ledger_left f fd) (b : Binds K fd ["_law_script", "_law_at", "_law_stamp"] []) (T : Txt mg) (c_number : Cal P w K mg base 1 "_law_number" (spNum K) []) : Cal P w K mg base 2 "_law_ledger_left" (spLeft K) [] := by
  refine cal0 D b .nil sc_ledger_left (fun vs H Q E h => ?_) (fun cdv A outer s H vs Q E hr h => ?_)
  · obtain ⟨a, ns, i, st, rfl, _⟩ := h
    rfl
  obtain ⟨a, ns, i, st, rfl, hS, hl, i0, i1, q⟩ := h
  refine ⟨_, (pss_cons (ps_set (i := 3) sc_ledger_left.nd rfl (.inl rfl) (C8.pe_c c_number hr (by omega) (by rfl) (pa_cons (pv 0) (pa_cons (pv 1) (pa_cons pe_int (pa_cons pe_int pa_nil))))))
      (pss_cons (ps_set (i := 4) sc_ledger_left.nd rfl (.inl rfl) (C8.pe_c c_number hr (by omega) (by rfl) (pa_cons (pv 0) (pa_cons (pv 1) (pa_cons pe_int (pa_cons pe_int pa_nil))))))
      (pss_cons (ps_mk (ps_if (PW.pt (pw_and (pt_cmpR op_eq (pv 4) pe_int (nomark _)) (pw_and1 (pt_cmpR op_gt (pv 2) pe_int (nomark _)))))
      (pss_one (ps_ret (pv 2)))
      pss_nil))
      (pss_cons (ps_mk (ps_if (pt_cmpR op_lt (pv 4) pe_int (nomark _))
      (pss_one (ps_ret (pe_op op_add pe_int (pe_op op_mod (pe_callTy call_int1 (by rfl) T.int (by decide +kernel) (pa_cons (pv 3) pa_nil)) pe_int))))
      pss_nil))
      (pss_cons (ps_mk (ps_if (pt_cmpR op_eq (pv 4) pe_int (nomark _))
      (pss_one (ps_ret (pe_op op_add pe_int (pv 3))))
      pss_nil))
      (pss_one (ps_ret (pe_op op_add pe_int (pe_op op_mul (pv 3) (pe_op op_pow pe_int pe_int)))))))))), ?_⟩
  have n0 : 0 ≤ num ns i 1 1000 := num_nn (by decide)
  have n1 : num ns i 1 1000 < 1000 := num_lt (by decide)
  walk_at "go"
  generalize num ns i 1 1000 = x at *
  generalize num ns i 2 4 = y at *
  refine jnS (M := fun σ H' => H' = H ∧ σ = [sR a, sI i, sI st, sI x, sI y]) ?_ (fun N kk => ?_)
  rotate_left
  · walk_at "go"
    refine ifEq (fun c => ?_) (fun c => ?_)
    · walk_at "go"
      refine ifD (fun c => ?_) (fun c => ?_)
      · walk_at "go"
        exact q _
      · exact kk _ _ ⟨rfl, rfl⟩
    · exact kk _ _ ⟨rfl, rfl⟩
  rintro σ H1 ⟨rfl, rfl⟩
  refine jnS (M := fun σ H' => H' = H1 ∧ σ = [sR a, sI i, sI st, sI x, sI y]) ?_ (fun N kk => ?_)
  rotate_left
  · walk_at "go"
    refine ifD (fun c => ?_) (fun c => ?_)
    · walk_at "go"
      exact q _
    · exact kk _ _ ⟨rfl, rfl⟩
  rintro σ H2 ⟨rfl, rfl⟩
  refine jnS (M := fun σ H' => H' = H2 ∧ σ = [sR a, sI i, sI st, sI x, sI y]) ?_ (fun N kk => ?_)
  rotate_left
  · walk_at "go"
    refine ifEq (fun c => ?_) (fun c => ?_)
    · walk_at "go"
      exact q _
    · exact kk _ _ ⟨rfl, rfl⟩
  rintro σ H3 ⟨rfl, rfl⟩
  walk_at "go"
  exact q _
theorem ok_swap {f : Addr} {fd : FuncData} (D : Def K mg "_law_ledger_swap" s_ledger_swap f fd) (b : Binds K fd ["_law_one", "_law_two"] []) (T : Txt mg) : Cal P w K mg base 1 "_law_ledger_swap" spSwap [] := by
  refine cal0 D b .nil sc_ledger_swap (fun vs H Q E h => ?_) (fun cdv A outer s H vs Q E hr h => ?_)
  · obtain ⟨o, u, rfl, _⟩ := h
    rfl
  obtain ⟨o, u, rfl, ho, hu, q⟩ := h
  refine ⟨_, (pss_cons (ps_set (i := 2) sc_ledger_swap.nd rfl (.inl rfl) (pe_lst (pa_cons (pe_ix (ixL K rfl) (pv 0) pe_int (fun _ _ => rfl)) (pa_cons (pe_ix (ixL K rfl) (pv 0) pe_int (fun _ _ => rfl)) pa_nil))))
      (pss_cons (ps_asg (pe_ix (ixL K rfl) (pv 1) pe_int (fun _ _ => rfl)) (pg_sub (pv 0) pe_int set_list))
      (pss_cons (ps_asg (pe_ix (ixL K rfl) (pv 1) pe_int (fun _ _ => rfl)) (pg_sub (pv 0) pe_int set_list))
      (pss_cons (ps_asg (pe_ix (ixL K rfl) (pv 2) pe_int (fun _ _ => rfl)) (pg_sub (pv 1) pe_int set_list))
      (pss_one (ps_asg (pe_ix (ixL K rfl) (pv 2) pe_int (fun _ _ => rfl)) (pg_sub (pv 1) pe_int set_list))))))), ?_⟩
  obtain ⟨v, n1, n2, r, go⟩ := id ho
  walk_at "go"
  refine ⟨o, _, _, _, rfl, rfl, SqL.of go, atI_nat (j := 1) rfl, ?_⟩
  walk_at "go"
  refine ⟨o, _, _, _, rfl, rfl, SqL.of go, atI_nat (j := 2) rfl, ?_⟩
  refine ⟨sz, fun p np => ?_⟩
  have c1 : Chg [o, u] H _ := Chg.same (same_upd (o := HO.lst [V.int n1, V.int n2]) np)
  have gp := upd_same (H := H) (a := p) (o := HO.lst [V.int n1, V.int n2])
  have hpo : p ≠ o := (ne_of_none go np).symm
  have hpu : p ≠ u := by
    obtain ⟨_, _, _, _, g⟩ := hu
    exact (ne_of_none g np).symm
  have np2 : p ∉ [o, u] := by simp [hpo, hpu]
  generalize upd H p (HO.lst [V.int n1, V.int n2]) = H1 at *
  clear go
  have set : ∀ {H' : Hp} {b : Addr} (i : Nat) (x : Int), b ∈ [o, u] → Chg [o, u] H H' → Spot H b → (i = 1 ∨ i = 2) → ∃ ys, H' b = some (.lst ys) ∧ ixN ys.length (i : Int) = some i ∧ Chg [o, u] H (upd H' b (.lst (ys.set i (.int x)))) := fun {H' b} i x hb c hs hi => by
    obtain ⟨v, n1, n2, r, g⟩ := hs.chg c
    refine ⟨_, g, ix_at ?_, c.trans ?_⟩
    · simp only [List.length_cons, List.length_map]
      omega
    · rcases hi with rfl | rfl
      · exact Chg.put (m1 := x) (m2 := n2) (s := r) g hb rfl
      · exact Chg.put (m1 := n1) (m2 := x) (s := r) g hb rfl
  have ne : ∀ {b : Addr}, b ∈ [o, u] → p ≠ b := fun h z => np2 (z ▸ h)
  obtain ⟨v2, k1, k2, r2, gu⟩ := Spot.chg hu c1
  walk_at "go"
  refine ⟨u, _, _, _, rfl, rfl, SqL.of gu, atI_nat (j := 1) rfl, ?_⟩
  walk_at "go"
  obtain ⟨ys, g, e, c2⟩ := set 1 k1 (by simp) c1 ho (.inl rfl)
  refine ⟨o, _, _, 1, rfl, rfl, g, e, ?_⟩
  have gp := (upd_ne (H := H1) (o := HO.lst (ys.set 1 (.int k1))) (ne (b := o) (by simp))).trans gp
  generalize upd H1 o (HO.lst (ys.set 1 (.int k1))) = H2 at *
  clear c1 gu g e
  obtain ⟨v2, k1, k2, r2, gu⟩ := Spot.chg hu c2
  walk_at "go"
  refine ⟨u, _, _, _, rfl, rfl, SqL.of gu, atI_nat (j := 2) rfl, ?_⟩
  walk_at "go"
  obtain ⟨ys, g, e, c3⟩ := set 2 k2 (by simp) c2 ho (.inr rfl)
  refine ⟨o, _, _, 2, rfl, rfl, g, e, ?_⟩
  have gp := (upd_ne (H := H2) (o := HO.lst (ys.set 2 (.int k2))) (ne (b := o) (by simp))).trans gp
  generalize upd H2 o (HO.lst (ys.set 2 (.int k2))) = H3 at *
  clear c2 gu g e
  walk_at "go"
  refine ⟨p, _, _, _, rfl, rfl, SqL.of gp, atI_nat (j := 0) rfl, ?_⟩
  walk_at "go"
  obtain ⟨ys, g, e, c4⟩ := set 1 n1 (by simp) c3 hu (.inl rfl)
  refine ⟨u, _, _, 1, rfl, rfl, g, e, ?_⟩
  have gp := (upd_ne (H := H3) (o := HO.lst (ys.set 1 (.int n1))) (ne (b := u) (by simp))).trans gp
  generalize upd H3 u (HO.lst (ys.set 1 (.int n1))) = H4 at *
  clear c3 g e
  walk_at "go"
  refine ⟨p, _, _, _, rfl, rfl, SqL.of gp, atI_nat (j := 1) rfl, ?_⟩
  walk_at "go"
  obtain ⟨ys, g, e, c5⟩ := set 2 n2 (by simp) c4 hu (.inr rfl)
  refine ⟨u, _, _, 2, rfl, rfl, g, e, ?_⟩
  exact q _ c5
end

end

section

-- a condition of an operator
local macro_rules | `(tactic| walk_at "cond") => `(tactic| first
  | (show (0 : Int) < _; omega)
  | (show CDiv _ _; constructor <;> (first | decide | omega))
  | (show CMul _ _; first | (refine cmul_l ?_; constructor <;> (first | decide | omega)) | (refine cmul_r ?_; constructor <;> (first | decide | omega)))
  | (show CPow _ _; exact (by refine ⟨by decide, by decide, by decide⟩))
  | (show CDivW _ _; exact ⟨by decide, by decide +kernel⟩))
local macro_rules | `(tactic| walk_at "sq") => `(tactic| first | assumption | exact Dh.mono (same_upd (by assumption)) _ _ (by assumption) | exact .inl (.inl (.inl (by assumption))) | exact .inr (.inl (.inl (by assumption))) | exact SqL.of (by assumption) | exact .inl (by assumption) | exact .inl (SqL.of (by assumption)) | exact SqT.of (by assumption) | exact .inr (SqT.of (by assumption)))
local macro_rules | `(tactic| walk_at "st") => `(tactic| first
  | refine ⟨_, rfl, ?_⟩
  | refine ⟨_, _, rfl, rfl, ?_⟩
  | refine .inl ⟨_, rfl, ?_⟩
  | refine ⟨rfl, ?_⟩
  | refine ⟨_, _, rfl, by walk_at "sq", ?_⟩
  | refine ⟨.inl ⟨rfl, _, SqL.of (by assumption)⟩, ?_⟩
  | refine ⟨by walk_at "cond", ?_⟩
  | (refine' ifBT ?hh ?_; (case hh => first | rfl | assumption))
  | (refine' ifBF ?hh ?_; (case hh => first | rfl | assumption)))
local macro_rules | `(tactic| walk_at "go") => `(tactic| repeat walk_at "st")
local macro_rules | `(tactic| walk_at "yes") => `(tactic| (refine' ifT ?hh ?_; (case hh => first | rfl | decide +kernel)))
local macro_rules | `(tactic| walk_at "no") => `(tactic| (refine' ifF ?hh ?_; (case hh => first | decide +kernel | (intro z; cases z; done))))

local macro_rules | `(tactic| walk_at "st") => `(tactic| refine ⟨_, _, _, _, _, rfl, by assumption, by assumption, by omega, by omega, by omega, by omega, by omega, ?_⟩)
local macro_rules | `(tactic| walk_at "st") => `(tactic| refine ⟨_, _, _, _, _, rfl, Same.seq (by assumption) (by assumption), by assumption, by omega, by omega, by omega, by omega, by omega, ?_⟩)

/-! ### one lie -/
abbrev s_ledger_spoil : Stmt := topS 9
theorem sc_ledger_spoil : FnScope ["_law_script", "_law_at", "_law_rows", "_law_sweep", "_law_spots", "_law_kind", "_law_one", "_law_spot", "_law_two", "_law_pick", "_law_row", "_law_goal"] ["_law_script", "_law_at", "_law_rows", "_law_sweep"] (C8.fnScope s_ledger_spoil) := C8.fnScope_by (by decide +kernel)
structure Led (H : Hp) (m : Nat) (rs ss : List Addr) : Prop where
  rw : ∀ r ∈ rs, ∃ (p : Nat) (s t l : Int), p < m ∧ H r = some (.lst [.int p, .int s, .int t, .int l])
  sw : ∀ (k : Nat) r, ss[k]? = some r → ∃ s t : Int, H r = some (.lst [.int k, .int s, .int t])
theorem Led.chg {l : List Addr} {H H' : Hp} {m : Nat} {rs ss : List Addr} (h : Led H m rs ss) (c : Chg l H H') : Led H' m rs ss := by
  refine ⟨fun r hr => ?_, fun k r hr => ?_⟩
  · obtain ⟨p, s, t, l, hp, g⟩ := h.rw r hr
    rcases c r _ g with k | ⟨_, v, n1, n2, m1, m2, q, q', e, le, k⟩
    · exact ⟨p, s, t, l, hp, k⟩
    · have e2 := List.cons.inj (HO.lst.inj e)
      have e3 := (List.cons.inj (List.cons.inj e2.2).2).2
      match q, q', e3, le with
      | [z], [z'], _, _ => exact ⟨p, m1, m2, z', hp, by rw [k, ← e2.1]; rfl⟩
      | [], _, e3, _ => cases e3
      | _ :: _ :: _, _, e3, _ => cases (List.cons.inj e3).2
      | [_], [], _, h => cases h
      | [_], _ :: _ :: _, _, h => cases h
  · obtain ⟨s, t, g⟩ := h.sw k r hr
    rcases c r _ g with w | ⟨_, v, n1, n2, m1, m2, q, q', e, le, w⟩
    · exact ⟨s, t, w⟩
    · have e2 := List.cons.inj (HO.lst.inj e)
      have e3 := (List.cons.inj (List.cons.inj e2.2).2).2
      match q, q', e3, le with
      | [], [], _, _ => exact ⟨m1, m2, by rw [w, ← e2.1]; rfl⟩
      | _ :: _, _, e3, _ => cases e3
      | [], _ :: _, _, h => cases h
theorem Led.spot {H : Hp} {m : Nat} {rs ss : List Addr} (h : Led H m rs ss) {b : Addr} (hb : b ∈ rs ++ ss) : ∃ (i : Int) (n1 n2 : Int) (r : List Int), H b = some (.lst (.int i :: .int n1 :: .int n2 :: r.map V.int)) := by
  rcases List.mem_append.mp hb with hb | hb
  · obtain ⟨p, s, t, l, _, g⟩ := h.rw b hb
    exact ⟨p, s, t, [l], g⟩
  · obtain ⟨k, hk⟩ := List.mem_iff_getElem?.mp hb
    obtain ⟨s, t, g⟩ := h.sw k b hk
    exact ⟨k, s, t, [], g⟩
theorem Led.is {H : Hp} {m : Nat} {rs ss : List Addr} (h : Led H m rs ss) {b : Addr} (hb : b ∈ rs ++ ss) : Spot H b := by
  obtain ⟨i, n1, n2, r, g⟩ := h.spot hb
  exact ⟨_, n1, n2, r, g⟩
theorem pickR {xs : List Addr} {j : Int} (h0 : 0 ≤ j) (h1 : j < (xs.length : Int)) : ∃ o, xs[j.toNat]? = some o ∧ o ∈ xs ∧ atI (xs.map V.ref) j = some (.ref o) := by
  have hj : j.toNat < xs.length := by omega
  refine ⟨xs[j.toNat], List.getElem?_eq_getElem hj, List.getElem_mem hj, ?_⟩
  have z : atI (xs.map V.ref) ((j.toNat : Nat) : Int) = some (.ref xs[j.toNat]) := atI_nat (by rw [List.getElem?_map, List.getElem?_eq_getElem hj]; rfl)
  rw [show ((j.toNat : Nat) : Int) = j by omega] at z
  exact z
theorem Led.set {H H' : Hp} {m : Nat} {rs ss l : List Addr} (h : Led H m rs ss) (hl : ∀ x ∈ rs ++ ss, x ∈ l) (c : Chg l H H') (b : Addr) (i : Nat) (x : Int) (hb : b ∈ rs ++ ss) (hi : i = 1 ∨ i = 2 ∨ (i = 3 ∧ b ∈ rs)) :
    ∃ ys, H' b = some (.lst ys) ∧ ixN ys.length (i : Int) = some i ∧ Chg l H (upd H' b (.lst (ys.set i (.int x)))) := by
  by_cases c3 : i = 3 ∧ b ∈ rs
  · obtain ⟨p, s, t, z, _, g⟩ := (h.chg c).rw b c3.2
    obtain rfl := c3.1
    exact ⟨_, g, ix_at (by show 3 < 4; decide), c.trans (Chg.put (m1 := s) (m2 := t) (r := [z]) (s := [x]) g (hl b hb) rfl)⟩
  · obtain ⟨v, n1, n2, r, g⟩ := (h.chg c).is hb
    refine ⟨_, g, ix_at ?_, c.trans ?_⟩
    · simp only [List.length_cons, List.length_map]
      rcases hi with z | z | z
      · omega
      · omega
      · exact absurd z c3
    · rcases hi with rfl | rfl | z
      · exact Chg.put (m1 := x) (m2 := n2) (s := r) g (hl b hb) rfl
      · exact Chg.put (m1 := n1) (m2 := x) (s := r) g (hl b hb) rfl
      · exact absurd z c3
def spSpoil (K : PySem.W.Frag) : Sp := fun vs H Q _ => ∃ (a R S : Addr) (ns : List Int) (i : Int) (m : Nat) (rs ss : List Addr), vs = [.ref a, .int i, .ref R, .ref S] ∧ SqL K H a (ns.map V.int) ∧ ns.length ≤ 63 ∧ 0 ≤ i ∧ i ≤ 1000 ∧ H R = some (.lst (rs.map V.ref)) ∧ H S = some (.lst (ss.map V.ref)) ∧ Led H m rs ss ∧ R ∉ rs ++ ss ∧ 1 ≤ ss.length ∧ rs.length ≤ 100 ∧ ss.length ≤ 100 ∧
  ∀ (H' : Hp) (rs' : List Addr), (∀ b o, b ∉ R :: (rs ++ ss) → H b = some o → H' b = some o) → H' R = some (.lst (rs'.map V.ref)) → (∀ x ∈ rs', x ∈ rs) → rs'.length = rs.length → Led H' m rs ss → Q .non H'
section
variable {P : Program} {w : World} {K : PySem.W.Frag} {mg : Str → Option Value} {base : Heap}
theorem ok_spoil {f : Addr} {fd : FuncData} (D : Def K mg "_law_ledger_spoil" s_ledger_spoil f fd) (b : Binds K fd ["_law_script", "_law_at", "_law_rows", "_law_sweep"] []) (T : Txt mg) (c_number : Cal P w K mg base 1 "_law_number" (spNum K) []) (c_ledger_swap : Cal P w K mg base 1 "_law_ledger_swap" spSwap []) : Cal P w K mg base 2 "_law_ledger_spoil" (spSpoil K) [] := by
  refine cal0 D b .nil sc_ledger_spoil (fun vs H Q E h => ?_) (fun cdv A outer s H vs Q E hr h => ?_)
  · obtain ⟨a, R, S, ns, i, m, rs, ss, rfl, _⟩ := h
    rfl
  obtain ⟨a, R, S, ns, i, m, rs, ss, rfl, hS, hl, i0, i1, gR, gS, hL, hRn, l1, lr, lS, q⟩ := h
  refine ⟨_, (pss_cons (ps_set (i := 4) sc_ledger_spoil.nd rfl (.inl rfl) (pe_op op_cat (pv 2) (pv 3)))
      (pss_cons (ps_set (i := 5) sc_ledger_spoil.nd rfl (.inl rfl) (C8.pe_c c_number hr (by omega) (by rfl) (pa_cons (pv 0) (pa_cons (pv 1) (pa_cons pe_int (pa_cons pe_int pa_nil))))))
      (pss_cons (ps_set (i := 6) sc_ledger_spoil.nd rfl (.inr rfl) (pe_ix (ixL K rfl) (pv 4) (C8.pe_c c_number hr (by omega) (by rfl) (pa_cons (pv 0) (pa_cons (pv 1) (pa_cons pe_int (pa_cons (pe_callB (lenQ K rfl) (by rfl) T.len PySem.boot_len (pa_cons (pv 4) pa_nil)) pa_nil))))) (fun _ _ => rfl)))
      (pss_one (ps_mk (ps_if (pt_cmpR op_eq (pv 5) pe_int (nomark _))
      (pss_one (ps_asg (C8.pe_c c_number hr (by omega) (by rfl) (pa_cons (pv 0) (pa_cons (pv 1) (pa_cons pe_int (pa_cons pe_int pa_nil))))) (pg_sub (pv 6) pe_int set_list)))
      (pss_one (ps_mk (ps_if (pt_cmpR op_eq (pv 5) pe_int (nomark _))
      (pss_one (ps_asg (pe_op op_add (pe_ix (ixL K rfl) (pv 6) pe_int (fun _ _ => rfl)) pe_int) (pg_sub (pv 6) pe_int set_list)))
      (pss_one (ps_mk (ps_if (pt_cmpR op_eq (pv 5) pe_int (nomark _))
      (pss_one (ps_asg (C8.pe_c c_number hr (by omega) (by rfl) (pa_cons (pv 0) (pa_cons (pv 1) (pa_cons pe_int (pa_cons pe_int pa_nil))))) (pg_sub (pv 6) pe_int set_list)))
      (pss_one (ps_mk (ps_if (pt_cmpR op_eq (pv 5) pe_int (nomark _))
      (pss_one (ps_asg (pe_op op_add (pe_ix (ixL K rfl) (pv 6) pe_int (fun _ _ => rfl)) pe_int) (pg_sub (pv 6) pe_int set_list)))
      (pss_one (ps_mk (ps_if (pt_cmpR op_lt (pv 5) pe_int (nomark _))
      (pss_cons (ps_mk (ps_if (pt_cmpR op_gt (pv 5) pe_int (nomark _))
      (pss_one (ps_setLc (i := 4) (own := [("_law_spot", 7)]) (g := gName 7) rfl sc_ledger_spoil.nd rfl rfl (sw_true rfl rfl rfl (by decide +kernel)) (pi_list (pv 4)) (blkOk_by (own := [("_law_spot", 7)]) (N := ["_law_script", "_law_at", "_law_rows", "_law_sweep", "_law_spots", "_law_kind", "_law_one", "_law_spot", "_law_two", "_law_pick", "_law_row", "_law_goal"]) (sc := C8.fnScope s_ledger_spoil) (by decide +kernel)) (fun _ _ _ _ _ => (pg_name (i := 7) sc_ledger_spoil.nd rfl (.inl rfl))) (fun _ _ _ _ _ => (pts_one (pt_cmpR op_eq (pe_ix (ixL K rfl) (pv 7) pe_int (fun _ _ => rfl)) (pe_ix (ixL K rfl) (pv 6) pe_int (fun _ _ => rfl)) (nomark _)))) (fun _ _ _ _ _ => (pv 7))))
      pss_nil))
      (pss_one (ps_expr (C8.pe_c c_ledger_swap hr (by omega) (by rfl) (pa_cons (pv 6) (pa_cons (pe_ix (ixL K rfl) (pv 4) (C8.pe_c c_number hr (by omega) (by rfl) (pa_cons (pv 0) (pa_cons (pv 1) (pa_cons pe_int (pa_cons (pe_callB (lenQ K rfl) (by rfl) T.len PySem.boot_len (pa_cons (pv 4) pa_nil)) pa_nil))))) (fun _ _ => rfl)) pa_nil))))))
      (pss_one (ps_mk (ps_if (pt_cmpR op_eq (pv 5) pe_int (nomark _))
      (pss_cons (ps_set (i := 8) sc_ledger_spoil.nd rfl (.inl rfl) (pe_ix (ixL K rfl) (pv 4) (C8.pe_c c_number hr (by omega) (by rfl) (pa_cons (pv 0) (pa_cons (pv 1) (pa_cons pe_int (pa_cons (pe_callB (lenQ K rfl) (by rfl) T.len PySem.boot_len (pa_cons (pv 4) pa_nil)) pa_nil))))) (fun _ _ => rfl)))
      (pss_cons (ps_asg (pe_ix (ixL K rfl) (pv 8) pe_int (fun _ _ => rfl)) (pg_sub (pv 6) pe_int set_list))
      (pss_one (ps_asg (pe_ix (ixL K rfl) (pv 8) pe_int (fun _ _ => rfl)) (pg_sub (pv 6) pe_int set_list)))))
      (pss_one (ps_mk (ps_if (pt_cmpR op_gt (pe_callB (lenQ K rfl) (by rfl) T.len PySem.boot_len (pa_cons (pv 2) pa_nil)) pe_int (nomark _))
      (pss_cons (ps_set (i := 9) sc_ledger_spoil.nd rfl (.inl rfl) (C8.pe_c c_number hr (by omega) (by rfl) (pa_cons (pv 0) (pa_cons (pv 1) (pa_cons pe_int (pa_cons (pe_callB (lenQ K rfl) (by rfl) T.len PySem.boot_len (pa_cons (pv 2) pa_nil)) pa_nil))))))
      (pss_cons (ps_set (i := 10) sc_ledger_spoil.nd rfl (.inl rfl) (pe_ix (ixL K rfl) (pv 2) (pv 9) (fun _ _ => rfl)))
      (pss_one (ps_mk (ps_if (pt_cmpR op_eq (pv 5) pe_int (nomark _))
      (pss_cons (ps_asg (pe_ix (ixL K rfl) (pv 10) pe_int (fun _ _ => rfl)) (pg_sub (pv 6) pe_int set_list))
      (pss_one (ps_asg (pe_op op_add (pv 9) pe_int) (pg_sub (pv 6) pe_int set_list))))
      (pss_one (ps_mk (ps_if (pt_cmpR op_eq (pv 5) pe_int (nomark _))
      (pss_one (ps_asg (pe_op op_add (pe_ix (ixL K rfl) (pv 10) pe_int (fun _ _ => rfl)) pe_int) (pg_sub (pv 10) pe_int set_list)))
      (pss_cons (ps_set (i := 11) sc_ledger_spoil.nd rfl (.inl rfl) (C8.pe_c c_number hr (by omega) (by rfl) (pa_cons (pv 0) (pa_cons (pv 1) (pa_cons pe_int (pa_cons (pe_callB (lenQ K rfl) (by rfl) T.len PySem.boot_len (pa_cons (pv 2) pa_nil)) pa_nil))))))
      (pss_cons (ps_asg (pe_ix (ixL K rfl) (pv 2) (pv 11) (fun _ _ => rfl)) (pg_sub (pv 2) (pv 9) set_list))
      (pss_one (ps_asg (pv 10) (pg_sub (pv 2) (pv 11) set_list)))))))))))))
      pss_nil)))))))))))))))))))))))), ?_⟩
  walk_at "go"
  refine ⟨R, S, _, _, rfl, rfl, gR, gS, Nat.le_of_lt (sz5 (by rw [List.length_map, List.length_map]; omega)), fun p np => ?_⟩
  rw [← List.map_append]
  have hin : ∀ x ∈ rs, x ∈ rs ++ ss := fun x h => List.mem_append_left _ h
  have lsp : (rs ++ ss).length = rs.length + ss.length := List.length_append
  generalize hsp : rs ++ ss = sp at *
  have s1 := same_upd (o := HO.lst (sp.map V.ref)) np
  have gp := upd_same (H := H) (a := p) (o := HO.lst (sp.map V.ref))
  have gR1 := s1 _ _ gR
  have hS1 := s1.seq hS
  have hL1 : Led (upd H p (HO.lst (sp.map V.ref))) m rs ss := hL.chg (l := []) (Chg.same s1)
  generalize upd H p (HO.lst (sp.map V.ref)) = H1 at *
  have fin : ∀ H', Chg sp H1 H' → Q .non H' := fun H' c => q H' rs (fun b o nb e => c.tup (s1 _ _ e) (fun z => nb (List.mem_cons_of_mem _ z))) (c.tup gR1 hRn) (fun x h => h) rfl (hL1.chg c)
  walk_at "go"
  rw [List.length_map]
  have k0 : 0 ≤ num ns i 1 (sp.length : Nat) := num_nn (by omega)
  have k1 : num ns i 1 (sp.length : Nat) < (sp.length : Nat) := num_lt (by omega)
  refine ⟨_, _, _, _, _, rfl, hS1, hl, by omega, by omega, by omega, by omega, by omega, ?_⟩
  obtain ⟨o, eo, ho, ao⟩ := pickR k0 k1
  refine ⟨p, _, _, _, rfl, rfl, SqL.of gp, ao, ?_⟩
  generalize num ns i 1 (sp.length : Nat) = jo at *
  generalize num ns i 0 12 = kd at *
  have hsub : ∀ x ∈ rs ++ ss, x ∈ sp := fun x h => hsp ▸ h
  have ho2 : o ∈ rs ++ ss := hsp ▸ ho
  obtain ⟨iv, n1, n2, r, go⟩ := hL1.spot ho2
  have set1 := fun (b : Addr) (j : Nat) (x : Int) (hb : b ∈ rs ++ ss) hj => hL1.set (l := sp) hsub Chg.refl b j x hb hj
  refine un ?_
  walk_at "go"
  refine ifEq (fun c => ?_) (fun c => ?_)
  · walk_at "go"
    obtain ⟨ys, g, e, c2⟩ := set1 o 1 (num ns i 3 1000) ho2 (.inl rfl)
    refine ⟨o, _, _, 1, rfl, rfl, g, e, ?_⟩
    exact fin _ c2
  clear c
  refine un ?_
  walk_at "go"
  refine ifEq (fun c => ?_) (fun c => ?_)
  · walk_at "go"
    refine ⟨o, _, _, _, rfl, rfl, SqL.of go, atI_nat (j := 1) rfl, ?_⟩
    walk_at "go"
    obtain ⟨ys, g, e, c2⟩ := set1 o 1 (n1 + 1) ho2 (.inl rfl)
    refine ⟨o, _, _, 1, rfl, rfl, g, e, ?_⟩
    exact fin _ c2
  clear c
  refine un ?_
  walk_at "go"
  refine ifEq (fun c => ?_) (fun c => ?_)
  · walk_at "go"
    obtain ⟨ys, g, e, c2⟩ := set1 o 2 (num ns i 3 26) ho2 (.inr (.inl rfl))
    refine ⟨o, _, _, 2, rfl, rfl, g, e, ?_⟩
    exact fin _ c2
  clear c
  refine un ?_
  walk_at "go"
  refine ifEq (fun c => ?_) (fun c => ?_)
  · walk_at "go"
    refine ⟨o, _, _, _, rfl, rfl, SqL.of go, atI_nat (j := 2) rfl, ?_⟩
    walk_at "go"
    obtain ⟨ys, g, e, c2⟩ := set1 o 2 (n2 + 1) ho2 (.inr (.inl rfl))
    refine ⟨o, _, _, 2, rfl, rfl, g, e, ?_⟩
    exact fin _ c2
  clear c
  refine un ?_
  walk_at "go"
  refine ifD (fun c => ?_) (fun c => ?_)
  · refine jnS (M := fun σ H' => Same H1 H' ∧ ∃ (p2 : Addr) (fs : List Addr) (y7 : Option V), H' p2 = some (.lst (fs.map V.ref)) ∧ (∀ x ∈ fs, x ∈ sp) ∧ fs.length ≤ 200 ∧ 1 ≤ fs.length ∧ σ = [sR a, sI i, sR R, sR S, sR p2, sI kd, sR o, y7, none, none, none, none]) ?_ (fun N kk => ?_)
    rotate_left
    · walk_at "go"
      refine ifD (fun c2 => ?_) (fun c2 => ?_)
      · walk_at "go"
        refine ⟨⟨_, SqL.of gp⟩, fun L nL => lc_list (K := K) (a := p) (xs := sp.map V.ref) (fun j H' => Ob (Same H1 H' ∧ ∃ fs : List Addr, H' L = some (.lst (fs.map V.ref)) ∧ (∀ x ∈ fs, x ∈ sp) ∧ fs.length ≤ j ∧ (o ∈ sp.take j → 1 ≤ fs.length))) (ob ⟨same_upd nL, [], upd_same, fun x h => (by cases h), Nat.le_refl _, fun h => (by cases h)⟩) (fun j H' _ h => SqL.of ((unob h).1 _ _ gp)) ?_ ?_⟩
        · intro j v H2 hj h
          obtain ⟨s2, fs, g2, m2, l2, o2⟩ := unob h
          clear h kk
          have hjl : j < sp.length := by
            have := (List.getElem?_eq_some_iff.mp hj).1
            rwa [List.length_map] at this
          rw [List.getElem?_map, List.getElem?_eq_getElem hjl] at hj
          obtain rfl := Option.some.inj hj
          have hx : sp[j] ∈ rs ++ ss := by
            rw [hsp]
            exact List.getElem_mem hjl
          have tk : sp.take (j + 1) = sp.take j ++ [sp[j]] := by
            rw [List.take_add_one, List.getElem?_eq_getElem hjl]
            rfl
          obtain ⟨xv, x1, x2, xr, gx⟩ := hL1.spot hx
          have gx2 := s2 _ _ gx
          have go2 := s2 _ _ go
          have same : sp[j] = o → xv = iv := fun e => by
            rw [e, go] at gx
            exact (V.int.inj (List.cons.inj (HO.lst.inj (Option.some.inj gx))).1).symm
          have hmem : sp[j] ∈ sp := List.getElem_mem hjl
          generalize sp[j] = x at *
          refine ⟨rfl, ?_⟩
          walk_at "go"
          refine ⟨x, _, _, _, rfl, rfl, SqL.of gx2, atI_nat (j := 0) rfl, ?_⟩
          walk_at "go"
          refine ⟨o, _, _, _, rfl, rfl, SqL.of go2, atI_nat (j := 0) rfl, ?_⟩
          walk_at "go"
          refine ifEq (fun c3 => ?_) (fun c3 => ?_)
          · walk_at "go"
            refine ⟨_, g2, sz5 (by rw [List.length_map]; omega), ob ⟨same_put s2 nL, fs ++ [x], by rw [upd_same, List.map_append]; rfl, fun y hy => ?_, by rw [List.length_append]; exact Nat.add_le_add_right l2 1, fun _ => by rw [List.length_append]; exact Nat.le_add_left _ _⟩⟩
            rcases List.mem_append.mp hy with hy | hy
            · exact m2 y hy
            · rw [List.mem_singleton.mp hy]
              exact hmem
          · refine ob ⟨s2, fs, g2, m2, Nat.le_succ_of_le l2, fun hy => ?_⟩
            rw [tk] at hy
            rcases List.mem_append.mp hy with hy | hy
            · exact o2 hy
            · exact absurd (same (List.mem_singleton.mp hy).symm) c3
        intro H2 h
        obtain ⟨s2, fs, g2, m2, l2, o2⟩ := unob h
        rw [List.length_map] at l2 o2
        rw [List.take_length] at o2
        exact kk _ _ ⟨s2, L, fs, _, g2, m2, by omega, o2 ho, rfl⟩
      · exact kk _ _ ⟨same_rfl, p, sp, _, gp, fun x h => h, by omega, by omega, rfl⟩
    rintro σ H2 ⟨s2, p2, fs, y7, g2, m2, f200, f1, rfl⟩
    have hS2 := s2.seq hS1
    walk_at "go"
    rw [List.length_map]
    have t0 : 0 ≤ num ns i 2 (fs.length : Nat) := num_nn (by omega)
    have t1 : num ns i 2 (fs.length : Nat) < (fs.length : Nat) := num_lt (by omega)
    refine ⟨_, _, _, _, _, rfl, hS2, hl, by omega, by omega, by omega, by omega, by omega, ?_⟩
    obtain ⟨u, _, hu, au⟩ := pickR t0 t1
    refine ⟨p2, _, _, _, rfl, rfl, SqL.of g2, au, ?_⟩
    have c2 : Chg sp H1 H2 := Chg.same s2
    refine ⟨o, u, rfl, (hL1.chg c2).is ho2, (hL1.chg c2).is (hsp ▸ m2 u hu), fun H3 c3 => ?_⟩
    refine fin _ (c2.trans (c3.mono fun x hx => ?_))
    rcases List.mem_cons.mp hx with rfl | hx
    · exact ho
    · rw [List.mem_singleton.mp hx]
      exact m2 u hu
  clear c
  refine un ?_
  walk_at "go"
  refine ifEq (fun c => ?_) (fun c => ?_)
  · have t0 : 0 ≤ num ns i 2 (sp.length : Nat) := num_nn (by omega)
    have t1 : num ns i 2 (sp.length : Nat) < (sp.length : Nat) := num_lt (by omega)
    walk_at "go"
    rw [List.length_map]
    refine ⟨_, _, _, _, _, rfl, hS1, hl, by omega, by omega, by omega, by omega, by omega, ?_⟩
    obtain ⟨u, _, hu, au⟩ := pickR t0 t1
    refine ⟨p, _, _, _, rfl, rfl, SqL.of gp, au, ?_⟩
    have hu2 : u ∈ rs ++ ss := hsp ▸ hu
    obtain ⟨uv, u1, u2, ur, gu⟩ := hL1.spot hu2
    walk_at "go"
    refine ⟨u, _, _, _, rfl, rfl, SqL.of gu, atI_nat (j := 1) rfl, ?_⟩
    walk_at "go"
    obtain ⟨ys, g, e, c2⟩ := set1 o 1 u1 ho2 (.inl rfl)
    refine ⟨o, _, _, 1, rfl, rfl, g, e, ?_⟩
    generalize upd H1 o (HO.lst (ys.set 1 (.int u1))) = H2 at *
    obtain ⟨uv, u1, u2, ur, gu⟩ := (hL1.chg c2).spot hu2
    walk_at "go"
    refine ⟨u, _, _, _, rfl, rfl, SqL.of gu, atI_nat (j := 2) rfl, ?_⟩
    walk_at "go"
    obtain ⟨ys, g, e, c3⟩ := hL1.set (l := sp) hsub c2 o 2 u2 ho2 (.inr (.inl rfl))
    refine ⟨o, _, _, 2, rfl, rfl, g, e, ?_⟩
    exact fin _ c3
  clear c
  refine un ?_
  walk_at "go"
  rw [List.length_map]
  refine ifD (fun c => ?_) (fun c => ?_)
  rotate_left
  · exact fin _ Chg.refl
  have t0 : 0 ≤ num ns i 2 (rs.length : Nat) := num_nn (by omega)
  have t1 : num ns i 2 (rs.length : Nat) < (rs.length : Nat) := num_lt (by omega)
  walk_at "go"
  rw [List.length_map]
  refine ⟨_, _, _, _, _, rfl, hS1, hl, by omega, by omega, by omega, by omega, by omega, ?_⟩
  walk_at "go"
  obtain ⟨u, eu, hu, au⟩ := pickR t0 t1
  generalize num ns i 2 (rs.length : Nat) = pk at *
  refine ⟨R, _, _, _, rfl, rfl, SqL.of gR1, au, ?_⟩
  have hu2 : u ∈ rs ++ ss := List.mem_append_left _ hu
  obtain ⟨up, u1, u2, u3, _, gu⟩ := hL1.rw u hu
  refine un ?_
  walk_at "go"
  refine ifEq (fun c => ?_) (fun c => ?_)
  · walk_at "go"
    refine ⟨u, _, _, _, rfl, rfl, SqL.of gu, atI_nat (j := 3) rfl, ?_⟩
    walk_at "go"
    obtain ⟨ys, g, e, c2⟩ := set1 o 1 u3 ho2 (.inl rfl)
    refine ⟨o, _, _, 1, rfl, rfl, g, e, ?_⟩
    generalize upd H1 o (HO.lst (ys.set 1 (.int u3))) = H2 at *
    walk_at "go"
    obtain ⟨ys, g, e, c3⟩ := hL1.set (l := sp) hsub c2 o 2 (pk + 1) ho2 (.inr (.inl rfl))
    refine ⟨o, _, _, 2, rfl, rfl, g, e, ?_⟩
    exact fin _ c3
  clear c
  refine un ?_
  walk_at "go"
  refine ifEq (fun c => ?_) (fun c => ?_)
  · walk_at "go"
    refine ⟨u, _, _, _, rfl, rfl, SqL.of gu, atI_nat (j := 3) rfl, ?_⟩
    walk_at "go"
    obtain ⟨ys, g, e, c2⟩ := set1 u 3 (u3 + 1) hu2 (.inr (.inr ⟨rfl, hu⟩))
    refine ⟨u, _, _, 3, rfl, rfl, g, e, ?_⟩
    exact fin _ c2
  clear c
  have v0 : 0 ≤ num ns i 3 (rs.length : Nat) := num_nn (by omega)
  have v1 : num ns i 3 (rs.length : Nat) < (rs.length : Nat) := num_lt (by omega)
  walk_at "go"
  rw [List.length_map]
  refine ⟨_, _, _, _, _, rfl, hS1, hl, by omega, by omega, by omega, by omega, by omega, ?_⟩
  walk_at "go"
  obtain ⟨z, ez, hz, az⟩ := pickR v0 v1
  generalize num ns i 3 (rs.length : Nat) = gl at *
  refine ⟨R, _, _, _, rfl, rfl, SqL.of gR1, az, ?_⟩
  walk_at "go"
  have e1 : ixN (rs.map V.ref).length pk = some pk.toNat := by
    rw [show pk = ((pk.toNat : Nat) : Int) by omega]
    exact ix_at (by rw [List.length_map]; omega)
  refine ⟨R, _, _, pk.toNat, rfl, rfl, gR1, e1, ?_⟩
  rw [← List.map_set]
  have gR2 := upd_same (H := H1) (a := R) (o := HO.lst ((rs.set pk.toNat z).map V.ref))
  have b2 : ∀ b o, b ≠ R → H1 b = some o → upd H1 R (HO.lst ((rs.set pk.toNat z).map V.ref)) b = some o := fun b o n e => by
    rw [upd_ne n]
    exact e
  generalize upd H1 R (HO.lst ((rs.set pk.toNat z).map V.ref)) = H2 at *
  walk_at "go"
  have e2 : ixN ((rs.set pk.toNat z).map V.ref).length gl = some gl.toNat := by
    rw [show gl = ((gl.toNat : Nat) : Int) by omega]
    exact ix_at (by rw [List.length_map, List.length_set]; omega)
  refine ⟨R, _, _, gl.toNat, rfl, rfl, gR2, e2, ?_⟩
  rw [← List.map_set]
  have b3 : ∀ b o, b ≠ R → H1 b = some o → upd H2 R (HO.lst (((rs.set pk.toNat z).set gl.toNat u).map V.ref)) b = some o := fun b o n e => by
    rw [upd_ne n]
    exact b2 b o n e
  have hin2 : ∀ x ∈ (rs.set pk.toNat z).set gl.toNat u, x ∈ rs := fun x hx => by
    rcases List.mem_or_eq_of_mem_set hx with hx | rfl
    · rcases List.mem_or_eq_of_mem_set hx with hx | rfl
      · exact hx
      · exact hz
    · exact hu
  have nR : ∀ b ∈ rs ++ ss, b ≠ R := fun b hb e => hRn (by rw [← e]; exact hsub b hb)
  refine q _ _ (fun b o nb e => b3 b o (fun z => nb (by rw [z]; exact List.mem_cons_self)) (s1 _ _ e)) upd_same hin2 (by rw [List.length_set, List.length_set]) ⟨fun r hr => ?_, fun k r hr => ?_⟩
  · obtain ⟨p, s, t, l, hp, g⟩ := hL1.rw r hr
    exact ⟨p, s, t, l, hp, b3 _ _ (nR _ (List.mem_append_left _ hr)) g⟩
  · obtain ⟨s, t, g⟩ := hL1.sw k r hr
    exact ⟨s, t, b3 _ _ (nR _ (List.mem_append_right _ (List.mem_of_getElem? hr))) g⟩
end

end

section

-- a condition of an operator
local macro_rules | `(tactic| walk_at "cond") => `(tactic| first
  | (show (0 : Int) < _; omega)
  | (show CDiv _ _; constructor <;> (first | decide | omega))
  | (show CMul _ _; first | (refine cmul_l ?_; constructor <;> (first | decide | omega)) | (refine cmul_r ?_; constructor <;> (first | decide | omega)))
  | (show CPow _ _; exact (by refine ⟨by decide, by decide, by decide⟩))
  | (show CDivW _ _; exact ⟨by decide, by decide +kernel⟩))
local macro_rules | `(tactic| walk_at "sq") => `(tactic| first | assumption | exact Dh.mono (same_upd (by assumption)) _ _ (by assumption) | exact .inl (.inl (.inl (by assumption))) | exact .inr (.inl (.inl (by assumption))) | exact SqL.of (by assumption) | exact .inl (by assumption) | exact .inl (SqL.of (by assumption)) | exact SqT.of (by assumption) | exact .inr (SqT.of (by assumption)))
local macro_rules | `(tactic| walk_at "st") => `(tactic| first
  | refine ⟨_, rfl, ?_⟩
  | refine ⟨_, _, rfl, rfl, ?_⟩
  | refine .inl ⟨_, rfl, ?_⟩
  | refine ⟨rfl, ?_⟩
  | refine ⟨_, _, rfl, by walk_at "sq", ?_⟩
  | refine ⟨.inl ⟨rfl, _, SqL.of (by assumption)⟩, ?_⟩
  | refine ⟨by walk_at "cond", ?_⟩
  | (refine' ifBT ?hh ?_; (case hh => first | rfl | assumption))
  | (refine' ifBF ?hh ?_; (case hh => first | rfl | assumption)))
local macro_rules | `(tactic| walk_at "go") => `(tactic| repeat walk_at "st")
local macro_rules | `(tactic| walk_at "yes") => `(tactic| (refine' ifT ?hh ?_; (case hh => first | rfl | decide +kernel)))
local macro_rules | `(tactic| walk_at "no") => `(tactic| (refine' ifF ?hh ?_; (case hh => first | decide +kernel | (intro z; cases z; done))))

local macro_rules | `(tactic| walk_at "st") => `(tactic| refine ⟨_, _, _, _, _, rfl, by assumption, by assumption, by omega, by omega, by omega, by omega, by omega, ?_⟩)
local macro_rules | `(tactic| walk_at "st") => `(tactic| refine ⟨_, _, _, _, _, rfl, Same.seq (by assumption) (by assumption), by assumption, by omega, by omega, by omega, by omega, by omega, ?_⟩)

/-! ### the ledger built -/
abbrev s_ledger_build : Stmt := topS 10
theorem sc_ledger_build : FnScope ["_law_script", "_law_many", "_law_count", "_law_lies", "_law_rows", "_law_last", "_law_k", "_law_at", "_law_pick", "_law_place", "_law_found", "_law_left", "_law_sweep", "_law_n", "_law_row", "_law_spot"] ["_law_script"] (C8.fnScope s_ledger_build) := C8.fnScope_by (by decide +kernel)
theorem Led.not {H : Hp} {m : Nat} {rs ss xs : List Addr} {R : Addr} (h : Led H m rs ss) (g : H R = some (.lst (xs.map V.ref))) : R ∉ rs ++ ss := fun hb => by
  obtain ⟨i, n1, n2, r, e⟩ := h.spot hb
  rw [g] at e
  have e := HO.lst.inj (Option.some.inj e)
  cases xs with
  | nil => cases e
  | cons x xs => cases (List.cons.inj e).1
theorem pick8 {i : Int} (h0 : 0 ≤ i) (h1 : i < 8) : ∃ z : Int, atI [V.int 0, V.int 0, V.int 1, V.int 1, V.int 1, V.int 2, V.int 2, V.int 9] i = some (.int z) ∧ 0 ≤ z ∧ z ≤ 9 := by
  have h : i = 0 ∨ i = 1 ∨ i = 2 ∨ i = 3 ∨ i = 4 ∨ i = 5 ∨ i = 6 ∨ i = 7 := by omega
  rcases h with rfl | rfl | rfl | rfl | rfl | rfl | rfl | rfl
  · exact ⟨0, rfl, by decide, by decide⟩
  · exact ⟨0, rfl, by decide, by decide⟩
  · exact ⟨1, rfl, by decide, by decide⟩
  · exact ⟨1, rfl, by decide, by decide⟩
  · exact ⟨1, rfl, by decide, by decide⟩
  · exact ⟨2, rfl, by decide, by decide⟩
  · exact ⟨2, rfl, by decide, by decide⟩
  · exact ⟨9, rfl, by decide, by decide⟩
theorem noLs_lr : ∀ xs : List LR, noLs (xs.map lrD) = true
  | [] => rfl
  | x :: xs => by
    show (noL (lrD x) && noLs (xs.map lrD)) = true
    rw [noLs_lr xs]
    rfl
theorem noLs_sw : ∀ (xs : List LP) (n : Nat), noLs (swL n xs) = true
  | [], _ => rfl
  | x :: xs, n => by
    show (noL (swD n x) && noLs (swL (n + 1) xs)) = true
    rw [noLs_sw xs (n + 1)]
    rfl
structure Bld (H H' : Hp) (m : Nat) (RL SL : Addr) (rs ss : List Addr) : Prop where
  s : Same H H'
  gR : H' RL = some (.lst (rs.map V.ref))
  gS : H' SL = some (.lst (ss.map V.ref))
  led : Led H' m rs ss
  fr : ∀ x ∈ RL :: SL :: (rs ++ ss), H x = none
  ls : ss.length = m
  lr : rs.length ≤ 24
  ne : RL ≠ SL
def spBuild (K : PySem.W.Frag) : Sp := fun vs H Q _ => ∃ (a : Addr) (ns : List Int), vs = [.ref a] ∧ SqL K H a (ns.map V.int) ∧ ns.length ≤ 63 ∧
  ∀ (t A B : Addr) (m : Nat) (R : List LR) (sw : List LP) (H' : Hp), Same H H' → H' t = some (.tup [.int m, .ref A, .ref B]) → Dh H' (.list (R.map lrD)) (.ref A) → Dh H' (.list (swL 0 sw)) (.ref B) → sw.length = m → m ≤ 64 → R.length ≤ 24 → (∀ r ∈ R, r.p < m) → Q (.ref t) H'
section
variable {P : Program} {w : World} {K : PySem.W.Frag} {mg : Str → Option Value} {base : Heap}
theorem ok_build {f : Addr} {fd : FuncData} (D : Def K mg "_law_ledger_build" s_ledger_build f fd) (b : Binds K fd ["_law_script"] []) (T : TxtL mg) (c_number : Cal P w K mg base 1 "_law_number" (spNum K) []) (c_ledger_left : Cal P w K mg base 2 "_law_ledger_left" (spLeft K) []) (c_ledger_spoil : Cal P w K mg base 2 "_law_ledger_spoil" (spSpoil K) []) : Cal P w K mg base 3 "_law_ledger_build" (spBuild K) [] := by
  refine cal0 D b .nil sc_ledger_build (fun vs H Q E h => ?_) (fun cdv A outer s H vs Q E hr h => ?_)
  · obtain ⟨a, ns, rfl, _⟩ := h
    rfl
  obtain ⟨a, ns, rfl, hS, hl, q⟩ := h
  refine ⟨_, (pss_cons (ps_set (i := 1) sc_ledger_build.nd rfl (.inl rfl) (C8.pe_c c_number hr (by omega) (by rfl) (pa_cons (pv 0) (pa_cons pe_int (pa_cons pe_int (pa_cons pe_int pa_nil))))))
      (pss_cons (ps_mk (ps_if (pt_cmpR op_eq (C8.pe_c c_number hr (by omega) (by rfl) (pa_cons (pv 0) (pa_cons pe_int (pa_cons pe_int (pa_cons pe_int pa_nil))))) pe_int (nomark _))
      (pss_one (ps_set (i := 1) sc_ledger_build.nd rfl (.inl rfl) (pe_op op_add pe_int (C8.pe_c c_number hr (by omega) (by rfl) (pa_cons (pv 0) (pa_cons pe_int (pa_cons pe_int (pa_cons pe_int pa_nil))))))))
      pss_nil))
      (pss_cons (ps_set (i := 2) sc_ledger_build.nd rfl (.inl rfl) pe_int)
      (pss_cons (ps_mk (ps_if (pt_cmpR op_gt (pv 1) pe_int (nomark _))
      (pss_one (ps_set (i := 2) sc_ledger_build.nd rfl (.inl rfl) (C8.pe_c c_number hr (by omega) (by rfl) (pa_cons (pv 0) (pa_cons pe_int (pa_cons pe_int (pa_cons pe_int pa_nil)))))))
      pss_nil))
      (pss_cons (ps_set (i := 3) sc_ledger_build.nd rfl (.inl rfl) (pe_ix (ixL K rfl) (pe_lst (pa_cons pe_int (pa_cons pe_int (pa_cons pe_int (pa_cons pe_int (pa_cons pe_int (pa_cons pe_int (pa_cons pe_int (pa_cons pe_int pa_nil))))))))) (C8.pe_c c_number hr (by omega) (by rfl) (pa_cons (pv 0) (pa_cons pe_int (pa_cons pe_int (pa_cons pe_int pa_nil))))) (fun _ _ => rfl)))
      (pss_cons (ps_set (i := 4) sc_ledger_build.nd rfl (.inl rfl) (pe_lst pa_nil))
      (pss_cons (ps_set (i := 5) sc_ledger_build.nd rfl (.inr rfl) (pe_lc (own := [("_law_k", 6)]) (g := gName 6) (tt := tYes) rfl sc_ledger_build.nd (pi_range1 (by rfl) T.range (pa_cons (pv 1) pa_nil)) (blkOk_by (own := [("_law_k", 6)]) (N := ["_law_script", "_law_many", "_law_count", "_law_lies", "_law_rows", "_law_last", "_law_k", "_law_at", "_law_pick", "_law_place", "_law_found", "_law_left", "_law_sweep", "_law_n", "_law_row", "_law_spot"]) (sc := C8.fnScope s_ledger_build) (by decide +kernel)) (fun _ _ _ _ _ => (pg_name (i := 6) sc_ledger_build.nd rfl (.inl rfl))) (fun _ _ _ _ _ => pts_nil) (fun _ _ _ _ _ => (pe_tup (pa_cons pe_int (pa_cons pe_int pa_nil))))))
      (pss_cons (ps_mk (ps_for PassesOwn.never rfl (pi_range2 (by rfl) T.range (pa_cons pe_int (pa_cons (pe_op op_add pe_int (pv 2)) pa_nil))) (pg_name (i := 7) sc_ledger_build.nd rfl (.inl rfl))
      (pss_cons (ps_set (i := 8) sc_ledger_build.nd rfl (.inl rfl) (C8.pe_c c_number hr (by omega) (by rfl) (pa_cons (pv 0) (pa_cons (pv 7) (pa_cons pe_int (pa_cons (pe_op op_mul pe_int (pv 1)) pa_nil))))))
      (pss_cons (ps_set (i := 9) sc_ledger_build.nd rfl (.inl rfl) (pe_op op_fdiv (pv 8) pe_int))
      (pss_cons (ps_mk (ps_if (pt_cmpR op_eq (pe_op op_mod (pe_callTy call_int1 (by rfl) T.int (by decide +kernel) (pa_cons (pv 8) pa_nil)) pe_int) pe_int (nomark _))
      (pss_one (ps_set (i := 9) sc_ledger_build.nd rfl (.inl rfl) (pe_op op_mod (pe_callTy call_int1 (by rfl) T.int (by decide +kernel) (pa_cons (pv 9) pa_nil)) (pe_callB (call_min2 rfl) (by rfl) T.min (by decide +kernel) (pa_cons pe_int (pa_cons (pv 1) pa_nil))))))
      pss_nil))
      (pss_cons (ps_set (i := 10) sc_ledger_build.nd rfl (.inl rfl) (pe_ix (ixL K rfl) (pv 5) (pv 9) (fun _ _ => rfl)))
      (pss_cons (ps_mk (ps_if (PW.pt (pw_and (pt_cmpR op_eq (pv 3) pe_int (nomark _)) (pw_and1 (pt_cmpR op_eq (C8.pe_c c_number hr (by omega) (by rfl) (pa_cons (pv 0) (pa_cons (pv 7) (pa_cons pe_int (pa_cons pe_int pa_nil))))) pe_int (nomark _)))))
      (pss_one (ps_set (i := 10) sc_ledger_build.nd rfl (.inl rfl) (pe_tup (pa_cons (C8.pe_c c_number hr (by omega) (by rfl) (pa_cons (pv 0) (pa_cons (pv 7) (pa_cons pe_int (pa_cons pe_int pa_nil))))) (pa_cons (C8.pe_c c_number hr (by omega) (by rfl) (pa_cons (pv 0) (pa_cons (pv 7) (pa_cons pe_int (pa_cons pe_int pa_nil))))) pa_nil)))))
      pss_nil))
      (pss_cons (ps_set (i := 11) sc_ledger_build.nd rfl (.inl rfl) (C8.pe_c c_ledger_left hr (by omega) (by rfl) (pa_cons (pv 0) (pa_cons (pv 7) (pa_cons (pe_ix (ixT K rfl) (pv 10) pe_int (fun _ _ => rfl)) pa_nil)))))
      (pss_cons (ps_expr (pe_bm PySem.F.plainAttrs_list PySem.F.slot_list_append PySem.F.type_list_append mt_append (pv 4) (pa_cons (pe_lst (pa_cons (pv 9) (pa_cons (pe_ix (ixT K rfl) (pv 10) pe_int (fun _ _ => rfl)) (pa_cons (pe_ix (ixT K rfl) (pv 10) pe_int (fun _ _ => rfl)) (pa_cons (pv 11) pa_nil))))) pa_nil)))
      (pss_one (ps_asg (pe_tup (pa_cons (pv 11) (pa_cons (pv 7) pa_nil))) (pg_sub (pv 5) (pv 9) set_list))))))))))))
      (pss_cons (ps_setLc (i := 12) (own := [("_law_k", 6)]) (g := gName 6) (tt := tYes) rfl sc_ledger_build.nd rfl rfl (sw_true rfl rfl rfl (by decide +kernel)) (pi_range1 (by rfl) T.range (pa_cons (pv 1) pa_nil)) (blkOk_by (own := [("_law_k", 6)]) (N := ["_law_script", "_law_many", "_law_count", "_law_lies", "_law_rows", "_law_last", "_law_k", "_law_at", "_law_pick", "_law_place", "_law_found", "_law_left", "_law_sweep", "_law_n", "_law_row", "_law_spot"]) (sc := C8.fnScope s_ledger_build) (by decide +kernel)) (fun _ _ _ _ _ => (pg_name (i := 6) sc_ledger_build.nd rfl (.inl rfl))) (fun _ _ _ _ _ => pts_nil) (fun _ _ _ _ _ => (pe_lst (pa_cons (pv 6) (pa_cons (pe_ix (ixT K rfl) (pe_ix (ixL K rfl) (pv 5) (pv 6) (fun _ _ => rfl)) pe_int (fun _ _ => rfl)) (pa_cons (pe_ix (ixT K rfl) (pe_ix (ixL K rfl) (pv 5) (pv 6) (fun _ _ => rfl)) pe_int (fun _ _ => rfl)) pa_nil))))))
      (pss_cons (ps_mk (ps_if (pt_cmpR op_eq (pv 3) pe_int (nomark _))
      (pss_one (ps_mk (ps_for PassesOwn.never rfl (pi_range1 (by rfl) T.range (pa_cons (pe_callB (call_min2 rfl) (by rfl) T.min (by decide +kernel) (pa_cons (pv 1) (pa_cons pe_int pa_nil))) pa_nil)) (pg_name (i := 6) sc_ledger_build.nd rfl (.inl rfl))
      (pss_one (ps_mk (ps_if (pt_cmpR op_eq (C8.pe_c c_number hr (by omega) (by rfl) (pa_cons (pv 0) (pa_cons (pe_op op_add pe_int (pv 6)) (pa_cons pe_int (pa_cons pe_int pa_nil))))) pe_int (nomark _))
      (pss_one (ps_asg (pe_lst (pa_cons (pv 6) (pa_cons (C8.pe_c c_number hr (by omega) (by rfl) (pa_cons (pv 0) (pa_cons (pe_op op_add pe_int (pv 6)) (pa_cons pe_int (pa_cons pe_int pa_nil))))) (pa_cons (C8.pe_c c_number hr (by omega) (by rfl) (pa_cons (pv 0) (pa_cons (pe_op op_add pe_int (pv 6)) (pa_cons pe_int (pa_cons pe_int pa_nil))))) pa_nil)))) (pg_sub (pv 12) (pv 6) set_list)))
      pss_nil))))))
      (pss_one (ps_mk (ps_if (pt_cmpR op_gt (pv 1) pe_int (nomark _))
      (pss_one (ps_mk (ps_for PassesOwn.never rfl (pi_range1 (by rfl) T.range (pa_cons (pv 3) pa_nil)) (pg_name (i := 13) sc_ledger_build.nd rfl (.inl rfl))
      (pss_one (ps_expr (C8.pe_c c_ledger_spoil hr (by omega) (by rfl) (pa_cons (pv 0) (pa_cons (pe_op op_add pe_int (pv 13)) (pa_cons (pv 4) (pa_cons (pv 12) pa_nil))))))))))
      pss_nil)))))
      (pss_one (ps_ret (pe_tup (pa_cons (pv 1) (pa_cons (pe_lc (own := [("_law_row", 14)]) (g := gName 14) (tt := tYes) rfl sc_ledger_build.nd (pi_list (pv 4)) (blkOk_by (own := [("_law_row", 14)]) (N := ["_law_script", "_law_many", "_law_count", "_law_lies", "_law_rows", "_law_last", "_law_k", "_law_at", "_law_pick", "_law_place", "_law_found", "_law_left", "_law_sweep", "_law_n", "_law_row", "_law_spot"]) (sc := C8.fnScope s_ledger_build) (by decide +kernel)) (fun _ _ _ _ _ => (pg_name (i := 14) sc_ledger_build.nd rfl (.inl rfl))) (fun _ _ _ _ _ => pts_nil) (fun _ _ _ _ _ => (pe_tup (pa_cons (pe_ix (ixL K rfl) (pv 14) pe_int (fun _ _ => rfl)) (pa_cons (pe_ix (ixL K rfl) (pv 14) pe_int (fun _ _ => rfl)) (pa_cons (pe_ix (ixL K rfl) (pv 14) pe_int (fun _ _ => rfl)) (pa_cons (pe_ix (ixL K rfl) (pv 14) pe_int (fun _ _ => rfl)) pa_nil))))))) (pa_cons (pe_lc (own := [("_law_spot", 15)]) (g := gName 15) (tt := tYes) rfl sc_ledger_build.nd (pi_list (pv 12)) (blkOk_by (own := [("_law_spot", 15)]) (N := ["_law_script", "_law_many", "_law_count", "_law_lies", "_law_rows", "_law_last", "_law_k", "_law_at", "_law_pick", "_law_place", "_law_found", "_law_left", "_law_sweep", "_law_n", "_law_row", "_law_spot"]) (sc := C8.fnScope s_ledger_build) (by decide +kernel)) (fun _ _ _ _ _ => (pg_name (i := 15) sc_ledger_build.nd rfl (.inl rfl))) (fun _ _ _ _ _ => pts_nil) (fun _ _ _ _ _ => (pe_tup (pa_cons (pe_ix (ixL K rfl) (pv 15) pe_int (fun _ _ => rfl)) (pa_cons (pe_ix (ixL K rfl) (pv 15) pe_int (fun _ _ => rfl)) (pa_cons (pe_ix (ixL K rfl) (pv 15) pe_int (fun _ _ => rfl)) pa_nil)))))) pa_nil)))))))))))))))), ?_⟩
  walk_at "go"
  have q60 : 0 ≤ num ns 0 12 6 := num_nn (by decide)
  have q61 : num ns 0 12 6 < 6 := num_lt (by decide)
  have q590 : 0 ≤ num ns 0 1 59 := num_nn (by decide)
  have q591 : num ns 0 1 59 < 59 := num_lt (by decide)
  refine jnS (M := fun σ H' => ∃ m : Nat, H' = H ∧ m ≤ 64 ∧ σ = [sR a, sI m, none, none, none, none, none, none, none, none, none, none, none, none, none, none]) ?_ (fun N kk => ?_)
  rotate_left
  · walk_at "go"
    refine ifEq (fun c => ?_) (fun c => ?_)
    · walk_at "go"
      refine kk _ _ ⟨(6 + num ns 0 1 59).toNat, rfl, by omega, ?_⟩
      rw [show (((6 + num ns 0 1 59).toNat : Nat) : Int) = 6 + num ns 0 1 59 by omega]
      rfl
    · refine kk _ _ ⟨(num ns 0 12 6).toNat, rfl, by omega, ?_⟩
      rw [show (((num ns 0 12 6).toNat : Nat) : Int) = num ns 0 12 6 by omega]
      rfl
  rintro σ H1 ⟨m, rfl, hm, rfl⟩
  have q250 : 0 ≤ num ns 0 5 25 := num_nn (by decide)
  have q251 : num ns 0 5 25 < 25 := num_lt (by decide)
  walk_at "go"
  refine jnS (M := fun σ H' => ∃ n : Nat, H' = H1 ∧ n ≤ 24 ∧ (0 < n → 0 < m) ∧ σ = [sR a, sI m, sI n, none, none, none, none, none, none, none, none, none, none, none, none, none]) ?_ (fun N kk => ?_)
  rotate_left
  · walk_at "go"
    refine ifD (fun c => ?_) (fun c => ?_)
    · walk_at "go"
      refine kk _ _ ⟨(num ns 0 5 25).toNat, rfl, by omega, fun _ => by omega, ?_⟩
      rw [show (((num ns 0 5 25).toNat : Nat) : Int) = num ns 0 5 25 by omega]
      rfl
    · exact kk _ _ ⟨0, rfl, by omega, fun z => absurd z (by omega), rfl⟩
  rintro σ H2 ⟨n, rfl, hn, hmn, rfl⟩
  walk_at "go"
  refine ⟨sz, fun p0 np0 => ?_⟩
  have s1 := same_upd (o := HO.lst [V.int 0, V.int 0, V.int 1, V.int 1, V.int 1, V.int 2, V.int 2, V.int 9]) np0
  have g0 := upd_same (H := H2) (a := p0) (o := HO.lst [V.int 0, V.int 0, V.int 1, V.int 1, V.int 1, V.int 2, V.int 2, V.int 9])
  have hS1 := s1.seq hS
  generalize upd H2 p0 (HO.lst [V.int 0, V.int 0, V.int 1, V.int 1, V.int 1, V.int 2, V.int 2, V.int 9]) = H3 at *
  walk_at "go"
  obtain ⟨ly, ely, ly0, ly9⟩ := pick8 (i := num ns 0 13 8) (num_nn (by decide)) (num_lt (by decide))
  refine ⟨p0, _, _, _, rfl, rfl, SqL.of g0, ely, ?_⟩
  walk_at "go"
  refine ⟨sz, fun RL nRL => ?_⟩
  have nR0 := s1.free nRL
  have gRL := upd_same (H := H3) (a := RL) (o := HO.lst [])
  have s2 := s1.trans (same_upd (o := HO.lst []) nRL)
  generalize upd H3 RL (HO.lst []) = H4 at *
  clear g0 ely np0 hS1 s1 nRL
  walk_at "go"
  refine ⟨by omega, by omega, fun L nL => lc_range (lo := 0) (n := m) (fun j H' => Ob (Same H4 H' ∧ ∃ vs, H' L = some (.lst vs) ∧ DhAll H' ((List.replicate j ((0, 0) : LP)).map lpD) vs)) (ob ⟨same_upd nL, [], upd_same, rfl⟩) ?_ ?_⟩
  · intro j H1 hj h
    obtain ⟨s1, vs, g1, d1⟩ := unob h
    have lv := d1.len
    rw [List.length_map, List.length_replicate] at lv
    refine ⟨rfl, ?_⟩
    walk_at "go"
    refine ⟨sz, fun t nt => ?_⟩
    have s2 := same_upd (o := HO.tup [V.int 0, V.int 0]) nt
    refine ⟨vs, s2 _ _ g1, sz5 (by omega), ob ⟨same_put (s1.trans s2) nL, vs ++ [.ref t], upd_same, ?_⟩⟩
    exact lpAll_put (s2 _ _ g1) (dh_rep (DhAll.mono s2 _ _ d1) upd_same)
  intro H5 h
  obtain ⟨s5, vs0, gL, dv⟩ := unob h
  clear h
  try dsimp only
  have nL0 := s2.free nL
  have gR5 := s5 _ _ gRL
  have s25 := s2.trans s5
  have nLR : L ≠ RL := (ne_of_none gRL nL).symm
  clear s2 s5 gRL nL
  refine jnS (M := fun σ H' => ∃ (rs : List Addr) (last : List LP) (vs : List V) (y6 y7 y8 y9 y10 y11 : Option V), Same H2 H' ∧ H' RL = some (.lst (rs.map V.ref)) ∧ rs.length ≤ 24 ∧ Led H' m rs [] ∧ (∀ x ∈ rs, H2 x = none) ∧ H' L = some (.lst vs) ∧ DhAll H' (last.map lpD) vs ∧ last.length = m ∧ σ = [sR a, sI m, sI n, sI ly, sR RL, sR L, y6, y7, y8, y9, y10, y11, none, none, none, none]) ?_ (fun N kk => ?_)
  rotate_left
  · walk_at "go"
    refine ⟨_, _, rfl, ⟨by omega, by omega, by omega, by omega⟩, for_range (lo := 1) (n := (1 + (n : Int) - 1).toNat) (fun j σ H' => Ob (∃ (rs : List Addr) (last : List LP) (vs : List V) (y6 y7 y8 y9 y10 y11 : Option V), Same H2 H' ∧ H' RL = some (.lst (rs.map V.ref)) ∧ rs.length = j ∧ Led H' m rs [] ∧ (∀ x ∈ rs, H2 x = none) ∧ H' L = some (.lst vs) ∧ DhAll H' (last.map lpD) vs ∧ last.length = m ∧ σ = [sR a, sI m, sI n, sI ly, sR RL, sR L, y6, y7, y8, y9, y10, y11, none, none, none, none])) ?_ ?_ ?_⟩
    · exact ob ⟨[], _, vs0, none, none, none, none, none, none, s25, gR5, rfl, ⟨fun r hr => (by cases hr), fun k r hr => by simp at hr⟩, fun x hx => (by cases hx), gL, dv, List.length_replicate, rfl⟩
    · intro j σ H6 hj h
      obtain ⟨rs, last, vs, y6, y7, y8, y9, y10, y11, s6, gR6, lrs, led, fr, gL6, d6, ll, rfl⟩ := unob h
      clear h kk
      have m0 : 0 < m := hmn (by omega)
      have hS6 := s6.seq hS
      have lv := d6.len
      rw [List.length_map] at lv
      have p0 : 0 ≤ num ns (1 + (j : Int)) 0 (2 * (m : Int)) := num_nn (by omega)
      have p1 : num ns (1 + (j : Int)) 0 (2 * (m : Int)) < 2 * (m : Int) := num_lt (by omega)
      walk_at "go"
      generalize num ns (1 + (j : Int)) 0 (2 * (m : Int)) = pk at *
      refine jnS (M := fun σ H' => ∃ p : Nat, H' = H6 ∧ p < m ∧ σ = [sR a, sI m, sI n, sI ly, sR RL, sR L, y6, sI (1 + (j : Int)), sI pk, sI (p : Nat), y10, y11, none, none, none, none]) ?_ (fun N kk => ?_)
      rotate_left
      · walk_at "go"
        refine ifEq (fun c => ?_) (fun c => ?_)
        · refine ⟨_, rfl, ?_⟩
          refine .inl ⟨_, rfl, ?_⟩
          refine ⟨_, rfl, ?_⟩
          refine ⟨_, _, rfl, ?_⟩
          have mp : (0 : Int) < (if (m : Int) < 3 then (m : Int) else 3) := by split <;> omega
          have mq : (if (m : Int) < 3 then (m : Int) else 3) ≤ m := by split <;> omega
          refine ⟨_, _, rfl, rfl, mp, ?_⟩
          generalize (if (m : Int) < 3 then (m : Int) else 3) = mm at *
          have e0 := Int.emod_nonneg (pk / 2) (show mm ≠ 0 by omega)
          have e1 := Int.emod_lt_of_pos (pk / 2) mp
          refine kk _ _ ⟨(pk / 2 % mm).toNat, rfl, by omega, ?_⟩
          rw [show (((pk / 2 % mm).toNat : Nat) : Int) = pk / 2 % mm by omega]
          rfl
        · refine kk _ _ ⟨(pk / 2).toNat, rfl, by omega, ?_⟩
          rw [show (((pk / 2).toNat : Nat) : Int) = pk / 2 by omega]
          rfl
      rintro σ H7 ⟨p, rfl, hp, rfl⟩
      obtain ⟨v, ev, dv1⟩ := d6.get (i := p) (d := lpD (last.getD p (0, 0))) (by rw [List.getElem?_map, List.getElem?_eq_getElem (by omega), List.getD_eq_getElem?_getD, List.getElem?_eq_getElem (by omega)]; rfl)
      obtain ⟨f0, fs, rfl, gf, u1, r1, rfl, f1, u2, r2, rfl, f2, f3⟩ := dv1
      cases (show u1 = _ from f1)
      cases (show u2 = _ from f2)
      cases (show r2 = _ from f3)
      walk_at "go"
      refine ⟨L, _, _, _, rfl, rfl, SqL.of gL6, atI_nat ev, ?_⟩
      refine jnS (M := fun σ H' => ∃ (t : Addr) (x y : Int), Same H7 H' ∧ H' t = some (.tup [.int x, .int y]) ∧ σ = [sR a, sI m, sI n, sI ly, sR RL, sR L, y6, sI (1 + (j : Int)), sI pk, sI (p : Nat), sR t, y11, none, none, none, none]) ?_ (fun N kk => ?_)
      rotate_left
      · walk_at "go"
        refine ifEq (fun c => ?_) (fun c => ?_)
        rotate_left
        · exact kk _ _ ⟨f0, _, _, same_rfl, gf, rfl⟩
        walk_at "go"
        refine ifEq (fun c => ?_) (fun c => ?_)
        rotate_left
        · exact kk _ _ ⟨f0, _, _, same_rfl, gf, rfl⟩
        walk_at "go"
        refine ⟨sz, fun t nt => ?_⟩
        exact kk _ _ ⟨t, _, _, same_upd nt, upd_same, rfl⟩
      clear gf ev f1 f2 f3
      rintro σ H8 ⟨t, x, y, s8, gt, rfl⟩
      have s28 := s6.trans s8
      have hS8 := s28.seq hS
      have gR8 := s8 _ _ gR6
      have gL8 := s8 _ _ gL6
      have d8 := DhAll.mono s8 _ _ d6
      have led8 := led.chg (l := []) (Chg.same s8)
      clear s8 s6 gR6 gL6 d6 led hS6
      walk_at "go"
      refine ⟨t, _, _, _, rfl, rfl, SqT.of gt, atI_nat (j := 0) rfl, ?_⟩
      refine ⟨a, ns, _, _, rfl, hS8, hl, by omega, by omega, fun lf => ?_⟩
      walk_at "go"
      refine ⟨t, _, _, _, rfl, rfl, SqT.of gt, atI_nat (j := 0) rfl, ?_⟩
      walk_at "go"
      refine ⟨t, _, _, _, rfl, rfl, SqT.of gt, atI_nat (j := 1) rfl, ?_⟩
      walk_at "go"
      refine ⟨sz, fun e ne => ?_⟩
      have s9 := same_upd (o := HO.lst [V.int (p : Nat), V.int x, V.int y, V.int lf]) ne
      have ge := upd_same (H := H8) (a := e) (o := HO.lst [V.int (p : Nat), V.int x, V.int y, V.int lf])
      have ne2 := s28.free ne
      have s29 := s28.trans s9
      have gR9 := s9 _ _ gR8
      have gL9 := s9 _ _ gL8
      have d9 := DhAll.mono s9 _ _ d8
      have led9 := led8.chg (l := []) (Chg.same s9)
      have eR : e ≠ RL := (ne_of_none gR8 ne).symm
      generalize upd H8 e (HO.lst [V.int (p : Nat), V.int x, V.int y, V.int lf]) = H9 at *
      clear s9 gR8 gL8 d8 led8 s28 gt hS8
      refine ⟨RL, _, _, rfl, rfl, gR9, sz5 (by rw [List.length_map]; omega), ?_⟩
      have eX : (rs.map V.ref ++ [V.ref e]) = (rs ++ [e]).map V.ref := by rw [List.map_append]; rfl
      rw [eX]
      have nRm := led9.not gR9
      have s10 := same_put (o := HO.lst ((rs ++ [e]).map V.ref)) s29 nR0
      have gR10 := upd_same (H := H9) (a := RL) (o := HO.lst ((rs ++ [e]).map V.ref))
      have gL10 : upd H9 RL (HO.lst ((rs ++ [e]).map V.ref)) L = some (.lst vs) := by rw [upd_ne nLR]; exact gL9
      have kt : ∀ b us, H9 b = some (.tup us) → upd H9 RL (HO.lst ((rs ++ [e]).map V.ref)) b = some (.tup us) := fun b us q => by
        rw [upd_ne (fun z => by rw [z, gR9] at q; cases q)]
        exact q
      have d10 := DhAll.tups kt _ _ (noLs_lp _) d9
      have led10 : Led (upd H9 RL (HO.lst ((rs ++ [e]).map V.ref))) m (rs ++ [e]) [] := ⟨fun r hr => by
        rcases List.mem_append.mp hr with hr | hr
        · obtain ⟨p', s', t', l', hp', g'⟩ := led9.rw r hr
          exact ⟨p', s', t', l', hp', by rw [upd_ne (fun z => nRm (by rw [← z]; exact List.mem_append_left _ hr))]; exact g'⟩
        · rw [List.mem_singleton.mp hr]
          exact ⟨p, x, y, lf, hp, by rw [upd_ne eR]; exact ge⟩, fun k r hr => by simp at hr⟩
      generalize upd H9 RL (HO.lst ((rs ++ [e]).map V.ref)) = H10 at *
      clear s29 gR9 gL9 d9 led9 kt ge nRm
      walk_at "go"
      refine ⟨sz, fun t2 nt2 => ?_⟩
      have s11 := same_upd (o := HO.tup [V.int lf, V.int (1 + (j : Int))]) nt2
      have g2 := upd_same (H := H10) (a := t2) (o := HO.tup [V.int lf, V.int (1 + (j : Int))])
      have s12 := s10.trans s11
      have gR11 := s11 _ _ gR10
      have gL11 := s11 _ _ gL10
      have d11 := DhAll.mono s11 _ _ d10
      have led11 := led10.chg (l := []) (Chg.same s11)
      generalize upd H10 t2 (HO.tup [V.int lf, V.int (1 + (j : Int))]) = H11 at *
      walk_at "go"
      refine ⟨L, _, _, p, rfl, rfl, gL11, ix_at (by omega), ?_⟩
      have nLm : L ∉ (rs ++ [e]) ++ [] := fun hb => by
        obtain ⟨i, n1, n2, r, q⟩ := led11.spot hb
        rw [gL11] at q
        have q := HO.lst.inj (Option.some.inj q)
        have z := d11.get (i := 0) (d := lpD (last.getD 0 (0, 0))) (by rw [List.getElem?_map, List.getElem?_eq_getElem (by omega), List.getD_eq_getElem?_getD, List.getElem?_eq_getElem (by omega)]; rfl)
        obtain ⟨x0, e0, a0, _, rfl, _⟩ := z
        rw [q] at e0
        cases e0
      have bL : ∀ b o, b ≠ L → H11 b = some o → upd H11 L (HO.lst (vs.set p (.ref t2))) b = some o := fun b o nb q => by
        rw [upd_ne nb]
        exact q
      refine ob ⟨rs ++ [e], last.set p (lf, 1 + (j : Int)), vs.set p (.ref t2), _, _, _, _, _, _, same_put s12 nL0, bL _ _ nLR.symm gR11, by rw [List.length_append, lrs]; rfl, ⟨fun r hr => ?_, fun k r hr => by simp at hr⟩, fun x hx => ?_, upd_same, ?_, by rw [List.length_set]; exact ll, rfl⟩
      · obtain ⟨p', s', t', l', hp', g'⟩ := led11.rw r hr
        exact ⟨p', s', t', l', hp', bL _ _ (fun z => nLm (by rw [← z]; exact List.mem_append_left _ hr)) g'⟩
      · rcases List.mem_append.mp hx with hx | hx
        · exact fr x hx
        · rw [List.mem_singleton.mp hx]
          exact ne2
      · have z := DhAll.set (i := p) d11 (dh_lp g2)
        rw [← List.map_set] at z
        exact lpAll_put gL11 z
    · intro σ H6 h
      obtain ⟨rs, last, vs, y6, y7, y8, y9, y10, y11, s6, gR6, lrs, led, fr, gL6, d6, ll, rfl⟩ := unob h
      exact kk _ _ ⟨rs, last, vs, y6, y7, y8, y9, y10, y11, s6, gR6, by omega, led, fr, gL6, d6, ll, rfl⟩
  clear gL dv gR5 s25 q60 q61 q590 q591 q250 q251
  rintro σ H6 ⟨rs, last, vs, y6, y7, y8, y9, y10, y11, s6, gR6, lrs, led, fr, gL6, d6, ll, rfl⟩
  walk_at "go"
  refine ⟨by omega, by omega, fun SL nSL => lc_range (lo := 0) (n := m) (fun j H' => Ob (Same H6 H' ∧ ∃ ss : List Addr, H' SL = some (.lst (ss.map V.ref)) ∧ ss.length = j ∧ Led H' m rs ss ∧ (∀ x ∈ ss, H6 x = none))) (ob ⟨same_upd nSL, [], upd_same, rfl, led.chg (l := []) (Chg.same (same_upd nSL)), fun x hx => (by cases hx)⟩) ?_ ?_⟩
  · intro j H7 hj h
    obtain ⟨s7, ss, g7, lj, led7, fr7⟩ := unob h
    clear h
    obtain ⟨v, ev, dv1⟩ := d6.get (i := j) (d := lpD (last.getD j (0, 0))) (by rw [List.getElem?_map, List.getElem?_eq_getElem (by omega), List.getD_eq_getElem?_getD, List.getElem?_eq_getElem (by omega)]; rfl)
    obtain ⟨f0, fs, rfl, gf, u1, r1, rfl, f1, u2, r2, rfl, f2, f3⟩ := dv1
    cases (show u1 = _ from f1)
    cases (show u2 = _ from f2)
    cases (show r2 = _ from f3)
    have gf7 := s7 _ _ gf
    have gL7 := s7 _ _ gL6
    refine ⟨rfl, ?_⟩
    rw [Int.zero_add]
    walk_at "go"
    refine ⟨L, _, _, _, rfl, rfl, SqL.of gL7, atI_nat ev, ?_⟩
    walk_at "go"
    refine ⟨f0, _, _, _, rfl, rfl, SqT.of gf7, atI_nat (j := 0) rfl, ?_⟩
    walk_at "go"
    refine ⟨L, _, _, _, rfl, rfl, SqL.of gL7, atI_nat ev, ?_⟩
    walk_at "go"
    refine ⟨f0, _, _, _, rfl, rfl, SqT.of gf7, atI_nat (j := 1) rfl, ?_⟩
    refine ⟨sz, fun e ne => ?_⟩
    generalize (last.getD j (0, 0)).1 = x at *
    generalize (last.getD j (0, 0)).2 = y at *
    have s8 := same_upd (o := HO.lst [V.int (j : Nat), V.int x, V.int y]) ne
    have ge := upd_same (H := H7) (a := e) (o := HO.lst [V.int (j : Nat), V.int x, V.int y])
    have ne6 := s7.free ne
    have s78 := s7.trans s8
    have g8 := s8 _ _ g7
    have led8 := led7.chg (l := []) (Chg.same s8)
    have eS : e ≠ SL := (ne_of_none g7 ne).symm
    generalize upd H7 e (HO.lst [V.int (j : Nat), V.int x, V.int y]) = H8 at *
    have nS := led8.not g8
    refine ⟨_, g8, sz5 (by rw [List.length_map]; omega), ?_⟩
    rw [show (ss.map V.ref ++ [V.ref e]) = (ss ++ [e]).map V.ref by rw [List.map_append]; rfl]
    refine ob ⟨same_put s78 nSL, ss ++ [e], upd_same, by rw [List.length_append, lj]; rfl, ⟨fun r hr => ?_, fun k r hr => ?_⟩, fun x hx => ?_⟩
    · obtain ⟨p', s', t', l', hp', g'⟩ := led8.rw r hr
      exact ⟨p', s', t', l', hp', by rw [upd_ne (fun z => nS (by rw [← z]; exact List.mem_append_left _ hr))]; exact g'⟩
    · by_cases c : k < ss.length
      · rw [List.getElem?_append_left c] at hr
        obtain ⟨s', t', g'⟩ := led8.sw k r hr
        exact ⟨s', t', by rw [upd_ne (fun z => nS (by rw [← z]; exact List.mem_append_right _ (List.mem_of_getElem? hr)))]; exact g'⟩
      · rw [List.getElem?_append_right (by omega)] at hr
        have hk : k - ss.length = 0 := by
          have := (List.getElem?_eq_some_iff.mp hr).1
          simp at this
          omega
        rw [hk] at hr
        obtain rfl : e = r := Option.some.inj hr
        obtain rfl : k = j := by omega
        exact ⟨x, y, by rw [upd_ne eS]; exact ge⟩
    · rcases List.mem_append.mp hx with hx | hx
      · exact fr7 x hx
      · rw [List.mem_singleton.mp hx]
        exact ne6
  intro H7 h
  obtain ⟨s7, ss, gS7, lss, led7, fr7⟩ := unob h
  clear h
  have B7 : Bld H2 H7 m RL SL rs ss := ⟨s6.trans s7, s7 _ _ gR6, gS7, led7, fun x hx => by
    rcases List.mem_cons.mp hx with rfl | hx
    · exact nR0
    rcases List.mem_cons.mp hx with rfl | hx
    · exact s6.free nSL
    rcases List.mem_append.mp hx with hx | hx
    · exact fr x hx
    · exact s6.free (fr7 x hx), lss, lrs, ne_of_none gR6 nSL⟩
  clear s6 gR6 led fr gL6 d6 ll nSL s7 gS7 lss led7 fr7 lrs nLR nL0 nR0 vs0 vs last
  try dsimp only
  refine jnS (M := fun σ H' => ∃ (rs ss : List Addr) (y6 y7 y8 y9 y10 y11 y13 : Option V), Bld H2 H' m RL SL rs ss ∧ σ = [sR a, sI m, sI n, sI ly, sR RL, sR L, y6, y7, y8, y9, y10, y11, sR SL, y13, none, none]) ?_ (fun N kk => ?_)
  rotate_left
  · walk_at "go"
    refine ifEq (fun c => ?_) (fun c => ?_)
    · refine un ?_
      refine ⟨_, rfl, ?_⟩
      refine ⟨_, _, rfl, ?_⟩
      have mp : (0 : Int) ≤ (if (6 : Int) < (m : Int) then (6 : Int) else m) := by split <;> omega
      have mq : (if (6 : Int) < (m : Int) then (6 : Int) else m) ≤ m := by split <;> omega
      refine ⟨_, rfl, by omega, by omega, ?_⟩
      generalize (if (6 : Int) < (m : Int) then (6 : Int) else m) = mm at *
      refine for_range (lo := 0) (n := mm.toNat) (fun j σ H' => Ob (∃ (ss : List Addr) (y6 : Option V), Bld H2 H' m RL SL rs ss ∧ σ = [sR a, sI m, sI n, sI ly, sR RL, sR L, y6, y7, y8, y9, y10, y11, sR SL, none, none, none])) (ob ⟨ss, _, B7, rfl⟩) ?_ ?_
      · intro j σ H8 hj h
        obtain ⟨ss, y6, B8, rfl⟩ := unob h
        clear h kk B7
        have hS8 := B8.s.seq hS
        walk_at "go"
        refine un ?_
        walk_at "go"
        refine ifEq (fun c => ?_) (fun c => ?_)
        rotate_left
        · exact ob ⟨ss, _, B8, rfl⟩
        walk_at "go"
        refine ⟨sz, fun e ne => ?_⟩
        generalize num ns (43 + (0 + (j : Int))) 1 1000 = x at *
        generalize num ns (43 + (0 + (j : Int))) 2 26 = y at *
        have s9 := same_upd (o := HO.lst [V.int (0 + (j : Int)), V.int x, V.int y]) ne
        have ge := upd_same (H := H8) (a := e) (o := HO.lst [V.int (0 + (j : Int)), V.int x, V.int y])
        have ne2 := B8.s.free ne
        have s29 := B8.s.trans s9
        have gR9 := s9 _ _ B8.gR
        have gS9 := s9 _ _ B8.gS
        have led9 := B8.led.chg (l := []) (Chg.same s9)
        have eS : e ≠ SL := (ne_of_none B8.gS ne).symm
        have hRS : RL ≠ SL := B8.ne
        generalize upd H8 e (HO.lst [V.int (0 + (j : Int)), V.int x, V.int y]) = H9 at *
        have nS := led9.not gS9
        have ls := B8.ls
        walk_at "go"
        refine ⟨SL, _, _, j, rfl, rfl, gS9, by rw [Int.zero_add]; exact ix_at (by rw [List.length_map]; omega), ?_⟩
        rw [← List.map_set]
        have bS : ∀ b o, b ≠ SL → H9 b = some o → upd H9 SL (HO.lst ((ss.set j e).map V.ref)) b = some o := fun b o nb q => by
          rw [upd_ne nb]
          exact q
        refine ob ⟨ss.set j e, _, ⟨same_put s29 (B8.fr SL (by simp)), bS _ _ hRS gR9, upd_same, ⟨fun r hr => ?_, fun k r hr => ?_⟩, fun z hz => ?_, by rw [List.length_set]; exact ls, B8.lr, hRS⟩, rfl⟩
        · obtain ⟨p', s', t', l', hp', g'⟩ := led9.rw r hr
          exact ⟨p', s', t', l', hp', bS _ _ (fun z => nS (by rw [← z]; exact List.mem_append_left _ hr)) g'⟩
        · by_cases ck : j = k
          · subst ck
            rw [List.getElem?_set_self (by omega)] at hr
            obtain rfl : e = r := Option.some.inj hr
            exact ⟨x, y, by rw [bS _ _ eS ge, Int.zero_add]⟩
          · rw [List.getElem?_set_ne ck] at hr
            obtain ⟨s', t', g'⟩ := led9.sw k r hr
            exact ⟨s', t', bS _ _ (fun z => nS (by rw [← z]; exact List.mem_append_right _ (List.mem_of_getElem? hr))) g'⟩
        · rcases List.mem_cons.mp hz with rfl | hz
          · exact B8.fr _ (by simp)
          rcases List.mem_cons.mp hz with rfl | hz
          · exact B8.fr _ (by simp)
          rcases List.mem_append.mp hz with hz | hz
          · exact B8.fr _ (by simp [hz])
          · rcases List.mem_or_eq_of_mem_set hz with hz | rfl
            · exact B8.fr _ (by simp [hz])
            · exact ne2
      · intro σ H8 h
        obtain ⟨ss, y6, B8, rfl⟩ := unob h
        exact kk _ _ ⟨rs, ss, _, _, _, _, _, _, _, B8, rfl⟩
    · refine un ?_
      walk_at "go"
      refine ifD (fun c2 => ?_) (fun c2 => ?_)
      rotate_left
      · exact kk _ _ ⟨rs, ss, _, _, _, _, _, _, _, B7, rfl⟩
      refine un ?_
      walk_at "go"
      refine ⟨by omega, by omega, for_range (lo := 0) (n := ly.toNat) (fun j σ H' => Ob (∃ (rs : List Addr) (y13 : Option V), Bld H2 H' m RL SL rs ss ∧ σ = [sR a, sI m, sI n, sI ly, sR RL, sR L, y6, y7, y8, y9, y10, y11, sR SL, y13, none, none])) (ob ⟨rs, _, B7, rfl⟩) ?_ ?_⟩
      · intro j σ H8 hj h
        obtain ⟨rs, y13, B8, rfl⟩ := unob h
        clear h kk B7
        have hS8 := B8.s.seq hS
        have ls := B8.ls
        have lr := B8.lr
        walk_at "go"
        have nR := B8.led.not B8.gR
        have nS := B8.led.not B8.gS
        have hRS : RL ≠ SL := B8.ne
        refine ⟨a, RL, SL, ns, 41 + (0 + (j : Int)), m, rs, ss, rfl, hS8, hl, by omega, by omega, B8.gR, B8.gS, B8.led, nR, by omega, by omega, by omega, fun H9 rs' b9 gR9 in9 l9 led9 => ?_⟩
        have gS9 := b9 SL _ (by
          intro z
          rcases List.mem_cons.mp z with z | z
          · exact hRS z.symm
          · exact nS z) B8.gS
        refine ob ⟨rs', _, ⟨fun b o e => b9 b o (fun z => ?_) (B8.s b o e), gR9, gS9, ⟨fun r hr => led9.rw r (in9 r hr), led9.sw⟩, fun x hx => ?_, ls, by omega, hRS⟩, rfl⟩
        · have := B8.fr b (by
            rcases List.mem_cons.mp z with z | z
            · simp [z]
            · simp only [List.mem_cons]
              exact .inr (.inr z))
          rw [this] at e
          cases e
        · refine B8.fr x ?_
          simp only [List.mem_cons, List.mem_append] at hx ⊢
          rcases hx with h | h | h | h
          · exact .inl h
          · exact .inr (.inl h)
          · exact .inr (.inr (.inl (in9 x h)))
          · exact .inr (.inr (.inr h))
      · intro σ H8 h
        obtain ⟨rs, y13, B8, rfl⟩ := unob h
        exact kk _ _ ⟨rs, ss, _, _, _, _, _, _, _, B8, rfl⟩
  rintro σ H8 ⟨rs, ss, y6, y7, y8, y9, y10, y11, y13, B8, rfl⟩
  have gR8 := B8.gR
  have gS8 := B8.gS
  have lr := B8.lr
  have ls := B8.ls
  walk_at "go"
  refine ⟨⟨_, SqL.of gR8⟩, fun A nA => lc_list (K := K) (a := RL) (xs := rs.map V.ref) (fun i H' => Ob (Same H8 H' ∧ ∃ (ys : List V) (R : List LR), H' A = some (.lst ys) ∧ DhAll H' (R.map lrD) ys ∧ R.length = i ∧ ∀ r ∈ R, r.p < m)) (ob ⟨same_upd nA, [], [], upd_same, rfl, rfl, fun r h => (by cases h)⟩) (fun i H' _ h => SqL.of ((unob h).1 _ _ gR8)) ?_ ?_⟩
  · intro i v H9 hi h
    obtain ⟨s9, ys, R, g9, d9, lR, hp⟩ := unob h
    clear h
    have hil : i < rs.length := by
      have := (List.getElem?_eq_some_iff.mp hi).1
      rwa [List.length_map] at this
    rw [List.getElem?_map, List.getElem?_eq_getElem hil] at hi
    obtain rfl := Option.some.inj hi
    obtain ⟨p, x, y, z, hpm, gr⟩ := B8.led.rw _ (List.getElem_mem hil)
    generalize rs[i] = r at *
    have gr9 := s9 _ _ gr
    have ly := d9.len
    rw [List.length_map] at ly
    refine ⟨rfl, ?_⟩
    walk_at "go"
    refine ⟨r, _, _, _, rfl, rfl, SqL.of gr9, atI_nat (j := 0) rfl, ?_⟩
    walk_at "go"
    refine ⟨r, _, _, _, rfl, rfl, SqL.of gr9, atI_nat (j := 1) rfl, ?_⟩
    walk_at "go"
    refine ⟨r, _, _, _, rfl, rfl, SqL.of gr9, atI_nat (j := 2) rfl, ?_⟩
    walk_at "go"
    refine ⟨r, _, _, _, rfl, rfl, SqL.of gr9, atI_nat (j := 3) rfl, ?_⟩
    refine ⟨sz, fun t nt => ?_⟩
    have s10 := same_upd (o := HO.tup [V.int (p : Nat), V.int x, V.int y, V.int z]) nt
    have gt := upd_same (H := H9) (a := t) (o := HO.tup [V.int (p : Nat), V.int x, V.int y, V.int z])
    have g10 := s10 _ _ g9
    have d10 := DhAll.mono s10 _ _ d9
    have s810 := s9.trans s10
    generalize upd H9 t (HO.tup [V.int (p : Nat), V.int x, V.int y, V.int z]) = H10 at *
    have kt : ∀ b us, H10 b = some (.tup us) → upd H10 A (.lst (ys ++ [.ref t])) b = some (.tup us) := fun b us e => by
      rw [upd_ne (fun z => by rw [z, g10] at e; cases e)]
      exact e
    refine ⟨ys, g10, sz5 (by omega), ob ⟨same_put s810 nA, ys ++ [.ref t], R ++ [⟨p, x, y, z⟩], upd_same, ?_, by rw [List.length_append, lR]; rfl, fun r' hr' => ?_⟩⟩
    · rw [List.map_append]
      exact DhAll.snoc (DhAll.tups kt _ _ (noLs_lr _) d10) ⟨t, _, rfl, kt _ _ gt, _, _, rfl, rfl, _, _, rfl, rfl, _, _, rfl, rfl, _, _, rfl, rfl, rfl⟩
    · rcases List.mem_append.mp hr' with h | h
      · exact hp _ h
      · rw [List.mem_singleton.mp h]
        exact hpm
  intro H9 h
  obtain ⟨s9, ysA, R, gA, dA, lR, hp⟩ := unob h
  rw [List.length_map] at lR
  clear h
  have gS9 := s9 _ _ gS8
  try dsimp only
  walk_at "go"
  refine ⟨⟨_, SqL.of gS9⟩, fun B nB => lc_list (K := K) (a := SL) (xs := ss.map V.ref) (fun i H' => Ob (Same H9 H' ∧ ∃ (ys : List V) (sw : List LP), H' B = some (.lst ys) ∧ DhAll H' (swL 0 sw) ys ∧ sw.length = i)) (ob ⟨same_upd nB, [], [], upd_same, rfl, rfl⟩) (fun i H' _ h => SqL.of ((unob h).1 _ _ gS9)) ?_ ?_⟩
  · intro i v H10 hi h
    obtain ⟨s10, ys, sw, g10, d10, lw⟩ := unob h
    clear h
    have hil : i < ss.length := by
      have := (List.getElem?_eq_some_iff.mp hi).1
      rwa [List.length_map] at this
    rw [List.getElem?_map, List.getElem?_eq_getElem hil] at hi
    obtain rfl := Option.some.inj hi
    obtain ⟨x, y, gr⟩ := B8.led.sw i ss[i] (List.getElem?_eq_getElem hil)
    generalize ss[i] = r at *
    have gr9 := s10 _ _ (s9 _ _ gr)
    have ly := d10.len
    rw [swL_len] at ly
    refine ⟨rfl, ?_⟩
    walk_at "go"
    refine ⟨r, _, _, _, rfl, rfl, SqL.of gr9, atI_nat (j := 0) rfl, ?_⟩
    walk_at "go"
    refine ⟨r, _, _, _, rfl, rfl, SqL.of gr9, atI_nat (j := 1) rfl, ?_⟩
    walk_at "go"
    refine ⟨r, _, _, _, rfl, rfl, SqL.of gr9, atI_nat (j := 2) rfl, ?_⟩
    refine ⟨sz, fun t nt => ?_⟩
    have s11 := same_upd (o := HO.tup [V.int (i : Nat), V.int x, V.int y]) nt
    have gt := upd_same (H := H10) (a := t) (o := HO.tup [V.int (i : Nat), V.int x, V.int y])
    have g11 := s11 _ _ g10
    have d11 := DhAll.mono s11 _ _ d10
    have s911 := s10.trans s11
    generalize upd H10 t (HO.tup [V.int (i : Nat), V.int x, V.int y]) = H11 at *
    have kt : ∀ b us, H11 b = some (.tup us) → upd H11 B (.lst (ys ++ [.ref t])) b = some (.tup us) := fun b us e => by
      rw [upd_ne (fun z => by rw [z, g11] at e; cases e)]
      exact e
    refine ⟨ys, g11, sz5 (by omega), ob ⟨same_put s911 nB, ys ++ [.ref t], sw ++ [(x, y)], upd_same, ?_, by rw [List.length_append, lw]; rfl⟩⟩
    rw [swL_snoc, Nat.zero_add, lw]
    exact DhAll.snoc (DhAll.tups kt _ _ (noLs_sw _ _) d11) ⟨t, _, rfl, kt _ _ gt, _, _, rfl, rfl, _, _, rfl, rfl, _, _, rfl, rfl, rfl⟩
  intro H10 h
  obtain ⟨s10, ysB, sw, gB, dB, lw⟩ := unob h
  rw [List.length_map] at lw
  clear h
  have gA10 := s10 _ _ gA
  have dA10 := DhAll.mono s10 _ _ dA
  try dsimp only
  refine ⟨sz, fun t nt => ?_⟩
  have s11 := same_upd (o := HO.tup [V.int (m : Nat), V.ref A, V.ref B]) nt
  refine q t A B m R sw _ (B8.s.trans (s9.trans (s10.trans s11))) upd_same ⟨A, _, rfl, s11 _ _ gA10, DhAll.mono s11 _ _ dA10⟩ ⟨B, _, rfl, s11 _ _ gB, DhAll.mono s11 _ _ dB⟩ (by omega) hm (by omega) hp
end

end

section

-- a condition of an operator
local macro_rules | `(tactic| walk_at "cond") => `(tactic| first
  | (show (0 : Int) < _; omega)
  | (show CDiv _ _; constructor <;> (first | decide | omega))
  | (show CMul _ _; first | (refine cmul_l ?_; constructor <;> (first | decide | omega)) | (refine cmul_r ?_; constructor <;> (first | decide | omega)))
  | (show CPow _ _; exact (by refine ⟨by decide, by decide, by decide⟩))
  | (show CDivW _ _; exact ⟨by decide, by decide +kernel⟩))
local macro_rules | `(tactic| walk_at "sq") => `(tactic| first | assumption | exact Dh.mono (same_upd (by assumption)) _ _ (by assumption) | exact .inl (.inl (.inl (by assumption))) | exact .inr (.inl (.inl (by assumption))) | exact SqL.of (by assumption) | exact .inl (by assumption) | exact .inl (SqL.of (by assumption)) | exact SqT.of (by assumption) | exact .inr (SqT.of (by assumption)))
local macro_rules | `(tactic| walk_at "st") => `(tactic| first
  | refine ⟨_, rfl, ?_⟩
  | refine ⟨_, _, rfl, rfl, ?_⟩
  | refine .inl ⟨_, rfl, ?_⟩
  | refine ⟨rfl, ?_⟩
  | refine ⟨_, _, rfl, by walk_at "sq", ?_⟩
  | refine ⟨.inl ⟨rfl, _, SqL.of (by assumption)⟩, ?_⟩
  | refine ⟨by walk_at "cond", ?_⟩
  | (refine' ifBT ?hh ?_; (case hh => first | rfl | assumption))
  | (refine' ifBF ?hh ?_; (case hh => first | rfl | assumption)))
local macro_rules | `(tactic| walk_at "go") => `(tactic| repeat walk_at "st")
local macro_rules | `(tactic| walk_at "yes") => `(tactic| (refine' ifT ?hh ?_; (case hh => first | rfl | decide +kernel)))
local macro_rules | `(tactic| walk_at "no") => `(tactic| (refine' ifF ?hh ?_; (case hh => first | decide +kernel | (intro z; cases z; done))))

local macro_rules | `(tactic| walk_at "st") => `(tactic| refine ⟨_, _, _, _, _, rfl, by assumption, by assumption, by omega, by omega, by omega, by omega, by omega, ?_⟩)
local macro_rules | `(tactic| walk_at "st") => `(tactic| refine ⟨_, _, _, _, _, rfl, Same.seq (by assumption) (by assumption), by assumption, by omega, by omega, by omega, by omega, by omega, ?_⟩)

/-! ### sweep, asked -/
abbrev s_ledger_sweep : Stmt := topS 13
theorem sc_ledger_sweep : FnScope ["_law_many", "_law_rows", "_law_sweep", "_law_k", "_law_at", "_law_place"] ["_law_many", "_law_rows"] (C8.fnScope s_ledger_sweep) := C8.fnScope_by (by decide +kernel)
abbrev s_ledger_asked : Stmt := topS 14
theorem sc_ledger_asked : FnScope ["_law_many", "_law_given", "_law_swept", "_law_rows", "_law_sweep", "_law_due", "_law_lie"] ["_law_many", "_law_given", "_law_swept", "_law_rows", "_law_sweep"] (C8.fnScope s_ledger_asked) := C8.fnScope_by (by decide +kernel)
/-- a list of data at an address -/
def LA (H : Hp) (A : Addr) (ds : List PyData) : Prop := ∃ xs, H A = some (.lst xs) ∧ DhAll H ds xs
theorem LA.dh {H : Hp} {A : Addr} {ds : List PyData} (h : LA H A ds) : Dh H (.list ds) (.ref A) := by
  obtain ⟨xs, g, d⟩ := h
  exact ⟨A, xs, rfl, g, d⟩
theorem LA.same {H H' : Hp} {A : Addr} {ds : List PyData} (h : LA H A ds) (s : Same H H') : LA H' A ds := by
  obtain ⟨xs, g, d⟩ := h
  exact ⟨xs, s _ _ g, DhAll.mono s _ _ d⟩
theorem LA.put {H : Hp} {A G : Addr} {ds : List PyData} {ys zs : List V} (h : LA H A ds) (g : H G = some (.lst ys)) (n : A ≠ G) (l : noLs ds = true) : LA (upd H G (.lst zs)) A ds := by
  obtain ⟨xs, g1, d⟩ := h
  exact ⟨xs, by rw [upd_ne n]; exact g1, DhAll.tups (fun b us e => by
    rw [upd_ne (fun z => by rw [z, g] at e; cases e)]
    exact e) _ _ l d⟩
theorem LA.of {H : Hp} {A : Addr} {ds : List PyData} (h : Dh H (.list ds) (.ref A)) : LA H A ds := by
  obtain ⟨_, xs, e, g, d⟩ := h
  cases e
  exact ⟨xs, g, d⟩
theorem cut1 (x : V) (xs : List V) : cutV (x :: xs) (some 1) none = xs := by
  unfold cutV
  show ((x :: xs).drop _).take _ = xs
  have e : HT.sIx (x :: xs).length 0 (some 1) = 1 := by
    simp [HT.sIx]
  have e2 : HT.sIx (x :: xs).length (x :: xs).length none = (x :: xs).length := rfl
  rw [e, e2]
  simp
theorem dle_rows {R : List LR} (h : R.length ≤ 100000) : Dle 3 (.list (R.map lrD)) := ⟨by rw [List.length_map]; exact h, fun d m => by
  obtain ⟨r, _, rfl⟩ := List.mem_map.mp m
  exact ⟨by show 4 ≤ 100000; decide, fun e he => by
    simp only [List.mem_cons, List.not_mem_nil, or_false] at he
    rcases he with rfl | rfl | rfl | rfl <;> exact trivial⟩⟩
theorem swL_mem : ∀ {xs : List LP} {n : Nat} {d : PyData}, d ∈ swL n xs → ∃ k x, d = swD k x
  | [], _, _, h => by cases h
  | x :: xs, n, d, h => by
    rcases List.mem_cons.mp h with rfl | h
    · exact ⟨n, x, rfl⟩
    · exact swL_mem h
theorem dle_sw {sw : List LP} (h : sw.length ≤ 100000) : Dle 3 (.list (swL 0 sw)) := ⟨by rw [swL_len]; exact h, fun d m => by
  obtain ⟨k, x, rfl⟩ := swL_mem m
  exact ⟨by show 3 ≤ 100000; decide, fun e he => by
    simp only [List.mem_cons, List.not_mem_nil, or_false] at he
    rcases he with rfl | rfl | rfl <;> exact trivial⟩⟩
theorem dle_oN (o : Option Nat) : Dle 3 (oND o) := by
  cases o <;> exact trivial
theorem swL_set : ∀ (xs : List LP) (n p : Nat) (x : LP), swL n (xs.set p x) = (swL n xs).set p (swD (n + p) x)
  | [], _, _, _ => rfl
  | y :: ys, n, 0, x => rfl
  | y :: ys, n, p + 1, x => by
    show _ :: swL (n + 1) (ys.set p x) = _ :: (swL (n + 1) ys).set p _
    rw [swL_set ys (n + 1) p x, show n + 1 + p = n + (p + 1) by omega]
theorem oN_non (o : Option Nat) : decide (oN o = V.non) = decide (o = none) := by
  cases o with
  | none => rfl
  | some n => exact (decide_eq_false (fun h => by cases h)).trans (decide_eq_false (fun h => by cases h)).symm
def spSweep : Sp := fun vs H Q _ => ∃ (m : Nat) (a : Addr) (R : List LR), vs = [.int m, .ref a] ∧ Dh H (.list (R.map lrD)) (.ref a) ∧ m ≤ 100 ∧ R.length ≤ 1000 ∧ (∀ r ∈ R, r.p < m) ∧
  ∀ (p : Addr) (H' : Hp), Same H H' → H p = none → LA H' p (swL 0 (lastF 0 (List.replicate m (0, 0)) R)) → Q (.ref p) H'
def spAsked : Sp := fun vs H Q _ => ∃ (m : Nat) (G S A B : Addr) (R : List LR) (sw : List LP), vs = [.int m, .ref G, .ref S, .ref A, .ref B] ∧ LA H G (R.map lrD) ∧ LA H S (swL 0 sw) ∧ LA H A (R.map lrD) ∧ LA H B (swL 0 sw) ∧ sw.length = m ∧ m ≤ 100 ∧ R.length ≤ 1000 ∧ (∀ r ∈ R, r.p < m) ∧
  ∀ H', Same H H' → Q (.bl true) H'
section
variable {P : Program} {w : World} {K : PySem.W.Frag} {mg : Str → Option Value} {base : Heap}
theorem ok_sweep {f : Addr} {fd : FuncData} (D : Def K mg "_law_ledger_sweep" s_ledger_sweep f fd) (b : Binds K fd ["_law_many", "_law_rows"] []) (T : Txt mg) : Cal P w K mg base 1 "_law_ledger_sweep" spSweep [] := by
  refine cal0 D b .nil sc_ledger_sweep (fun vs H Q E h => ?_) (fun cdv A outer s H vs Q E hr h => ?_)
  · obtain ⟨m, a, R, rfl, _⟩ := h
    rfl
  obtain ⟨m, a, R, rfl, ⟨_, xs, e1, ga, hR⟩, m1, lR, hp, q⟩ := h
  cases e1
  have lx := hR.len
  rw [List.length_map] at lx
  refine ⟨_, (pss_cons (ps_setLc (i := 2) (own := [("_law_k", 3)]) (g := gName 3) (tt := tYes) rfl sc_ledger_sweep.nd rfl rfl (sw_true rfl rfl rfl (by decide +kernel)) (pi_range1 (by rfl) T.range (pa_cons (pv 0) pa_nil)) (blkOk_by (own := [("_law_k", 3)]) (N := ["_law_many", "_law_rows", "_law_sweep", "_law_k", "_law_at", "_law_place"]) (sc := C8.fnScope s_ledger_sweep) (by decide +kernel)) (fun _ _ _ _ _ => (pg_name (i := 3) sc_ledger_sweep.nd rfl (.inl rfl))) (fun _ _ _ _ _ => pts_nil) (fun _ _ _ _ _ => (pe_tup (pa_cons (pv 3) (pa_cons pe_int (pa_cons pe_int pa_nil))))))
      (pss_cons (ps_mk (ps_for PassesOwn.never rfl (pi_range1 (by rfl) T.range (pa_cons (pe_callB (lenQ K rfl) (by rfl) T.len PySem.boot_len (pa_cons (pv 1) pa_nil)) pa_nil)) (pg_name (i := 4) sc_ledger_sweep.nd rfl (.inl rfl))
      (pss_cons (ps_set (i := 5) sc_ledger_sweep.nd rfl (.inl rfl) (pe_ix (ixT K rfl) (pe_ix (ixL K rfl) (pv 1) (pv 4) (fun _ _ => rfl)) pe_int (fun _ _ => rfl)))
      (pss_one (ps_asg (pe_tup (pa_cons (pv 5) (pa_cons (pe_ix (ixT K rfl) (pe_ix (ixL K rfl) (pv 1) (pv 4) (fun _ _ => rfl)) pe_int (fun _ _ => rfl)) (pa_cons (pe_op op_add (pv 4) pe_int) pa_nil)))) (pg_sub (pv 2) (pv 5) set_list))))))
      (pss_one (ps_ret (pv 2))))), ?_⟩
  walk_at "go"
  refine ⟨by omega, by omega, fun L nL => lc_range (lo := 0) (n := m) (fun j H' => Ob (Same H H' ∧ ∃ vs, H' L = some (.lst vs) ∧ DhAll H' ((tL 0 (List.replicate j ((0, 0) : LP))).map tD) vs)) (ob ⟨same_upd nL, [], upd_same, rfl⟩) ?_ ?_⟩
  · intro j H1 hj h
    obtain ⟨s1, vs, g1, d1⟩ := unob h
    have lv := d1.len
    rw [List.length_map, tL_len, List.length_replicate] at lv
    refine ⟨rfl, ?_⟩
    rw [Int.zero_add]
    walk_at "go"
    refine ⟨sz, fun t nt => ?_⟩
    have s2 := same_upd (o := HO.tup [V.int (j : Nat), V.int 0, V.int 0]) nt
    have gt := upd_same (H := H1) (a := t) (o := HO.tup [V.int (j : Nat), V.int 0, V.int 0])
    have g2 := s2 _ _ g1
    have d2 := DhAll.mono s2 _ _ d1
    have s12 := s1.trans s2
    generalize upd H1 t (HO.tup [V.int (j : Nat), V.int 0, V.int 0]) = H2 at *
    refine ⟨vs, g2, sz5 (by omega), ob ⟨same_put s12 nL, vs ++ [.ref t], upd_same, ?_⟩⟩
    rw [zero_snoc]
    refine DhAll.snoc (t3_put g2 d2) (dh_t3 ?_)
    rw [upd_ne (fun z => by rw [z, g2] at gt; cases gt)]
    exact gt
  intro H1 h
  obtain ⟨s1, vs0, gL, dL⟩ := unob h
  clear h
  rw [tL_swL] at dL
  try dsimp only
  refine jnS (M := fun σ H' => ∃ vs y3 y4 y5, Same H H' ∧ H' L = some (.lst vs) ∧ DhAll H' (swL 0 (lastF 0 (List.replicate m (0, 0)) R)) vs ∧ σ = [sI m, sR a, sR L, y3, y4, y5]) ?_ (fun N kk => ?_)
  · rintro σ H2 ⟨vs, y3, y4, y5, s2, g2, d2, rfl⟩
    walk_at "go"
    exact q L _ s2 nL ⟨vs, g2, d2⟩
  have ga1 := s1 _ _ ga
  walk_at "go"
  rw [lx]
  refine ⟨by omega, by omega, for_range (lo := 0) (n := R.length) (fun i σ H' => Ob (∃ (last : List LP) (vs : List V) (y3 y4 y5 : Option V), Same H H' ∧ H' L = some (.lst vs) ∧ DhAll H' (swL 0 last) vs ∧ last.length = m ∧ lastF 0 (List.replicate m (0, 0)) R = lastF i last (R.drop i) ∧ σ = [sI m, sR a, sR L, y3, y4, y5])) (ob ⟨_, vs0, none, none, none, s1, gL, dL, List.length_replicate, rfl, rfl⟩) ?_ ?_⟩
  · intro i σ H2 hil h
    obtain ⟨last, vs, y3, y4, y5, s2, g2, d2, l2, el, rfl⟩ := unob h
    clear h kk
    have ga2 := s2 _ _ ga
    obtain ⟨vt, et, dt⟩ := hR.get (i := i) (d := lrD R[i]) (by rw [List.getElem?_map, List.getElem?_eq_getElem hil]; rfl)
    have hpi := hp _ (List.getElem_mem hil)
    rw [List.drop_eq_getElem_cons hil] at el
    have dt := Dh.mono s2 _ _ dt
    generalize R[i] = r at *
    obtain ⟨ta, ts, rfl, gt, u1, r1, rfl, f1, u2, r2, rfl, f2, u3, r3, rfl, f3, u4, r4, rfl, f4, f5⟩ := dt
    cases (show u1 = _ from f1)
    cases (show u2 = _ from f2)
    cases (show u3 = _ from f3)
    cases (show u4 = _ from f4)
    cases (show r4 = _ from f5)
    have lv := d2.len
    rw [swL_len] at lv
    rw [Int.zero_add]
    walk_at "go"
    refine ⟨a, _, _, _, rfl, rfl, SqL.of ga2, atI_nat et, ?_⟩
    walk_at "go"
    refine ⟨ta, _, _, _, rfl, rfl, SqT.of gt, atI_nat (j := 0) rfl, ?_⟩
    walk_at "go"
    refine ⟨a, _, _, _, rfl, rfl, SqL.of ga2, atI_nat et, ?_⟩
    walk_at "go"
    refine ⟨ta, _, _, _, rfl, rfl, SqT.of gt, atI_nat (j := 3) rfl, ?_⟩
    walk_at "go"
    refine ⟨sz, fun t nt => ?_⟩
    have s4 := same_upd (o := HO.tup [V.int r.p, V.int r.l, V.int ((i : Int) + 1)]) nt
    have gt4 := upd_same (H := H2) (a := t) (o := HO.tup [V.int r.p, V.int r.l, V.int ((i : Int) + 1)])
    have g4 := s4 _ _ g2
    have d4 := DhAll.mono s4 _ _ d2
    have s24 := s2.trans s4
    generalize upd H2 t (HO.tup [V.int r.p, V.int r.l, V.int ((i : Int) + 1)]) = H4 at *
    walk_at "go"
    refine ⟨L, _, _, r.p, rfl, rfl, g4, ix_at (by omega), ?_⟩
    refine ob ⟨last.set r.p (r.l, (i : Int) + 1), vs.set r.p (.ref t), _, _, _, same_put s24 nL, upd_same, ?_, by rw [List.length_set]; exact l2, el, rfl⟩
    rw [swL_set, Nat.zero_add]
    have z := DhAll.set (i := r.p) d4 (dh_t3 gt4)
    refine DhAll.tups (fun b us e => ?_) _ _ (by have z2 := noLs_sw (last.set r.p (r.l, (i : Int) + 1)) 0; rw [swL_set, Nat.zero_add] at z2; exact z2) z
    rw [upd_ne (fun z => by rw [z, g4] at e; cases e)]
    exact e
  · intro σ H2 h
    obtain ⟨last, vs, y3, y4, y5, s2, g2, d2, l2, el, rfl⟩ := unob h
    rw [List.drop_length] at el
    have el : lastF 0 (List.replicate m (0, 0)) R = last := el
    exact kk _ _ ⟨vs, _, _, _, s2, g2, by rw [el]; exact d2, rfl⟩
theorem ok_asked {f : Addr} {fd : FuncData} (D : Def K mg "_law_ledger_asked" s_ledger_asked f fd) (b : Binds K fd ["_law_many", "_law_given", "_law_swept", "_law_rows", "_law_sweep"] []) (T : Txt mg) (c_same : Cal P w K mg base 4 "_law_same" (spSame 3) []) (c_ledger_bags : Cal P w K mg base 1 "_law_ledger_bags" spBags []) (c_ledger_lie : Cal P w K mg base 1 "_law_ledger_lie" spFirst [])
    (c_bags_agree : Cal P w K mg base 1 "bags_agree" spBags []) (c_first_lie : Cal P w K mg base 1 "first_lie" spFirst []) : Cal P w K mg base 5 "_law_ledger_asked" spAsked [] := by
  refine cal0 D b .nil sc_ledger_asked (fun vs H Q E h => ?_) (fun cdv A0 outer s H vs Q E hr h => ?_)
  · obtain ⟨m, G, S, A, B, R, sw, rfl, _⟩ := h
    rfl
  obtain ⟨m, G, S, A, B, R, sw, rfl, hG, hS, hA, hB, lw, m1, lR, hp, q⟩ := h
  refine ⟨_, (pss_cons (ps_set (i := 5) sc_ledger_asked.nd rfl (.inl rfl) (C8.pe_c c_ledger_bags hr (by omega) (by rfl) (pa_cons (pv 0) (pa_cons (pv 3) (pa_cons (pv 4) pa_nil)))))
      (pss_cons (ps_set (i := 6) sc_ledger_asked.nd rfl (.inl rfl) (C8.pe_c c_ledger_lie hr (by omega) (by rfl) (pa_cons (pv 0) (pa_cons (pv 3) (pa_cons (pv 4) pa_nil)))))
      (pss_cons (ps_mk (ps_if (pt_cmpR op_ne (pv 5) (pe_cmpR op_isN (pv 6) pe_non (nomark _)) (nomark _))
      (pss_one (ps_ret pe_bl))
      pss_nil))
      (pss_cons (ps_mk (ps_if (PW.pt (pw_or (pt_not (pt_val (C8.pe_c c_same hr (by omega) (by rfl) (pa_cons (C8.pe_c c_bags_agree hr (by omega) (by rfl) (pa_cons (pv 0) (pa_cons (pv 1) (pa_cons (pv 2) pa_nil)))) (pa_cons (pv 5) pa_nil))))) (pw_or1 (pt_not (pt_val (C8.pe_c c_same hr (by omega) (by rfl) (pa_cons (C8.pe_c c_first_lie hr (by omega) (by rfl) (pa_cons (pv 0) (pa_cons (pv 1) (pa_cons (pv 2) pa_nil)))) (pa_cons (pv 6) pa_nil))))))))
      (pss_one (ps_ret pe_bl))
      pss_nil))
      (pss_one (ps_ret (pe_and (C8.pe_c c_same hr (by omega) (by rfl) (pa_cons (pv 1) (pa_cons (pv 3) pa_nil))) (pe_one (C8.pe_c c_same hr (by omega) (by rfl) (pa_cons (pv 2) (pa_cons (pv 4) pa_nil))))))))))), ?_⟩
  walk_at "go"
  refine ⟨m, A, B, R, sw, rfl, hA.dh, hB.dh, lw, m1, lR, hp, fun c1 H1 e1 s1 => ?_⟩
  walk_at "go"
  refine ⟨m, A, B, R, sw, rfl, (hA.same s1).dh, (hB.same s1).dh, lw, m1, lR, hp, fun H2 s2' => ?_⟩
  have s2 := s1.trans s2'
  clear s1 s2'
  refine jnS (M := fun σ H' => H' = H2 ∧ σ = [sI m, sR G, sR S, sR A, sR B, sB c1, some (oN (lie m R sw))]) ?_ (fun N kk => ?_)
  rotate_left
  · walk_at "go"
    refine ifN ?_
    have e : V.bl c1 = V.bl (decide (oN (lie m R sw) = V.non)) := by
      rw [oN_non]
      cases c1 with
      | true => rw [decide_eq_true (e1.mp rfl)]
      | false => rw [decide_eq_false fun z => (by cases e1.mpr z)]
    refine ifT e ?_
    exact kk _ _ ⟨rfl, rfl⟩
  rintro σ H3 ⟨rfl, rfl⟩
  refine jnS (M := fun σ H' => Same H3 H' ∧ σ = [sI m, sR G, sR S, sR A, sR B, sB c1, some (oN (lie m R sw))]) ?_ (fun N kk => ?_)
  rotate_left
  · walk_at "go"
    refine ⟨m, G, S, R, sw, rfl, (hG.same s2).dh, (hS.same s2).dh, lw, m1, lR, hp, fun c2 H4 e2 s4 => ?_⟩
    obtain rfl : c2 = c1 := by
      cases c2 <;> cases c1
      · rfl
      · exact absurd (e2.mpr (e1.mp rfl)) (by decide)
      · exact absurd (e1.mpr (e2.mp rfl)) (by decide)
      · rfl
    walk_at "go"
    refine ⟨_, _, .bool c2, .bool c2, rfl, rfl, rfl, trivial, fun b H5 hb s5 => ?_⟩
    obtain rfl : b = true := hb.mpr rfl
    walk_at "go"
    refine ⟨m, G, S, R, sw, rfl, (hG.same (s2.trans (s4.trans s5))).dh, (hS.same (s2.trans (s4.trans s5))).dh, lw, m1, lR, hp, fun H6 s6 => ?_⟩
    walk_at "go"
    refine ⟨_, _, oND (lie m R sw), oND (lie m R sw), rfl, dh_oN _, dh_oN _, dle_oN _, fun b H7 hb s7 => ?_⟩
    obtain rfl : b = true := hb.mpr rfl
    walk_at "go"
    exact kk _ _ ⟨s4.trans (s5.trans (s6.trans s7)), rfl⟩
  rintro σ H4 ⟨s4, rfl⟩
  have s24 := s2.trans s4
  walk_at "go"
  refine ⟨_, _, _, _, rfl, (hG.same s24).dh, (hA.same s24).dh, dle_rows (by omega), fun b H5 hb s5 => ?_⟩
  obtain rfl : b = true := hb.mpr rfl
  have s25 := s24.trans s5
  walk_at "go"
  refine ⟨_, _, _, _, rfl, (hS.same s25).dh, (hB.same s25).dh, dle_sw (by omega), fun b H6 hb s6 => ?_⟩
  obtain rfl : b = true := hb.mpr rfl
  exact q _ (s25.trans s6)
end

end

/-! ### lists of ints as data -/
theorem dh_ints {H : Hp} : ∀ (ns : List Int), DhAll H (ns.map PyData.int) (ns.map V.int)
  | [] => rfl
  | n :: ns => ⟨.int n, ns.map V.int, rfl, rfl, dh_ints ns⟩
theorem lay_ints : ∀ ns : List Int, PyData.canLayAll0 (ns.map PyData.int) = true
  | [] => by simp [PyData.canLayAll0]
  | n :: ns => by
    simp only [List.map_cons, PyData.canLayAll0, PyData.canLay0, lay_ints ns, Bool.and_self]
theorem depth_ints : ∀ ns : List Int, PyData.depthAll (ns.map PyData.int) ≤ 1
  | [] => by simp [PyData.depthAll]
  | n :: ns => by
    have h := depth_ints ns
    simp only [List.map_cons, PyData.depthAll, PyData.depth]
    omega
theorem shaped_ints (ns : List Int) : SeqAt.shaped (.list (ns.map PyData.int)) = true := by
  have h1 := depth_ints ns
  have h2 : PyData.depth (.list (ns.map PyData.int)) ≤ 64 := by
    simp only [PyData.depth]
    omega
  show (PyData.canLay0 (.list (ns.map PyData.int)) && decide (PyData.depth (.list (ns.map PyData.int)) ≤ 64)) = true
  rw [Bool.and_eq_true]
  exact ⟨by simp only [PyData.canLay0]; exact lay_ints ns, decide_eq_true h2⟩
theorem eqvA_ints : ∀ ns : List Int, PyData.eqvAll (ns.map PyData.int) (ns.map PyData.int) = true
  | [] => by simp [PyData.eqvAll]
  | n :: ns => by
    simp only [List.map_cons, PyData.eqvAll, PyData.eqv, eqvA_ints ns, beq_self_eq_true, Bool.and_self]
theorem eqv_ints (ns : List Int) : PyData.eqv (.list (ns.map PyData.int)) (.list (ns.map PyData.int)) = true := by
  rw [PyData.eqv]
  exact eqvA_ints ns

section

-- a condition of an operator
local macro_rules | `(tactic| walk_at "cond") => `(tactic| first
  | (show (0 : Int) < _; omega)
  | (show CDiv _ _; constructor <;> (first | decide | omega))
  | (show CMul _ _; first | (refine cmul_l ?_; constructor <;> (first | decide | omega)) | (refine cmul_r ?_; constructor <;> (first | decide | omega)))
  | (show CPow _ _; exact (by refine ⟨by decide, by decide, by decide⟩))
  | (show CDivW _ _; exact ⟨by decide, by decide +kernel⟩))
local macro_rules | `(tactic| walk_at "sq") => `(tactic| first | assumption | exact Dh.mono (same_upd (by assumption)) _ _ (by assumption) | exact .inl (.inl (.inl (by assumption))) | exact .inr (.inl (.inl (by assumption))) | exact SqL.of (by assumption) | exact .inl (by assumption) | exact .inl (SqL.of (by assumption)) | exact SqT.of (by assumption) | exact .inr (SqT.of (by assumption)))
local macro_rules | `(tactic| walk_at "st") => `(tactic| first
  | refine ⟨_, rfl, ?_⟩
  | refine ⟨_, _, rfl, rfl, ?_⟩
  | refine .inl ⟨_, rfl, ?_⟩
  | refine ⟨rfl, ?_⟩
  | refine ⟨_, _, rfl, by walk_at "sq", ?_⟩
  | refine ⟨.inl ⟨rfl, _, SqL.of (by assumption)⟩, ?_⟩
  | refine ⟨by walk_at "cond", ?_⟩
  | (refine' ifBT ?hh ?_; (case hh => first | rfl | assumption))
  | (refine' ifBF ?hh ?_; (case hh => first | rfl | assumption)))
local macro_rules | `(tactic| walk_at "go") => `(tactic| repeat walk_at "st")
local macro_rules | `(tactic| walk_at "yes") => `(tactic| (refine' ifT ?hh ?_; (case hh => first | rfl | decide +kernel)))
local macro_rules | `(tactic| walk_at "no") => `(tactic| (refine' ifF ?hh ?_; (case hh => first | decide +kernel | (intro z; cases z; done))))

local macro_rules | `(tactic| walk_at "st") => `(tactic| refine ⟨_, _, _, _, _, rfl, by assumption, by assumption, by omega, by omega, by omega, by omega, by omega, ?_⟩)
local macro_rules | `(tactic| walk_at "st") => `(tactic| refine ⟨_, _, _, _, _, rfl, Same.seq (by assumption) (by assumption), by assumption, by omega, by omega, by omega, by omega, by omega, ?_⟩)

/-! ### law (k54) -/
abbrev s_law : Stmt := topS 15
theorem sc_law : FnScope ["_law_script", "_law_world", "_law_many", "_law_rows", "_law_sweep", "_law_given", "_law_swept", "_law_lie", "_law_n", "_law_honest", "_law_more"] ["_law_script"] (C8.fnScope s_law) := C8.fnScope_by (by decide +kernel)
def spLaw (K : PySem.W.Frag) : Sp := fun vs H Q _ => ∃ (a : Addr) (ns : List Int), vs = [.ref a] ∧ SqL K H a (ns.map V.int) ∧ ns.length ≤ 63 ∧ ∀ H', Q (.bl true) H'
theorem cut_lo {us : List V} {a : Nat} (h : a ≤ us.length) : cutV us none (some (a : Int)) = us.take a := by
  unfold cutV
  have e : HT.sIx us.length 0 none = 0 := rfl
  have e2 : HT.sIx us.length us.length (some (a : Int)) = a := by
    simp only [HT.sIx]
    split <;> omega
  rw [e, e2]
  simp
theorem DhAll.take {H : Hp} : ∀ {ds : List PyData} {xs : List V} (n : Nat), DhAll H ds xs → DhAll H (ds.take n) (xs.take n)
  | [], xs, n, h => by
    cases (show xs = [] from h)
    simp only [List.take_nil]
    rfl
  | d :: ds, xs, 0, h => rfl
  | d :: ds, xs, n + 1, h => by
    obtain ⟨v, vs, rfl, h1, h2⟩ := h
    exact ⟨v, _, rfl, h1, DhAll.take n h2⟩
section
variable {P : Program} {w : World} {K : PySem.W.Frag} {mg : Str → Option Value} {base : Heap}
theorem ok_law {f : Addr} {fd : FuncData} (D : Def K mg "law" s_law f fd) (T : Txt mg) (c_same : Cal P w K mg base 4 "_law_same" (spSame 3) []) (c_ledger_build : Cal P w K mg base 3 "_law_ledger_build" (spBuild K) []) (c_ledger_lie : Cal P w K mg base 1 "_law_ledger_lie" spFirst [])
    (c_ledger_asked : Cal P w K mg base 5 "_law_ledger_asked" spAsked []) (c_bags_agree : Cal P w K mg base 1 "bags_agree" spBags []) (c_ledger_sweep : Cal P w K mg base 1 "_law_ledger_sweep" spSweep []) : FnOk P w K mg base C8.CX0 6 f fd ["_law_script"] (spLaw K) := by
  refine C8.fn0 D.fn sc_law (fun vs H Q E h => ?_) (fun cdv A0 outer s H vs Q E hr h => ?_)
  · obtain ⟨a, ns, rfl, _⟩ := h
    rfl
  obtain ⟨a, ns, rfl, hS, hl, q0⟩ := h
  refine ⟨_, (pss_cons (ps_set (i := 1) sc_law.nd rfl (.inl rfl) (C8.pe_c c_ledger_build hr (by omega) (by rfl) (pa_cons (pv 0) pa_nil)))
      (pss_cons (ps_set (i := 2) sc_law.nd rfl (.inl rfl) (pe_ix (ixT K rfl) (pv 1) pe_int (fun _ _ => rfl)))
      (pss_cons (ps_set (i := 3) sc_law.nd rfl (.inl rfl) (pe_ix (ixT K rfl) (pv 1) pe_int (fun _ _ => rfl)))
      (pss_cons (ps_set (i := 4) sc_law.nd rfl (.inl rfl) (pe_ix (ixT K rfl) (pv 1) pe_int (fun _ _ => rfl)))
      (pss_cons (ps_set (i := 5) sc_law.nd rfl (.inl rfl) (pe_callTy (listQ K rfl) (by rfl) T.list (by decide +kernel) (pa_cons (pv 3) pa_nil)))
      (pss_cons (ps_set (i := 6) sc_law.nd rfl (.inl rfl) (pe_callTy (listQ K rfl) (by rfl) T.list (by decide +kernel) (pa_cons (pv 4) pa_nil)))
      (pss_cons (ps_mk (ps_if (pt_not (pt_val (C8.pe_c c_ledger_asked hr (by omega) (by rfl) (pa_cons (pv 2) (pa_cons (pv 5) (pa_cons (pv 6) (pa_cons (pv 3) (pa_cons (pv 4) pa_nil))))))))
      (pss_one (ps_ret pe_bl))
      pss_nil))
      (pss_cons (ps_set (i := 7) sc_law.nd rfl (.inl rfl) (C8.pe_c c_ledger_lie hr (by omega) (by rfl) (pa_cons (pv 2) (pa_cons (pv 3) (pa_cons (pv 4) pa_nil)))))
      (pss_cons (ps_mk (ps_for PassesOwn.never rfl (pi_range1 (by rfl) T.range (pa_cons (pe_op op_add (pe_callB (lenQ K rfl) (by rfl) T.len PySem.boot_len (pa_cons (pv 3) pa_nil)) pe_int) pa_nil)) (pg_name (i := 8) sc_law.nd rfl (.inl rfl))
      (pss_cons (ps_set (i := 9) sc_law.nd rfl (.inl rfl) (pe_or (pe_cmpR op_isN (pv 7) pe_non (nomark _)) (pe_one (pe_cmpR op_le (pv 8) (pv 7) (nomark _)))))
      (pss_one (ps_mk (ps_if (pt_not (pt_val (C8.pe_c c_same hr (by omega) (by rfl) (pa_cons (C8.pe_c c_bags_agree hr (by omega) (by rfl) (pa_cons (pv 2) (pa_cons (pe_slice sl_list (pv 3) po_none (po_some (pv 8))) (pa_cons (C8.pe_c c_ledger_sweep hr (by omega) (by rfl) (pa_cons (pv 2) (pa_cons (pe_slice sl_list (pv 3) po_none (po_some (pv 8))) pa_nil))) pa_nil)))) (pa_cons (pv 9) pa_nil)))))
      (pss_one (ps_ret pe_bl))
      pss_nil))))))
      (pss_cons (ps_mk (ps_if (pt_cmpR op_gt (pv 2) pe_int (nomark _))
      (pss_cons (ps_set (i := 10) sc_law.nd rfl (.inl rfl) (pe_op op_cat (pv 3) (pe_lst (pa_cons (pe_tup (pa_cons pe_int (pa_cons (pe_ix (ixT K rfl) (pe_ix (ixL K rfl) (pv 4) pe_int (fun _ _ => rfl)) pe_int (fun _ _ => rfl)) (pa_cons (pe_ix (ixT K rfl) (pe_ix (ixL K rfl) (pv 4) pe_int (fun _ _ => rfl)) pe_int (fun _ _ => rfl)) (pa_cons pe_int pa_nil))))) pa_nil))))
      (pss_cons (ps_expr (pe_bm PySem.F.plainAttrs_list PySem.F.slot_list_append PySem.F.type_list_append mt_append (pv 5) (pa_cons (pe_ix (ixL K rfl) (pv 10) (pe_un un_neg pe_int) (fun _ _ => rfl)) pa_nil)))
      (pss_cons (ps_mk (ps_if (pt_not (pt_val (C8.pe_c c_ledger_asked hr (by omega) (by rfl) (pa_cons (pv 2) (pa_cons (pv 5) (pa_cons (pv 6) (pa_cons (pv 10) (pa_cons (pv 4) pa_nil))))))))
      (pss_one (ps_ret pe_bl))
      pss_nil))
      (pss_cons (ps_asg (pe_tup (pa_cons pe_int (pa_cons pe_int (pa_cons (pe_callB (lenQ K rfl) (by rfl) T.len PySem.boot_len (pa_cons (pv 10) pa_nil)) pa_nil)))) (pg_sub (pv 6) pe_int set_list))
      (pss_one (ps_mk (ps_if (pt_not (pt_val (C8.pe_c c_ledger_asked hr (by omega) (by rfl) (pa_cons (pv 2) (pa_cons (pv 5) (pa_cons (pv 6) (pa_cons (pv 10) (pa_cons (pe_op op_cat (pe_lst (pa_cons (pe_tup (pa_cons pe_int (pa_cons pe_int (pa_cons (pe_callB (lenQ K rfl) (by rfl) T.len PySem.boot_len (pa_cons (pv 10) pa_nil)) pa_nil)))) pa_nil)) (pe_slice sl_list (pv 4) (po_some pe_int) po_none)) pa_nil))))))))
      (pss_one (ps_ret pe_bl))
      pss_nil)))))))
      pss_nil))
      (pss_one (ps_ret (C8.pe_c c_ledger_asked hr (by omega) (by rfl) (pa_cons (pv 2) (pa_cons (pe_callTy (listQ K rfl) (by rfl) T.list (by decide +kernel) (pa_cons (pv 3) pa_nil)) (pa_cons (pe_callTy (listQ K rfl) (by rfl) T.list (by decide +kernel) (pa_cons (pv 4) pa_nil)) (pa_cons (pv 3) (pa_cons (pv 4) pa_nil)))))))))))))))))), ?_⟩
  walk_at "go"
  refine ⟨hl, fun t A B m R sw H1 s1 gt dA dB lw hm lR hp => ?_⟩
  have hA : LA H1 A (R.map lrD) := LA.of dA
  have hB : LA H1 B (swL 0 sw) := LA.of dB
  clear s1 dA dB hS
  walk_at "go"
  refine ⟨t, _, _, _, rfl, rfl, SqT.of gt, atI_nat (j := 0) rfl, ?_⟩
  walk_at "go"
  refine ⟨t, _, _, _, rfl, rfl, SqT.of gt, atI_nat (j := 1) rfl, ?_⟩
  walk_at "go"
  refine ⟨t, _, _, _, rfl, rfl, SqT.of gt, atI_nat (j := 2) rfl, ?_⟩
  obtain ⟨xs, gA, dA⟩ := id hA
  walk_at "go"
  intro G nG
  have s3 := same_upd (o := HO.lst xs) nG
  have hG : LA (upd H1 G (HO.lst xs)) G (R.map lrD) := ⟨xs, upd_same, DhAll.mono s3 _ _ dA⟩
  have nGA : G ≠ A := (ne_of_none gA nG).symm
  have nGB : G ≠ B := by
    obtain ⟨_, g, _⟩ := hB
    exact (ne_of_none g nG).symm
  have hA := hA.same s3
  have hB := hB.same s3
  generalize upd H1 G (HO.lst xs) = H3 at *
  clear s3 gA dA nG xs gt
  obtain ⟨xs, gB, dB⟩ := id hB
  walk_at "go"
  intro S nS
  have s4 := same_upd (o := HO.lst xs) nS
  have hSw : LA (upd H3 S (HO.lst xs)) S (swL 0 sw) := ⟨xs, upd_same, DhAll.mono s4 _ _ dB⟩
  have nSB : S ≠ B := (ne_of_none gB nS).symm
  have nSA : S ≠ A := by
    obtain ⟨_, g, _⟩ := hA
    exact (ne_of_none g nS).symm
  have nSG : S ≠ G := by
    obtain ⟨_, g, _⟩ := hG
    exact (ne_of_none g nS).symm
  have hA := hA.same s4
  have hB := hB.same s4
  have hG := hG.same s4
  generalize upd H3 S (HO.lst xs) = H4 at *
  clear s4 gB dB nS xs
  walk_at "go"
  refine jnS (M := fun σ H' => Same H4 H' ∧ σ = [sR a, sR t, sI m, sR A, sR B, sR G, sR S, none, none, none, none]) ?_ (fun N kk => ?_)
  rotate_left
  · walk_at "go"
    refine ⟨m, G, S, A, B, R, sw, rfl, hG, hSw, hA, hB, lw, by omega, by omega, hp, fun H5 s5 => ?_⟩
    walk_at "go"
    exact kk _ _ ⟨s5, rfl⟩
  rintro σ H5 ⟨s5, rfl⟩
  have hA := hA.same s5
  have hB := hB.same s5
  have hG := hG.same s5
  have hSw := hSw.same s5
  clear s5
  walk_at "go"
  refine ⟨m, A, B, R, sw, rfl, hA.dh, hB.dh, lw, by omega, by omega, hp, fun H6 s6 => ?_⟩
  have hA := hA.same s6
  have hB := hB.same s6
  have hG := hG.same s6
  have hSw := hSw.same s6
  clear s6
  walk_at "go"
  refine jnS (M := fun σ H' => ∃ y8 y9, Same H6 H' ∧ σ = [sR a, sR t, sI m, sR A, sR B, sR G, sR S, some (oN (lie m R sw)), y8, y9, none]) ?_ (fun N kk => ?_)
  rotate_left
  · obtain ⟨xs, gA, dA⟩ := id hA
    have lx := dA.len
    rw [List.length_map] at lx
    walk_at "go"
    rw [lx]
    refine ⟨by omega, by omega, for_range (lo := 0) (n := ((R.length : Int) + 1).toNat) (fun i σ H' => Ob (∃ y8 y9, Same H6 H' ∧ σ = [sR a, sR t, sI m, sR A, sR B, sR G, sR S, some (oN (lie m R sw)), y8, y9, none])) (ob ⟨none, none, same_rfl, rfl⟩) ?_ (fun σ H' h => kk _ _ (unob h))⟩
    intro i σ H7 hi h
    obtain ⟨y8, y9, s7, rfl⟩ := unob h
    clear h kk
    have hiR : i ≤ R.length := by omega
    have gA7 := s7 _ _ gA
    have dA7 := DhAll.mono s7 _ _ dA
    have hp' : ∀ r ∈ R.take i, r.p < m := fun r hr => hp r (List.mem_of_mem_take hr)
    have lt : (R.take i).length ≤ 24 := by
      rw [List.length_take]
      omega
    have dt : ∀ {H' : Hp}, Same H7 H' → DhAll H' ((R.take i).map lrD) (xs.take i) := fun {H'} s => by
      rw [List.map_take]
      exact DhAll.take i (DhAll.mono s _ _ dA7)
    obtain ⟨hb, ehb, ehb2⟩ : ∃ hb : Bool, (hb = true ↔ lieF 0 (List.replicate m (0, 0)) (R.take i) (lastF 0 (List.replicate m (0, 0)) (R.take i)) = none) ∧ (lie m R sw = none → hb = true) ∧ (∀ j, lie m R sw = some j → hb = decide ((i : Int) ≤ j)) := by
      have pre := lie_pre R 0 i (List.replicate m (0, 0)) sw hiR
      cases e : lie m R sw with
      | none => exact ⟨true, ⟨fun _ => pre.mpr (fun j hj => by rw [show lieF 0 (List.replicate m (0, 0)) R sw = none from e] at hj; cases hj), fun _ => rfl⟩, fun _ => rfl, fun j hj => (by cases hj)⟩
      | some k =>
        refine ⟨decide ((i : Int) ≤ k), ?_, fun z => (by cases z), fun j hj => (by cases hj; rfl)⟩
        rw [decide_eq_true_iff, pre]
        constructor
        · intro h j hj
          rw [show lieF 0 (List.replicate m (0, 0)) R sw = some k from e] at hj
          cases hj
          omega
        · intro h
          have := h k e
          omega
    rw [Int.zero_add]
    rcases el : lie m R sw with _ | j
    case' none =>
      walk_at "go"
      obtain rfl := ehb2.1 el
      clear ehb2
    case' some j =>
      walk_at "go"
      obtain rfl := ehb2.2 j el
      clear ehb2
    all_goals
      refine un ?_
      walk_at "go"
      intro u1 nu1
      rw [cut_lo (show i ≤ xs.length by omega)]
      have s8 := same_upd (o := HO.lst (xs.take i)) nu1
      have h1 : LA (upd H7 u1 (HO.lst (xs.take i))) u1 ((R.take i).map lrD) := ⟨_, upd_same, dt s8⟩
      generalize upd H7 u1 (HO.lst (xs.take i)) = H8 at *
      have gA8 := s8 _ _ gA7
      walk_at "go"
      intro u2 nu2
      rw [cut_lo (show i ≤ xs.length by omega)]
      have s9 := same_upd (o := HO.lst (xs.take i)) nu2
      have s89 := s8.trans s9
      have h2 : LA (upd H8 u2 (HO.lst (xs.take i))) u2 ((R.take i).map lrD) := ⟨_, upd_same, dt s89⟩
      have h1 := h1.same s9
      generalize upd H8 u2 (HO.lst (xs.take i)) = H9 at *
      refine ⟨m, u2, R.take i, rfl, h2.dh, by omega, by omega, hp', fun p H10 s10 np hp10 => ?_⟩
      have lf : (lastF 0 (List.replicate m (0, 0)) (R.take i)).length = m := by rw [lastF_len, List.length_replicate]
      refine ⟨m, u1, p, R.take i, _, rfl, (h1.same s10).dh, hp10.dh, lf, by omega, by omega, hp', fun c H11 ec s11 => ?_⟩
      have ec : c = _ := Bool.eq_iff_iff.mpr (ec.trans ehb.symm)
      walk_at "go"
      refine ⟨_, _, .bool c, .bool c, rfl, rfl, by rw [ec]; rfl, trivial, fun b H12 hb s12 => ?_⟩
      obtain rfl : b = true := hb.mpr rfl
      walk_at "go"
      exact ob ⟨_, _, s7.trans (s89.trans (s10.trans (s11.trans s12))), rfl⟩
  rintro σ H7 ⟨y8, y9, s7, rfl⟩
  have hA := hA.same s7
  have hB := hB.same s7
  have hG := hG.same s7
  have hSw := hSw.same s7
  clear s7
  refine jnS (M := fun σ H' => LA H' A (R.map lrD) ∧ LA H' B (swL 0 sw) ∧ ∃ y10, σ = [sR a, sR t, sI m, sR A, sR B, sR G, sR S, some (oN (lie m R sw)), y8, y9, y10]) ?_ (fun N kk => ?_)
  · rintro σ H8 ⟨hA8, hB8, y10, rfl⟩
    obtain ⟨xs, gA, dA⟩ := id hA8
    walk_at "go"
    intro u1 nu1
    have s9 := same_upd (o := HO.lst xs) nu1
    have h1 : LA (upd H8 u1 (HO.lst xs)) u1 (R.map lrD) := ⟨xs, upd_same, DhAll.mono s9 _ _ dA⟩
    have hB9 := hB8.same s9
    have hA9 := hA8.same s9
    generalize upd H8 u1 (HO.lst xs) = H9 at *
    obtain ⟨ws, gB, dB⟩ := id hB9
    walk_at "go"
    intro u2 nu2
    have s10 := same_upd (o := HO.lst ws) nu2
    have h2 : LA (upd H9 u2 (HO.lst ws)) u2 (swL 0 sw) := ⟨ws, upd_same, DhAll.mono s10 _ _ dB⟩
    have h1 := h1.same s10
    have hA10 := hA9.same s10
    have hB10 := hB9.same s10
    generalize upd H9 u2 (HO.lst ws) = H10 at *
    walk_at "go"
    exact ⟨m, u1, u2, A, B, R, sw, rfl, h1, h2, hA10, hB10, lw, by omega, by omega, hp, fun H11 s11 => q0 _⟩
  walk_at "go"
  refine ifD (fun c => ?_) (fun c => ?_)
  rotate_left
  · exact kk _ _ ⟨hA, hB, _, rfl⟩
  cases sw with
  | nil => exact absurd c (by rw [← lw]; decide)
  | cons x0 sw =>
  generalize lie m R (x0 :: sw) = oo at *
  obtain ⟨xs, gA, dA⟩ := id hA
  obtain ⟨ws, gB, dB⟩ := id hB
  obtain ⟨w0, wr, rfl, e0, dwr⟩ := dB
  obtain ⟨ta, us3, rfl, gt, u1, r1, rfl, f1, u2, r2, rfl, f2, u3, r3, rfl, f3, f4⟩ := e0
  cases (show u1 = _ from f1)
  cases (show u2 = _ from f2)
  cases (show u3 = _ from f3)
  cases (show r3 = _ from f4)
  walk_at "go"
  refine ⟨B, _, _, _, rfl, rfl, SqL.of gB, atI_nat (j := 0) rfl, ?_⟩
  walk_at "go"
  refine ⟨ta, _, _, _, rfl, rfl, SqT.of gt, atI_nat (j := 1) rfl, ?_⟩
  walk_at "go"
  refine ⟨B, _, _, _, rfl, rfl, SqL.of gB, atI_nat (j := 0) rfl, ?_⟩
  walk_at "go"
  refine ⟨ta, _, _, _, rfl, rfl, SqT.of gt, atI_nat (j := 2) rfl, ?_⟩
  refine ⟨sz, fun tr ntr => ?_⟩
  have s8 := same_upd (o := HO.tup [V.int 0, V.int x0.1, V.int x0.2, V.int 7]) ntr
  have gtr := upd_same (H := H7) (a := tr) (o := HO.tup [V.int 0, V.int x0.1, V.int x0.2, V.int 7])
  have hA := hA.same s8
  have hB := hB.same s8
  have hG := hG.same s8
  have hSw := hSw.same s8
  have gA := s8 _ _ gA
  have dA := DhAll.mono s8 _ _ dA
  generalize upd H7 tr (HO.tup [V.int 0, V.int x0.1, V.int x0.2, V.int 7]) = H8 at *
  clear s8 gB gt dwr f1 f2 f3 f4 ntr
  walk_at "go"
  refine ⟨sz, fun l1 nl1 => ?_⟩
  have s9 := same_upd (o := HO.lst [V.ref tr]) nl1
  have gl1 := upd_same (H := H8) (a := l1) (o := HO.lst [V.ref tr])
  have gtr := s9 _ _ gtr
  have hA := hA.same s9
  have hB := hB.same s9
  have hG := hG.same s9
  have hSw := hSw.same s9
  have gA := s9 _ _ gA
  have dA := DhAll.mono s9 _ _ dA
  generalize upd H8 l1 (HO.lst [V.ref tr]) = H9 at *
  clear s9 nl1
  have lx := dA.len
  rw [List.length_map] at lx
  refine ⟨A, l1, _, _, rfl, rfl, gA, gl1, Nat.le_of_lt (sz5 (by show xs.length + 1 ≤ _; omega)), fun Mo nMo => ?_⟩
  obtain ⟨R2, eR2⟩ : ∃ R2 : List LR, R2 = R ++ [⟨0, x0.1, x0.2, 7⟩] := ⟨_, rfl⟩
  have lR2 : R2.length = R.length + 1 := by rw [eR2, List.length_append]; rfl
  have hp2 : ∀ r ∈ R2, r.p < m := fun r hr => by
    rw [eR2] at hr
    rcases List.mem_append.mp hr with h | h
    · exact hp r h
    · rw [List.mem_singleton.mp h]
      show 0 < m
      omega
  have s10 := same_upd (o := HO.lst (xs ++ [V.ref tr])) nMo
  have gMo := upd_same (H := H9) (a := Mo) (o := HO.lst (xs ++ [V.ref tr]))
  have etr : Dh H9 (lrD ⟨0, x0.1, x0.2, 7⟩) (.ref tr) := ⟨tr, _, rfl, gtr, _, _, rfl, rfl, _, _, rfl, rfl, _, _, rfl, rfl, _, _, rfl, rfl, rfl⟩
  have hM : LA (upd H9 Mo (HO.lst (xs ++ [V.ref tr]))) Mo (R2.map lrD) := ⟨_, gMo, by
    rw [eR2, List.map_append]
    exact DhAll.mono s10 _ _ (DhAll.snoc dA etr)⟩
  have nMG : Mo ≠ G := by
    obtain ⟨_, g, _⟩ := hG
    exact (ne_of_none g nMo).symm
  have nMS : Mo ≠ S := by
    obtain ⟨_, g, _⟩ := hSw
    exact (ne_of_none g nMo).symm
  have hA := hA.same s10
  have hB := hB.same s10
  have hG := hG.same s10
  have hSw := hSw.same s10
  have etr := Dh.mono s10 _ _ etr
  generalize upd H9 Mo (HO.lst (xs ++ [V.ref tr])) = H10 at *
  clear s10 nMo gA dA gl1 gtr
  obtain ⟨ys, gG, dG⟩ := id hG
  have ly := dG.len
  rw [List.length_map] at ly
  walk_at "go"
  refine ⟨Mo, _, _, _, rfl, rfl, SqL.of gMo, atI_last _ _, ?_⟩
  refine ⟨G, _, _, rfl, rfl, gG, sz5 (by omega), ?_⟩
  have hA := hA.put (zs := ys ++ [V.ref tr]) gG nGA.symm (noLs_lr _)
  have hB := hB.put (zs := ys ++ [V.ref tr]) gG nGB.symm (noLs_sw _ _)
  have hSw := hSw.put (zs := ys ++ [V.ref tr]) gG nSG (noLs_sw _ _)
  have hM := hM.put (zs := ys ++ [V.ref tr]) gG nMG (noLs_lr _)
  have hG : LA (upd H10 G (.lst (ys ++ [V.ref tr]))) G (R2.map lrD) := ⟨_, upd_same, by
    rw [eR2, List.map_append]
    exact DhAll.tups (fun b us e => by
      rw [upd_ne (fun z => by rw [z, gG] at e; cases e)]
      exact e) _ _ (by rw [← List.map_append]; exact noLs_lr _) (DhAll.snoc dG etr)⟩
  generalize upd H10 G (.lst (ys ++ [V.ref tr])) = H11 at *
  clear etr gMo gG dG eR2
  walk_at "go"
  have lw2 : (x0 :: sw).length = m := lw
  refine jnS (M := fun σ H' => Same H11 H' ∧ σ = [sR a, sR t, sI m, sR A, sR B, sR G, sR S, some (oN oo), y8, y9, sR Mo]) ?_ (fun N kk => ?_)
  rotate_left
  · walk_at "go"
    refine ⟨m, G, S, Mo, B, R2, x0 :: sw, rfl, hG, hSw, hM, hB, lw2, by omega, by omega, hp2, fun H12 s12 => ?_⟩
    walk_at "go"
    exact kk _ _ ⟨s12, rfl⟩
  rintro σ H12 ⟨s12, rfl⟩
  have hA := hA.same s12
  have hB := hB.same s12
  have hG := hG.same s12
  have hSw := hSw.same s12
  have hM := hM.same s12
  clear s12
  obtain ⟨zs, gM, dM⟩ := id hM
  have lz := dM.len
  rw [List.length_map] at lz
  walk_at "go"
  refine ⟨sz, fun t2 nt2 => ?_⟩
  have s13 := same_upd (o := HO.tup [V.int 0, V.int 7, V.int (zs.length : Nat)]) nt2
  have gt2 := upd_same (H := H12) (a := t2) (o := HO.tup [V.int 0, V.int 7, V.int (zs.length : Nat)])
  have hA := hA.same s13
  have hB := hB.same s13
  have hG := hG.same s13
  have hSw := hSw.same s13
  have hM := hM.same s13
  generalize upd H12 t2 (HO.tup [V.int 0, V.int 7, V.int (zs.length : Nat)]) = H13 at *
  clear s13 nt2 gM dM
  obtain ⟨ws, gS, dS⟩ := id hSw
  obtain ⟨w0, wr, rfl, e0, dwr⟩ := dS
  walk_at "go"
  refine ⟨S, _, _, 0, rfl, rfl, gS, ix_at (p := 0) (Nat.zero_lt_succ _), ?_⟩
  have hA := hA.put (zs := (w0 :: wr).set 0 (V.ref t2)) gS nSA.symm (noLs_lr _)
  have hB := hB.put (zs := (w0 :: wr).set 0 (V.ref t2)) gS nSB.symm (noLs_sw _ _)
  have hG := hG.put (zs := (w0 :: wr).set 0 (V.ref t2)) gS nSG.symm (noLs_lr _)
  have hM := hM.put (zs := (w0 :: wr).set 0 (V.ref t2)) gS nMS (noLs_lr _)
  have kt : ∀ b us, H13 b = some (.tup us) → upd H13 S (.lst ((w0 :: wr).set 0 (V.ref t2))) b = some (.tup us) := fun b us e => by
    rw [upd_ne (fun z => by rw [z, gS] at e; cases e)]
    exact e
  have hSw : LA (upd H13 S (.lst ((w0 :: wr).set 0 (V.ref t2)))) S (swL 0 (((7 : Int), (zs.length : Int)) :: sw)) := ⟨_, upd_same, _, _, rfl, ⟨t2, _, rfl, kt _ _ gt2, _, _, rfl, rfl, _, _, rfl, rfl, _, _, rfl, rfl, rfl⟩, DhAll.tups kt _ _ (noLs_sw _ _) dwr⟩
  generalize upd H13 S (.lst ((w0 :: wr).set 0 (V.ref t2))) = H14 at *
  clear gS e0 dwr kt gt2
  obtain ⟨zs2, gM, dM⟩ := id hM
  have lz2 := dM.len
  rw [List.length_map] at lz2
  walk_at "go"
  refine un ?_
  walk_at "go"
  refine ⟨sz, fun t3 nt3 => ?_⟩
  have s16 := same_upd (o := HO.tup [V.int 0, V.int 7, V.int (zs2.length : Nat)]) nt3
  have gt3 := upd_same (H := H14) (a := t3) (o := HO.tup [V.int 0, V.int 7, V.int (zs2.length : Nat)])
  have hA := hA.same s16
  have hB := hB.same s16
  have hG := hG.same s16
  have hSw := hSw.same s16
  have hM := hM.same s16
  generalize upd H14 t3 (HO.tup [V.int 0, V.int 7, V.int (zs2.length : Nat)]) = H16 at *
  clear s16 nt3 gM dM
  walk_at "go"
  refine ⟨sz, fun l3 nl3 => ?_⟩
  have s17 := same_upd (o := HO.lst [V.ref t3]) nl3
  have gl3 := upd_same (H := H16) (a := l3) (o := HO.lst [V.ref t3])
  have gt3 := s17 _ _ gt3
  have hA := hA.same s17
  have hB := hB.same s17
  have hG := hG.same s17
  have hSw := hSw.same s17
  have hM := hM.same s17
  generalize upd H16 l3 (HO.lst [V.ref t3]) = H17 at *
  clear s17 nl3
  obtain ⟨ws, gB, dB⟩ := id hB
  obtain ⟨w1, wr1, rfl, _, dwr⟩ := dB
  walk_at "go"
  intro u4 nu4
  rw [cut1]
  have s18 := same_upd (o := HO.lst wr1) nu4
  have gu4 := upd_same (H := H17) (a := u4) (o := HO.lst wr1)
  have gl3 := s18 _ _ gl3
  have gt3 := s18 _ _ gt3
  have hA := hA.same s18
  have hB := hB.same s18
  have hG := hG.same s18
  have hSw := hSw.same s18
  have hM := hM.same s18
  have dwr := DhAll.mono s18 _ _ dwr
  generalize upd H17 u4 (HO.lst wr1) = H18 at *
  clear s18 nu4 gB
  have lwr := dwr.len
  rw [swL_len] at lwr
  have lsw : sw.length + 1 = m := lw
  have lw3 : ((((7 : Int), (zs.length : Int)) : LP) :: sw).length = m := lw
  refine ⟨l3, u4, _, _, rfl, rfl, gl3, gu4, Nat.le_of_lt (sz5 (by show 1 + wr1.length ≤ _; omega)), fun C nC => ?_⟩
  have s19 := same_upd (o := HO.lst ([V.ref t3] ++ wr1)) nC
  have hC : LA (upd H18 C (HO.lst ([V.ref t3] ++ wr1))) C (swL 0 (((7 : Int), (zs2.length : Int)) :: sw)) := ⟨_, upd_same, _, _, rfl, ⟨t3, _, rfl, s19 _ _ gt3, _, _, rfl, rfl, _, _, rfl, rfl, _, _, rfl, rfl, rfl⟩, DhAll.mono s19 _ _ dwr⟩
  have hA := hA.same s19
  have hB := hB.same s19
  have hG := hG.same s19
  have hSw := hSw.same s19
  have hM := hM.same s19
  generalize upd H18 C (HO.lst ([V.ref t3] ++ wr1)) = H19 at *
  rw [show zs2.length = zs.length by omega] at hC
  refine ⟨m, G, S, Mo, C, R2, (7, (zs.length : Int)) :: sw, rfl, hG, hSw, hM, hC, lw3, by omega, by omega, hp2, fun H20 s20 => ?_⟩
  walk_at "go"
  exact kk _ _ ⟨hA.same s20, hB.same s20, _, rfl⟩
end

end

section

-- a condition of an operator
local macro_rules | `(tactic| walk_at "cond") => `(tactic| first
  | (show (0 : Int) < _; omega)
  | (show CDiv _ _; constructor <;> (first | decide | omega))
  | (show CMul _ _; first | (refine cmul_l ?_; constructor <;> (first | decide | omega)) | (refine cmul_r ?_; constructor <;> (first | decide | omega)))
  | (show CPow _ _; exact (by refine ⟨by decide, by decide, by decide⟩))
  | (show CDivW _ _; exact ⟨by decide, by decide +kernel⟩))
local macro_rules | `(tactic| walk_at "sq") => `(tactic| first | assumption | exact Dh.mono (same_upd (by assumption)) _ _ (by assumption) | exact .inl (.inl (.inl (by assumption))) | exact .inr (.inl (.inl (by assumption))) | exact SqL.of (by assumption) | exact .inl (by assumption) | exact .inl (SqL.of (by assumption)) | exact SqT.of (by assumption) | exact .inr (SqT.of (by assumption)))
local macro_rules | `(tactic| walk_at "st") => `(tactic| first
  | refine ⟨_, rfl, ?_⟩
  | refine ⟨_, _, rfl, rfl, ?_⟩
  | refine .inl ⟨_, rfl, ?_⟩
  | refine ⟨rfl, ?_⟩
  | refine ⟨_, _, rfl, by walk_at "sq", ?_⟩
  | refine ⟨.inl ⟨rfl, _, SqL.of (by assumption)⟩, ?_⟩
  | refine ⟨by walk_at "cond", ?_⟩
  | (refine' ifBT ?hh ?_; (case hh => first | rfl | assumption))
  | (refine' ifBF ?hh ?_; (case hh => first | rfl | assumption)))
local macro_rules | `(tactic| walk_at "go") => `(tactic| repeat walk_at "st")
local macro_rules | `(tactic| walk_at "yes") => `(tactic| (refine' ifT ?hh ?_; (case hh => first | rfl | decide +kernel)))
local macro_rules | `(tactic| walk_at "no") => `(tactic| (refine' ifF ?hh ?_; (case hh => first | decide +kernel | (intro z; cases z; done))))

theorem all_mk {l : PySem.W.OpenLaw} {w : World} {K : PySem.W.Frag} {h : Heap} {mg : Str → Option Value} {fa : Addr} (X : K.In h) (G : h.Ns mainGlobals mg) (hfa : mg "law" = some (.ref fa))
    {od_first_lie an_first_lie : Option Addr} {sl_first_lie : Array (Option Value)} {f_first_lie : Addr} {oc_first_lie kV_first_lie dc_first_lie pm_first_lie cd_first_lie ct_first_lie : Value}
    (a_first_lie : PySem.W.nsIn K mainGlobals "first_lie" = some (some (.ref f_first_lie)))
    (l_first_lie : K.lookup f_first_lie = some ⟨oc_first_lie, od_first_lie, .func (PySem.W.fnOf "first_lie" "first_lie" (C8.fnArgs s_first_lie) (C8.fnBody s_first_lie) (C8.fnScope s_first_lie) .none kV_first_lie dc_first_lie pm_first_lie an_first_lie cd_first_lie ct_first_lie), sl_first_lie⟩)
    (c_first_lie : PySem.W.codeIn K cd_first_lie "first_lie" = true) (k_first_lie : PySem.W.keepIn K (.ref f_first_lie) = true)
    {od_number an_number : Option Addr} {sl_number : Array (Option Value)} {f_number : Addr} {oc_number kV_number dc_number pm_number cd_number ct_number : Value}
    (a_number : PySem.W.nsIn K mainGlobals "_law_number" = some (some (.ref f_number)))
    (l_number : K.lookup f_number = some ⟨oc_number, od_number, .func (PySem.W.fnOf "_law_number" "_law_number" (C8.fnArgs s_number) (C8.fnBody s_number) (C8.fnScope s_number) .none kV_number dc_number pm_number an_number cd_number ct_number), sl_number⟩)
    (c_number : PySem.W.codeIn K cd_number "_law_number" = true) (k_number : PySem.W.keepIn K (.ref f_number) = true)
    {od_is_whole an_is_whole : Option Addr} {sl_is_whole : Array (Option Value)} {f_is_whole : Addr} {oc_is_whole kV_is_whole dc_is_whole pm_is_whole cd_is_whole ct_is_whole : Value}
    (a_is_whole : PySem.W.nsIn K mainGlobals "_law_is_whole" = some (some (.ref f_is_whole)))
    (l_is_whole : K.lookup f_is_whole = some ⟨oc_is_whole, od_is_whole, .func (PySem.W.fnOf "_law_is_whole" "_law_is_whole" (C8.fnArgs s_is_whole) (C8.fnBody s_is_whole) (C8.fnScope s_is_whole) .none kV_is_whole dc_is_whole pm_is_whole an_is_whole cd_is_whole ct_is_whole), sl_is_whole⟩)
    (c_is_whole : PySem.W.codeIn K cd_is_whole "_law_is_whole" = true) (k_is_whole : PySem.W.keepIn K (.ref f_is_whole) = true)
    {od_same an_same : Option Addr} {sl_same : Array (Option Value)} {f_same : Addr} {oc_same kV_same dc_same pm_same cd_same ct_same : Value}
    (a_same : PySem.W.nsIn K mainGlobals "_law_same" = some (some (.ref f_same)))
    (l_same : K.lookup f_same = some ⟨oc_same, od_same, .func (PySem.W.fnOf "_law_same" "_law_same" (C8.fnArgs s_same) (C8.fnBody s_same) (C8.fnScope s_same) .none kV_same dc_same pm_same an_same cd_same ct_same), sl_same⟩)
    (c_same : PySem.W.codeIn K cd_same "_law_same" = true) (k_same : PySem.W.keepIn K (.ref f_same) = true)
    {od_ledger_left an_ledger_left : Option Addr} {sl_ledger_left : Array (Option Value)} {f_ledger_left : Addr} {oc_ledger_left kV_ledger_left dc_ledger_left pm_ledger_left cd_ledger_left ct_ledger_left : Value}
    (a_ledger_left : PySem.W.nsIn K mainGlobals "_law_ledger_left" = some (some (.ref f_ledger_left)))
    (l_ledger_left : K.lookup f_ledger_left = some ⟨oc_ledger_left, od_ledger_left, .func (PySem.W.fnOf "_law_ledger_left" "_law_ledger_left" (C8.fnArgs s_ledger_left) (C8.fnBody s_ledger_left) (C8.fnScope s_ledger_left) .none kV_ledger_left dc_ledger_left pm_ledger_left an_ledger_left cd_ledger_left ct_ledger_left), sl_ledger_left⟩)
    (c_ledger_left : PySem.W.codeIn K cd_ledger_left "_law_ledger_left" = true) (k_ledger_left : PySem.W.keepIn K (.ref f_ledger_left) = true)
    {od_ledger_swap an_ledger_swap : Option Addr} {sl_ledger_swap : Array (Option Value)} {f_ledger_swap : Addr} {oc_ledger_swap kV_ledger_swap dc_ledger_swap pm_ledger_swap cd_ledger_swap ct_ledger_swap : Value}
    (a_ledger_swap : PySem.W.nsIn K mainGlobals "_law_ledger_swap" = some (some (.ref f_ledger_swap)))
    (l_ledger_swap : K.lookup f_ledger_swap = some ⟨oc_ledger_swap, od_ledger_swap, .func (PySem.W.fnOf "_law_ledger_swap" "_law_ledger_swap" (C8.fnArgs s_ledger_swap) (C8.fnBody s_ledger_swap) (C8.fnScope s_ledger_swap) .none kV_ledger_swap dc_ledger_swap pm_ledger_swap an_ledger_swap cd_ledger_swap ct_ledger_swap), sl_ledger_swap⟩)
    (c_ledger_swap : PySem.W.codeIn K cd_ledger_swap "_law_ledger_swap" = true) (k_ledger_swap : PySem.W.keepIn K (.ref f_ledger_swap) = true)
    {od_ledger_spoil an_ledger_spoil : Option Addr} {sl_ledger_spoil : Array (Option Value)} {f_ledger_spoil : Addr} {oc_ledger_spoil kV_ledger_spoil dc_ledger_spoil pm_ledger_spoil cd_ledger_spoil ct_ledger_spoil : Value}
    (a_ledger_spoil : PySem.W.nsIn K mainGlobals "_law_ledger_spoil" = some (some (.ref f_ledger_spoil)))
    (l_ledger_spoil : K.lookup f_ledger_spoil = some ⟨oc_ledger_spoil, od_ledger_spoil, .func (PySem.W.fnOf "_law_ledger_spoil" "_law_ledger_spoil" (C8.fnArgs s_ledger_spoil) (C8.fnBody s_ledger_spoil) (C8.fnScope s_ledger_spoil) .none kV_ledger_spoil dc_ledger_spoil pm_ledger_spoil an_ledger_spoil cd_ledger_spoil ct_ledger_spoil), sl_ledger_spoil⟩)
    (c_ledger_spoil : PySem.W.codeIn K cd_ledger_spoil "_law_ledger_spoil" = true) (k_ledger_spoil : PySem.W.keepIn K (.ref f_ledger_spoil) = true)
    {od_ledger_build an_ledger_build : Option Addr} {sl_ledger_build : Array (Option Value)} {f_ledger_build : Addr} {oc_ledger_build kV_ledger_build dc_ledger_build pm_ledger_build cd_ledger_build ct_ledger_build : Value}
    (a_ledger_build : PySem.W.nsIn K mainGlobals "_law_ledger_build" = some (some (.ref f_ledger_build)))
    (l_ledger_build : K.lookup f_ledger_build = some ⟨oc_ledger_build, od_ledger_build, .func (PySem.W.fnOf "_law_ledger_build" "_law_ledger_build" (C8.fnArgs s_ledger_build) (C8.fnBody s_ledger_build) (C8.fnScope s_ledger_build) .none kV_ledger_build dc_ledger_build pm_ledger_build an_ledger_build cd_ledger_build ct_ledger_build), sl_ledger_build⟩)
    (c_ledger_build : PySem.W.codeIn K cd_ledger_build "_law_ledger_build" = true) (k_ledger_build : PySem.W.keepIn K (.ref f_ledger_build) = true)
    {od_ledger_lie an_ledger_lie : Option Addr} {sl_ledger_lie : Array (Option Value)} {f_ledger_lie : Addr} {oc_ledger_lie kV_ledger_lie dc_ledger_lie pm_ledger_lie cd_ledger_lie ct_ledger_lie : Value}
    (a_ledger_lie : PySem.W.nsIn K mainGlobals "_law_ledger_lie" = some (some (.ref f_ledger_lie)))
    (l_ledger_lie : K.lookup f_ledger_lie = some ⟨oc_ledger_lie, od_ledger_lie, .func (PySem.W.fnOf "_law_ledger_lie" "_law_ledger_lie" (C8.fnArgs s_ledger_lie) (C8.fnBody s_ledger_lie) (C8.fnScope s_ledger_lie) .none kV_ledger_lie dc_ledger_lie pm_ledger_lie an_ledger_lie cd_ledger_lie ct_ledger_lie), sl_ledger_lie⟩)
    (c_ledger_lie : PySem.W.codeIn K cd_ledger_lie "_law_ledger_lie" = true) (k_ledger_lie : PySem.W.keepIn K (.ref f_ledger_lie) = true)
    {od_bags_agree an_bags_agree : Option Addr} {sl_bags_agree : Array (Option Value)} {f_bags_agree : Addr} {oc_bags_agree kV_bags_agree dc_bags_agree pm_bags_agree cd_bags_agree ct_bags_agree : Value}
    (a_bags_agree : PySem.W.nsIn K mainGlobals "bags_agree" = some (some (.ref f_bags_agree)))
    (l_bags_agree : K.lookup f_bags_agree = some ⟨oc_bags_agree, od_bags_agree, .func (PySem.W.fnOf "bags_agree" "bags_agree" (C8.fnArgs s_bags_agree) (C8.fnBody s_bags_agree) (C8.fnScope s_bags_agree) .none kV_bags_agree dc_bags_agree pm_bags_agree an_bags_agree cd_bags_agree ct_bags_agree), sl_bags_agree⟩)
    (c_bags_agree : PySem.W.codeIn K cd_bags_agree "bags_agree" = true) (k_bags_agree : PySem.W.keepIn K (.ref f_bags_agree) = true)
    {od_ledger_bags an_ledger_bags : Option Addr} {sl_ledger_bags : Array (Option Value)} {f_ledger_bags : Addr} {oc_ledger_bags kV_ledger_bags dc_ledger_bags pm_ledger_bags cd_ledger_bags ct_ledger_bags : Value}
    (a_ledger_bags : PySem.W.nsIn K mainGlobals "_law_ledger_bags" = some (some (.ref f_ledger_bags)))
    (l_ledger_bags : K.lookup f_ledger_bags = some ⟨oc_ledger_bags, od_ledger_bags, .func (PySem.W.fnOf "_law_ledger_bags" "_law_ledger_bags" (C8.fnArgs s_ledger_bags) (C8.fnBody s_ledger_bags) (C8.fnScope s_ledger_bags) .none kV_ledger_bags dc_ledger_bags pm_ledger_bags an_ledger_bags cd_ledger_bags ct_ledger_bags), sl_ledger_bags⟩)
    (c_ledger_bags : PySem.W.codeIn K cd_ledger_bags "_law_ledger_bags" = true) (k_ledger_bags : PySem.W.keepIn K (.ref f_ledger_bags) = true)
    {od_ledger_sweep an_ledger_sweep : Option Addr} {sl_ledger_sweep : Array (Option Value)} {f_ledger_sweep : Addr} {oc_ledger_sweep kV_ledger_sweep dc_ledger_sweep pm_ledger_sweep cd_ledger_sweep ct_ledger_sweep : Value}
    (a_ledger_sweep : PySem.W.nsIn K mainGlobals "_law_ledger_sweep" = some (some (.ref f_ledger_sweep)))
    (l_ledger_sweep : K.lookup f_ledger_sweep = some ⟨oc_ledger_sweep, od_ledger_sweep, .func (PySem.W.fnOf "_law_ledger_sweep" "_law_ledger_sweep" (C8.fnArgs s_ledger_sweep) (C8.fnBody s_ledger_sweep) (C8.fnScope s_ledger_sweep) .none kV_ledger_sweep dc_ledger_sweep pm_ledger_sweep an_ledger_sweep cd_ledger_sweep ct_ledger_sweep), sl_ledger_sweep⟩)
    (c_ledger_sweep : PySem.W.codeIn K cd_ledger_sweep "_law_ledger_sweep" = true) (k_ledger_sweep : PySem.W.keepIn K (.ref f_ledger_sweep) = true)
    {od_ledger_asked an_ledger_asked : Option Addr} {sl_ledger_asked : Array (Option Value)} {f_ledger_asked : Addr} {oc_ledger_asked kV_ledger_asked dc_ledger_asked pm_ledger_asked cd_ledger_asked ct_ledger_asked : Value}
    (a_ledger_asked : PySem.W.nsIn K mainGlobals "_law_ledger_asked" = some (some (.ref f_ledger_asked)))
    (l_ledger_asked : K.lookup f_ledger_asked = some ⟨oc_ledger_asked, od_ledger_asked, .func (PySem.W.fnOf "_law_ledger_asked" "_law_ledger_asked" (C8.fnArgs s_ledger_asked) (C8.fnBody s_ledger_asked) (C8.fnScope s_ledger_asked) .none kV_ledger_asked dc_ledger_asked pm_ledger_asked an_ledger_asked cd_ledger_asked ct_ledger_asked), sl_ledger_asked⟩)
    (c_ledger_asked : PySem.W.codeIn K cd_ledger_asked "_law_ledger_asked" = true) (k_ledger_asked : PySem.W.keepIn K (.ref f_ledger_asked) = true)
    {od_law an_law : Option Addr} {sl_law : Array (Option Value)} {f_law : Addr} {oc_law kV_law dc_law pm_law cd_law ct_law : Value}
    (a_law : PySem.W.nsIn K mainGlobals "law" = some (some (.ref f_law)))
    (l_law : K.lookup f_law = some ⟨oc_law, od_law, .func (PySem.W.fnOf "law" "law" (C8.fnArgs s_law) (C8.fnBody s_law) (C8.fnScope s_law) .none kV_law dc_law pm_law an_law cd_law ct_law), sl_law⟩)
    (c_law : PySem.W.codeIn K cd_law "law" = true) (k_law : PySem.W.keepIn K (.ref f_law) = true)
    (z_len : PySem.W.nsIn K mainGlobals "len" = some none)
    (z_abs : PySem.W.nsIn K mainGlobals "abs" = some none)
    (z_int : PySem.W.nsIn K mainGlobals "int" = some none)
    (z_range : PySem.W.nsIn K mainGlobals "range" = some none)
    (z_isinstance : PySem.W.nsIn K mainGlobals "isinstance" = some none)
    (z_bool : PySem.W.nsIn K mainGlobals "bool" = some none)
    (z_str : PySem.W.nsIn K mainGlobals "str" = some none)
    (z_list : PySem.W.nsIn K mainGlobals "list" = some none)
    (z_tuple : PySem.W.nsIn K mainGlobals "tuple" = some none)
    (z_enumerate : PySem.W.nsIn K mainGlobals "enumerate" = some none)
    (z_sorted : PySem.W.nsIn K mainGlobals "sorted" = some none)
    (z_min : PySem.W.nsIn K mainGlobals "min" = some none) :
    ∃ fd : FuncData, (∀ (s : Shared) (v : Value), BindsTo s fd ⟨[v], []⟩ [("_law_script", v)]) ∧ ∀ base : Heap, K.In base → base.Ns mainGlobals mg → FnOk l.prog w K mg base C8.CX0 6 fa fd ["_law_script"] (spLaw K) := by
  have e := hfa.symm.trans (PySem.W.mg_of X G a_law)
  cases e
  have T : Txt mg := ⟨PySem.W.mg_none_of X G z_len, PySem.W.mg_none_of X G z_abs, PySem.W.mg_none_of X G z_int, PySem.W.mg_none_of X G z_range, PySem.W.mg_none_of X G z_isinstance, PySem.W.mg_none_of X G z_bool, PySem.W.mg_none_of X G z_str, PySem.W.mg_none_of X G z_list, PySem.W.mg_none_of X G z_tuple⟩
  have TL : TxtL mg := ⟨T, PySem.W.mg_none_of X G z_enumerate, PySem.W.mg_none_of X G z_sorted, PySem.W.mg_none_of X G z_min⟩
  have D_first_lie : Def K mg "first_lie" s_first_lie f_first_lie _ := ⟨⟨oc_first_lie, od_first_lie, .none, kV_first_lie, dc_first_lie, pm_first_lie, an_first_lie, cd_first_lie, ct_first_lie, sl_first_lie, rfl, l_first_lie, c_first_lie⟩, PySem.W.mg_of X G a_first_lie, k_first_lie⟩
  have b_first_lie := D_first_lie.fn.binds (ps := ["places", "rows", "sweep"]) rfl fun _ _ _ _ _ _ us hl => match us, hl with | [_, _, _], _ => rfl
  have D_number : Def K mg "_law_number" s_number f_number _ := ⟨⟨oc_number, od_number, .none, kV_number, dc_number, pm_number, an_number, cd_number, ct_number, sl_number, rfl, l_number, c_number⟩, PySem.W.mg_of X G a_number, k_number⟩
  have b_number := D_number.fn.binds (ps := ["_law_script", "_law_at", "_law_k", "_law_size"]) rfl fun _ _ _ _ _ _ us hl => match us, hl with | [_, _, _, _], _ => rfl
  have D_is_whole : Def K mg "_law_is_whole" s_is_whole f_is_whole _ := ⟨⟨oc_is_whole, od_is_whole, .none, kV_is_whole, dc_is_whole, pm_is_whole, an_is_whole, cd_is_whole, ct_is_whole, sl_is_whole, rfl, l_is_whole, c_is_whole⟩, PySem.W.mg_of X G a_is_whole, k_is_whole⟩
  have b_is_whole := D_is_whole.fn.binds (ps := ["_law_told"]) rfl fun _ _ _ _ _ _ us hl => match us, hl with | [_], _ => rfl
  have D_same : Def K mg "_law_same" s_same f_same _ := ⟨⟨oc_same, od_same, .none, kV_same, dc_same, pm_same, an_same, cd_same, ct_same, sl_same, rfl, l_same, c_same⟩, PySem.W.mg_of X G a_same, k_same⟩
  have b_same := D_same.fn.binds (ps := ["_law_told", "_law_due"]) rfl fun _ _ _ _ _ _ us hl => match us, hl with | [_, _], _ => rfl
  have D_ledger_left : Def K mg "_law_ledger_left" s_ledger_left f_ledger_left _ := ⟨⟨oc_ledger_left, od_ledger_left, .none, kV_ledger_left, dc_ledger_left, pm_ledger_left, an_ledger_left, cd_ledger_left, ct_ledger_left, sl_ledger_left, rfl, l_ledger_left, c_ledger_left⟩, PySem.W.mg_of X G a_ledger_left, k_ledger_left⟩
  have b_ledger_left := D_ledger_left.fn.binds (ps := ["_law_script", "_law_at", "_law_stamp"]) rfl fun _ _ _ _ _ _ us hl => match us, hl with | [_, _, _], _ => rfl
  have D_ledger_swap : Def K mg "_law_ledger_swap" s_ledger_swap f_ledger_swap _ := ⟨⟨oc_ledger_swap, od_ledger_swap, .none, kV_ledger_swap, dc_ledger_swap, pm_ledger_swap, an_ledger_swap, cd_ledger_swap, ct_ledger_swap, sl_ledger_swap, rfl, l_ledger_swap, c_ledger_swap⟩, PySem.W.mg_of X G a_ledger_swap, k_ledger_swap⟩
  have b_ledger_swap := D_ledger_swap.fn.binds (ps := ["_law_one", "_law_two"]) rfl fun _ _ _ _ _ _ us hl => match us, hl with | [_, _], _ => rfl
  have D_ledger_spoil : Def K mg "_law_ledger_spoil" s_ledger_spoil f_ledger_spoil _ := ⟨⟨oc_ledger_spoil, od_ledger_spoil, .none, kV_ledger_spoil, dc_ledger_spoil, pm_ledger_spoil, an_ledger_spoil, cd_ledger_spoil, ct_ledger_spoil, sl_ledger_spoil, rfl, l_ledger_spoil, c_ledger_spoil⟩, PySem.W.mg_of X G a_ledger_spoil, k_ledger_spoil⟩
  have b_ledger_spoil := D_ledger_spoil.fn.binds (ps := ["_law_script", "_law_at", "_law_rows", "_law_sweep"]) rfl fun _ _ _ _ _ _ us hl => match us, hl with | [_, _, _, _], _ => rfl
  have D_ledger_build : Def K mg "_law_ledger_build" s_ledger_build f_ledger_build _ := ⟨⟨oc_ledger_build, od_ledger_build, .none, kV_ledger_build, dc_ledger_build, pm_ledger_build, an_ledger_build, cd_ledger_build, ct_ledger_build, sl_ledger_build, rfl, l_ledger_build, c_ledger_build⟩, PySem.W.mg_of X G a_ledger_build, k_ledger_build⟩
  have b_ledger_build := D_ledger_build.fn.binds (ps := ["_law_script"]) rfl fun _ _ _ _ _ _ us hl => match us, hl with | [_], _ => rfl
  have D_ledger_lie : Def K mg "_law_ledger_lie" s_ledger_lie f_ledger_lie _ := ⟨⟨oc_ledger_lie, od_ledger_lie, .none, kV_ledger_lie, dc_ledger_lie, pm_ledger_lie, an_ledger_lie, cd_ledger_lie, ct_ledger_lie, sl_ledger_lie, rfl, l_ledger_lie, c_ledger_lie⟩, PySem.W.mg_of X G a_ledger_lie, k_ledger_lie⟩
  have b_ledger_lie := D_ledger_lie.fn.binds (ps := ["_law_many", "_law_rows", "_law_sweep"]) rfl fun _ _ _ _ _ _ us hl => match us, hl with | [_, _, _], _ => rfl
  have D_bags_agree : Def K mg "bags_agree" s_bags_agree f_bags_agree _ := ⟨⟨oc_bags_agree, od_bags_agree, .none, kV_bags_agree, dc_bags_agree, pm_bags_agree, an_bags_agree, cd_bags_agree, ct_bags_agree, sl_bags_agree, rfl, l_bags_agree, c_bags_agree⟩, PySem.W.mg_of X G a_bags_agree, k_bags_agree⟩
  have b_bags_agree := D_bags_agree.fn.binds (ps := ["places", "rows", "sweep"]) rfl fun _ _ _ _ _ _ us hl => match us, hl with | [_, _, _], _ => rfl
  have D_ledger_bags : Def K mg "_law_ledger_bags" s_ledger_bags f_ledger_bags _ := ⟨⟨oc_ledger_bags, od_ledger_bags, .none, kV_ledger_bags, dc_ledger_bags, pm_ledger_bags, an_ledger_bags, cd_ledger_bags, ct_ledger_bags, sl_ledger_bags, rfl, l_ledger_bags, c_ledger_bags⟩, PySem.W.mg_of X G a_ledger_bags, k_ledger_bags⟩
  have b_ledger_bags := D_ledger_bags.fn.binds (ps := ["_law_many", "_law_rows", "_law_sweep"]) rfl fun _ _ _ _ _ _ us hl => match us, hl with | [_, _, _], _ => rfl
  have D_ledger_sweep : Def K mg "_law_ledger_sweep" s_ledger_sweep f_ledger_sweep _ := ⟨⟨oc_ledger_sweep, od_ledger_sweep, .none, kV_ledger_sweep, dc_ledger_sweep, pm_ledger_sweep, an_ledger_sweep, cd_ledger_sweep, ct_ledger_sweep, sl_ledger_sweep, rfl, l_ledger_sweep, c_ledger_sweep⟩, PySem.W.mg_of X G a_ledger_sweep, k_ledger_sweep⟩
  have b_ledger_sweep := D_ledger_sweep.fn.binds (ps := ["_law_many", "_law_rows"]) rfl fun _ _ _ _ _ _ us hl => match us, hl with | [_, _], _ => rfl
  have D_ledger_asked : Def K mg "_law_ledger_asked" s_ledger_asked f_ledger_asked _ := ⟨⟨oc_ledger_asked, od_ledger_asked, .none, kV_ledger_asked, dc_ledger_asked, pm_ledger_asked, an_ledger_asked, cd_ledger_asked, ct_ledger_asked, sl_ledger_asked, rfl, l_ledger_asked, c_ledger_asked⟩, PySem.W.mg_of X G a_ledger_asked, k_ledger_asked⟩
  have b_ledger_asked := D_ledger_asked.fn.binds (ps := ["_law_many", "_law_given", "_law_swept", "_law_rows", "_law_sweep"]) rfl fun _ _ _ _ _ _ us hl => match us, hl with | [_, _, _, _, _], _ => rfl
  have D_law : Def K mg "law" s_law fa _ := ⟨⟨oc_law, od_law, .none, kV_law, dc_law, pm_law, an_law, cd_law, ct_law, sl_law, rfl, l_law, c_law⟩, PySem.W.mg_of X G a_law, k_law⟩
  refine ⟨PySem.W.fnOf "law" "law" (C8.fnArgs s_law) (C8.fnBody s_law) (C8.fnScope s_law) .none kV_law dc_law pm_law an_law cd_law ct_law, fun s v => .of_eq rfl, fun base _ _ => ?_⟩
  have c_number := ok_number (P := l.prog) (w := w) (base := base) D_number b_number T
  have c_whole := ok_whole (P := l.prog) (w := w) (base := base) D_is_whole b_is_whole T
  have c_same := ok_same D_same b_same T c_whole 3
  have c_first := ok_first (P := l.prog) (w := w) (base := base) D_first_lie b_first_lie TL
  have c_lie := ok_lie (P := l.prog) (w := w) (base := base) D_ledger_lie b_ledger_lie T
  have c_left := ok_left D_ledger_left b_ledger_left T c_number
  have c_swap := ok_swap (P := l.prog) (w := w) (base := base) D_ledger_swap b_ledger_swap T
  have c_spoil := ok_spoil D_ledger_spoil b_ledger_spoil T c_number c_swap
  have c_build := ok_build D_ledger_build b_ledger_build TL c_number c_left c_spoil
  have c_agree := ok_agree (P := l.prog) (w := w) (base := base) D_bags_agree b_bags_agree TL
  have c_lbags := ok_lbags (P := l.prog) (w := w) (base := base) D_ledger_bags b_ledger_bags TL
  have c_sweep := ok_sweep (P := l.prog) (w := w) (base := base) D_ledger_sweep b_ledger_sweep T
  have c_asked := ok_asked D_ledger_asked b_ledger_asked T c_same c_lbags c_lie c_agree c_first
  exact ok_law D_law T c_same c_build c_lie c_asked c_agree c_sweep

end

end Lw
open PySem PySem.W PyProof.Rows
set_option maxRecDepth 100000 in
set_option maxHeartbeats 0 in
theorem PySem.Challenge.cw_lentpages_k54_whole_bags_and_lies_holds : PySem.Challenge.rw_lentpages_k54_whole_bags_and_lies.Holds := by
  w_on; o_law; k_head; (case hw => w_witness2)
  k_fill
  refine L2.walk_of (l := PySem.Challenge.rw_lentpages_k54_whole_bags_and_lies) (n := 63) (k := 6) (x := "_law_script") (CX := fun _ => C8.CX0) (sp := fun w => Lw.spLaw _) rfl (by decide) rfl ⟨rfl, by decide, by decide⟩ (fun w h Y => by first | exact PySem.W.kIn_of Y | exact PySem.W.km_in_of Y) ?F (fun _ _ a ns hl _ hS => ⟨a, ns, rfl, hS, hl, fun _ => rfl⟩) (fun _ _ _ _ _ h => h)
  case F =>
    intro w mg fa h KX G hmg
    refine' Lw.all_mk KX G hmg ?a_first_lie ?l_first_lie ?c_first_lie ?k_first_lie ?a_number ?l_number ?c_number ?k_number ?a_is_whole ?l_is_whole ?c_is_whole ?k_is_whole ?a_same ?l_same ?c_same ?k_same ?a_ledger_left ?l_ledger_left ?c_ledger_left ?k_ledger_left ?a_ledger_swap ?l_ledger_swap ?c_ledger_swap ?k_ledger_swap ?a_ledger_spoil ?l_ledger_spoil ?c_ledger_spoil ?k_ledger_spoil ?a_ledger_build ?l_ledger_build ?c_ledger_build ?k_ledger_build ?a_ledger_lie ?l_ledger_lie ?c_ledger_lie ?k_ledger_lie ?a_bags_agree ?l_bags_agree ?c_bags_agree ?k_bags_agree ?a_ledger_bags ?l_ledger_bags ?c_ledger_bags ?k_ledger_bags ?a_ledger_sweep ?l_ledger_sweep ?c_ledger_sweep ?k_ledger_sweep ?a_ledger_asked ?l_ledger_asked ?c_ledger_asked ?k_ledger_asked ?a_law ?l_law ?c_law ?k_law ?z_len ?z_abs ?z_int ?z_range ?z_isinstance ?z_bool ?z_str ?z_list ?z_tuple ?z_enumerate ?z_sorted ?z_min
    (case a_first_lie => k_is)
    (case l_first_lie => k_is)
    (case c_first_lie => k_is)
    (case k_first_lie => k_is)
    (case a_number => k_is)
    (case l_number => k_is)
    (case c_number => k_is)
    (case k_number => k_is)
    (case a_is_whole => k_is)
    (case l_is_whole => k_is)
    (case c_is_whole => k_is)
    (case k_is_whole => k_is)
    (case a_same => k_is)
    (case l_same => k_is)
    (case c_same => k_is)
    (case k_same => k_is)
    (case a_ledger_left => k_is)
    (case l_ledger_left => k_is)
    (case c_ledger_left => k_is)
    (case k_ledger_left => k_is)
    (case a_ledger_swap => k_is)
    (case l_ledger_swap => k_is)
    (case c_ledger_swap => k_is)
    (case k_ledger_swap => k_is)
    (case a_ledger_spoil => k_is)
    (case l_ledger_spoil => k_is)
    (case c_ledger_spoil => k_is)
    (case k_ledger_spoil => k_is)
    (case a_ledger_build => k_is)
    (case l_ledger_build => k_is)
    (case c_ledger_build => k_is)
    (case k_ledger_build => k_is)
    (case a_ledger_lie => k_is)
    (case l_ledger_lie => k_is)
    (case c_ledger_lie => k_is)
    (case k_ledger_lie => k_is)
    (case a_bags_agree => k_is)
    (case l_bags_agree => k_is)
    (case c_bags_agree => k_is)
    (case k_bags_agree => k_is)
    (case a_ledger_bags => k_is)
    (case l_ledger_bags => k_is)
    (case c_ledger_bags => k_is)
    (case k_ledger_bags => k_is)
    (case a_ledger_sweep => k_is)
    (case l_ledger_sweep => k_is)
    (case c_ledger_sweep => k_is)
    (case k_ledger_sweep => k_is)
    (case a_ledger_asked => k_is)
    (case l_ledger_asked => k_is)
    (case c_ledger_asked => k_is)
    (case k_ledger_asked => k_is)
    (case a_law => k_is)
    (case l_law => k_is)
    (case c_law => k_is)
    (case k_law => k_is)
    (case z_len => k_is)
    (case z_abs => k_is)
    (case z_int => k_is)
    (case z_range => k_is)
    (case z_isinstance => k_is)
    (case z_bool => k_is)
    (case z_str => k_is)
    (case z_list => k_is)
    (case z_tuple => k_is)
    (case z_enumerate => k_is)
    (case z_sorted => k_is)
    (case z_min => k_is)
