import PyProof.Rows.All
import Wide.All
import OpenK.AllK
import Wide.FinOn
import HandS.ForMost
import HandS.Codes
import HandS.IsInst
import HandS.Wide
import HandS.DictTup
import PyProof.DictMoreH
import HandS.TupLen
import HandS.Zip
import HandS.Walk
import HandS.Style
import HandS.Rev
import PySem.Challenge.RW_lentpages_k24_phases
set_option Elab.async false
set_option linter.all false
set_option maxRecDepth 100000
set_option maxHeartbeats 4000000
namespace Lw
open PySem PySem.Spec PyProof.Rows L2
open C8 (Def Cal cal0 pe_c)
def topS (i : Nat) : Stmt := PySem.Challenge.pw_lentpages_k24_phases.main.body.getD i (.Pass ⟨0, 0, 0, 0⟩)

/-! ### data in the heap, tracked -/
mutual
def Dh (H : Hp) : PyData → V → Prop
  | .none, x => x = .non
  | .bool b, x => x = .bl b
  | .int i, x => x = .int i
  | .str s, x => x = .str s
  | .list ds, x => ∃ a xs, x = .ref a ∧ H a = some (.lst xs) ∧ DhAll H ds xs
  | .tuple ds, x => ∃ a xs, x = .ref a ∧ H a = some (.tup xs) ∧ DhAll H ds xs
  | .dict _, _ => False
def DhAll (H : Hp) : List PyData → List V → Prop
  | [], xs => xs = []
  | d :: ds, xs => ∃ v vs, xs = v :: vs ∧ Dh H d v ∧ DhAll H ds vs
end
mutual
theorem Dh.mono {H H' : Hp} (s : Same H H') : ∀ (d : PyData) (x : V), Dh H d x → Dh H' d x
  | .none, x, h => h
  | .bool b, x, h => h
  | .int i, x, h => h
  | .str i, x, h => h
  | .list ds, x, h => by
    obtain ⟨a, xs, e, g, r⟩ := h
    exact ⟨a, xs, e, s _ _ g, DhAll.mono s ds xs r⟩
  | .tuple ds, x, h => by
    obtain ⟨a, xs, e, g, r⟩ := h
    exact ⟨a, xs, e, s _ _ g, DhAll.mono s ds xs r⟩
  | .dict _, x, h => False.elim h
theorem DhAll.mono {H H' : Hp} (s : Same H H') : ∀ (ds : List PyData) (xs : List V), DhAll H ds xs → DhAll H' ds xs
  | [], xs, h => h
  | d :: ds, xs, h => by
    obtain ⟨v, vs, e, g, r⟩ := h
    exact ⟨v, vs, e, Dh.mono s d v g, DhAll.mono s ds vs r⟩
end
theorem DhAll.len {H : Hp} : ∀ {ds : List PyData} {xs : List V}, DhAll H ds xs → xs.length = ds.length
  | [], xs, h => by
    cases (show xs = [] from h)
    rfl
  | d :: ds, xs, h => by
    obtain ⟨v, vs, e, g, r⟩ := h
    rw [e, List.length_cons, List.length_cons, DhAll.len r]
theorem DhAll.get {H : Hp} : ∀ {ds : List PyData} {xs : List V} {i : Nat} {d : PyData}, DhAll H ds xs → ds[i]? = some d → ∃ x, xs[i]? = some x ∧ Dh H d x
  | [], xs, i, d, h, e => by simp at e
  | d' :: ds, xs, 0, d, h, e => by
    obtain ⟨v, vs, e', g, r⟩ := h
    simp at e
    subst e
    exact ⟨v, by rw [e']; rfl, g⟩
  | d' :: ds, xs, i + 1, d, h, e => by
    obtain ⟨v, vs, e', g, r⟩ := h
    obtain ⟨x, h1, h2⟩ := DhAll.get (i := i) (d := d) r (by simpa using e)
    exact ⟨x, by rw [e']; simpa using h1, h2⟩
mutual
theorem Dh.dp {K : PySem.W.Frag} {H : Hp} : ∀ (d : PyData) (x : V), Dh H d x → Dp K H x d
  | .none, x, h => by
    cases (show x = .non from h)
    exact .non
  | .bool b, x, h => by
    cases (show x = .bl b from h)
    exact .bl b
  | .int i, x, h => by
    cases (show x = .int i from h)
    exact .int i
  | .str i, x, h => by
    cases (show x = .str i from h)
    exact .str i
  | .list ds, x, h => by
    obtain ⟨a, xs, e, g, r⟩ := h
    rw [e]
    exact .lst (SqL.of g) (DhAll.dp ds xs r)
  | .tuple ds, x, h => by
    obtain ⟨a, xs, e, g, r⟩ := h
    rw [e]
    exact .tup (SqT.of g) (DhAll.dp ds xs r)
  | .dict _, x, h => False.elim h
theorem DhAll.dp {K : PySem.W.Frag} {H : Hp} : ∀ (ds : List PyData) (xs : List V), DhAll H ds xs → DpAll K H xs ds
  | [], xs, h => by
    cases (show xs = [] from h)
    exact .nil
  | d :: ds, xs, h => by
    obtain ⟨v, vs, e, g, r⟩ := h
    rw [e]
    exact .cons (Dh.dp d v g) (DhAll.dp ds vs r)
end
/-- a datum's type -/
def tyN : PyData → String
  | .none => "NoneType"
  | .bool _ => "bool"
  | .int _ => "int"
  | .str _ => "str"
  | .list _ => "list"
  | .tuple _ => "tuple"
  | .dict _ => "dict"
theorem Dh.ty {K : PySem.W.Frag} {H : Hp} : ∀ {d : PyData} {x : V}, Dh H d x → TyX K H x (.type (tyN d))
  | .none, x, h => by
    cases (show x = .non from h)
    exact .base .non
  | .bool b, x, h => by
    cases (show x = .bl b from h)
    exact .base (.bl b)
  | .int i, x, h => by
    cases (show x = .int i from h)
    exact .base (.int i)
  | .str i, x, h => by
    cases (show x = .str i from h)
    exact .base (.str i)
  | .list ds, x, h => by
    obtain ⟨a, xs, e, g, r⟩ := h
    rw [e]
    exact .base (.lst g)
  | .tuple ds, x, h => by
    obtain ⟨a, xs, e, g, r⟩ := h
    rw [e]
    exact .base (.tup g)
  | .dict _, x, h => False.elim h
/-- at most n lists and tuples in one another, none of them long -/
def Dle : Nat → PyData → Prop
  | 0, _ => False
  | n + 1, .list ds => ds.length ≤ 100000 ∧ ∀ d ∈ ds, Dle n d
  | n + 1, .tuple ds => ds.length ≤ 100000 ∧ ∀ d ∈ ds, Dle n d
  | _, .dict _ => False
  | _, _ => True
theorem same_upd {H : Hp} {p : Addr} {o : HO} (h : H p = none) : Same H (upd H p o) := fun b x e => by
  rw [upd_ne (ne_of_none e h)]
  exact e
theorem same_rfl {H : Hp} : Same H H := fun _ _ e => e
/-- what is asked of the top's names -/
structure Txt (mg : Str → Option Value) : Prop where
  len : mg "len" = none
  abs : mg "abs" = none
  int : mg "int" = none
  range : mg "range" = none
  isinstance : mg "isinstance" = none
  bool : mg "bool" = none
  str : mg "str" = none
  list : mg "list" = none
  tuple : mg "tuple" = none
abbrev sI (i : Int) : Option V := some (.int i)
abbrev sR (a : Addr) : Option V := some (.ref a)
abbrev sS (x : Str) : Option V := some (.str x)
abbrev sB (b : Bool) : Option V := some (.bl b)

/-! ### steps of a reading -/
theorem ifD {p : Prop} [Decidable p] {A B : Prop} (a : p → A) (b : ¬ p → B) : if decide p = true then A else B := by
  by_cases h : p
  · rw [if_pos (decide_eq_true h)]
    exact a h
  · rw [if_neg (fun z => h (of_decide_eq_true z))]
    exact b h
theorem ifEq {x y : Int} {A B : Prop} (a : x = y → A) (b : x ≠ y → B) : if decide (V.int x = V.int y) = true then A else B :=
  ifD (fun h => a (V.int.inj h)) (fun h => b (fun z => h (congrArg V.int z)))
theorem ifT {p : Prop} [Decidable p] {A B : Prop} (h : p) (a : A) : if decide p = true then A else B := by
  rw [if_pos (decide_eq_true h)]
  exact a
theorem ifF {p : Prop} [Decidable p] {A B : Prop} (h : ¬ p) (b : B) : if decide p = true then A else B := by
  rw [if_neg (fun z => h (of_decide_eq_true z))]
  exact b
theorem ifEqT {x y : Int} {A B : Prop} (h : x = y) (a : A) : if decide (V.int x = V.int y) = true then A else B := ifT (congrArg V.int h) a
theorem ifEqF {x y : Int} {A B : Prop} (h : x ≠ y) (b : B) : if decide (V.int x = V.int y) = true then A else B := ifF (fun z => h (V.int.inj z)) b
theorem cmul_l {i j : Int} (h : -(2 ^ 64) < i ∧ i < 2 ^ 64) : CMul i j := .inl h
theorem cmul_r {i j : Int} (h : -(2 ^ 64) < j ∧ j < 2 ^ 64) : CMul i j := .inr h
/-- a statement that the steps stop at -/
@[irreducible] def tMk (t : TS) : TS := t
theorem tMk_eq (t : TS) : tMk t = t := by
  unfold tMk
  rfl
theorem ps_mk {X : Cx} {s : Stmt} {t : TS} (h : PS X s t) : PS X s (tMk t) := by
  rw [tMk_eq]
  exact h
theorem un {t : TS} {D : Ends} {σ : L2.St} {H : Hp} (h : t D σ H) : tMk t D σ H := by
  rw [tMk_eq]
  exact h
/-- what follows, said once -/
theorem jn {t : TS} {D : Ends} {σ : L2.St} {H : Hp} (M : L2.St → Hp → Prop) (h2 : ∀ σ H, M σ H → D.nx σ H) (h1 : ∀ N : L2.St → Hp → Prop, (∀ σ H, M σ H → N σ H) → t { D with nx := N } σ H) : tMk t D σ H := by
  rw [tMk_eq]
  exact h1 D.nx h2
/-- a wish that the steps stop at -/
@[irreducible] def Ob (p : Prop) : Prop := p
theorem ob {p : Prop} (h : p) : Ob p := by
  unfold Ob
  exact h
theorem unob {p : Prop} (h : Ob p) : p := by
  unfold Ob at h
  exact h
theorem atI_getD {ns : List Int} {j : Int} (h0 : 0 ≤ j) (h1 : j < (ns.length : Int)) : atI (ns.map V.int) j = some (.int (ns.getD j.toNat 0)) := by
  have e : j = ((j.toNat : Nat) : Int) := by omega
  have hj : j.toNat < ns.length := by omega
  have q : atI (ns.map V.int) ((j.toNat : Nat) : Int) = some (.int (ns.getD j.toNat 0)) := atI_nat (by
    rw [List.getElem?_map, List.getElem?_eq_getElem hj, List.getD_eq_getElem?_getD, List.getElem?_eq_getElem hj]
    rfl)
  rw [← e] at q
  exact q
theorem sz {n : Nat} (h : n ≤ 1000 := by first | decide | simp) : n ≤ sizeLine := Nat.le_of_lt (small1000 h)
theorem sz5 {n : Nat} (h : n ≤ 1000000) : n < sizeLine := by
  rw [sizeLine_eq]
  omega
theorem take_succ_eq {α : Type} {xs ys : List α} {i : Nat} {x y : α} (hx : xs[i]? = some x) (hy : ys[i]? = some y) : xs.take (i + 1) = ys.take (i + 1) ↔ xs.take i = ys.take i ∧ x = y := by
  rw [List.take_add_one, List.take_add_one, hx, hy]
  constructor
  · intro h
    have h1 := List.append_inj' h rfl
    refine ⟨h1.1, ?_⟩
    have h2 := h1.2
    simpa using h2
  · rintro ⟨h1, rfl⟩
    rw [h1]
-- size2
theorem ifN {b : Bool} {A B : Prop} (h : if b = true then B else A) : if (!b) = true then A else B := by
  cases b
  · exact h
  · exact h
theorem ifNe {x y : Int} {A B : Prop} (a : x ≠ y → A) (b : x = y → B) : if (!decide (V.int x = V.int y)) = true then A else B := ifN (ifEq b a)
theorem ixAny {K : PySem.W.Frag} {H : Hp} {a : Addr} {xs : List V} {i : Int} {v : V} {Q : VK} (h : SqL K H a xs ∨ SqT K H a xs) (e : atI xs i = some v) (q : Q v H) : rIx K (.ref a) (.int i) H Q := by
  rcases h with h | h
  · exact .inl ⟨a, xs, i, v, rfl, rfl, h, e, q⟩
  · exact .inr (.inl ⟨a, xs, i, v, rfl, rfl, h, e, q⟩)
theorem sameT {K : PySem.W.Frag} {H H' : Hp} {a : Addr} {xs : List V} (s : Same H H') (h : SqT K H a xs) : SqT K H' a xs := by
  rcases h with (g | ⟨o, g⟩) | g
  · exact .inl (.inl (s _ _ g))
  · exact .inl (.inr ⟨o, s _ _ g⟩)
  · exact .inr g
theorem sqAny {K : PySem.W.Frag} {H H' : Hp} {a : Addr} {xs : List V} (s : Same H H') (h : SqL K H a xs ∨ SqT K H a xs) : SqL K H' a xs ∨ SqT K H' a xs := h.imp (fun z => s.seq z) (fun z => sameT s z)
theorem same_put {H H1 : Hp} {D : Addr} {o : HO} (s : Same H H1) (h : H D = none) : Same H (upd H1 D o) := fun b x e => by
  rw [upd_ne (ne_of_none e h)]
  exact s b x e

/-! ### rules that say the written part by a letter -/
theorem ixL {X : Cx} (K : PySem.W.Frag) (h : X.K = K) : IxR X (rIxL K) := by
  subst h
  exact ix_list
theorem ixT {X : Cx} (K : PySem.W.Frag) (h : X.K = K) : IxR X (rIxT K) := by
  subst h
  exact ix_tup
theorem ixA {X : Cx} (K : PySem.W.Frag) (h : X.K = K) : IxR X (rIx K) := by
  subst h
  exact ix_seq
def rLen (K : PySem.W.Frag) : List V → Hp → VK → Prop := fun xs H Q => ∃ p ys, xs = [.ref p] ∧ (SqL K H p ys ∨ SqT K H p ys) ∧ Q (.int ys.length) H
theorem lenQ {X : Cx} (K : PySem.W.Frag) (h : X.K = K) : CallR X (.builtin "len") (rLen K) := by
  subst h
  exact call_len_seq
def isB : PyData → Bool
  | .bool _ => true
  | _ => false
def isI : PyData → Bool
  | .int _ => true
  | _ => false
def isS : PyData → Bool
  | .str _ => true
  | _ => false
def isL : PyData → Bool
  | .list _ => true
  | _ => false
def isT : PyData → Bool
  | .tuple _ => true
  | _ => false
theorem kit_B {K : PySem.W.Frag} : ∀ (d : PyData), PySem.W.kitOne K (.type (tyN d)) (.type "bool") = some (isB d)
  | .none => kit_ty (show kitB "NoneType" "bool" = some false by decide +kernel)
  | .bool _ => kit_ty (show kitB "bool" "bool" = some true by decide +kernel)
  | .int _ => kit_ty (show kitB "int" "bool" = some false by decide +kernel)
  | .str _ => kit_ty (show kitB "str" "bool" = some false by decide +kernel)
  | .list _ => kit_ty (show kitB "list" "bool" = some false by decide +kernel)
  | .tuple _ => kit_ty (show kitB "tuple" "bool" = some false by decide +kernel)
  | .dict _ => kit_ty (show kitB "dict" "bool" = some false by decide +kernel)
theorem kit_I {K : PySem.W.Frag} : ∀ (d : PyData), PySem.W.kitOne K (.type (tyN d)) (.type "int") = some (isI d || isB d)
  | .none => kit_ty (show kitB "NoneType" "int" = some false by decide +kernel)
  | .bool _ => kit_ty (show kitB "bool" "int" = some true by decide +kernel)
  | .int _ => kit_ty (show kitB "int" "int" = some true by decide +kernel)
  | .str _ => kit_ty (show kitB "str" "int" = some false by decide +kernel)
  | .list _ => kit_ty (show kitB "list" "int" = some false by decide +kernel)
  | .tuple _ => kit_ty (show kitB "tuple" "int" = some false by decide +kernel)
  | .dict _ => kit_ty (show kitB "dict" "int" = some false by decide +kernel)
theorem kit_S {K : PySem.W.Frag} : ∀ (d : PyData), PySem.W.kitOne K (.type (tyN d)) (.type "str") = some (isS d)
  | .none => kit_ty (show kitB "NoneType" "str" = some false by decide +kernel)
  | .bool _ => kit_ty (show kitB "bool" "str" = some false by decide +kernel)
  | .int _ => kit_ty (show kitB "int" "str" = some false by decide +kernel)
  | .str _ => kit_ty (show kitB "str" "str" = some true by decide +kernel)
  | .list _ => kit_ty (show kitB "list" "str" = some false by decide +kernel)
  | .tuple _ => kit_ty (show kitB "tuple" "str" = some false by decide +kernel)
  | .dict _ => kit_ty (show kitB "dict" "str" = some false by decide +kernel)
theorem kit_L {K : PySem.W.Frag} : ∀ (d : PyData), PySem.W.kitOne K (.type (tyN d)) (.type "list") = some (isL d)
  | .none => kit_ty (show kitB "NoneType" "list" = some false by decide +kernel)
  | .bool _ => kit_ty (show kitB "bool" "list" = some false by decide +kernel)
  | .int _ => kit_ty (show kitB "int" "list" = some false by decide +kernel)
  | .str _ => kit_ty (show kitB "str" "list" = some false by decide +kernel)
  | .list _ => kit_ty (show kitB "list" "list" = some true by decide +kernel)
  | .tuple _ => kit_ty (show kitB "tuple" "list" = some false by decide +kernel)
  | .dict _ => kit_ty (show kitB "dict" "list" = some false by decide +kernel)
theorem kit_T {K : PySem.W.Frag} : ∀ (d : PyData), PySem.W.kitOne K (.type (tyN d)) (.type "tuple") = some (isT d)
  | .none => kit_ty (show kitB "NoneType" "tuple" = some false by decide +kernel)
  | .bool _ => kit_ty (show kitB "bool" "tuple" = some false by decide +kernel)
  | .int _ => kit_ty (show kitB "int" "tuple" = some false by decide +kernel)
  | .str _ => kit_ty (show kitB "str" "tuple" = some false by decide +kernel)
  | .list _ => kit_ty (show kitB "list" "tuple" = some false by decide +kernel)
  | .tuple _ => kit_ty (show kitB "tuple" "tuple" = some true by decide +kernel)
  | .dict _ => kit_ty (show kitB "dict" "tuple" = some false by decide +kernel)
theorem kit_LT {K : PySem.W.Frag} (d : PyData) : PySem.W.kitAny K (.type (tyN d)) [.type "list", .type "tuple"] = some (isL d || isT d) := by
  refine kitAny_cons (kit_L d) (fun h => ?_) (fun h => by rw [h]; rfl)
  rw [h]
  refine kitAny_cons (kit_T d) (fun h => by rw [h]; rfl) (fun h => by rw [h]; rfl)
/-- isinstance of a datum -/
def rIsD (T : String) (g : PyData → Bool) : List V → Hp → VK → Prop := fun xs H Q => ∃ x d, xs = [x, .ty T] ∧ Dh H d x ∧ Q (.bl (g d)) H
theorem isOf {X : Cx} {T : String} {g : PyData → Bool} (h : ∀ d, PySem.W.kitOne X.K (.type (tyN d)) (.type T) = some (g d)) : CallR X (.builtin "isinstance") (rIsD T g) := by
  intro pins s σ H xs us Q I r z
  obtain ⟨x, d, rfl, hx, q⟩ := z
  exact call_isi pins s σ H _ us Q I r ⟨_, _, _, _, _, rfl, .ty T, hx.ty, h d, q⟩
theorem is_bool {X : Cx} : CallR X (.builtin "isinstance") (rIsD "bool" isB) := isOf kit_B
theorem is_int {X : Cx} : CallR X (.builtin "isinstance") (rIsD "int" fun d => isI d || isB d) := isOf kit_I
theorem is_str {X : Cx} : CallR X (.builtin "isinstance") (rIsD "str" isS) := isOf kit_S
theorem is_list {X : Cx} : CallR X (.builtin "isinstance") (rIsD "list" isL) := isOf kit_L
theorem is_tuple {X : Cx} : CallR X (.builtin "isinstance") (rIsD "tuple" isT) := isOf kit_T
/-- isinstance(x, (list, tuple)) of a datum -/
def rIsLT : List V → Hp → VK → Prop := fun xs H Q => ∃ x d p, xs = [x, .ref p] ∧ H p = some (.tup [.ty "list", .ty "tuple"]) ∧ Dh H d x ∧ Q (.bl (isL d || isT d)) H
theorem is_lt {X : Cx} : CallR X (.builtin "isinstance") rIsLT := by
  intro pins s σ H xs us Q I r z
  obtain ⟨x, d, p, rfl, hp, hx, q⟩ := z
  exact call_isiT pins s σ H _ us Q I r ⟨_, _, _, _, _, _, rfl, hp, .cons (.ty "list") (.cons (.ty "tuple") .nil), hx.ty, kit_LT d, q⟩
theorem ifBT {b : Bool} {A B : Prop} (h : b = true) (a : A) : if b = true then A else B := by
  rw [if_pos h]
  exact a
theorem ifBF {b : Bool} {A B : Prop} (h : b = false) (q : B) : if b = true then A else B := by
  rw [h, if_neg Bool.false_ne_true]
  exact q
theorem inQ {X : Cx} (K : PySem.W.Frag) (h : X.K = K) : OpR X (compareOp .In) (rIn K false) := by
  subst h
  exact op_in_seq
theorem notInQ {X : Cx} (K : PySem.W.Frag) (h : X.K = K) : OpR X (compareOp .NotIn) (rIn K true) := by
  subst h
  exact op_notIn_seq
theorem eqQ {X : Cx} (K : PySem.W.Frag) (h : X.K = K) (hu : X.A.units + 64 < cLine) : OpR X (compareOp .Eq) (rEqD K) := by
  subst h
  exact op_eqD hu
theorem neQ {X : Cx} (K : PySem.W.Frag) (h : X.K = K) (hu : X.A.units + 64 < cLine) : OpR X (compareOp .NotEq) (rNeD K) := by
  subst h
  exact op_neD hu
def rLst (K : PySem.W.Frag) : List V → Hp → VK → Prop := fun xs H Q => ∃ p ys, xs = [.ref p] ∧ (SqL K H p ys ∨ SqT K H p ys) ∧ ∀ l, H l = none → Q (.ref l) (upd H l (.lst ys))
theorem listQ {X : Cx} (K : PySem.W.Frag) (h : X.K = K) : CallR X (.type "list") (rLst K) := by
  subst h
  exact call_list_of

/-- what follows a wrapped statement, said once -/
theorem jnS {a b : TS} {D : Ends} {σ : L2.St} {H : Hp} (M : L2.St → Hp → Prop) (h2 : ∀ σ H, M σ H → b D σ H) (h1 : ∀ N : L2.St → Hp → Prop, (∀ σ H, M σ H → N σ H) → a { D with nx := N } σ H) : tSeq (tMk a) b D σ H := by
  rw [tMk_eq]
  exact h1 (b D) h2

section

-- a condition of an operator
local macro_rules | `(tactic| walk_at "cond") => `(tactic| first
  | (show (0 : Int) < _; omega)
  | (show CDiv _ _; constructor <;> (first | decide | omega))
  | (show CMul _ _; first | (refine cmul_l ?_; constructor <;> (first | decide | omega)) | (refine cmul_r ?_; constructor <;> (first | decide | omega)))
  | (show CPow _ _; exact (by refine ⟨by decide, by decide, by decide⟩))
  | (show CDivW _ _; exact ⟨by decide, by decide +kernel⟩))
local macro_rules | `(tactic| walk_at "sq") => `(tactic| first | assumption | exact Dh.mono (same_upd (by assumption)) _ _ (by assumption) | exact .inl (.inl (.inl (by assumption))) | exact .inr (.inl (.inl (by assumption))) | exact SqL.of (by assumption) | exact .inl (by assumption) | exact .inl (SqL.of (by assumption)) | exact SqT.of (by assumption) | exact .inr (SqT.of (by assumption)))
local macro_rules | `(tactic| walk_at "st") => `(tactic| first
  | refine ⟨_, rfl, ?_⟩
  | refine ⟨_, _, rfl, rfl, ?_⟩
  | refine .inl ⟨_, rfl, ?_⟩
  | refine ⟨rfl, ?_⟩
  | refine ⟨_, _, rfl, by walk_at "sq", ?_⟩
  | refine ⟨.inl ⟨rfl, _, SqL.of (by assumption)⟩, ?_⟩
  | refine ⟨by walk_at "cond", ?_⟩
  | (refine' ifBT ?hh ?_; (case hh => first | rfl | assumption))
  | (refine' ifBF ?hh ?_; (case hh => first | rfl | assumption)))
local macro_rules | `(tactic| walk_at "go") => `(tactic| repeat walk_at "st")
local macro_rules | `(tactic| walk_at "yes") => `(tactic| (refine' ifT ?hh ?_; (case hh => first | rfl | decide +kernel)))
local macro_rules | `(tactic| walk_at "no") => `(tactic| (refine' ifF ?hh ?_; (case hh => first | decide +kernel | (intro z; cases z; done))))

/-! ### _law_number -/
/-- n times // 1000 -/
def itd : Nat → Int → Int
  | 0, r => r
  | n + 1, r => itd n r / 1000
theorem itd_zero : ∀ n, itd n 0 = 0
  | 0 => rfl
  | n + 1 => by
    show itd n 0 / 1000 = 0
    rw [itd_zero n]
    rfl
theorem itd_add (r : Int) (h : itd n r = 0) : ∀ m, itd (n + m) r = 0
  | 0 => h
  | m + 1 => by
    show itd (n + m) r / 1000 = 0
    rw [itd_add r h m]
    rfl
theorem itd_nn {r : Int} (h : 0 ≤ r) : ∀ n, 0 ≤ itd n r
  | 0 => h
  | n + 1 => Int.ediv_nonneg (itd_nn h n) (by decide)
def nCell (ns : List Int) (i : Int) : Int := if ns.length = 0 then 0 else (ns.getD (i % (ns.length : Int)).toNat 0).natAbs
def nTurn (ns : List Int) (i : Int) : Int := if ns.length = 0 then i else i / (ns.length : Int)
def nPick (ns : List Int) (i k : Int) : Int := k + 16 * nTurn ns i
def nMix (c p : Int) : Int :=
  let a := (c + 7919 * p + 13) % 2147483647
  let b := (a * (a + 48271)) % 2147483629
  (b * (b + 69621) + 31 * p) % 2147483647
def num (ns : List Int) (i k size : Int) : Int :=
  let c := nCell ns i
  let p := nPick ns i k
  if c ≥ 10 ^ 18 then
    if itd p.toNat (c / 10 ^ 18) > 0 then itd p.toNat (c / 10 ^ 18) % 1000 % size else nMix c p / 9 % size
  else nMix c p / 9 % size
theorem num_nn {ns : List Int} {i k size : Int} (h : 0 < size) : 0 ≤ num ns i k size := by
  unfold num
  dsimp only
  split
  · split
    · exact Int.emod_nonneg _ (by omega)
    · exact Int.emod_nonneg _ (by omega)
  · exact Int.emod_nonneg _ (by omega)
theorem num_lt {ns : List Int} {i k size : Int} (h : 0 < size) : num ns i k size < size := by
  unfold num
  dsimp only
  split
  · split
    · exact Int.emod_lt_of_pos _ h
    · exact Int.emod_lt_of_pos _ h
  · exact Int.emod_lt_of_pos _ h
def spNum (K : PySem.W.Frag) : Sp := fun vs H Q _ => ∃ (a : Addr) (ns : List Int) (i k size : Int), vs = [.ref a, .int i, .int k, .int size] ∧ SqL K H a (ns.map V.int) ∧ ns.length ≤ 63 ∧
  0 ≤ i ∧ i ≤ 1000000000 ∧ 0 ≤ k ∧ k ≤ 1000000000 ∧ 0 < size ∧ Q (.int (num ns i k size)) H

abbrev s_number : Stmt := topS 4
theorem sc_number : FnScope ["_law_script", "_law_at", "_law_k", "_law_size", "_law_cell", "_law_turn", "_law_pick", "_law_rest", "_law_step", "_law_mixed"] ["_law_script", "_law_at", "_law_k", "_law_size"] (C8.fnScope s_number) := C8.fnScope_by (by decide +kernel)
section
variable {P : Program} {w : World} {K : PySem.W.Frag} {mg : Str → Option Value} {base : Heap}
theorem ok_number {f : Addr} {fd : FuncData} (D : Def K mg "_law_number" s_number f fd) (b : Binds K fd ["_law_script", "_law_at", "_law_k", "_law_size"] []) (T : Txt mg) : Cal P w K mg base 1 "_law_number" (spNum K) [] := by
  refine cal0 D b .nil sc_number (fun vs H Q E h => ?_) (fun cdv A outer s H vs Q E hr h => ?_)
  · obtain ⟨a, ns, i, k, size, rfl, _⟩ := h
    rfl
  obtain ⟨a, ns, i, k, size, rfl, hS, hl, i0, i1, k0, k1, hz, q⟩ := h
  refine ⟨_, (pss_cons (ps_set (i := 4) sc_number.nd rfl (.inl rfl) pe_int)
      (pss_cons (ps_set (i := 5) sc_number.nd rfl (.inl rfl) (pv 1))
      (pss_cons (ps_mk (ps_if (pt_cmpR op_gt (pe_callB (lenQ K rfl) (by rfl) T.len PySem.boot_len (pa_cons (pv 0) pa_nil)) pe_int (nomark _))
      (pss_cons (ps_set (i := 4) sc_number.nd rfl (.inl rfl) (pe_callB call_abs (by rfl) T.abs (by decide +kernel) (pa_cons (pe_ix (ixL K rfl) (pv 0) (pe_op op_mod (pe_callTy call_int1 (by rfl) T.int (by decide +kernel) (pa_cons (pv 1) pa_nil)) (pe_callB (lenQ K rfl) (by rfl) T.len PySem.boot_len (pa_cons (pv 0) pa_nil))) (fun _ _ => rfl)) pa_nil)))
      (pss_one (ps_set (i := 5) sc_number.nd rfl (.inl rfl) (pe_op op_fdiv (pv 1) (pe_callB (lenQ K rfl) (by rfl) T.len PySem.boot_len (pa_cons (pv 0) pa_nil))))))
      pss_nil))
      (pss_cons (ps_set (i := 6) sc_number.nd rfl (.inl rfl) (pe_op op_add (pv 2) (pe_op op_mul pe_int (pv 5))))
      (pss_cons (ps_mk (ps_if (pt_cmpR op_ge (pv 4) (pe_op op_pow pe_int pe_int) (nomark _))
      (pss_cons (ps_set (i := 7) sc_number.nd rfl (.inl rfl) (pe_op op_fdivW (pv 4) (pe_op op_pow pe_int pe_int)))
      (pss_cons (ps_mk (ps_for PassesOwn.never rfl (pi_range1 (by rfl) T.range (pa_cons (pv 6) pa_nil)) (pg_name (i := 8) sc_number.nd rfl (.inl rfl))
      (pss_cons (ps_mk (ps_if (pt_cmpR op_eq (pv 7) pe_int (nomark _))
      (pss_one ps_break)
      pss_nil))
      (pss_one (ps_set (i := 7) sc_number.nd rfl (.inl rfl) (pe_op op_fdiv (pv 7) pe_int))))))
      (pss_one (ps_mk (ps_if (pt_cmpR op_gt (pv 7) pe_int (nomark _))
      (pss_one (ps_ret (pe_op op_mod (pe_callTy call_int1 (by rfl) T.int (by decide +kernel) (pa_cons (pe_op op_mod (pe_callTy call_int1 (by rfl) T.int (by decide +kernel) (pa_cons (pv 7) pa_nil)) pe_int) pa_nil)) (pv 3))))
      pss_nil)))))
      pss_nil))
      (pss_cons (ps_set (i := 9) sc_number.nd rfl (.inl rfl) (pe_op op_mod (pe_callTy call_int1 (by rfl) T.int (by decide +kernel) (pa_cons (pe_op op_add (pe_op op_add (pv 4) (pe_op op_mul pe_int (pv 6))) pe_int) pa_nil)) pe_int))
      (pss_cons (ps_set (i := 9) sc_number.nd rfl (.inl rfl) (pe_op op_mod (pe_callTy call_int1 (by rfl) T.int (by decide +kernel) (pa_cons (pe_op op_mul (pv 9) (pe_op op_add (pv 9) pe_int)) pa_nil)) pe_int))
      (pss_cons (ps_set (i := 9) sc_number.nd rfl (.inl rfl) (pe_op op_mod (pe_callTy call_int1 (by rfl) T.int (by decide +kernel) (pa_cons (pe_op op_add (pe_op op_mul (pv 9) (pe_op op_add (pv 9) pe_int)) (pe_op op_mul pe_int (pv 6))) pa_nil)) pe_int))
      (pss_one (ps_ret (pe_op op_mod (pe_callTy call_int1 (by rfl) T.int (by decide +kernel) (pa_cons (pe_op op_fdiv (pv 9) pe_int) pa_nil)) (pv 3)))))))))))), ?_⟩
  have hml : (ns.map V.int).length = ns.length := List.length_map _
  have t0 : 0 ≤ nTurn ns i ∧ nTurn ns i ≤ 1000000000 := by
    unfold nTurn
    split
    · exact ⟨i0, i1⟩
    · exact ⟨Int.ediv_nonneg i0 (by omega), Int.le_trans (Int.ediv_le_self _ i0) i1⟩
  have p0 : 0 ≤ nPick ns i k ∧ nPick ns i k ≤ 17000000000 := by
    unfold nPick
    omega
  walk_at "go"
  refine jn (M := fun σ H' => ∃ c t : Int, c = nCell ns i ∧ t = nTurn ns i ∧ H' = H ∧ σ = [sR a, sI i, sI k, sI size, sI c, sI t, none, none, none, none]) ?_ (fun N kk => ?_)
  · rintro σ H' ⟨c, t, ec, et, rfl, rfl⟩
    walk_at "go"
    -- behind the pick
    have ep : k + 16 * t = nPick ns i k := by
      rw [et]
      rfl
    have c0 : 0 ≤ c := by
      rw [ec]
      unfold nCell
      split <;> omega
    have en : c < 10 ^ 18 ∨ ¬ itd (nPick ns i k).toNat (c / 10 ^ 18) > 0 → num ns i k size = nMix c (nPick ns i k) / 9 % size := fun h => by
      unfold num
      dsimp only
      rw [← ec]
      rcases h with h | h
      · rw [if_neg (by omega)]
      · split
        · rfl
        · rfl
    refine jn (M := fun σ H2 => H2 = H' ∧ (c < 10 ^ 18 ∨ ¬ itd (nPick ns i k).toNat (c / 10 ^ 18) > 0) ∧ ∃ y8 y9, σ = [sR a, sI i, sI k, sI size, sI c, sI t, sI (nPick ns i k), y8, y9, none]) ?_ (fun N kk => ?_)
    · rintro σ H2 ⟨rfl, hc, y8, y9, rfl⟩
      walk_at "go"
      have e := en hc
      unfold nMix at e
      dsimp only at e
      rw [e] at q
      exact q
    · walk_at "go"
      refine ifD (fun g => ?_) (fun g => ?_)
      · have g' : c ≥ 10 ^ 18 := g
        walk_at "go"
        have r0 : 0 ≤ c / 10 ^ 18 := Int.ediv_nonneg c0 (by decide)
        refine jn (M := fun σ H2 => H2 = H' ∧ ∃ y9, σ = [sR a, sI i, sI k, sI size, sI c, sI t, sI (nPick ns i k), sI (itd (nPick ns i k).toNat (c / 10 ^ 18)), y9, none]) ?_ (fun N2 k2 => ?_)
        · rintro σ H2 ⟨rfl, y9, rfl⟩
          refine un ?_
          walk_at "go"
          refine ifD (fun g2 => ?_) (fun g2 => ?_)
          · walk_at "go"
            have e : num ns i k size = itd (nPick ns i k).toNat (c / 10 ^ 18) % 1000 % size := by
              unfold num
              dsimp only
              rw [← ec, if_pos g', if_pos g2]
            rw [e] at q
            exact q
          · walk_at "go"
            exact kk _ _ ⟨rfl, .inr g2, _, _, rfl⟩
        · walk_at "go"
          refine ⟨(show -(2 ^ 62) ≤ k + 16 * t by omega), (show k + 16 * t < 2 ^ 62 by omega), for_range (lo := 0) (n := (k + 16 * t).toNat) (fun j σ H2 => Ob (H2 = H' ∧ ∃ y9, σ = [sR a, sI i, sI k, sI size, sI c, sI t, sI (nPick ns i k), sI (itd j (c / 10 ^ 18)), y9, none])) (ob ⟨rfl, none, ?_⟩) ?_ ?_⟩
          · rw [← ep]
            rfl
          · rintro j σ H2 hj h
            obtain ⟨rfl, y9, rfl⟩ := unob h
            refine un ?_
            walk_at "go"
            refine ifEq (fun z => ?_) (fun z => ?_)
            · walk_at "go"
              refine k2 _ _ ⟨rfl, sI (0 + (j : Int)), ?_⟩
              have z2 : itd (nPick ns i k).toNat (c / 10 ^ 18) = 0 := by
                have z3 := itd_add _ z ((nPick ns i k).toNat - j)
                rw [show j + ((nPick ns i k).toNat - j) = (nPick ns i k).toNat by omega] at z3
                exact z3
              rw [z2, ← z]
              rfl
            · walk_at "go"
              exact ob ⟨rfl, _, rfl⟩
          · rintro σ H2 h
            obtain ⟨rfl, y9, rfl⟩ := unob h
            refine k2 _ _ ⟨rfl, y9, ?_⟩
            rw [ep]
      · walk_at "go"
        have g' : ¬ c ≥ 10 ^ 18 := g
        refine kk _ _ ⟨rfl, .inl (by omega), none, none, ?_⟩
        rw [← ep]
        rfl
  · walk_at "go"
    refine ifD (fun c => ?_) (fun c => ?_)
    · walk_at "go"
      rw [hml] at c
      refine ⟨_, _, _, _, rfl, rfl, hS, atI_getD (Int.emod_nonneg _ (by omega)) (by rw [hml]; exact Int.emod_lt_of_pos _ (by omega)), ?_⟩
      walk_at "go"
      refine kk _ _ ⟨_, _, ?_, ?_, rfl, rfl⟩
      · unfold nCell
        rw [if_neg (show ¬ ns.length = 0 by omega)]
        simp only [hml]
        split
        · omega
        · omega
      · unfold nTurn
        rw [if_neg (by omega), hml]
    · walk_at "go"
      rw [hml] at c
      refine kk _ _ ⟨_, _, ?_, ?_, rfl, rfl⟩
      · unfold nCell
        rw [if_pos (by omega)]
      · unfold nTurn
        rw [if_pos (by omega)]
end

/-! ### _law_is_whole, _law_same -/
abbrev s_is_whole : Stmt := topS 5
theorem sc_is_whole : FnScope ["_law_told"] ["_law_told"] (C8.fnScope s_is_whole) := C8.fnScope_by (by decide +kernel)
abbrev s_same : Stmt := topS 6
theorem sc_same : FnScope ["_law_told", "_law_due", "_law_k"] ["_law_told", "_law_due"] (C8.fnScope s_same) := C8.fnScope_by (by decide +kernel)
def spWhole : Sp := fun vs H Q _ => ∃ (x : V) (d : PyData), vs = [x] ∧ Dh H d x ∧ Q (.bl (isI d)) H
def spSame (n : Nat) : Sp := fun vs H Q _ => ∃ (x y : V) (d e : PyData), vs = [x, y] ∧ Dh H d x ∧ Dh H e y ∧ Dle n e ∧ ∀ (b : Bool) (H' : Hp), (b = true ↔ d = e) → Same H H' → Q (.bl b) H'
section
variable {P : Program} {w : World} {K : PySem.W.Frag} {mg : Str → Option Value} {base : Heap}
theorem ok_whole {f : Addr} {fd : FuncData} (D : Def K mg "_law_is_whole" s_is_whole f fd) (b : Binds K fd ["_law_told"] []) (T : Txt mg) : Cal P w K mg base 1 "_law_is_whole" spWhole [] := by
  refine cal0 D b .nil sc_is_whole (fun vs H Q E h => ?_) (fun cdv A outer s H vs Q E hr h => ?_)
  · obtain ⟨x, d, rfl, _⟩ := h
    rfl
  obtain ⟨x, d, rfl, hx, q⟩ := h
  refine ⟨_, (pss_one (ps_ret (pe_and (pe_callB is_int (by rfl) T.isinstance (by decide +kernel) (pa_cons (pv 0) (pa_cons (pe_bltn (v := .ty "int") (by rfl) T.int (by decide +kernel) rfl) pa_nil))) (pe_one (pe_not (pe_callB is_bool (by rfl) T.isinstance (by decide +kernel) (pa_cons (pv 0) (pa_cons (pe_bltn (v := .ty "bool") (by rfl) T.bool (by decide +kernel) rfl) pa_nil)))))))), ?_⟩
  cases d <;> (walk_at "go"; exact q)
theorem ok_same_step {f : Addr} {fd : FuncData} (D : Def K mg "_law_same" s_same f fd) (b : Binds K fd ["_law_told", "_law_due"] []) (T : Txt mg) (c_is_whole : Cal P w K mg base 1 "_law_is_whole" spWhole []) {n : Nat}
    (c_same : Cal P w K mg base (n + 1) "_law_same" (spSame n) []) : Cal P w K mg base (n + 2) "_law_same" (spSame (n + 1)) [] := by
  refine cal0 D b .nil sc_same (fun vs H Q E h => ?_) (fun cdv A outer s H vs Q E hr h => ?_)
  · obtain ⟨x, y, d, e, rfl, _⟩ := h
    rfl
  obtain ⟨x, y, d, e, rfl, hx, hy, he, q⟩ := h
  refine ⟨_, (pss_cons (ps_mk (ps_if (pt_val (pe_callB is_lt (by rfl) T.isinstance (by decide +kernel) (pa_cons (pv 1) (pa_cons (pe_tup (pa_cons (pe_bltn (v := .ty "list") (by rfl) T.list (by decide +kernel) rfl) (pa_cons (pe_bltn (v := .ty "tuple") (by rfl) T.tuple (by decide +kernel) rfl) pa_nil))) pa_nil))))
      (pss_cons (ps_mk (ps_if (PW.pt (pw_or (pt_not (pt_val (pe_callB is_lt (by rfl) T.isinstance (by decide +kernel) (pa_cons (pv 0) (pa_cons (pe_tup (pa_cons (pe_bltn (v := .ty "list") (by rfl) T.list (by decide +kernel) rfl) (pa_cons (pe_bltn (v := .ty "tuple") (by rfl) T.tuple (by decide +kernel) rfl) pa_nil))) pa_nil))))) (pw_or1 (pt_cmpR op_ne (pe_callB is_list (by rfl) T.isinstance (by decide +kernel) (pa_cons (pv 0) (pa_cons (pe_bltn (v := .ty "list") (by rfl) T.list (by decide +kernel) rfl) pa_nil))) (pe_callB is_list (by rfl) T.isinstance (by decide +kernel) (pa_cons (pv 1) (pa_cons (pe_bltn (v := .ty "list") (by rfl) T.list (by decide +kernel) rfl) pa_nil))) (nomark _)))))
      (pss_one (ps_ret pe_bl))
      pss_nil))
      (pss_cons (ps_mk (ps_if (pt_cmpR op_ne (pe_callB (lenQ K rfl) (by rfl) T.len PySem.boot_len (pa_cons (pv 0) pa_nil)) (pe_callB (lenQ K rfl) (by rfl) T.len PySem.boot_len (pa_cons (pv 1) pa_nil)) (nomark _))
      (pss_one (ps_ret pe_bl))
      pss_nil))
      (pss_one (ps_ret (pe_cmpR op_eq (pe_callB (lenQ K rfl) (by rfl) T.len PySem.boot_len (pa_cons (pe_lc (own := [("_law_k", 2)]) (g := gName 2) rfl sc_same.nd (pi_range1 (by rfl) T.range (pa_cons (pe_callB (lenQ K rfl) (by rfl) T.len PySem.boot_len (pa_cons (pv 1) pa_nil)) pa_nil)) (blkOk_by (own := [("_law_k", 2)]) (N := ["_law_told", "_law_due", "_law_k"]) (sc := C8.fnScope s_same) (by decide +kernel)) (fun _ _ _ _ _ => (pg_name (i := 2) sc_same.nd rfl (.inl rfl))) (fun _ _ _ _ _ => (pts_one (pt_not (pt_val (C8.pe_c c_same hr (by omega) (by rfl) (pa_cons (pe_ix (ixA K rfl) (pv 0) (pv 2) (fun _ _ => rfl)) (pa_cons (pe_ix (ixA K rfl) (pv 1) (pv 2) (fun _ _ => rfl)) pa_nil))))))) (fun _ _ _ _ _ => (pv 2))) pa_nil)) pe_int (nomark _))))))
      pss_nil))
      (pss_cons (ps_mk (ps_if (pt_val (pe_callB is_bool (by rfl) T.isinstance (by decide +kernel) (pa_cons (pv 1) (pa_cons (pe_bltn (v := .ty "bool") (by rfl) T.bool (by decide +kernel) rfl) pa_nil))))
      (pss_one (ps_ret (pe_and (pe_callB is_bool (by rfl) T.isinstance (by decide +kernel) (pa_cons (pv 0) (pa_cons (pe_bltn (v := .ty "bool") (by rfl) T.bool (by decide +kernel) rfl) pa_nil))) (pe_one (pe_cmpR op_eq (pv 0) (pv 1) (nomark _))))))
      pss_nil))
      (pss_cons (ps_mk (ps_if (pt_val (pe_callB is_int (by rfl) T.isinstance (by decide +kernel) (pa_cons (pv 1) (pa_cons (pe_bltn (v := .ty "int") (by rfl) T.int (by decide +kernel) rfl) pa_nil))))
      (pss_one (ps_ret (pe_and (C8.pe_c c_is_whole hr (by omega) (by rfl) (pa_cons (pv 0) pa_nil)) (pe_one (pe_cmpR op_eq (pv 0) (pv 1) (nomark _))))))
      pss_nil))
      (pss_cons (ps_mk (ps_if (pt_val (pe_callB is_str (by rfl) T.isinstance (by decide +kernel) (pa_cons (pv 1) (pa_cons (pe_bltn (v := .ty "str") (by rfl) T.str (by decide +kernel) rfl) pa_nil))))
      (pss_one (ps_ret (pe_and (pe_callB is_str (by rfl) T.isinstance (by decide +kernel) (pa_cons (pv 0) (pa_cons (pe_bltn (v := .ty "str") (by rfl) T.str (by decide +kernel) rfl) pa_nil))) (pe_one (pe_cmpR op_eq (pv 0) (pv 1) (nomark _))))))
      pss_nil))
      (pss_one (ps_ret (pe_and (pe_cmpR op_isN (pv 0) pe_non (nomark _)) (pe_one (pe_cmpR op_isN (pv 1) pe_non (nomark _)))))))))), ?_⟩
  refine jn (M := fun σ H' => Same H H' ∧ σ = [some x, some y, none] ∧ (isL e || isT e) = false) ?_ (fun N kk => ?_)
  · rintro σ H1 ⟨s1, rfl, hf⟩
    have hx1 := Dh.mono s1 _ _ hx
    have hy1 := Dh.mono s1 _ _ hy
    clear hx hy he
    cases e with
    | list es => cases hf
    | tuple es => cases hf
    | dict kvs => exact False.elim hy1
    | none =>
      cases (show y = V.non from hy1)
      cases d
      case dict => exact False.elim hx1
      all_goals first | (obtain ⟨_, _, e1, _, _⟩ := id hx1; cases e1) | (cases (show x = _ from hx1))
      all_goals repeat (first | refine un ?_ | walk_at "st")
      all_goals exact q _ _ (by simp) s1
    | bool c =>
      cases (show y = V.bl c from hy1)
      cases d
      case dict => exact False.elim hx1
      all_goals first | (obtain ⟨_, _, e1, _, _⟩ := id hx1; cases e1) | (cases (show x = _ from hx1))
      all_goals repeat (first | refine un ?_ | walk_at "st")
      all_goals exact q _ _ (by simp) s1
    | int c =>
      cases (show y = V.int c from hy1)
      cases d
      case dict => exact False.elim hx1
      all_goals first | (obtain ⟨_, _, e1, _, _⟩ := id hx1; cases e1) | (cases (show x = _ from hx1))
      all_goals repeat (first | refine un ?_ | walk_at "st")
      all_goals first | exact q _ _ (by simp) s1 | skip
      all_goals refine ⟨_, _, rfl, hx1, ?_⟩
      all_goals repeat (first | refine un ?_ | walk_at "st")
      all_goals exact q _ _ (by simp) s1
    | str c =>
      cases (show y = V.str c from hy1)
      cases d
      case dict => exact False.elim hx1
      all_goals first | (obtain ⟨_, _, e1, _, _⟩ := id hx1; cases e1) | (cases (show x = _ from hx1))
      all_goals repeat (first | refine un ?_ | walk_at "st")
      all_goals exact q _ _ (by simp) s1
  · walk_at "go"
    refine ⟨sz, fun p hp => ?_⟩
    refine ⟨_, _, _, rfl, upd_same, Dh.mono (same_upd hp) _ _ hy, ?_⟩
    walk_at "go"
    have s1 : Same H (upd H p (.tup [.ty "list", .ty "tuple"])) := same_upd hp
    have hx1 := Dh.mono s1 _ _ hx
    have hy1 := Dh.mono s1 _ _ hy
    cases hf : (isL e || isT e) with
    | false =>
      refine ifBF rfl ?_
      exact kk _ _ ⟨s1, rfl, hf⟩
    | true =>
      refine ifBT rfl ?_
      generalize upd H p (HO.tup [V.ty "list", V.ty "tuple"]) = H1 at *
      clear hx hy kk hp
      walk_at "go"
      refine jn (M := fun σ H2 => Same H1 H2 ∧ ∃ a c xs ys ds es, σ = [sR a, sR c, none] ∧ (SqL K H2 a xs ∨ SqT K H2 a xs) ∧ (SqL K H2 c ys ∨ SqT K H2 c ys) ∧ DhAll H2 ds xs ∧ DhAll H2 es ys ∧ es.length ≤ 100000 ∧ (∀ e' ∈ es, Dle n e') ∧ (d = e ↔ ds = es)) ?_ (fun N2 k2 => ?_)
      · rintro σ H2 ⟨s2, a, c, xs, ys, ds, es, rfl, hA, hC, hds, hes, hlen, hle, hiff⟩
        have lx := hds.len
        have ly := hes.len
        walk_at "go"
        refine jn (M := fun σ H3 => H3 = H2 ∧ σ = [sR a, sR c, none] ∧ ds.length = es.length) ?_ (fun N3 k3 => ?_)
        · rintro σ H3 ⟨rfl, rfl, el⟩
          walk_at "go"
          refine ⟨by omega, by omega, fun L hL => lc_range (lo := 0) (n := ((ys.length : Nat) : Int).toNat)
            (fun i H' => Ob (Same H3 H' ∧ ∃ acc, H' L = some (.lst acc) ∧ acc.length ≤ i ∧ (acc = [] ↔ ds.take i = es.take i))) (ob ⟨same_upd hL, [], upd_same, Nat.le_refl _, by simp⟩) ?_ ?_⟩
          · intro i H4 hi h4
            obtain ⟨s4, acc, g4, l4, e4⟩ := unob h4
            have hi2 : i < es.length := by omega
            have hi3 : i < ds.length := by omega
            obtain ⟨xv, ex, dx⟩ := hds.get (List.getElem?_eq_getElem hi3)
            obtain ⟨yv, ey, dy⟩ := hes.get (List.getElem?_eq_getElem hi2)
            have tk := take_succ_eq (List.getElem?_eq_getElem hi3) (List.getElem?_eq_getElem hi2)
            have ax : atI xs (0 + (i : Int)) = some xv := by
              rw [Int.zero_add]
              exact atI_nat ex
            have ay : atI ys (0 + (i : Int)) = some yv := by
              rw [Int.zero_add]
              exact atI_nat ey
            refine ⟨rfl, ?_⟩
            walk_at "go"
            refine ixAny (sqAny s4 hA) ax ?_
            walk_at "go"
            refine ixAny (sqAny s4 hC) ay ?_
            walk_at "go"
            refine ⟨_, _, _, _, rfl, Dh.mono s4 _ _ dx, Dh.mono s4 _ _ dy, hle _ (List.getElem_mem hi2), fun b5 H5 hb s5 => ?_⟩
            walk_at "go"
            refine ifN ?_
            cases b5 with
            | true =>
              refine ifBT rfl (ob ⟨s4.trans s5, acc, s5 _ _ g4, Nat.le_succ_of_le l4, ?_⟩)
              rw [e4, tk]
              exact ⟨fun z => ⟨z, hb.mp rfl⟩, fun z => z.1⟩
            | false =>
              refine ifBF rfl ?_
              walk_at "go"
              refine ⟨acc, s5 _ _ g4, sz5 (by omega), ob ⟨same_put (s4.trans s5) hL, _, upd_same, ?_, ?_⟩⟩
              · rw [List.length_append]
                exact Nat.add_le_add_right l4 1
              · constructor
                · intro z
                  exact absurd (congrArg List.length z) (by rw [List.length_append]; simp)
                · intro z
                  exact absurd (hb.mpr (tk.mp z).2) Bool.false_ne_true
          · intro H4 h4
            obtain ⟨s4, acc, g4, l4, e4⟩ := unob h4
            walk_at "go"
            refine q _ _ ?_ ((s1.trans s2).trans s4)
            rw [hiff]
            have et : ((ys.length : Nat) : Int).toNat = es.length := by omega
            rw [et, List.take_of_length_le (by omega), List.take_of_length_le (Nat.le_refl _)] at e4
            rw [← e4, decide_eq_true_iff]
            constructor
            · intro z
              have z2 := V.int.inj z
              exact List.eq_nil_of_length_eq_zero (by omega)
            · intro z
              rw [z]
              rfl
        · walk_at "go"
          refine ifNe (fun z => ?_) (fun z => ?_)
          · walk_at "go"
            refine q _ _ ?_ (s1.trans s2)
            rw [hiff]
            constructor
            · intro h
              cases h
            · intro h
              rw [h] at lx
              omega
          · walk_at "go"
            exact k3 _ _ ⟨rfl, rfl, by omega⟩
      · walk_at "go"
        refine ⟨sz, fun p2 hp2 => ?_⟩
        have s2 : Same H1 (upd H1 p2 (HO.tup [V.ty "list", V.ty "tuple"])) := same_upd hp2
        refine ⟨_, _, _, rfl, upd_same, Dh.mono s2 _ _ hx1, ?_⟩
        have hx2 := Dh.mono s2 _ _ hx1
        have hy2 := Dh.mono s2 _ _ hy1
        walk_at "go"
        generalize upd H1 p2 (HO.tup [V.ty "list", V.ty "tuple"]) = H2 at *
        clear hp2
        cases e with
        | none => cases hf
        | bool _ => cases hf
        | int _ => cases hf
        | str _ => cases hf
        | dict kvs => cases hf
        | list es =>
          obtain ⟨c, ys, rfl, gy, hes⟩ := id hy2
          cases d
          case dict => exact False.elim hx2
          case list ds =>
            obtain ⟨a, xs, rfl, gx, hds⟩ := id hx2
            walk_at "go"
            exact k2 _ _ ⟨s2, _, _, _, _, ds, es, rfl, .inl (.inl (.inl gx)), .inl (.inl (.inl gy)), hds, hes, he.1, he.2, by simp⟩
          all_goals walk_at "go"
          all_goals exact q _ _ (by simp) (s1.trans s2)
        | tuple es =>
          obtain ⟨c, ys, rfl, gy, hes⟩ := id hy2
          cases d
          case dict => exact False.elim hx2
          case tuple ds =>
            obtain ⟨a, xs, rfl, gx, hds⟩ := id hx2
            walk_at "go"
            exact k2 _ _ ⟨s2, _, _, _, _, ds, es, rfl, .inr (.inl (.inl gx)), .inr (.inl (.inl gy)), hds, hes, he.1, he.2, by simp⟩
          all_goals walk_at "go"
          all_goals exact q _ _ (by simp) (s1.trans s2)
theorem ok_same {f : Addr} {fd : FuncData} (D : Def K mg "_law_same" s_same f fd) (b : Binds K fd ["_law_told", "_law_due"] []) (T : Txt mg) (c_is_whole : Cal P w K mg base 1 "_law_is_whole" spWhole []) :
    ∀ n, Cal P w K mg base (n + 1) "_law_same" (spSame n) []
  | 0 => by
    have no : ∀ vs H Q E, ¬ spSame 0 vs H Q E := fun vs H Q E h => by
      obtain ⟨x, y, d, e, _, _, _, h1, _⟩ := h
      exact h1
    exact ⟨f, fd, _, _, ⟨fun vs H Q E h => absurd h (no vs H Q E), fun A outer s H args us vs Q E _ _ _ _ h => absurd h (no vs H Q E)⟩, D.mgf, D.kp, b, .nil⟩
  | n + 1 => ok_same_step D b T c_is_whole (ok_same D b T c_is_whole n)
end

end

/-! ### different items; stretches -/
def fm (ns : List Int) : List Int := ns.foldl PyProof.Rows.step_dedup []
theorem step_d (s : List Int) (x : Int) : PyProof.Rows.step_dedup s x = if x ∈ s then s else s ++ [x] := by
  unfold PyProof.Rows.step_dedup
  by_cases h : x ∈ s
  · rw [if_pos h, if_pos (List.any_eq_true.mpr ⟨x, h, by simp⟩)]
  · rw [if_neg h, if_neg]
    intro z
    obtain ⟨y, hy, e⟩ := List.any_eq_true.mp z
    exact h (by rw [← eq_of_beq e]; exact hy)
theorem fm_snoc (ns : List Int) (x : Int) : fm (ns ++ [x]) = if x ∈ fm ns then fm ns else fm ns ++ [x] := by
  unfold fm
  rw [List.foldl_append]
  exact step_d _ _
theorem snoc_ind {P : List Int → Prop} (h0 : P []) (h1 : ∀ ns x, P ns → P (ns ++ [x])) (ns : List Int) : P ns := by
  have h : ∀ (n : Nat) (l : List Int), l.length = n → P l := fun n => by
    induction n with
    | zero => intro l e; rw [List.eq_nil_of_length_eq_zero e]; exact h0
    | succ n ih =>
      intro l e
      have e2 : l = l.take n ++ [l[n]'(by omega)] := by
        have z := List.take_add_one (l := l) (i := n)
        rw [List.take_of_length_le (by omega), List.getElem?_eq_getElem (by omega)] at z
        exact z
      rw [e2]
      exact h1 _ _ (ih _ (by rw [List.length_take]; omega))
  exact h _ ns rfl
theorem mem_fm {x : Int} (ns : List Int) : x ∈ fm ns ↔ x ∈ ns := by
  refine snoc_ind (P := fun ns => x ∈ fm ns ↔ x ∈ ns) (by simp [fm]) (fun ns y ih => ?_) ns
  rw [fm_snoc, List.mem_append, List.mem_singleton]
  by_cases h : y ∈ fm ns
  · rw [if_pos h, ih]
    constructor
    · exact .inl
    · rintro (z | rfl)
      · exact z
      · exact ih.mp h
  · rw [if_neg h, List.mem_append, List.mem_singleton, ih]
theorem nodup_fm (ns : List Int) : (fm ns).Nodup := by
  refine snoc_ind (P := fun ns => (fm ns).Nodup) (by simp [fm]) (fun ns y ih => ?_) ns
  rw [fm_snoc]
  split
  · exact ih
  · rename_i h
    rw [List.nodup_append]
    refine ⟨ih, by simp, fun a ha b hb => ?_⟩
    obtain rfl := List.mem_singleton.mp hb
    exact fun e => h (by rw [← e]; exact ha)
theorem sub_len : ∀ {xs ys : List Int}, xs.Nodup → (∀ x ∈ xs, x ∈ ys) → xs.length ≤ ys.length
  | [], _, _, _ => Nat.zero_le _
  | x :: xs, ys, hn, h => by
    have hx := h x List.mem_cons_self
    have ih := sub_len (xs := xs) (ys := ys.erase x) (List.nodup_cons.mp hn).2 fun z hz => by
      have hzx : z ≠ x := fun e => (List.nodup_cons.mp hn).1 (by rw [← e]; exact hz)
      exact (List.mem_erase_of_ne hzx).mpr (h z (List.mem_cons_of_mem _ hz))
    rw [List.length_erase_of_mem hx] at ih
    have : 0 < ys.length := List.length_pos_of_mem hx
    rw [List.length_cons]
    omega
def dif (ns : List Int) : Nat := (fm ns).length
theorem dif_le {xs ys : List Int} (h : ∀ x ∈ xs, x ∈ ys) : dif xs ≤ dif ys := sub_len (nodup_fm xs) fun x hx => (mem_fm ys).mpr (h x ((mem_fm xs).mp hx))
theorem dif_snoc (ns : List Int) (x : Int) : dif (ns ++ [x]) = if x ∈ ns then dif ns else dif ns + 1 := by
  unfold dif
  rw [fm_snoc]
  by_cases h : x ∈ ns
  · rw [if_pos h, if_pos ((mem_fm ns).mpr h)]
  · rw [if_neg h, if_neg (fun z => h ((mem_fm ns).mp z)), List.length_append]
    rfl
theorem fm_len (ns : List Int) : (fm ns).length ≤ ns.length := sub_len (nodup_fm ns) fun x hx => (mem_fm ns).mp hx
theorem dif_rev (ns : List Int) : dif ns.reverse = dif ns := Nat.le_antisymm (dif_le fun _ h => List.mem_reverse.mp h) (dif_le fun _ h => List.mem_reverse.mpr h)
def seg (tr : List Int) (b t : Nat) : List Int := (tr.take t).drop b
theorem seg_snoc {tr : List Int} {b t : Nat} (h : b ≤ t) (ht : t < tr.length) : seg tr b (t + 1) = seg tr b t ++ [tr[t]] := by
  unfold seg
  rw [List.take_add_one, List.getElem?_eq_getElem ht, List.drop_append_of_le_length (by rw [List.length_take]; omega)]
  rfl
theorem seg_self {tr : List Int} {t : Nat} : seg tr t t = [] := by
  unfold seg
  rw [List.drop_eq_nil_iff, List.length_take]
  omega
theorem seg_len {tr : List Int} {b t : Nat} : (seg tr b t).length ≤ tr.length := by
  unfold seg
  rw [List.length_drop, List.length_take]
  omega
theorem seg_sub {tr : List Int} {b c t u : Nat} (h : b ≤ c) (h2 : t ≤ u) : ∀ x ∈ seg tr c t, x ∈ seg tr b u := fun x hx => by
  obtain ⟨i, hi⟩ := List.mem_iff_getElem?.mp hx
  refine List.mem_iff_getElem?.mpr ⟨i + (c - b), ?_⟩
  unfold seg at *
  rw [List.getElem?_drop, List.getElem?_take] at *
  split at hi
  · rename_i h3
    rw [if_pos (by omega), show b + (i + (c - b)) = c + i by omega]
    exact hi
  · cases hi
theorem seg_cons {tr : List Int} {b t : Nat} (h : b < t) (ht : t ≤ tr.length) : seg tr b t = tr[b] :: seg tr (b + 1) t := by
  unfold seg
  rw [List.drop_eq_getElem_cons (by rw [List.length_take]; omega), List.getElem_take]
theorem cut_seg {tr : List Int} {b t : Nat} (h : t ≤ tr.length) : cutV (tr.map V.int) (some (b : Nat)) (some (t : Nat)) = (seg tr b t).map V.int := by
  unfold cutV seg
  rw [HT.sIx_nat, HT.sIx_nat, List.length_map, ← List.map_drop, ← List.map_take, Nat.min_eq_left h]
  congr 1
  rw [List.drop_take]
  by_cases hb : b ≤ tr.length
  · rw [Nat.min_eq_left hb]
  · rw [show t - min b tr.length = 0 by omega, show t - b = 0 by omega]
    rfl
/-- the first positions of the stretches of the first n uses -/
def stN (tr : List Int) (m : Nat) : Nat → List Nat
  | 0 => []
  | n + 1 => if stN tr m n = [] ∨ m < dif (seg tr ((stN tr m n).getLastD 0) (n + 1)) then stN tr m n ++ [n] else stN tr m n
def gN (tr : List Int) (m n : Nat) : Nat := (stN tr m n).length
theorem gN_le (tr : List Int) (m : Nat) : ∀ n, gN tr m n ≤ n
  | 0 => Nat.le_refl _
  | n + 1 => by
    have ih := gN_le tr m n
    unfold gN at *
    rw [stN]
    split
    · rw [List.length_append]
      exact Nat.succ_le_succ ih
    · exact Nat.le_succ_of_le ih
theorem gN_mono (tr : List Int) (m : Nat) {a b : Nat} (h : a ≤ b) : gN tr m a ≤ gN tr m b := by
  induction b with
  | zero => rw [Nat.le_zero.mp h]; exact Nat.le_refl _
  | succ b ih =>
    by_cases e : a = b + 1
    · rw [e]; exact Nat.le_refl _
    · refine Nat.le_trans (ih (by omega)) ?_
      unfold gN
      rw [stN]
      split
      · rw [List.length_append]
        exact Nat.le_succ _
      · exact Nat.le_refl _
structure Last (tr : List Int) (m t s : Nat) : Prop where
  ne : stN tr m t ≠ []
  eq : (stN tr m t).getLastD 0 = s
  lt : s < t
  ok : dif (seg tr s t) ≤ m
  st : stN tr m t = stN tr m s ++ [s]
  wh : s ≠ 0 → m < dif (seg tr ((stN tr m s).getLastD 0) (s + 1))
theorem last_of {tr : List Int} {m : Nat} (hm : 1 ≤ m) : ∀ t, t < tr.length → Last tr m (t + 1) ((stN tr m (t + 1)).getLastD 0)
  | t, ht => by
    have one : dif (seg tr t (t + 1)) ≤ m := by
      rw [seg_snoc (Nat.le_refl _) ht, seg_self]
      exact hm
    by_cases c : stN tr m t = [] ∨ m < dif (seg tr ((stN tr m t).getLastD 0) (t + 1))
    · have e : stN tr m (t + 1) = stN tr m t ++ [t] := by rw [stN, if_pos c]
      have el : (stN tr m (t + 1)).getLastD 0 = t := by rw [e, List.getLastD_concat]
      rw [el]
      refine ⟨by rw [e]; simp, el, Nat.lt_succ_self _, one, e, fun h0 => ?_⟩
      obtain ⟨k, rfl⟩ : ∃ k, t = k + 1 := ⟨t - 1, by omega⟩
      have ih := last_of (tr := tr) hm k (by omega)
      exact c.resolve_left ih.ne
    · have e : stN tr m (t + 1) = stN tr m t := by rw [stN, if_neg c]
      obtain ⟨k, rfl⟩ : ∃ k, t = k + 1 := by
        cases t with
        | zero => exact absurd (Or.inl rfl) c
        | succ k => exact ⟨k, rfl⟩
      have ih := last_of (tr := tr) hm k (by omega)
      rw [e]
      exact ⟨by rw [e]; exact ih.ne, by rw [e], Nat.lt_succ_of_lt ih.lt, Nat.le_of_not_lt fun z => c (Or.inr z), by rw [e]; exact ih.st, ih.wh⟩
theorem last_g {tr : List Int} {m t s : Nat} (h : Last tr m t s) : gN tr m t = gN tr m s + 1 := by
  unfold gN
  rw [h.st, List.length_append]
  rfl
theorem few_low {tr : List Int} {m t b : Nat} (hm : 1 ≤ m) (ht : t ≤ tr.length) (hb : b < t) (hd : dif (seg tr b t) ≤ m) : gN tr m t ≤ gN tr m b + 1 := by
  obtain ⟨k, rfl⟩ : ∃ k, t = k + 1 := ⟨t - 1, by omega⟩
  have L := last_of (tr := tr) hm k (by omega)
  generalize (stN tr m (k + 1)).getLastD 0 = s at L
  rw [last_g L]
  refine Nat.succ_le_succ ?_
  by_cases hs : s ≤ b
  · exact gN_mono tr m hs
  have lt := L.lt
  obtain ⟨j, rfl⟩ : ∃ j, s = j + 1 := ⟨s - 1, by omega⟩
  have L2 := last_of (tr := tr) hm j (by omega)
  have w := L.wh (by omega)
  generalize (stN tr m (j + 1)).getLastD 0 = r at L2 w
  by_cases hr : b ≤ r
  · have := dif_le (seg_sub (tr := tr) hr (show j + 1 + 1 ≤ k + 1 by omega))
    omega
  · rw [last_g L2]
    obtain ⟨i, hi⟩ : ∃ i, r + 1 = i := ⟨_, rfl⟩
    have lt2 := L2.lt
    have : gN tr m (r + 1) = gN tr m r + 1 := by
      by_cases e : r = j
      · rw [e]
        have L3 := last_g L2
        rw [e] at L3
        exact L3
      · have L3 := last_of (tr := tr) hm r (by omega)
        have hk : stN tr m (j + 1) = stN tr m r ++ [r] := L2.st
        have e5 : (stN tr m r = [] ∨ m < dif (seg tr ((stN tr m r).getLastD 0) (r + 1))) := by
          by_cases r0 : r = 0
          · exact .inl (by rw [r0]; rfl)
          · exact .inr (L2.wh r0)
        unfold gN
        rw [stN, if_pos e5, List.length_append]
        rfl
    rw [← this]
    exact gN_mono tr m (by omega)

/-! ### len(set(a list of ints)) -/
structure TxtK (mg : Str → Option Value) : Prop extends Txt mg where
  set : mg "set" = none
  max : mg "max" = none
  min : mg "min" = none
  enumerate : mg "enumerate" = none
theorem met_fm (ns : List Int) : PyProof.Rows.firstMet (fun i => ns.getD i 0) ns.length = fm ns := by
  unfold PyProof.Rows.firstMet fm
  congr 1
  refine List.ext_getElem (by rw [List.length_map, List.length_range]) fun i h1 h2 => ?_
  rw [List.getElem_map, List.getElem_range, List.getD_eq_getElem?_getD, List.getElem?_eq_getElem h2]
  rfl
def tLenSetF (K : PySem.W.Frag) (ta : TE) : TE := fun σ H Q => ta σ H fun x H1 => ∃ (l : Addr) (ns : List Int), x = .ref l ∧ SqL K H1 l (ns.map V.int) ∧ ns.length ≤ 4000 ∧ Q (.int (dif ns : Nat)) H1
theorem pe_lenSetF {X : Cx} (K : PySem.W.Frag) (hK : X.K = K) {a : Expr} {ta : TE} {p p2 q pos : Pos} (hg : Gl X "len") (hm : X.mg "len" = none) (hg2 : Gl X "set") (hm2 : X.mg "set" = none) (ha : PE X a ta) (hc : X.calm = true := by rfl)
    (na : starEach [a] X.env = (false, eval a X.env) :: starEach [] X.env := by rfl) : PE X (.Call (.Name "len" p) [.Call (.Name "set" p2) [a] [] q] [] pos) (tLenSetF K ta) := by
  subst hK
  refine ⟨fun pins s σ H Q I h => ?_⟩
  refine Call_ (ld_blt I hg hm boot_len ?_)
  refine PyProof.Rows.callWith_builtin1 (PyProof.Rows.args_cons ?_ rfl) rfl rfl
  refine Call_ (ld_blt I hg2 hm2 boot_set ?_)
  refine PyProof.Rows.callWith_type1 (PyProof.Rows.args_cons (thn (ha.run pins s σ H _ I h) fun v s1 ⟨x, H1, I1, r1, q1⟩ => PyProof.Rows.args_nil ?_) na) na rfl
  obtain ⟨l, ns, rfl, hq, hl, q1⟩ := q1
  cases r1
  obtain ⟨its, r, pl, hz⟩ := I1.list hq
  have hlen : its.toArray.size = ns.length := by rw [List.size_toArray, ← r.length, List.length_map]
  refine call_set_list (I1.ok.hd hc) pl.isList (by simpa using RZ.intsAre_vals r) (by rw [hlen]; unfold scanBound; omega) fun h' tk hS hk => ?_
  refine PyProof.Rows.args_nil ?_
  rw [hlen, met_fm] at hS
  obtain ⟨o, es, ep, t, ho, hex, hd, _, _, _, hf, hn⟩ := hS
  have I2 : Inv X pins σ H1 { s1 with heap := h', toks := tk } := I1.kept fun b o e => hk b o (Heap.lt_size e) e
  have fl := fm_len ns
  exact call_len_set ho hex hd hf (by rw [hn] <;> omega) ⟨.int (dif ns), H1, I2.tok _, ⟨_, by rw [hn]; rfl⟩, q1⟩
theorem slL {X : Cx} (K : PySem.W.Frag) (h : X.K = K) : SlR X (rSlL K) := by
  subst h
  exact sl_list

section

-- a condition of an operator
local macro_rules | `(tactic| walk_at "cond") => `(tactic| first
  | (show (0 : Int) < _; omega)
  | (show CDiv _ _; constructor <;> (first | decide | omega))
  | (show CMul _ _; first | (refine cmul_l ?_; constructor <;> (first | decide | omega)) | (refine cmul_r ?_; constructor <;> (first | decide | omega)))
  | (show CPow _ _; exact (by refine ⟨by decide, by decide, by decide⟩))
  | (show CDivW _ _; exact ⟨by decide, by decide +kernel⟩))
local macro_rules | `(tactic| walk_at "sq") => `(tactic| first | assumption | exact Dh.mono (same_upd (by assumption)) _ _ (by assumption) | exact .inl (.inl (.inl (by assumption))) | exact .inr (.inl (.inl (by assumption))) | exact SqL.of (by assumption) | exact .inl (by assumption) | exact .inl (SqL.of (by assumption)) | exact SqT.of (by assumption) | exact .inr (SqT.of (by assumption)))
local macro_rules | `(tactic| walk_at "st") => `(tactic| first
  | refine ⟨_, rfl, ?_⟩
  | refine ⟨_, _, rfl, rfl, ?_⟩
  | refine .inl ⟨_, rfl, ?_⟩
  | refine ⟨rfl, ?_⟩
  | refine ⟨_, _, rfl, by walk_at "sq", ?_⟩
  | refine ⟨.inl ⟨rfl, _, SqL.of (by assumption)⟩, ?_⟩
  | refine ⟨by walk_at "cond", ?_⟩
  | (refine' ifBT ?hh ?_; (case hh => first | rfl | assumption))
  | (refine' ifBF ?hh ?_; (case hh => first | rfl | assumption)))
local macro_rules | `(tactic| walk_at "go") => `(tactic| repeat walk_at "st")
local macro_rules | `(tactic| walk_at "yes") => `(tactic| (refine' ifT ?hh ?_; (case hh => first | rfl | decide +kernel)))
local macro_rules | `(tactic| walk_at "no") => `(tactic| (refine' ifF ?hh ?_; (case hh => first | decide +kernel | (intro z; cases z; done))))

/-! ### different, working_set, stretches, phases -/
abbrev s_different : Stmt := topS 9
theorem sc_different : FnScope ["_law_row", "_law_seen", "_law_one"] ["_law_row"] (C8.fnScope s_different) := C8.fnScope_by (by decide +kernel)
abbrev s_working_set : Stmt := topS 1
theorem sc_working_set : FnScope ["trace", "window", "at"] ["trace", "window"] (C8.fnScope s_working_set) := C8.fnScope_by (by decide +kernel)
abbrev s_phases : Stmt := topS 2
theorem sc_phases : FnScope ["trace", "frames", "starts", "pages", "at", "page"] ["trace", "frames"] (C8.fnScope s_phases) := C8.fnScope_by (by decide +kernel)
abbrev s_stretches : Stmt := topS 10
theorem sc_stretches : FnScope ["_law_trace_here", "_law_many", "_law_found", "_law_at"] ["_law_trace_here", "_law_many"] (C8.fnScope s_stretches) := C8.fnScope_by (by decide +kernel)
abbrev s_fewest_stretches : Stmt := topS 11
theorem sc_fewest_stretches : FnScope ["_law_trace_here", "_law_many", "_law_best", "_law_t", "_law_seen", "_law_low", "_law_b"] ["_law_trace_here", "_law_many"] (C8.fnScope s_fewest_stretches) := C8.fnScope_by (by decide +kernel)
def spDif (K : PySem.W.Frag) : Sp := fun vs H Q _ => ∃ (p : Addr) (ns : List Int), vs = [.ref p] ∧ SqL K H p (ns.map V.int) ∧ ns.length ≤ 1000 ∧ ∀ H', Same H H' → Q (.int (dif ns : Nat)) H'
/-- the window's numbers -/
def wsN (tr : List Int) (w k : Nat) : Int := (dif (seg tr (k + 1 - w) (k + 1)) : Nat)
def wsL (tr : List Int) (w n : Nat) : List Int := (List.range n).map (wsN tr w)
theorem wsL_snoc (tr : List Int) (w n : Nat) : wsL tr w (n + 1) = wsL tr w n ++ [wsN tr w n] := by
  unfold wsL
  rw [List.range_succ, List.map_append]
  rfl
theorem wsL_len (tr : List Int) (w n : Nat) : (wsL tr w n).length = n := by
  unfold wsL
  rw [List.length_map, List.length_range]
def spWs (K : PySem.W.Frag) : Sp := fun vs H Q _ => ∃ (p : Addr) (tr : List Int) (w : Nat), vs = [.ref p, .int w] ∧ SqL K H p (tr.map V.int) ∧ tr.length ≤ 1000 ∧ 1 ≤ w ∧ w ≤ 1000 ∧ ∀ r H', Same H H' → H r = none → H' r = some (.lst ((wsL tr w tr.length).map V.int)) → Q (.ref r) H'
def iN (xs : List Nat) : List V := xs.map fun (k : Nat) => V.int (k : Nat)
def spStr (K : PySem.W.Frag) : Sp := fun vs H Q _ => ∃ (p : Addr) (tr : List Int) (m : Nat), vs = [.ref p, .int m] ∧ SqL K H p (tr.map V.int) ∧ tr.length ≤ 1000 ∧ 1 ≤ m ∧ ∀ r H', Same H H' → H r = none → H' r = some (.lst (iN (stN tr m tr.length))) → Q (.ref r) H'
def spFew (K : PySem.W.Frag) : Sp := fun vs H Q _ => ∃ (p : Addr) (tr : List Int) (m : Nat), vs = [.ref p, .int m] ∧ SqL K H p (tr.map V.int) ∧ tr.length ≤ 1000 ∧ 1 ≤ m ∧ ∀ H', Same H H' → Q (.int (gN tr m tr.length : Nat)) H'
section
variable {P : Program} {w : World} {K : PySem.W.Frag} {mg : Str → Option Value} {base : Heap}
theorem max_win (k w : Nat) : (if ((k : Int) - (w : Int) + 1) > 0 then (k : Int) - (w : Int) + 1 else 0) = ((k + 1 - w : Nat) : Int) := by
  split <;> omega
theorem inV_ints (x : Int) (ns : List Int) : inV (.int x) (ns.map V.int) = decide (x ∈ ns) := by
  unfold inV
  induction ns with
  | nil => simp
  | cons n ns ih =>
    rw [List.map_cons, List.any_cons, ih]
    show ((n == x) || decide (x ∈ ns)) = _
    by_cases h : n = x
    · subst h
      simp
    · have h2 : (n == x) = false := by simpa using h
      rw [h2, Bool.false_or]
      have h3 : ¬ x = n := fun e => h e.symm
      simp [h3]
theorem flat_ints : ∀ ns : List Int, (ns.map V.int).all flatV = true
  | [] => rfl
  | _ :: ns => by
    rw [List.map_cons, List.all_cons, flat_ints ns]
    rfl
theorem ok_different {f : Addr} {fd : FuncData} (D : Def K mg "_law_different" s_different f fd) (b : Binds K fd ["_law_row"] []) (T : Txt mg) : Cal P w K mg base 1 "_law_different" (spDif K) [] := by
  refine cal0 D b .nil sc_different (fun vs H Q E h => ?_) (fun cdv A outer s H vs Q E hr h => ?_)
  · obtain ⟨p, ns, rfl, _⟩ := h
    rfl
  obtain ⟨p, ns, rfl, hp, hl, q⟩ := h
  refine ⟨_, (pss_cons (ps_set (i := 1) sc_different.nd rfl (.inl rfl) (pe_lst pa_nil))
      (pss_cons (ps_mk (ps_for PassesOwn.never rfl (pi_list (pv 0)) (pg_name (i := 2) sc_different.nd rfl (.inl rfl))
      (pss_one (ps_mk (ps_if (pt_cmpR (notInQ K rfl) (pv 2) (pv 1) (by rfl))
      (pss_one (ps_expr (pe_bm PySem.F.plainAttrs_list PySem.F.slot_list_append PySem.F.type_list_append mt_append (pv 1) (pa_cons (pv 2) pa_nil))))
      pss_nil)))))
      (pss_one (ps_ret (pe_callB (lenQ K rfl) (by rfl) T.len PySem.boot_len (pa_cons (pv 1) pa_nil)))))), ?_⟩
  walk_at "go"
  refine ⟨sz, fun L nL => ?_⟩
  have s1 := same_upd (o := HO.lst []) nL
  have gL := upd_same (H := H) (a := L) (o := HO.lst [])
  have hp1 := s1.seq hp
  generalize upd H L (HO.lst []) = H1 at *
  refine jnS (M := fun σ H' => Same H H' ∧ ∃ y2, H' L = some (.lst ((fm ns).map V.int)) ∧ σ = [sR p, sR L, y2]) ?_ (fun N kk => ?_)
  · rintro σ H2 ⟨s2, y2, g2, rfl⟩
    walk_at "go"
    rw [List.length_map]
    exact q _ s2
  walk_at "go"
  refine ⟨⟨_, hp1⟩, for_list (K := K) (a := p) (xs := ns.map V.int) (fun i σ H' => Ob (Same H H' ∧ ∃ y2, H' L = some (.lst ((fm (ns.take i)).map V.int)) ∧ σ = [sR p, sR L, y2])) (ob ⟨s1, none, gL, rfl⟩) (fun i σ H' _ h => (unob h).1.seq hp) ?_ ?_⟩
  · intro i x σ H2 hi h
    obtain ⟨s2, y2, g2, rfl⟩ := unob h
    have hil : i < ns.length := by
      have z := (List.getElem?_eq_some_iff.mp hi).1
      rw [List.length_map] at z
      exact z
    obtain rfl : x = .int ns[i] := by
      rw [List.getElem?_map, List.getElem?_eq_getElem hil] at hi
      exact (Option.some.inj hi).symm
    have ft : fm (ns.take (i + 1)) = if ns[i] ∈ fm (ns.take i) then fm (ns.take i) else fm (ns.take i) ++ [ns[i]] := by
      rw [List.take_add_one, List.getElem?_eq_getElem hil]
      exact fm_snoc _ _
    have fl := fm_len (ns.take i)
    rw [List.length_take] at fl
    generalize ns[i] = xv at *
    generalize fm (ns.take i) = ff at *
    walk_at "go"
    refine un ?_
    walk_at "go"
    refine ⟨flat_ints _, ?_⟩
    rw [inV_ints]
    walk_at "go"
    refine ifN ?_
    refine ifD (fun c => ?_) (fun c => ?_)
    · rw [if_pos c] at ft
      exact ob ⟨s2, sI xv, by rw [ft]; exact g2, rfl⟩
    · rw [if_neg c] at ft
      walk_at "go"
      refine ⟨L, _, _, rfl, rfl, g2, sz5 (by rw [List.length_map]; omega), ?_⟩
      exact ob ⟨same_put s2 nL, sI xv, by rw [ft, upd_same, List.map_append]; rfl, rfl⟩
  · intro σ H2 h
    obtain ⟨s2, y2, g2, rfl⟩ := unob h
    rw [List.length_map, List.take_length] at g2
    exact kk _ _ ⟨s2, y2, g2, rfl⟩
theorem ok_working_set {f : Addr} {fd : FuncData} (D : Def K mg "working_set" s_working_set f fd) (b : Binds K fd ["trace", "window"] []) (T : TxtK mg) : Cal P w K mg base 1 "working_set" (spWs K) [] := by
  refine cal0 D b .nil sc_working_set (fun vs H Q E h => ?_) (fun cdv A outer s H vs Q E hr h => ?_)
  · obtain ⟨p, tr, w, rfl, _⟩ := h
    rfl
  obtain ⟨p, tr, w, rfl, hp, hl, w0, w1, q⟩ := h
  refine ⟨_, (pss_one (ps_ret (pe_lc (own := [("at", 2)]) (g := gName 2) (tt := tYes) rfl sc_working_set.nd (pi_range1 (by rfl) T.range (pa_cons (pe_callB (lenQ K rfl) (by rfl) T.len PySem.boot_len (pa_cons (pv 0) pa_nil)) pa_nil)) (blkOk_by (own := [("at", 2)]) (N := ["trace", "window", "at"]) (sc := C8.fnScope s_working_set) (by decide +kernel)) (fun _ _ _ _ _ => (pg_name (i := 2) sc_working_set.nd rfl (.inl rfl))) (fun _ _ _ _ _ => pts_nil) (fun _ _ _ _ _ => (pe_lenSetF K rfl (by rfl) T.len (by rfl) T.set (pe_slice (slL K rfl) (pv 0) (po_some (pe_callB (call_max2 rfl) (by rfl) T.max (by decide +kernel) (pa_cons pe_int (pa_cons (pe_op op_add (pe_op op_sub (pv 2) (pv 1)) pe_int) pa_nil)))) (po_some (pe_op op_add (pv 2) pe_int)))))))), ?_⟩
  walk_at "go"
  rw [List.length_map]
  refine ⟨by omega, by omega, fun L nL => lc_range (lo := 0) (n := tr.length) (fun j H' => Ob (Same H H' ∧ H' L = some (.lst ((wsL tr w j).map V.int)))) (ob ⟨same_upd nL, upd_same⟩) ?_ ?_⟩
  · intro j H2 hj h
    obtain ⟨s2, g2⟩ := unob h
    have hp2 := s2.seq hp
    refine ⟨rfl, ?_⟩
    rw [Int.zero_add]
    walk_at "go"
    refine ⟨_, _, rfl, ?_⟩
    walk_at "go"
    intro t nt
    rw [max_win, show ((j : Int) + 1) = ((j + 1 : Nat) : Int) by omega, cut_seg (by omega)]
    refine ⟨t, seg tr (j + 1 - w) (j + 1), rfl, SqL.of upd_same, Nat.le_trans seg_len (by omega), ?_⟩
    have s3 := same_upd (o := HO.lst ((seg tr (j + 1 - w) (j + 1)).map V.int)) nt
    have s4 := s2.trans s3
    have g3 := s3 _ _ g2
    generalize upd H2 t (HO.lst ((seg tr (j + 1 - w) (j + 1)).map V.int)) = H3 at *
    refine ⟨_, g3, sz5 (by rw [List.length_map, wsL_len]; omega), ob ⟨same_put s4 nL, ?_⟩⟩
    rw [upd_same, wsL_snoc, List.map_append]
    rfl
  · intro H2 h
    obtain ⟨s2, g2⟩ := unob h
    walk_at "go"
    exact q L _ s2 nL g2
theorem iN_len (xs : List Nat) : (iN xs).length = xs.length := List.length_map _
theorem iN_snoc (xs : List Nat) (x : Nat) : iN (xs ++ [x]) = iN xs ++ [V.int x] := by
  unfold iN
  rw [List.map_append]
  rfl
theorem iN_last {xs : List Nat} (h : xs ≠ []) : atI (iN xs) ((xs.length : Int) - 1) = some (.int (xs.getLastD 0 : Nat)) := by
  have l0 := List.length_pos_iff.mpr h
  rw [show (xs.length : Int) - 1 = ((xs.length - 1 : Nat) : Int) by omega]
  refine atI_nat ?_
  unfold iN
  rw [List.getElem?_map, List.getElem?_eq_getElem (by omega), List.getLastD_eq_getLast?, List.getLast?_eq_getElem?, List.getElem?_eq_getElem (by omega)]
  rfl
theorem st_lt (tr : List Int) (m : Nat) : ∀ n, ∀ k ∈ stN tr m n, k < n
  | 0, k, h => by cases h
  | n + 1, k, h => by
    rw [stN] at h
    split at h
    · rcases List.mem_append.mp h with h | h
      · exact Nat.lt_succ_of_lt (st_lt tr m n k h)
      · obtain rfl := List.mem_singleton.mp h
        exact Nat.lt_succ_self _
    · exact Nat.lt_succ_of_lt (st_lt tr m n k h)
theorem last_lt {tr : List Int} {m n : Nat} (h : stN tr m n ≠ []) : (stN tr m n).getLastD 0 < n := by
  refine st_lt tr m n _ ?_
  rw [List.getLastD_eq_getLast?, List.getLast?_eq_getLast h]
  exact List.getLast_mem h
theorem ok_stretches {f : Addr} {fd : FuncData} (D : Def K mg "_law_stretches" s_stretches f fd) (b : Binds K fd ["_law_trace_here", "_law_many"] []) (T : Txt mg) (c_different : Cal P w K mg base 1 "_law_different" (spDif K) []) : Cal P w K mg base 2 "_law_stretches" (spStr K) [] := by
  refine cal0 D b .nil sc_stretches (fun vs H Q E h => ?_) (fun cdv A outer s H vs Q E hr h => ?_)
  · obtain ⟨p, tr, m, rfl, _⟩ := h
    rfl
  obtain ⟨p, tr, m, rfl, hp, hl, m1, q⟩ := h
  refine ⟨_, (pss_cons (ps_set (i := 2) sc_stretches.nd rfl (.inl rfl) (pe_lst pa_nil))
      (pss_cons (ps_mk (ps_for PassesOwn.never rfl (pi_range1 (by rfl) T.range (pa_cons (pe_callB (lenQ K rfl) (by rfl) T.len PySem.boot_len (pa_cons (pv 0) pa_nil)) pa_nil)) (pg_name (i := 3) sc_stretches.nd rfl (.inl rfl))
      (pss_one (ps_mk (ps_if (PW.pt (pw_or (pt_cmpR op_eq (pe_callB (lenQ K rfl) (by rfl) T.len PySem.boot_len (pa_cons (pv 2) pa_nil)) pe_int (nomark _)) (pw_or1 (pt_cmpR op_gt (C8.pe_c c_different hr (by omega) (by rfl) (pa_cons (pe_slice sl_list (pv 0) (po_some (pe_ix (ixL K rfl) (pv 2) (pe_op op_sub (pe_callB (lenQ K rfl) (by rfl) T.len PySem.boot_len (pa_cons (pv 2) pa_nil)) pe_int) (fun _ _ => rfl))) (po_some (pe_op op_add (pv 3) pe_int))) pa_nil)) (pv 1) (nomark _)))))
      (pss_one (ps_expr (pe_bm PySem.F.plainAttrs_list PySem.F.slot_list_append PySem.F.type_list_append mt_append (pv 2) (pa_cons (pv 3) pa_nil))))
      pss_nil)))))
      (pss_one (ps_ret (pv 2))))), ?_⟩
  walk_at "go"
  refine ⟨sz, fun L nL => ?_⟩
  have s1 := same_upd (o := HO.lst []) nL
  have gL := upd_same (H := H) (a := L) (o := HO.lst [])
  have hp1 := s1.seq hp
  generalize upd H L (HO.lst []) = H1 at *
  refine jnS (M := fun σ H' => Same H H' ∧ ∃ y3, H' L = some (.lst (iN (stN tr m tr.length))) ∧ σ = [sR p, sI m, sR L, y3]) ?_ (fun N kk => ?_)
  · rintro σ H2 ⟨s2, y2, g2, rfl⟩
    walk_at "go"
    exact q L _ s2 nL g2
  walk_at "go"
  rw [List.length_map]
  refine ⟨by omega, by omega, for_range (lo := 0) (n := tr.length) (fun i σ H' => Ob (Same H H' ∧ ∃ y3, H' L = some (.lst (iN (stN tr m i))) ∧ σ = [sR p, sI m, sR L, y3])) (ob ⟨s1, none, gL, rfl⟩) ?_ ?_⟩
  · intro i σ H2 hi h
    obtain ⟨s2, y3, g2, rfl⟩ := unob h
    have hp2 := s2.seq hp
    have est : stN tr m (i + 1) = if stN tr m i = [] ∨ m < dif (seg tr ((stN tr m i).getLastD 0) (i + 1)) then stN tr m i ++ [i] else stN tr m i := rfl
    have lst := last_lt (tr := tr) (m := m) (n := i)
    have gl := gN_le tr m i
    unfold gN at gl
    rw [Int.zero_add]
    generalize stN tr m i = ss at *
    have put : ∀ H3, Same H2 H3 → (ss = [] ∨ m < dif (seg tr (ss.getLastD 0) (i + 1))) → Ob (Same H (upd H3 L (HO.lst (iN ss ++ [V.int i]))) ∧ ∃ y3, (upd H3 L (HO.lst (iN ss ++ [V.int i]))) L = some (.lst (iN (stN tr m (i + 1)))) ∧ [sR p, sI m, sR L, sI i] = [sR p, sI m, sR L, y3]) := fun H3 s3 c => ob ⟨same_put (s2.trans s3) nL, sI i, by rw [upd_same, est, if_pos c, iN_snoc], rfl⟩
    walk_at "go"
    refine un ?_
    walk_at "go"
    rw [iN_len]
    refine ifEq (fun c => ?_) (fun c => ?_)
    · have e0 : ss = [] := List.eq_nil_of_length_eq_zero (by omega)
      walk_at "go"
      refine ⟨L, _, _, rfl, rfl, g2, sz5 (by rw [iN_len]; omega), ?_⟩
      exact put H2 same_rfl (.inl e0)
    · have e0 : ss ≠ [] := fun e => c (by rw [e]; rfl)
      have lt := lst e0
      walk_at "go"
      rw [iN_len]
      refine ⟨L, _, _, _, rfl, rfl, SqL.of g2, iN_last e0, ?_⟩
      walk_at "go"
      intro t nt
      rw [show ((i : Int) + 1) = ((i + 1 : Nat) : Int) by omega, cut_seg (by omega)]
      have s3 := same_upd (o := HO.lst ((seg tr (ss.getLastD 0) (i + 1)).map V.int)) nt
      refine ⟨t, seg tr (ss.getLastD 0) (i + 1), rfl, SqL.of upd_same, Nat.le_trans seg_len (by omega), fun H4 s4 => ?_⟩
      have s34 := s3.trans s4
      have g4 := s34 _ _ g2
      walk_at "go"
      refine ifD (fun c2 => ?_) (fun c2 => ?_)
      · walk_at "go"
        refine ⟨L, _, _, rfl, rfl, g4, sz5 (by rw [iN_len]; omega), ?_⟩
        exact put H4 s34 (.inr (by omega))
      · refine ob ⟨s2.trans s34, sI i, ?_, rfl⟩
        rw [est, if_neg (fun z => z.elim e0 fun z => c2 (by omega))]
        exact s34 _ _ g2
  · intro σ H2 h
    obtain ⟨s2, y3, g2, rfl⟩ := unob h
    exact kk _ _ ⟨s2, y3, g2, rfl⟩
end

end

section

-- a condition of an operator
local macro_rules | `(tactic| walk_at "cond") => `(tactic| first
  | (show (0 : Int) < _; omega)
  | (show CDiv _ _; constructor <;> (first | decide | omega))
  | (show CMul _ _; first | (refine cmul_l ?_; constructor <;> (first | decide | omega)) | (refine cmul_r ?_; constructor <;> (first | decide | omega)))
  | (show CPow _ _; exact (by refine ⟨by decide, by decide, by decide⟩))
  | (show CDivW _ _; exact ⟨by decide, by decide +kernel⟩))
local macro_rules | `(tactic| walk_at "sq") => `(tactic| first | assumption | exact Dh.mono (same_upd (by assumption)) _ _ (by assumption) | exact .inl (.inl (.inl (by assumption))) | exact .inr (.inl (.inl (by assumption))) | exact SqL.of (by assumption) | exact .inl (by assumption) | exact .inl (SqL.of (by assumption)) | exact SqT.of (by assumption) | exact .inr (SqT.of (by assumption)))
local macro_rules | `(tactic| walk_at "st") => `(tactic| first
  | refine ⟨_, rfl, ?_⟩
  | refine ⟨_, _, rfl, rfl, ?_⟩
  | refine .inl ⟨_, rfl, ?_⟩
  | refine ⟨rfl, ?_⟩
  | refine ⟨_, _, rfl, by walk_at "sq", ?_⟩
  | refine ⟨.inl ⟨rfl, _, SqL.of (by assumption)⟩, ?_⟩
  | refine ⟨by walk_at "cond", ?_⟩
  | (refine' ifBT ?hh ?_; (case hh => first | rfl | assumption))
  | (refine' ifBF ?hh ?_; (case hh => first | rfl | assumption)))
local macro_rules | `(tactic| walk_at "go") => `(tactic| repeat walk_at "st")
local macro_rules | `(tactic| walk_at "yes") => `(tactic| (refine' ifT ?hh ?_; (case hh => first | rfl | decide +kernel)))
local macro_rules | `(tactic| walk_at "no") => `(tactic| (refine' ifF ?hh ?_; (case hh => first | decide +kernel | (intro z; cases z; done))))

/-! ### phases, fewest_stretches -/
def kD (xs : List Int) : List (Key × V) := xs.map fun x => ((Sum.inl x : Key), V.bl true)
theorem kD_len (xs : List Int) : (kD xs).length = xs.length := List.length_map _
theorem kD_get (x : Int) : ∀ xs : List Int, valV (kD xs) (Sum.inl x) = if x ∈ xs then some (.bl true) else none
  | [] => rfl
  | y :: xs => by
    by_cases h : y = x
    · rw [if_pos (by rw [h]; exact List.mem_cons_self)]
      exact valV_pos (p := ((Sum.inl y : Key), V.bl true)) (congrArg Sum.inl h)
    · have ih := kD_get x xs
      have e : valV (kD (y :: xs)) (Sum.inl x) = valV (kD xs) (Sum.inl x) := valV_neg (p := ((Sum.inl y : Key), V.bl true)) (fun z => h (Sum.inl.inj z))
      rw [e, ih]
      have : (x ∈ y :: xs) ↔ x ∈ xs := ⟨fun z => (List.mem_cons.mp z).resolve_left (fun e => h e.symm), List.mem_cons_of_mem _⟩
      by_cases hx : x ∈ xs
      · rw [if_pos hx, if_pos (this.mpr hx)]
      · rw [if_neg hx, if_neg (fun z => hx (this.mp z))]
theorem kD_put (xs : List Int) (x : Int) : putK (kD xs) (Sum.inl x) (.bl true) = if x ∈ xs then kD xs else kD (xs ++ [x]) := by
  by_cases h : x ∈ xs
  · rw [if_pos h]
    have a : ((kD xs).any fun kv => decide (kv.1 = (Sum.inl x : Key))) = true := by
      rw [valV_any, kD_get, if_pos h]
      rfl
    unfold putK
    rw [if_pos a]
    have : ∀ l : List Int, (kD l).map (fun kv => if kv.1 = (Sum.inl x : Key) then (kv.1, V.bl true) else kv) = kD l := fun l => by
      induction l with
      | nil => rfl
      | cons y l ih =>
        have e : (if (Sum.inl y : Key) = Sum.inl x then ((Sum.inl y : Key), V.bl true) else ((Sum.inl y : Key), V.bl true)) = ((Sum.inl y : Key), V.bl true) := ite_self _
        show (if (Sum.inl y : Key) = Sum.inl x then ((Sum.inl y : Key), V.bl true) else ((Sum.inl y : Key), V.bl true)) :: (kD l).map (fun kv => if kv.1 = (Sum.inl x : Key) then (kv.1, V.bl true) else kv) = ((Sum.inl y : Key), V.bl true) :: kD l
        rw [ih, e]
    exact this xs
  · rw [if_neg h, putK_new _ (by rw [kD_get, if_neg h])]
    unfold kD
    rw [List.map_append]
    rfl
section
variable {P : Program} {w : World} {K : PySem.W.Frag} {mg : Str → Option Value} {base : Heap}
theorem ok_phases {f : Addr} {fd : FuncData} (D : Def K mg "phases" s_phases f fd) (b : Binds K fd ["trace", "frames"] []) (T : TxtK mg) : Cal P w K mg base 1 "phases" (spStr K) [] := by
  refine cal0 D b .nil sc_phases (fun vs H Q E h => ?_) (fun cdv A outer s H vs Q E hr h => ?_)
  · obtain ⟨p, tr, m, rfl, _⟩ := h
    rfl
  obtain ⟨p, tr, m, rfl, hp, hl, m1, q⟩ := h
  refine ⟨_, (pss_cons (ps_set (i := 2) sc_phases.nd rfl (.inl rfl) (pe_lst pa_nil))
      (pss_cons (ps_set (i := 3) sc_phases.nd rfl (.inl rfl) pe_dnewK)
      (pss_cons (ps_mk (ps_for PassesOwn.never rfl (pi_enum (by rfl) T.enumerate (pa_cons (pv 0) pa_nil)) (pg_tup rfl (pgs_cons (pg_name (i := 4) sc_phases.nd rfl (.inl rfl)) (pgs_cons (pg_name (i := 5) sc_phases.nd rfl (.inl rfl)) pgs_nil)))
      (pss_cons (ps_mk (ps_if (PW.pt (pw_or (pt_cmpR op_eq (pv 4) pe_int (nomark _)) (pw_or1 (PW.pt (pw_and (pt_cmp (pc_dnotin (hu_of hr) (pv 5) (pv 3))) (pw_and1 (pt_cmpR op_eq (pe_callB call_lenD (by rfl) T.len PySem.boot_len (pa_cons (pv 3) pa_nil)) (pv 1) (nomark _))))))))
      (pss_cons (ps_expr (pe_bm PySem.F.plainAttrs_list PySem.F.slot_list_append PySem.F.type_list_append mt_append (pv 2) (pa_cons (pv 4) pa_nil)))
      (pss_one (ps_set (i := 3) sc_phases.nd rfl (.inl rfl) pe_dnewK)))
      pss_nil))
      (pss_one (ps_dput (hu_of hr) (pv 3) (pv 5) pe_bl rfl)))))
      (pss_one (ps_ret (pv 2)))))), ?_⟩
  walk_at "go"
  refine ⟨sz, fun L nL => ?_⟩
  have s1 := same_upd (o := HO.lst []) nL
  have gL := upd_same (H := H) (a := L) (o := HO.lst [])
  generalize upd H L (HO.lst []) = H1 at *
  walk_at "go"
  intro d nd
  have nd0 : H d = none := s1.free nd
  have hLd : L ≠ d := ne_of_none gL nd
  have s2 := s1.trans (same_upd (o := HO.dK []) nd)
  have gL2 := same_upd (o := HO.dK []) nd _ _ gL
  have gd := upd_same (H := H1) (a := d) (o := HO.dK [])
  generalize upd H1 d (HO.dK []) = H2 at *
  clear s1 gL nd
  refine jnS (M := fun σ H' => Same H H' ∧ ∃ y3 y4 y5, H' L = some (.lst (iN (stN tr m tr.length))) ∧ σ = [sR p, sI m, sR L, y3, y4, y5]) ?_ (fun N kk => ?_)
  · rintro σ H3 ⟨s3, y3, y4, y5, g3, rfl⟩
    walk_at "go"
    exact q L _ s3 nL g3
  walk_at "go"
  refine ⟨p, _, rfl, s2.seq hp, for_it walk_enum (fun i σ H' => Ob (Same H H' ∧ H' L = some (.lst (iN (stN tr m i))) ∧ ∃ d y4 y5, H d = none ∧ L ≠ d ∧ H' d = some (.dK (kD (fm (seg tr ((stN tr m i).getLastD 0) i)))) ∧ σ = [sR p, sI m, sR L, sR d, y4, y5])) (ob ⟨s2, gL2, d, none, none, nd0, hLd, gd, rfl⟩) (fun i σ H' _ h => (unob h).1.seq hp) ?_ ?_⟩
  · intro i x σ H3 H4 hi h y
    obtain ⟨s3, g3, d, y4, y5, nd, hLd, gd, rfl⟩ := unob h
    rw [List.length_map] at hi
    obtain ⟨t2, x1, x2, rfl, n2, rfl, e1, e2⟩ := y
    obtain rfl : x1 = .int i := (Option.some.inj e1).symm
    obtain rfl : x2 = .int tr[i] := by
      dsimp only at e2
      rw [List.getElem?_map, List.getElem?_eq_getElem hi] at e2
      exact (Option.some.inj e2).symm
    have s4 := s3.trans (same_upd (o := HO.tup [V.int i, V.int tr[i]]) n2)
    have gt := upd_same (H := H3) (a := t2) (o := HO.tup [V.int i, V.int tr[i]])
    have g4 := same_upd (o := HO.tup [V.int i, V.int tr[i]]) n2 _ _ g3
    have gd4 := same_upd (o := HO.tup [V.int i, V.int tr[i]]) n2 _ _ gd
    generalize upd H3 t2 (HO.tup [V.int i, V.int tr[i]]) = H4 at *
    have est : stN tr m (i + 1) = if stN tr m i = [] ∨ m < dif (seg tr ((stN tr m i).getLastD 0) (i + 1)) then stN tr m i ++ [i] else stN tr m i := rfl
    have lst := last_lt (tr := tr) (m := m) (n := i)
    have gl := gN_le tr m i
    unfold gN at gl
    have ll : (stN tr m i).getLastD 0 ≤ i := by
      by_cases e : stN tr m i = []
      · rw [e]; exact Nat.zero_le _
      · exact Nat.le_of_lt (lst e)
    have dm : dif (seg tr ((stN tr m i).getLastD 0) i) ≤ m := by
      cases i with
      | zero =>
        have : seg tr ((stN tr m 0).getLastD 0) 0 = [] := seg_self
        rw [this]
        exact Nat.zero_le _
      | succ k => exact (last_of (tr := tr) m1 k (by omega)).ok
    have ss1 := seg_snoc (tr := tr) ll hi
    have e0 : stN tr m i = [] ↔ i = 0 := ⟨fun e => by
      cases i with
      | zero => rfl
      | succ k => exact absurd e (last_of (tr := tr) m1 k (by omega)).ne, fun e => by rw [e]; rfl⟩
    have sii := seg_snoc (tr := tr) (Nat.le_refl i) hi
    rw [seg_self] at sii
    have fl := fm_len (seg tr ((stN tr m i).getLastD 0) i)
    have sl := seg_len (tr := tr) (b := (stN tr m i).getLastD 0) (t := i)
    rw [ss1, dif_snoc] at est
    have df : dif (seg tr ((stN tr m i).getLastD 0) i) = (fm (seg tr ((stN tr m i).getLastD 0) i)).length := rfl
    have fsn := fm_snoc (seg tr ((stN tr m i).getLastD 0) i) tr[i]
    rw [← ss1] at fsn
    have mf := mem_fm (x := tr[i]) (seg tr ((stN tr m i).getLastD 0) i)
    refine ⟨t2, _, rfl, SqT.of gt, rfl, ?_⟩
    refine ⟨_, _, rfl, ?_⟩
    refine ⟨_, _, rfl, ?_⟩
    refine ⟨rfl, ?_⟩
    generalize tr[i] = xv at *
    -- the statement behind the test
    refine jnS (M := fun σ H' => Same H H' ∧ H' L = some (.lst (iN (stN tr m (i + 1)))) ∧ ∃ d kx, H d = none ∧ L ≠ d ∧ H' d = some (.dK (kD kx)) ∧ kx.length ≤ 1000 ∧ (if xv ∈ kx then kx else kx ++ [xv]) = fm (seg tr ((stN tr m (i + 1)).getLastD 0) (i + 1)) ∧ σ = [sR p, sI m, sR L, sR d, sI i, sI xv]) ?_ (fun N2 k2 => ?_)
    · rintro σ H5 ⟨s5, g5, d, kx, nd, hLd, gd, kl, ek, rfl⟩
      walk_at "go"
      refine ⟨d, _, rfl, DPut.k (k := Sum.inl xv) gd (by rw [kD_len, sizeLine_eq]; omega), ob ⟨same_put s5 nd, by rw [upd_ne hLd]; exact g5, d, _, _, nd, hLd, ?_, rfl⟩⟩
      rw [upd_same, kD_put, ← ek]
      split <;> rfl
    · have old : ¬ (stN tr m i = [] ∨ m < (if xv ∈ seg tr ((stN tr m i).getLastD 0) i then dif (seg tr ((stN tr m i).getLastD 0) i) else dif (seg tr ((stN tr m i).getLastD 0) i) + 1)) → N2 [sR p, sI m, sR L, sR d, sI i, sI xv] H4 := fun hc => by
        rw [if_neg hc] at est
        refine k2 _ _ ⟨s4, by rw [est]; exact g4, d, _, nd, hLd, gd4, by omega, ?_, rfl⟩
        rw [est]
        exact fsn.symm
      walk_at "go"
      refine ifEq (fun c => ?_) (fun c => ?_)
      · have hc := Or.inl (b := m < (if xv ∈ seg tr ((stN tr m i).getLastD 0) i then dif (seg tr ((stN tr m i).getLastD 0) i) else dif (seg tr ((stN tr m i).getLastD 0) i) + 1)) (e0.mpr (by omega))
        walk_at "go"
        refine ⟨L, _, _, rfl, rfl, g4, sz5 (by rw [iN_len]; omega), ?_⟩
        walk_at "go"
        intro d2 nd2
        have s5 := same_put (o := HO.lst (iN (stN tr m i) ++ [V.int i])) s4 nL
        rw [if_pos hc] at est
        have ne2 : L ≠ d2 := ne_of_none upd_same nd2
        refine k2 _ _ ⟨same_put s5 (s5.free nd2), ?_, d2, [], s5.free nd2, ne2, upd_same, Nat.zero_le _, ?_, rfl⟩
        · rw [upd_ne ne2, upd_same, est, iN_snoc]
        · rw [est, List.getLastD_concat, sii]
          rfl
      · have e1 : ¬ stN tr m i = [] := fun z => c (by rw [e0.mp z]; rfl)
        walk_at "go"
        refine ⟨d, _, rfl, DGet.k (k := Sum.inl xv) gd4, ?_⟩
        rw [kD_get]
        by_cases hx : xv ∈ seg tr ((stN tr m i).getLastD 0) i
        · rw [if_pos (mf.mpr hx)]
          walk_at "go"
          exact old (fun z => z.elim e1 fun z => by rw [if_pos hx] at z; omega)
        · rw [if_neg (fun z => hx (mf.mp z))]
          walk_at "go"
          refine ifEq (fun c2 => ?_) (fun c2 => ?_)
          · rw [kD_len] at c2
            have hc := Or.inr (a := stN tr m i = []) (b := m < (if xv ∈ seg tr ((stN tr m i).getLastD 0) i then dif (seg tr ((stN tr m i).getLastD 0) i) else dif (seg tr ((stN tr m i).getLastD 0) i) + 1)) (by rw [if_neg hx, df]; omega)
            walk_at "go"
            refine ⟨L, _, _, rfl, rfl, g4, sz5 (by rw [iN_len]; omega), ?_⟩
            walk_at "go"
            intro d2 nd2
            have s5 := same_put (o := HO.lst (iN (stN tr m i) ++ [V.int i])) s4 nL
            rw [if_pos hc] at est
            have ne2 : L ≠ d2 := ne_of_none upd_same nd2
            refine k2 _ _ ⟨same_put s5 (s5.free nd2), ?_, d2, [], s5.free nd2, ne2, upd_same, Nat.zero_le _, ?_, rfl⟩
            · rw [upd_ne ne2, upd_same, est, iN_snoc]
            · rw [est, List.getLastD_concat, sii]
              rfl
          · rw [kD_len] at c2
            exact old (fun z => z.elim e1 fun z => by rw [if_neg hx, df] at z; rw [df] at dm; omega)
  · intro σ H3 h
    obtain ⟨s3, g3, d, y4, y5, nd, hLd, gd, rfl⟩ := unob h
    rw [List.length_map] at g3
    exact kk _ _ ⟨s3, _, _, _, g3, rfl⟩
end

end

section

-- a condition of an operator
local macro_rules | `(tactic| walk_at "cond") => `(tactic| first
  | (show (0 : Int) < _; omega)
  | (show CDiv _ _; constructor <;> (first | decide | omega))
  | (show CMul _ _; first | (refine cmul_l ?_; constructor <;> (first | decide | omega)) | (refine cmul_r ?_; constructor <;> (first | decide | omega)))
  | (show CPow _ _; exact (by refine ⟨by decide, by decide, by decide⟩))
  | (show CDivW _ _; exact ⟨by decide, by decide +kernel⟩))
local macro_rules | `(tactic| walk_at "sq") => `(tactic| first | assumption | exact Dh.mono (same_upd (by assumption)) _ _ (by assumption) | exact .inl (.inl (.inl (by assumption))) | exact .inr (.inl (.inl (by assumption))) | exact SqL.of (by assumption) | exact .inl (by assumption) | exact .inl (SqL.of (by assumption)) | exact SqT.of (by assumption) | exact .inr (SqT.of (by assumption)))
local macro_rules | `(tactic| walk_at "st") => `(tactic| first
  | refine ⟨_, rfl, ?_⟩
  | refine ⟨_, _, rfl, rfl, ?_⟩
  | refine .inl ⟨_, rfl, ?_⟩
  | refine ⟨rfl, ?_⟩
  | refine ⟨_, _, rfl, by walk_at "sq", ?_⟩
  | refine ⟨.inl ⟨rfl, _, SqL.of (by assumption)⟩, ?_⟩
  | refine ⟨by walk_at "cond", ?_⟩
  | (refine' ifBT ?hh ?_; (case hh => first | rfl | assumption))
  | (refine' ifBF ?hh ?_; (case hh => first | rfl | assumption)))
local macro_rules | `(tactic| walk_at "go") => `(tactic| repeat walk_at "st")
local macro_rules | `(tactic| walk_at "yes") => `(tactic| (refine' ifT ?hh ?_; (case hh => first | rfl | decide +kernel)))
local macro_rules | `(tactic| walk_at "no") => `(tactic| (refine' ifF ?hh ?_; (case hh => first | decide +kernel | (intro z; cases z; done))))

/-! ### fewest_stretches -/
def gL (tr : List Int) (m n : Nat) : List V := (List.range n).map fun k => V.int (gN tr m k : Nat)
theorem gL_len (tr : List Int) (m n : Nat) : (gL tr m n).length = n := by
  unfold gL
  rw [List.length_map, List.length_range]
theorem gL_snoc (tr : List Int) (m n : Nat) : gL tr m (n + 1) = gL tr m n ++ [V.int (gN tr m n : Nat)] := by
  unfold gL
  rw [List.range_succ, List.map_append]
  rfl
theorem gL_get {tr : List Int} {m n k : Nat} (h : k < n) : atI (gL tr m n) ((k : Nat) : Int) = some (.int (gN tr m k : Nat)) := by
  refine atI_nat ?_
  unfold gL
  rw [List.getElem?_map, List.getElem?_range h]
  rfl
theorem fm_rev {tr : List Int} {b t : Nat} (h : b < t) (ht : t ≤ tr.length) : fm (seg tr b t).reverse = if tr[b] ∈ fm (seg tr (b + 1) t).reverse then fm (seg tr (b + 1) t).reverse else fm (seg tr (b + 1) t).reverse ++ [tr[b]] := by
  rw [seg_cons h ht, List.reverse_cons]
  exact fm_snoc _ _
section
variable {P : Program} {w : World} {K : PySem.W.Frag} {mg : Str → Option Value} {base : Heap}
theorem ok_fewest {f : Addr} {fd : FuncData} (D : Def K mg "_law_fewest_stretches" s_fewest_stretches f fd) (b : Binds K fd ["_law_trace_here", "_law_many"] []) (T : TxtK mg) : Cal P w K mg base 1 "_law_fewest_stretches" (spFew K) [] := by
  refine cal0 D b .nil sc_fewest_stretches (fun vs H Q E h => ?_) (fun cdv A outer s H vs Q E hr h => ?_)
  · obtain ⟨p, tr, m, rfl, _⟩ := h
    rfl
  obtain ⟨p, tr, m, rfl, hp, hl, m1, q⟩ := h
  refine ⟨_, (pss_cons (ps_set (i := 2) sc_fewest_stretches.nd rfl (.inl rfl) (pe_lst (pa_cons pe_int pa_nil)))
      (pss_cons (ps_mk (ps_for PassesOwn.never rfl (pi_range2 (by rfl) T.range (pa_cons pe_int (pa_cons (pe_op op_add (pe_callB (lenQ K rfl) (by rfl) T.len PySem.boot_len (pa_cons (pv 0) pa_nil)) pe_int) pa_nil))) (pg_name (i := 3) sc_fewest_stretches.nd rfl (.inl rfl))
      (pss_cons (ps_set (i := 4) sc_fewest_stretches.nd rfl (.inl rfl) (pe_lst pa_nil))
      (pss_cons (ps_set (i := 5) sc_fewest_stretches.nd rfl (.inl rfl) (pv 3))
      (pss_cons (ps_mk (ps_for PassesOwn.never rfl (pi_range3 (by rfl) T.range (pa_cons (pe_op op_sub (pv 3) pe_int) (pa_cons (pe_un un_neg pe_int) (pa_cons (pe_un un_neg pe_int) pa_nil)))) (pg_name (i := 6) sc_fewest_stretches.nd rfl (.inl rfl))
      (pss_cons (ps_mk (ps_if (pt_cmpR (notInQ K rfl) (pe_ix (ixL K rfl) (pv 0) (pv 6) (fun _ _ => rfl)) (pv 4) (by rfl))
      (pss_one (ps_expr (pe_bm PySem.F.plainAttrs_list PySem.F.slot_list_append PySem.F.type_list_append mt_append (pv 4) (pa_cons (pe_ix (ixL K rfl) (pv 0) (pv 6) (fun _ _ => rfl)) pa_nil))))
      pss_nil))
      (pss_cons (ps_mk (ps_if (pt_cmpR op_gt (pe_callB (lenQ K rfl) (by rfl) T.len PySem.boot_len (pa_cons (pv 4) pa_nil)) (pv 1) (nomark _))
      (pss_one ps_break)
      pss_nil))
      (pss_one (ps_set (i := 5) sc_fewest_stretches.nd rfl (.inl rfl) (pe_callB (call_min2 rfl) (by rfl) T.min (by decide +kernel) (pa_cons (pv 5) (pa_cons (pe_op op_add (pe_ix (ixL K rfl) (pv 2) (pv 6) (fun _ _ => rfl)) pe_int) pa_nil)))))))))
      (pss_one (ps_expr (pe_bm PySem.F.plainAttrs_list PySem.F.slot_list_append PySem.F.type_list_append mt_append (pv 2) (pa_cons (pv 5) pa_nil)))))))))
      (pss_one (ps_ret (pe_ix (ixL K rfl) (pv 2) (pe_callB (lenQ K rfl) (by rfl) T.len PySem.boot_len (pa_cons (pv 0) pa_nil)) (fun _ _ => rfl)))))), ?_⟩
  walk_at "go"
  refine ⟨sz, fun B nB => ?_⟩
  have s1 := same_upd (o := HO.lst [V.int 0]) nB
  have gB := upd_same (H := H) (a := B) (o := HO.lst [V.int 0])
  have hp1 := s1.seq hp
  generalize upd H B (HO.lst [V.int 0]) = H1 at *
  refine jnS (M := fun σ H' => Same H H' ∧ ∃ y3 y4 y5 y6, H' B = some (.lst (gL tr m (tr.length + 1))) ∧ σ = [sR p, sI m, sR B, y3, y4, y5, y6]) ?_ (fun N kk => ?_)
  · rintro σ H2 ⟨s2, y3, y4, y5, y6, g2, rfl⟩
    have hp2 := s2.seq hp
    walk_at "go"
    rw [List.length_map]
    refine ⟨B, _, _, _, rfl, rfl, SqL.of g2, gL_get (Nat.lt_succ_self _), ?_⟩
    exact q _ s2
  walk_at "go"
  rw [List.length_map]
  refine ⟨_, _, rfl, ⟨by omega, by omega, by omega, by omega⟩, for_range (lo := 1) (n := ((tr.length : Int) + 1 - 1).toNat) (fun j σ H' => Ob (Same H H' ∧ ∃ y3 y4 y5 y6, H' B = some (.lst (gL tr m (j + 1))) ∧ σ = [sR p, sI m, sR B, y3, y4, y5, y6])) (ob ⟨s1, none, none, none, none, gB, rfl⟩) ?_ ?_⟩
  · intro j σ H2 hj h
    obtain ⟨s2, y3, y4, y5, y6, g2, rfl⟩ := unob h
    obtain ⟨t, et⟩ : ∃ t : Nat, t = j + 1 := ⟨_, rfl⟩
    rw [show (1 + (j : Int)) = ((t : Nat) : Int) by omega]
    have ht : t ≤ tr.length := by omega
    have L := last_of (tr := tr) m1 j (by omega)
    rw [← et] at L g2
    generalize (stN tr m t).getLastD 0 = ls at L
    walk_at "go"
    refine ⟨sz, fun S nS => ?_⟩
    have s3 := s2.trans (same_upd (o := HO.lst []) nS)
    have gS := upd_same (H := H2) (a := S) (o := HO.lst [])
    have g3 := same_upd (o := HO.lst []) nS _ _ g2
    have nS0 := s2.free nS
    have hBS : B ≠ S := ne_of_none g2 nS
    generalize upd H2 S (HO.lst []) = H3 at *
    clear s2 g2 nS kk h hp1 gB s1
    walk_at "go"
    refine jnS (M := fun σ H' => Same H H' ∧ ∃ y4 y6, H' B = some (.lst (gL tr m t)) ∧ σ = [sR p, sI m, sR B, sI t, y4, sI (gN tr m t : Nat), y6]) ?_ (fun N kk => ?_)
    · rintro σ H4 ⟨s4, y4, y6, g4, rfl⟩
      walk_at "go"
      refine ⟨B, _, _, rfl, rfl, g4, sz5 (by rw [gL_len]; omega), ?_⟩
      refine ob ⟨same_put s4 nB, _, _, _, _, ?_, rfl⟩
      rw [upd_same, ← et, gL_snoc]
    walk_at "go"
    have gt := gN_le tr m t
    refine ⟨_, _, _, _, rfl, RgC.neg (by omega) (by omega) (by omega) (by omega), for_rangeC (lo := (t : Int) - 1) (c := -1) (n := ((t : Int) - 1 - -1).toNat) (fun k σ H' => Ob (Same H H' ∧ H' B = some (.lst (gL tr m t)) ∧ H' S = some (.lst ((fm (seg tr (t - k) t).reverse).map V.int)) ∧ ∃ (low : Nat) (y6 : Option V), gN tr m t ≤ low ∧ low ≤ t ∧ (t - k ≤ ls → low = gN tr m t) ∧ σ = [sR p, sI m, sR B, sI t, sR S, sI (low : Nat), y6])) (ob ⟨s3, g3, ?_, t, y6, gt, Nat.le_refl _, fun z => ?_, rfl⟩) ?_ ?_⟩
    · rw [Nat.sub_zero, seg_self]
      exact gS
    · have := L.lt
      omega
    · intro k σ H4 hk h
      obtain ⟨s4, gB4, gS4, low, y6, l0, l1, l2, rfl⟩ := unob h
      clear h gS g3 s3
      have hk2 : k < t := by omega
      obtain ⟨bb, eb⟩ : ∃ bb, bb + 1 = t - k := ⟨t - k - 1, by omega⟩
      rw [show (t : Int) - 1 + (k : Int) * -1 = ((bb : Nat) : Int) by omega]
      have hb : bb < t := by omega
      have hbl : bb < tr.length := by omega
      have fr := fm_rev hb ht
      rw [eb] at fr
      have ab : atI (tr.map V.int) ((bb : Nat) : Int) = some (.int tr[bb]) := atI_nat (by rw [List.getElem?_map, List.getElem?_eq_getElem hbl]; rfl)
      have hp4 := s4.seq hp
      have fl := fm_len (seg tr (t - k) t).reverse
      have sl := seg_len (tr := tr) (b := t - k) (t := t)
      rw [List.length_reverse] at fl
      refine jnS (M := fun σ H' => Same H H' ∧ H' B = some (.lst (gL tr m t)) ∧ H' S = some (.lst ((fm (seg tr bb t).reverse).map V.int)) ∧ σ = [sR p, sI m, sR B, sI t, sR S, sI (low : Nat), sI (bb : Nat)]) ?_ (fun N3 k3 => ?_)
      · rintro σ H5 ⟨s5, gB5, gS5, rfl⟩
        have dr : (fm (seg tr bb t).reverse).length = dif (seg tr bb t) := dif_rev _
        walk_at "go"
        refine jnS (M := fun σ H' => dif (seg tr bb t) ≤ m ∧ H' = H5 ∧ σ = [sR p, sI m, sR B, sI t, sR S, sI (low : Nat), sI (bb : Nat)]) ?_ (fun N4 k4 => ?_)
        · rintro σ H6 ⟨dm, rfl, rfl⟩
          have fw := few_low m1 ht hb dm
          walk_at "go"
          refine ⟨B, _, _, _, rfl, rfl, SqL.of gB5, gL_get hb, ?_⟩
          walk_at "go"
          refine ⟨_, _, rfl, ?_⟩
          refine ob ⟨s5, gB5, by rw [show t - (k + 1) = bb by omega]; exact gS5, if gN tr m bb + 1 < low then gN tr m bb + 1 else low, sI (bb : Nat), ?_, ?_, fun z => ?_, ?_⟩
          · split <;> omega
          · split <;> omega
          · by_cases e : ls = bb
            · have lg := last_g L
              rw [e] at lg
              split <;> omega
            · have := l2 (by omega)
              split <;> omega
          · have ev : (if ((gN tr m bb : Nat) : Int) + 1 < (low : Int) then ((gN tr m bb : Nat) : Int) + 1 else (low : Int)) = ((if gN tr m bb + 1 < low then gN tr m bb + 1 else low : Nat) : Int) := by
              split <;> split <;> omega
            rw [← ev]
            rfl
        · walk_at "go"
          rw [List.length_map, dr]
          refine ifD (fun c => ?_) (fun c => ?_)
          · have lt := L.ok
            have : t - k ≤ ls := by
              by_cases z : ls ≤ bb
              · have := dif_le (seg_sub (tr := tr) z (Nat.le_refl t))
                omega
              · omega
            rw [l2 this]
            exact kk _ _ ⟨s5, _, _, gB5, rfl⟩
          · exact k4 _ _ ⟨by omega, rfl, rfl⟩
      · generalize tr[bb] = xv at *
        generalize fm (seg tr (t - k) t).reverse = ff at *
        walk_at "go"
        refine ⟨_, _, _, _, rfl, rfl, hp4, ab, ?_⟩
        walk_at "go"
        refine ⟨flat_ints _, ?_⟩
        rw [inV_ints]
        walk_at "go"
        refine ifN ?_
        refine ifD (fun c => ?_) (fun c => ?_)
        · rw [if_pos c] at fr
          exact k3 _ _ ⟨s4, gB4, by rw [fr]; exact gS4, rfl⟩
        · rw [if_neg c] at fr
          walk_at "go"
          refine ⟨_, _, _, _, rfl, rfl, hp4, ab, ?_⟩
          walk_at "go"
          refine ⟨S, _, _, rfl, rfl, gS4, sz5 (by rw [List.length_map]; omega), ?_⟩
          exact k3 _ _ ⟨same_put s4 nS0, by rw [upd_ne hBS]; exact gB4, by rw [fr, upd_same, List.map_append]; rfl, rfl⟩
    · intro σ H4 h
      obtain ⟨s4, gB4, gS4, low, y6, l0, l1, l2, rfl⟩ := unob h
      rw [l2 (by omega)]
      exact kk _ _ ⟨s4, _, _, gB4, rfl⟩
  · intro σ H2 h
    obtain ⟨s2, y3, y4, y5, y6, g2, rfl⟩ := unob h
    rw [show ((tr.length : Int) + 1 - 1).toNat + 1 = tr.length + 1 by omega] at g2
    exact kk _ _ ⟨s2, _, _, _, _, g2, rfl⟩
end

end

section

-- a condition of an operator
local macro_rules | `(tactic| walk_at "cond") => `(tactic| first
  | (show (0 : Int) < _; omega)
  | (show CDiv _ _; constructor <;> (first | decide | omega))
  | (show CMul _ _; first | (refine cmul_l ?_; constructor <;> (first | decide | omega)) | (refine cmul_r ?_; constructor <;> (first | decide | omega)))
  | (show CPow _ _; exact (by refine ⟨by decide, by decide, by decide⟩))
  | (show CDivW _ _; exact ⟨by decide, by decide +kernel⟩))
local macro_rules | `(tactic| walk_at "sq") => `(tactic| first | assumption | exact Dh.mono (same_upd (by assumption)) _ _ (by assumption) | exact .inl (.inl (.inl (by assumption))) | exact .inr (.inl (.inl (by assumption))) | exact SqL.of (by assumption) | exact .inl (by assumption) | exact .inl (SqL.of (by assumption)) | exact SqT.of (by assumption) | exact .inr (SqT.of (by assumption)))
local macro_rules | `(tactic| walk_at "st") => `(tactic| first
  | refine ⟨_, rfl, ?_⟩
  | refine ⟨_, _, rfl, rfl, ?_⟩
  | refine .inl ⟨_, rfl, ?_⟩
  | refine ⟨rfl, ?_⟩
  | refine ⟨_, _, rfl, by walk_at "sq", ?_⟩
  | refine ⟨.inl ⟨rfl, _, SqL.of (by assumption)⟩, ?_⟩
  | refine ⟨by walk_at "cond", ?_⟩
  | (refine' ifBT ?hh ?_; (case hh => first | rfl | assumption))
  | (refine' ifBF ?hh ?_; (case hh => first | rfl | assumption)))
local macro_rules | `(tactic| walk_at "go") => `(tactic| repeat walk_at "st")
local macro_rules | `(tactic| walk_at "yes") => `(tactic| (refine' ifT ?hh ?_; (case hh => first | rfl | decide +kernel)))
local macro_rules | `(tactic| walk_at "no") => `(tactic| (refine' ifF ?hh ?_; (case hh => first | decide +kernel | (intro z; cases z; done))))

local macro_rules | `(tactic| walk_at "st") => `(tactic| refine ⟨_, _, _, _, _, rfl, by assumption, by assumption, by omega, by omega, by omega, by omega, by omega, ?_⟩)
local macro_rules | `(tactic| walk_at "st") => `(tactic| refine ⟨_, _, _, _, _, rfl, Same.seq (by assumption) (by assumption), by assumption, by omega, by omega, by omega, by omega, by omega, ?_⟩)

/-! ### names, trace -/
abbrev s_names : Stmt := topS 7
theorem sc_names : FnScope ["_law_script", "_law_most", "_law_many", "_law_turn", "_law_wide", "_law_low", "_law_k"] ["_law_script", "_law_most"] (C8.fnScope s_names) := C8.fnScope_by (by decide +kernel)
abbrev s_trace : Stmt := topS 8
theorem sc_trace : FnScope ["_law_script", "_law_names_here", "_law_trace_here", "_law_at", "_law_kind", "_law_name"] ["_law_script", "_law_names_here"] (C8.fnScope s_trace) := C8.fnScope_by (by decide +kernel)
def spNames (K : PySem.W.Frag) : Sp := fun vs H Q _ => ∃ (a : Addr) (ns : List Int) (m : Int), vs = [.ref a, .int m] ∧ SqL K H a (ns.map V.int) ∧ ns.length ≤ 63 ∧ 1 ≤ m ∧ m ≤ 100 ∧
  ∀ (r : Addr) (xs : List Int) (H' : Hp), Same H H' → H r = none → 1 ≤ xs.length → (xs.length : Int) ≤ m → H' r = some (.lst (xs.map V.int)) → Q (.ref r) H'
def spTrace (K : PySem.W.Frag) : Sp := fun vs H Q _ => ∃ (a p : Addr) (ns xs : List Int), vs = [.ref a, .ref p] ∧ SqL K H a (ns.map V.int) ∧ ns.length ≤ 63 ∧ SqL K H p (xs.map V.int) ∧ 1 ≤ xs.length ∧ xs.length ≤ 100 ∧
  ∀ (r : Addr) (tr : List Int) (H' : Hp), Same H H' → H r = none → tr.length ≤ 50 → H' r = some (.lst (tr.map V.int)) → Q (.ref r) H'
section
variable {P : Program} {w : World} {K : PySem.W.Frag} {mg : Str → Option Value} {base : Heap}
theorem pick4 {a b c d : V} {i : Int} (h0 : 0 ≤ i) (h1 : i < 4) : ∃ z, (z = a ∨ z = b ∨ z = c ∨ z = d) ∧ atI [a, b, c, d] i = some z := by
  have h : i = 0 ∨ i = 1 ∨ i = 2 ∨ i = 3 := by omega
  rcases h with e | e | e | e <;> subst e
  · exact ⟨a, .inl rfl, rfl⟩
  · exact ⟨b, .inr (.inl rfl), rfl⟩
  · exact ⟨c, .inr (.inr (.inl rfl)), rfl⟩
  · exact ⟨d, .inr (.inr (.inr rfl)), rfl⟩
theorem pick3 {a b c : V} {i : Int} (h0 : 0 ≤ i) (h1 : i < 3) : ∃ z, (z = a ∨ z = b ∨ z = c) ∧ atI [a, b, c] i = some z := by
  have h : i = 0 ∨ i = 1 ∨ i = 2 := by omega
  rcases h with e | e | e <;> subst e
  · exact ⟨a, .inl rfl, rfl⟩
  · exact ⟨b, .inr (.inl rfl), rfl⟩
  · exact ⟨c, .inr (.inr rfl), rfl⟩
theorem ok_names {f : Addr} {fd : FuncData} (D : Def K mg "_law_names" s_names f fd) (b : Binds K fd ["_law_script", "_law_most"] []) (T : Txt mg) (c_number : Cal P w K mg base 1 "_law_number" (spNum K) []) : Cal P w K mg base 2 "_law_names" (spNames K) [] := by
  refine cal0 D b .nil sc_names (fun vs H Q E h => ?_) (fun cdv A outer s H vs Q E hr h => ?_)
  · obtain ⟨a, ns, m, rfl, _⟩ := h
    rfl
  obtain ⟨a, ns, m, rfl, ha, hl, m0, m1, q⟩ := h
  refine ⟨_, (pss_cons (ps_set (i := 2) sc_names.nd rfl (.inl rfl) (pe_op op_add pe_int (C8.pe_c c_number hr (by omega) (by rfl) (pa_cons (pv 0) (pa_cons pe_int (pa_cons pe_int (pa_cons (pv 1) pa_nil)))))))
      (pss_cons (ps_set (i := 3) sc_names.nd rfl (.inr rfl) (pe_op op_add pe_int (C8.pe_c c_number hr (by omega) (by rfl) (pa_cons (pv 0) (pa_cons pe_int (pa_cons pe_int (pa_cons pe_int pa_nil)))))))
      (pss_cons (ps_set (i := 4) sc_names.nd rfl (.inr rfl) (pe_ix (ixL K rfl) (pe_lst (pa_cons pe_int (pa_cons pe_int (pa_cons pe_int (pa_cons (pe_un un_neg pe_int) pa_nil))))) (C8.pe_c c_number hr (by omega) (by rfl) (pa_cons (pv 0) (pa_cons pe_int (pa_cons pe_int (pa_cons pe_int pa_nil))))) (fun _ _ => rfl)))
      (pss_cons (ps_set (i := 5) sc_names.nd rfl (.inr rfl) (pe_ix (ixL K rfl) (pe_lst (pa_cons pe_int (pa_cons pe_int (pa_cons pe_int pa_nil)))) (C8.pe_c c_number hr (by omega) (by rfl) (pa_cons (pv 0) (pa_cons pe_int (pa_cons pe_int (pa_cons pe_int pa_nil))))) (fun _ _ => rfl)))
      (pss_one (ps_ret (pe_lc (own := [("_law_k", 6)]) (g := gName 6) (tt := tYes) rfl sc_names.nd (pi_range1 (by rfl) T.range (pa_cons (pv 2) pa_nil)) (blkOk_by (own := [("_law_k", 6)]) (N := ["_law_script", "_law_most", "_law_many", "_law_turn", "_law_wide", "_law_low", "_law_k"]) (sc := C8.fnScope s_names) (by decide +kernel)) (fun _ _ _ _ _ => (pg_name (i := 6) sc_names.nd rfl (.inl rfl))) (fun _ _ _ _ _ => pts_nil) (fun _ _ _ _ _ => (pe_op op_sub (pe_op op_mul (pv 4) (pe_op op_mod (pe_callTy call_int1 (by rfl) T.int (by decide +kernel) (pa_cons (pe_op op_mul (pv 3) (pe_op op_add (pv 6) pe_int)) pa_nil)) pe_int)) (pv 5)))))))))), ?_⟩
  have t0 : 0 ≤ num ns 0 6 10 := num_nn (by decide)
  have t1 : num ns 0 6 10 < 10 := num_lt (by decide)
  have n0 : 0 ≤ num ns 0 7 m := num_nn (by omega)
  have n1 : num ns 0 7 m < m := num_lt (by omega)
  walk_at "go"
  refine ⟨sz, fun p0 np0 => ?_⟩
  have s1 := same_upd (o := HO.lst [V.int 1, V.int 7, V.int 1000003, V.int (-5)]) np0
  have g1 := upd_same (H := H) (a := p0) (o := HO.lst [V.int 1, V.int 7, V.int 1000003, V.int (-5)])
  have ha1 := s1.seq ha
  generalize upd H p0 (HO.lst [V.int 1, V.int 7, V.int 1000003, V.int (-5)]) = H1 at *
  walk_at "go"
  obtain ⟨z1, hz1, az1⟩ := pick4 (a := V.int 1) (b := V.int 7) (c := V.int 1000003) (d := V.int (-5)) (i := num ns 0 8 4) (num_nn (by decide)) (num_lt (by decide))
  obtain ⟨wd, rfl, wb⟩ : ∃ wd, z1 = .int wd ∧ -(10 ^ 7) ≤ wd ∧ wd ≤ 10 ^ 7 := by
    rcases hz1 with rfl | rfl | rfl | rfl
    · exact ⟨_, rfl, by decide⟩
    · exact ⟨_, rfl, by decide⟩
    · exact ⟨_, rfl, by decide⟩
    · exact ⟨_, rfl, by decide⟩
  refine ⟨_, _, _, _, rfl, rfl, SqL.of g1, az1, ?_⟩
  walk_at "go"
  refine ⟨sz, fun p1 np1 => ?_⟩
  have s2 := s1.trans (same_upd (o := HO.lst [V.int 0, V.int 4, V.int 1000000000]) np1)
  have g2 := upd_same (H := H1) (a := p1) (o := HO.lst [V.int 0, V.int 4, V.int 1000000000])
  have ha2 := s2.seq ha
  generalize upd H1 p1 (HO.lst [V.int 0, V.int 4, V.int 1000000000]) = H2 at *
  walk_at "go"
  obtain ⟨z2, hz2, az2⟩ := pick3 (a := V.int 0) (b := V.int 4) (c := V.int 1000000000) (i := num ns 0 9 3) (num_nn (by decide)) (num_lt (by decide))
  obtain ⟨lo, rfl⟩ : ∃ lo, z2 = .int lo := by
    rcases hz2 with rfl | rfl | rfl <;> exact ⟨_, rfl⟩
  refine ⟨_, _, _, _, rfl, rfl, SqL.of g2, az2, ?_⟩
  clear az1 az2 hz1 hz2 g1 g2 s1 ha1 np0 np1
  walk_at "go"
  refine ⟨by omega, by omega, fun L nL => lc_range (lo := 0) (n := (1 + num ns 0 7 m).toNat) (fun j H' => Ob (Same H2 H' ∧ ∃ xs : List Int, xs.length = j ∧ H' L = some (.lst (xs.map V.int)))) (ob ⟨same_upd nL, [], rfl, upd_same⟩) ?_ ?_⟩
  · intro j H3 hj h
    obtain ⟨s3, xs, lj, g3⟩ := unob h
    refine ⟨rfl, ?_⟩
    walk_at "go"
    refine ⟨_, g3, sz5 (by rw [List.length_map]; omega), ob ⟨same_put s3 nL, xs ++ [wd * ((1 + num ns 0 6 10) * (0 + (j : Int) + 1) % 11) - lo], by rw [List.length_append, lj]; rfl, ?_⟩⟩
    rw [upd_same, List.map_append]
    rfl
  · intro H3 h
    obtain ⟨s3, xs, lj, g3⟩ := unob h
    walk_at "go"
    exact q L xs _ (s2.trans s3) (s2.free nL) (by omega) (by omega) g3
theorem ok_trace {f : Addr} {fd : FuncData} (D : Def K mg "_law_trace" s_trace f fd) (b : Binds K fd ["_law_script", "_law_names_here"] []) (T : Txt mg) (c_number : Cal P w K mg base 1 "_law_number" (spNum K) []) : Cal P w K mg base 2 "_law_trace" (spTrace K) [] := by
  refine cal0 D b .nil sc_trace (fun vs H Q E h => ?_) (fun cdv A outer s H vs Q E hr h => ?_)
  · obtain ⟨a, p, ns, xs, rfl, _⟩ := h
    rfl
  obtain ⟨a, p, ns, xs, rfl, ha, hl, hp, x0, x1, q⟩ := h
  refine ⟨_, (pss_cons (ps_set (i := 2) sc_trace.nd rfl (.inl rfl) (pe_lst pa_nil))
      (pss_cons (ps_mk (ps_for PassesOwn.never rfl (pi_range2 (by rfl) T.range (pa_cons pe_int (pa_cons (pe_op op_add pe_int (C8.pe_c c_number hr (by omega) (by rfl) (pa_cons (pv 0) (pa_cons pe_int (pa_cons pe_int (pa_cons pe_int pa_nil)))))) pa_nil))) (pg_name (i := 3) sc_trace.nd rfl (.inl rfl))
      (pss_cons (ps_set (i := 4) sc_trace.nd rfl (.inl rfl) (C8.pe_c c_number hr (by omega) (by rfl) (pa_cons (pv 0) (pa_cons (pv 3) (pa_cons pe_int (pa_cons pe_int pa_nil))))))
      (pss_cons (ps_set (i := 5) sc_trace.nd rfl (.inl rfl) (pe_ix (ixL K rfl) (pv 1) (C8.pe_c c_number hr (by omega) (by rfl) (pa_cons (pv 0) (pa_cons (pv 3) (pa_cons pe_int (pa_cons (pe_callB (lenQ K rfl) (by rfl) T.len PySem.boot_len (pa_cons (pv 1) pa_nil)) pa_nil))))) (fun _ _ => rfl)))
      (pss_cons (ps_mk (ps_if (pt_cmpR op_eq (pv 4) pe_int (nomark _))
      (pss_one (ps_set (i := 5) sc_trace.nd rfl (.inl rfl) (pe_ix (ixL K rfl) (pv 1) (pe_op op_mod (pe_callTy call_int1 (by rfl) T.int (by decide +kernel) (pa_cons (pv 3) pa_nil)) (pe_callB (lenQ K rfl) (by rfl) T.len PySem.boot_len (pa_cons (pv 1) pa_nil))) (fun _ _ => rfl))))
      pss_nil))
      (pss_cons (ps_mk (ps_if (PW.pt (pw_and (pt_cmpR op_eq (pv 4) pe_int (nomark _)) (pw_and1 (pt_cmpR op_gt (pe_callB (lenQ K rfl) (by rfl) T.len PySem.boot_len (pa_cons (pv 2) pa_nil)) pe_int (nomark _)))))
      (pss_one (ps_set (i := 5) sc_trace.nd rfl (.inl rfl) (pe_ix (ixL K rfl) (pv 2) (C8.pe_c c_number hr (by omega) (by rfl) (pa_cons (pv 0) (pa_cons (pv 3) (pa_cons pe_int (pa_cons (pe_callB (lenQ K rfl) (by rfl) T.len PySem.boot_len (pa_cons (pv 2) pa_nil)) pa_nil))))) (fun _ _ => rfl))))
      pss_nil))
      (pss_one (ps_expr (pe_bm PySem.F.plainAttrs_list PySem.F.slot_list_append PySem.F.type_list_append mt_append (pv 2) (pa_cons (pv 5) pa_nil))))))))))
      (pss_one (ps_ret (pv 2))))), ?_⟩
  walk_at "go"
  refine ⟨sz, fun L nL => ?_⟩
  have s1 := same_upd (o := HO.lst []) nL
  have gL := upd_same (H := H) (a := L) (o := HO.lst [])
  have ha1 := s1.seq ha
  have n0 : 0 ≤ num ns 0 0 51 := num_nn (by decide)
  have n1 : num ns 0 0 51 < 51 := num_lt (by decide)
  generalize upd H L (HO.lst []) = H1 at *
  refine jnS (M := fun σ H' => Same H H' ∧ ∃ (tr : List Int) (y3 y4 y5 : Option V), tr.length ≤ 50 ∧ H' L = some (.lst (tr.map V.int)) ∧ σ = [sR a, sR p, sR L, y3, y4, y5]) ?_ (fun N kk => ?_)
  · rintro σ H2 ⟨s2, tr, y3, y4, y5, lt, g2, rfl⟩
    walk_at "go"
    exact q L tr _ s2 nL lt g2
  walk_at "go"
  refine ⟨_, _, rfl, ⟨by omega, by omega, by omega, by omega⟩, for_range (lo := 1) (n := (1 + num ns 0 0 51 - 1).toNat) (fun j σ H' => Ob (Same H H' ∧ ∃ (tr : List Int) (y3 y4 y5 : Option V), tr.length = j ∧ H' L = some (.lst (tr.map V.int)) ∧ σ = [sR a, sR p, sR L, y3, y4, y5])) (ob ⟨s1, [], none, none, none, rfl, gL, rfl⟩) ?_ ?_⟩
  · intro j σ H2 hj h
    obtain ⟨s2, tr, y3, y4, y5, lt, g2, rfl⟩ := unob h
    obtain ⟨t, et⟩ : ∃ t : Int, t = 1 + (j : Int) := ⟨_, rfl⟩
    have ht : 1 ≤ t ∧ t ≤ 50 := by omega
    rw [← et]
    clear h kk gL ha1 s1
    have ha2 := s2.seq ha
    have hp2 := s2.seq hp
    have xp : 0 < (xs.length : Int) := by omega
    walk_at "go"
    rw [List.length_map]
    walk_at "go"
    have nb : ∀ (i k : Int), 0 ≤ num ns i k (xs.length : Int) ∧ num ns i k (xs.length : Int) < (xs.length : Int) := fun i k => ⟨num_nn xp, num_lt xp⟩
    refine ⟨_, _, _, _, rfl, rfl, hp2, atI_getD (nb _ _).1 (nb _ _).2, ?_⟩
    refine jnS (M := fun σ H' => H' = H2 ∧ ∃ v : Int, σ = [sR a, sR p, sR L, sI t, sI (num ns t 1 6), sI v]) ?_ (fun N kk => ?_)
    rotate_left
    · walk_at "go"
      refine ifEq (fun c => ?_) (fun c => ?_)
      · walk_at "go"
        rw [List.length_map]
        walk_at "go"
        refine ⟨_, _, _, _, rfl, rfl, hp2, atI_getD (Int.emod_nonneg _ (by omega)) (Int.emod_lt_of_pos _ xp), ?_⟩
        exact kk _ _ ⟨rfl, _, rfl⟩
      · exact kk _ _ ⟨rfl, _, rfl⟩
    rintro σ H3 ⟨rfl, v, rfl⟩
    refine jnS (M := fun σ H' => H' = H3 ∧ ∃ v : Int, σ = [sR a, sR p, sR L, sI t, sI (num ns t 1 6), sI v]) ?_ (fun N kk => ?_)
    rotate_left
    · walk_at "go"
      refine ifEq (fun c => ?_) (fun c => ?_)
      · walk_at "go"
        refine ifD (fun c2 => ?_) (fun c2 => ?_)
        · rw [List.length_map] at c2
          walk_at "go"
          rw [List.length_map]
          walk_at "go"
          have xt : 0 < (tr.length : Int) := by omega
          refine ⟨_, _, _, _, rfl, rfl, SqL.of g2, atI_getD (num_nn xt) (num_lt xt), ?_⟩
          exact kk _ _ ⟨rfl, _, rfl⟩
        · exact kk _ _ ⟨rfl, _, rfl⟩
      · exact kk _ _ ⟨rfl, _, rfl⟩
    rintro σ H4 ⟨rfl, v2, rfl⟩
    walk_at "go"
    refine ⟨L, _, _, rfl, rfl, g2, sz5 (by rw [List.length_map]; omega), ?_⟩
    refine ob ⟨same_put s2 nL, tr ++ [v2], _, _, _, by rw [List.length_append, lt]; rfl, ?_, rfl⟩
    rw [upd_same, List.map_append]
    rfl
  · intro σ H2 h
    obtain ⟨s2, tr, y3, y4, y5, lt, g2, rfl⟩ := unob h
    exact kk _ _ ⟨s2, tr, _, _, _, by omega, g2, rfl⟩
end

end

section

-- a condition of an operator
local macro_rules | `(tactic| walk_at "cond") => `(tactic| first
  | (show (0 : Int) < _; omega)
  | (show CDiv _ _; constructor <;> (first | decide | omega))
  | (show CMul _ _; first | (refine cmul_l ?_; constructor <;> (first | decide | omega)) | (refine cmul_r ?_; constructor <;> (first | decide | omega)))
  | (show CPow _ _; exact (by refine ⟨by decide, by decide, by decide⟩))
  | (show CDivW _ _; exact ⟨by decide, by decide +kernel⟩))
local macro_rules | `(tactic| walk_at "sq") => `(tactic| first | assumption | exact Dh.mono (same_upd (by assumption)) _ _ (by assumption) | exact .inl (.inl (.inl (by assumption))) | exact .inr (.inl (.inl (by assumption))) | exact SqL.of (by assumption) | exact .inl (by assumption) | exact .inl (SqL.of (by assumption)) | exact SqT.of (by assumption) | exact .inr (SqT.of (by assumption)))
local macro_rules | `(tactic| walk_at "st") => `(tactic| first
  | refine ⟨_, rfl, ?_⟩
  | refine ⟨_, _, rfl, rfl, ?_⟩
  | refine .inl ⟨_, rfl, ?_⟩
  | refine ⟨rfl, ?_⟩
  | refine ⟨_, _, rfl, by walk_at "sq", ?_⟩
  | refine ⟨.inl ⟨rfl, _, SqL.of (by assumption)⟩, ?_⟩
  | refine ⟨by walk_at "cond", ?_⟩
  | (refine' ifBT ?hh ?_; (case hh => first | rfl | assumption))
  | (refine' ifBF ?hh ?_; (case hh => first | rfl | assumption)))
local macro_rules | `(tactic| walk_at "go") => `(tactic| repeat walk_at "st")
local macro_rules | `(tactic| walk_at "yes") => `(tactic| (refine' ifT ?hh ?_; (case hh => first | rfl | decide +kernel)))
local macro_rules | `(tactic| walk_at "no") => `(tactic| (refine' ifF ?hh ?_; (case hh => first | decide +kernel | (intro z; cases z; done))))

local macro_rules | `(tactic| walk_at "st") => `(tactic| refine ⟨_, _, _, _, _, rfl, by assumption, by assumption, by omega, by omega, by omega, by omega, by omega, ?_⟩)
local macro_rules | `(tactic| walk_at "st") => `(tactic| refine ⟨_, _, _, _, _, rfl, Same.seq (by assumption) (by assumption), by assumption, by omega, by omega, by omega, by omega, by omega, ?_⟩)

/-! ### law (k24) -/
abbrev s_law : Stmt := topS 12
theorem sc_law : FnScope ["_law_script", "_law_trace_here", "_law_many", "_law_wide", "_law_due", "_law_at", "_law_size", "_law_handed", "_law_told"] ["_law_script"] (C8.fnScope s_law) := C8.fnScope_by (by decide +kernel)
def spLaw (K : PySem.W.Frag) : Sp := fun vs H Q _ => ∃ (a : Addr) (ns : List Int), vs = [.ref a] ∧ SqL K H a (ns.map V.int) ∧ ns.length ≤ 63 ∧ ∀ H', Q (.bl true) H'
theorem dh_ints {H : Hp} : ∀ (ns : List Int), DhAll H (ns.map PyData.int) (ns.map V.int)
  | [] => rfl
  | n :: ns => ⟨.int n, ns.map V.int, rfl, rfl, dh_ints ns⟩
theorem lay_ints : ∀ ns : List Int, PyData.canLayAll0 (ns.map PyData.int) = true
  | [] => by simp [PyData.canLayAll0]
  | n :: ns => by
    simp only [List.map_cons, PyData.canLayAll0, PyData.canLay0, lay_ints ns, Bool.and_self]
theorem depth_ints : ∀ ns : List Int, PyData.depthAll (ns.map PyData.int) ≤ 1
  | [] => by simp [PyData.depthAll]
  | n :: ns => by
    have h := depth_ints ns
    simp only [List.map_cons, PyData.depthAll, PyData.depth]
    omega
theorem shaped_ints (ns : List Int) : SeqAt.shaped (.list (ns.map PyData.int)) = true := by
  have h1 := depth_ints ns
  have h2 : PyData.depth (.list (ns.map PyData.int)) ≤ 64 := by
    simp only [PyData.depth]
    omega
  show (PyData.canLay0 (.list (ns.map PyData.int)) && decide (PyData.depth (.list (ns.map PyData.int)) ≤ 64)) = true
  rw [Bool.and_eq_true]
  exact ⟨by simp only [PyData.canLay0]; exact lay_ints ns, decide_eq_true h2⟩
theorem eqvA_ints : ∀ ns : List Int, PyData.eqvAll (ns.map PyData.int) (ns.map PyData.int) = true
  | [] => by simp [PyData.eqvAll]
  | n :: ns => by
    simp only [List.map_cons, PyData.eqvAll, PyData.eqv, eqvA_ints ns, beq_self_eq_true, Bool.and_self]
theorem eqv_ints (ns : List Int) : PyData.eqv (.list (ns.map PyData.int)) (.list (ns.map PyData.int)) = true := by
  rw [PyData.eqv]
  exact eqvA_ints ns
theorem dle_ints (n : Nat) (ns : List Int) (h : ns.length ≤ 100000) : Dle (n + 2) (.list (ns.map PyData.int)) := ⟨by rw [List.length_map]; exact h, fun e he => by
  obtain ⟨x, _, rfl⟩ := List.mem_map.mp he
  trivial⟩
theorem iN_ints (xs : List Nat) : iN xs = (xs.map fun (k : Nat) => (k : Int)).map V.int := by
  unfold iN
  rw [List.map_map]
  rfl
section
variable {P : Program} {w : World} {K : PySem.W.Frag} {mg : Str → Option Value} {base : Heap}
theorem ok_law {f : Addr} {fd : FuncData} (D : Def K mg "law" s_law f fd) (T : TxtK mg) (c_number : Cal P w K mg base 1 "_law_number" (spNum K) []) (c_names : Cal P w K mg base 2 "_law_names" (spNames K) []) (c_trace : Cal P w K mg base 2 "_law_trace" (spTrace K) [])
    (c_different : Cal P w K mg base 1 "_law_different" (spDif K) []) (c_working_set : Cal P w K mg base 1 "working_set" (spWs K) []) (c_phases : Cal P w K mg base 1 "phases" (spStr K) []) (c_stretches : Cal P w K mg base 2 "_law_stretches" (spStr K) [])
    (c_fewest_stretches : Cal P w K mg base 1 "_law_fewest_stretches" (spFew K) []) (c_same : Cal P w K mg base 3 "_law_same" (spSame 2) []) : FnOk P w K mg base C8.CX0 4 f fd ["_law_script"] (spLaw K) := by
  refine C8.fn0 D.fn sc_law (fun vs H Q E h => ?_) (fun cdv A outer s H vs Q E hr h => ?_)
  · obtain ⟨a, ns, rfl, _⟩ := h
    rfl
  obtain ⟨a, ns, rfl, hS, hl, q⟩ := h
  refine ⟨_, (pss_cons (ps_set (i := 1) sc_law.nd rfl (.inr rfl) (C8.pe_c c_trace hr (by omega) (by rfl) (pa_cons (pv 0) (pa_cons (C8.pe_c c_names hr (by omega) (by rfl) (pa_cons (pv 0) (pa_cons pe_int pa_nil))) pa_nil))))
      (pss_cons (ps_set (i := 2) sc_law.nd rfl (.inl rfl) (pe_op op_add pe_int (C8.pe_c c_number hr (by omega) (by rfl) (pa_cons (pv 0) (pa_cons pe_int (pa_cons pe_int (pa_cons pe_int pa_nil)))))))
      (pss_cons (ps_set (i := 3) sc_law.nd rfl (.inr rfl) (pe_op op_add pe_int (C8.pe_c c_number hr (by omega) (by rfl) (pa_cons (pv 0) (pa_cons pe_int (pa_cons pe_int (pa_cons pe_int pa_nil)))))))
      (pss_cons (ps_setLc (i := 4) (own := [("_law_at", 5)]) (g := gName 5) (tt := tYes) rfl sc_law.nd rfl rfl (sw_true rfl rfl rfl (by decide +kernel)) (pi_range1 (by rfl) T.range (pa_cons (pe_callB (lenQ K rfl) (by rfl) T.len PySem.boot_len (pa_cons (pv 1) pa_nil)) pa_nil)) (blkOk_by (own := [("_law_at", 5)]) (N := ["_law_script", "_law_trace_here", "_law_many", "_law_wide", "_law_due", "_law_at", "_law_size", "_law_handed", "_law_told"]) (sc := C8.fnScope s_law) (by decide +kernel)) (fun _ _ _ _ _ => (pg_name (i := 5) sc_law.nd rfl (.inl rfl))) (fun _ _ _ _ _ => pts_nil) (fun _ _ _ _ _ => (C8.pe_c c_different hr (by omega) (by rfl) (pa_cons (pe_slice (slL K rfl) (pv 1) (po_some (pe_callB (call_max2 rfl) (by rfl) T.max (by decide +kernel) (pa_cons pe_int (pa_cons (pe_op op_add (pe_op op_sub (pv 5) (pv 3)) pe_int) pa_nil)))) (po_some (pe_op op_add (pv 5) pe_int))) pa_nil))))
      (pss_cons (ps_mk (ps_for PassesOwn.never rfl (pi_list (pe_lst (pa_cons (pv 2) (pa_cons (pe_op op_add (pv 2) pe_int) (pa_cons (pv 2) pa_nil))))) (pg_name (i := 6) sc_law.nd rfl (.inl rfl))
      (pss_cons (ps_set (i := 7) sc_law.nd rfl (.inl rfl) (pe_callTy (listQ K rfl) (by rfl) T.list (by decide +kernel) (pa_cons (pv 1) pa_nil)))
      (pss_cons (ps_set (i := 8) sc_law.nd rfl (.inl rfl) (C8.pe_c c_working_set hr (by omega) (by rfl) (pa_cons (pv 7) (pa_cons (pv 3) pa_nil))))
      (pss_cons (ps_mk (ps_if (PW.pt (pw_or (pt_not (pt_val (C8.pe_c c_same hr (by omega) (by rfl) (pa_cons (pv 8) (pa_cons (pv 4) pa_nil))))) (pw_or1 (pt_cmpR (neQ K rfl hr.units) (pv 7) (pv 1) (nomark _)))))
      (pss_one (ps_ret pe_bl))
      pss_nil))
      (pss_cons (ps_expr (pe_bm PySem.F.plainAttrs_list PySem.F.slot_list_append PySem.F.type_list_append mt_append (pv 8) (pa_cons (pv 6) pa_nil)))
      (pss_cons (ps_set (i := 8) sc_law.nd rfl (.inl rfl) (C8.pe_c c_phases hr (by omega) (by rfl) (pa_cons (pv 7) (pa_cons (pv 6) pa_nil))))
      (pss_cons (ps_mk (ps_if (PW.pt (pw_or (pt_not (pt_val (C8.pe_c c_same hr (by omega) (by rfl) (pa_cons (pv 8) (pa_cons (C8.pe_c c_stretches hr (by omega) (by rfl) (pa_cons (pv 1) (pa_cons (pv 6) pa_nil))) pa_nil))))) (pw_or1 (pt_cmpR (neQ K rfl hr.units) (pv 7) (pv 1) (nomark _)))))
      (pss_one (ps_ret pe_bl))
      pss_nil))
      (pss_cons (ps_mk (ps_if (pt_cmpR op_ne (pe_callB (lenQ K rfl) (by rfl) T.len PySem.boot_len (pa_cons (pv 8) pa_nil)) (C8.pe_c c_fewest_stretches hr (by omega) (by rfl) (pa_cons (pv 1) (pa_cons (pv 6) pa_nil))) (nomark _))
      (pss_one (ps_ret pe_bl))
      pss_nil))
      (pss_one (ps_expr (pe_bm PySem.F.plainAttrs_list PySem.F.slot_list_append PySem.F.type_list_append mt_append (pv 8) (pa_cons (pv 6) pa_nil)))))))))))))
      (pss_one (ps_ret pe_bl))))))), ?_⟩
  walk_at "go"
  refine ⟨_, _, _, rfl, hS, hl, by omega, by omega, fun r xs H1 s1 nr x0 x1 gr => ?_⟩
  walk_at "go"
  refine ⟨_, _, _, _, rfl, s1.seq hS, hl, SqL.of gr, x0, by omega, fun p tr H2 s2 np tl gp => ?_⟩
  have s12 := s1.trans s2
  have hS2 := s12.seq hS
  have m0 : 0 ≤ num ns 0 1 6 := num_nn (by decide)
  have m1 : num ns 0 1 6 < 6 := num_lt (by decide)
  have w0 : 0 ≤ num ns 0 2 60 := num_nn (by decide)
  have w1 : num ns 0 2 60 < 60 := num_lt (by decide)
  clear s1 s2 np gr nr x0 x1
  walk_at "go"
  obtain ⟨m, em⟩ : ∃ m : Nat, (m : Int) = 1 + num ns 0 1 6 := ⟨(1 + num ns 0 1 6).toNat, by omega⟩
  obtain ⟨wd, ew⟩ : ∃ m : Nat, (m : Int) = 1 + num ns 0 2 60 := ⟨(1 + num ns 0 2 60).toNat, by omega⟩
  rw [List.length_map]
  have hp2 := SqL.of (K := K) gp
  refine ⟨by omega, by omega, fun L nL => lc_range (lo := 0) (n := tr.length) (fun j H' => Ob (Same H2 H' ∧ H' L = some (.lst ((wsL tr wd j).map V.int)))) (ob ⟨same_upd nL, upd_same⟩) ?_ ?_⟩
  · intro j H3 hj h
    obtain ⟨s3, g3⟩ := unob h
    have hp3 := s3.seq hp2
    refine ⟨rfl, ?_⟩
    rw [Int.zero_add]
    walk_at "go"
    refine ⟨_, _, rfl, ?_⟩
    walk_at "go"
    intro t nt
    rw [← ew, max_win, show ((j : Int) + 1) = ((j + 1 : Nat) : Int) by omega, cut_seg (by omega)]
    have s4 := same_upd (o := HO.lst ((seg tr (j + 1 - wd) (j + 1)).map V.int)) nt
    refine ⟨t, seg tr (j + 1 - wd) (j + 1), rfl, SqL.of upd_same, Nat.le_trans seg_len (by omega), fun H5 s5 => ?_⟩
    have s35 := s3.trans (s4.trans s5)
    refine ⟨_, (s4.trans s5) _ _ g3, sz5 (by rw [List.length_map, wsL_len]; omega), ob ⟨same_put s35 nL, ?_⟩⟩
    rw [upd_same, wsL_snoc, List.map_append]
    rfl
  intro H3 h
  obtain ⟨s3, g3⟩ := unob h
  have s13 := s12.trans s3
  have gp := s3 _ _ gp
  have hS3 := s13.seq hS
  clear s12 hS2 hp2 h nL
  refine jnS (M := fun _ _ => True) (fun σ H' _ => ?_) (fun N kk => ?_)
  · walk_at "go"
    exact q _
  walk_at "go"
  refine ⟨sz, fun z nz => ?_⟩
  have s4 := same_upd (o := HO.lst [V.int (1 + num ns 0 1 6), V.int (1 + num ns 0 1 6 + 2), V.int (1 + num ns 0 1 6)]) nz
  have gz := upd_same (H := H3) (a := z) (o := HO.lst [V.int (1 + num ns 0 1 6), V.int (1 + num ns 0 1 6 + 2), V.int (1 + num ns 0 1 6)])
  have gp := s4 _ _ gp
  have g3 := s4 _ _ g3
  have s14 := s13.trans s4
  refine ⟨z, rfl, ⟨_, SqL.of gz⟩, for_list (K := K) (a := z) (xs := [V.int (1 + num ns 0 1 6), V.int (1 + num ns 0 1 6 + 2), V.int (1 + num ns 0 1 6)]) (fun i σ H' => Ob (Same (upd H3 z (HO.lst [V.int (1 + num ns 0 1 6), V.int (1 + num ns 0 1 6 + 2), V.int (1 + num ns 0 1 6)])) H' ∧ ∃ y6 y7 y8, σ = [sR a, sR p, sI m, sI wd, sR L, none, y6, y7, y8])) (ob ⟨same_rfl, none, none, none, by rw [em, ew]; rfl⟩) (fun i σ H' _ h => (unob h).1.seq (SqL.of gz)) ?_ (fun σ H' _ => kk _ _ trivial)⟩
  intro i x σ H5 hi h
  obtain ⟨s5, y6, y7, y8, rfl⟩ := unob h
  obtain ⟨sz0, rfl, z0, z1⟩ : ∃ sz0 : Nat, x = .int (sz0 : Nat) ∧ 1 ≤ sz0 ∧ sz0 ≤ 20 := by
    have h3 : i < 3 := (List.getElem?_eq_some_iff.mp hi).1
    have : i = 0 ∨ i = 1 ∨ i = 2 := by omega
    rcases this with rfl | rfl | rfl
    · exact ⟨m, by rw [em]; exact (Option.some.inj hi).symm, by omega, by omega⟩
    · exact ⟨m + 2, by rw [show ((m + 2 : Nat) : Int) = (m : Int) + 2 by omega, em]; exact (Option.some.inj hi).symm, by omega, by omega⟩
    · exact ⟨m, by rw [em]; exact (Option.some.inj hi).symm, by omega, by omega⟩
  generalize upd H3 z (HO.lst [V.int (1 + num ns 0 1 6), V.int (1 + num ns 0 1 6 + 2), V.int (1 + num ns 0 1 6)]) = H4 at *
  clear hi h kk s4 gz s13 hS3
  have gp5 := s5 _ _ gp
  have g35 := s5 _ _ g3
  walk_at "go"
  intro G nG
  have nG4 := s5.free nG
  have s6 := s5.trans (same_upd (o := HO.lst (tr.map V.int)) nG)
  have gG := upd_same (H := H5) (a := G) (o := HO.lst (tr.map V.int))
  have gp6 := same_upd (o := HO.lst (tr.map V.int)) nG _ _ gp5
  generalize upd H5 G (HO.lst (tr.map V.int)) = H6 at *
  clear s5 gp5 g35 nG
  walk_at "go"
  refine ⟨G, tr, wd, rfl, SqL.of gG, by omega, by omega, by omega, fun r H7 s7 nr gr => ?_⟩
  have s7' := s6.trans s7
  have gG7 := s7 _ _ gG
  have g37 := s7' _ _ g3
  have gp7 := s7' _ _ gp
  have nr4 := s6.free nr
  have hGr : G ≠ r := ne_of_none gG nr
  clear s7 gG gp6 nr
  have lw := wsL_len tr wd tr.length
  refine jnS (M := fun σ H' => Same H7 H' ∧ σ = [sR a, sR p, sI m, sI wd, sR L, none, sI (sz0 : Nat), sR G, sR r]) ?_ (fun N kk => ?_)
  rotate_left
  · walk_at "go"
    refine ⟨_, _, .list ((wsL tr wd tr.length).map PyData.int), .list ((wsL tr wd tr.length).map PyData.int), rfl, ⟨r, _, rfl, gr, dh_ints _⟩, ⟨L, _, rfl, g37, dh_ints _⟩, dle_ints 0 _ (by omega), fun bo H8 hb s8 => ?_⟩
    obtain rfl : bo = true := hb.mpr rfl
    walk_at "go"
    refine ⟨.list (tr.map PyData.int), .list (tr.map PyData.int), Dh.dp _ _ ⟨G, _, rfl, s8 _ _ gG7, dh_ints _⟩, Dh.dp _ _ ⟨p, _, rfl, s8 _ _ gp7, dh_ints _⟩, shaped_ints _, shaped_ints _, ?_⟩
    walk_at "go"
    refine ifN ?_
    refine ifBT (eqv_ints _) ?_
    exact kk _ _ ⟨s8, rfl⟩
  rintro σ H8 ⟨s8, rfl⟩
  have gr8 := s8 _ _ gr
  have gG8 := s8 _ _ gG7
  have s8 := s7'.trans s8
  clear s7' gr gG7 g37 gp7
  walk_at "go"
  refine ⟨r, _, _, rfl, rfl, gr8, sz5 (by rw [List.length_map]; omega), ?_⟩
  have s9 := same_put (o := HO.lst ((wsL tr wd tr.length).map V.int ++ [V.int (sz0 : Nat)])) s8 nr4
  have gG9 : (upd H8 r (HO.lst ((wsL tr wd tr.length).map V.int ++ [V.int (sz0 : Nat)]))) G = some (.lst (tr.map V.int)) := by
    rw [upd_ne hGr]
    exact gG8
  show _
  generalize upd H8 r (HO.lst ((wsL tr wd tr.length).map V.int ++ [V.int (sz0 : Nat)])) = H9 at *
  clear s8 gr8 gG8 hGr nr4
  walk_at "go"
  refine ⟨G, tr, sz0, rfl, SqL.of gG9, by omega, z0, fun r2 H10 s10 nr2 gr2 => ?_⟩
  have s10' := s9.trans s10
  have gG10 := s10 _ _ gG9
  have nr24 := s9.free nr2
  clear s10 nr2 gG9
  rw [iN_ints] at gr2
  have ln : ((stN tr sz0 tr.length).map fun (k : Nat) => (k : Int)).length = gN tr sz0 tr.length := List.length_map _
  have gl := gN_le tr sz0 tr.length
  generalize hss : ((stN tr sz0 tr.length).map fun (k : Nat) => (k : Int)) = ss at *
  refine jnS (M := fun σ H' => Same H10 H' ∧ σ = [sR a, sR p, sI m, sI wd, sR L, none, sI (sz0 : Nat), sR G, sR r2]) ?_ (fun N kk => ?_)
  rotate_left
  · have gp10 := s10' _ _ gp
    walk_at "go"
    refine ⟨p, tr, sz0, rfl, SqL.of gp10, by omega, z0, fun r3 H11 s11 nr3 gr3 => ?_⟩
    rw [iN_ints, hss] at gr3
    walk_at "go"
    refine ⟨_, _, .list (ss.map PyData.int), .list (ss.map PyData.int), rfl, ⟨r2, _, rfl, s11 _ _ gr2, dh_ints _⟩, ⟨r3, _, rfl, gr3, dh_ints _⟩, dle_ints 0 _ (by omega), fun bo H12 hb s12 => ?_⟩
    obtain rfl : bo = true := hb.mpr rfl
    have s1112 := s11.trans s12
    walk_at "go"
    refine ⟨.list (tr.map PyData.int), .list (tr.map PyData.int), Dh.dp _ _ ⟨G, _, rfl, s1112 _ _ gG10, dh_ints _⟩, Dh.dp _ _ ⟨p, _, rfl, s1112 _ _ gp10, dh_ints _⟩, shaped_ints _, shaped_ints _, ?_⟩
    walk_at "go"
    refine ifN ?_
    refine ifBT (eqv_ints _) ?_
    exact kk _ _ ⟨s1112, rfl⟩
  rintro σ H11 ⟨s11, rfl⟩
  have gr11 := s11 _ _ gr2
  have s11 := s10'.trans s11
  clear s10' gr2 gG10
  refine jnS (M := fun σ H' => Same H11 H' ∧ σ = [sR a, sR p, sI m, sI wd, sR L, none, sI (sz0 : Nat), sR G, sR r2]) ?_ (fun N kk => ?_)
  rotate_left
  · have gp11 := s11 _ _ gp
    walk_at "go"
    rw [List.length_map, ln]
    refine ⟨p, tr, sz0, rfl, SqL.of gp11, by omega, z0, fun H12 s12 => ?_⟩
    walk_at "go"
    refine ifNe (fun c => absurd rfl c) (fun _ => ?_)
    exact kk _ _ ⟨s12, rfl⟩
  rintro σ H12 ⟨s12, rfl⟩
  have gr12 := s12 _ _ gr11
  have s12 := s11.trans s12
  walk_at "go"
  refine ⟨r2, _, _, rfl, rfl, gr12, sz5 (by rw [List.length_map]; omega), ?_⟩
  exact ob ⟨same_put s12 nr24, _, _, _, rfl⟩
end

end

section

-- a condition of an operator
local macro_rules | `(tactic| walk_at "cond") => `(tactic| first
  | (show (0 : Int) < _; omega)
  | (show CDiv _ _; constructor <;> (first | decide | omega))
  | (show CMul _ _; first | (refine cmul_l ?_; constructor <;> (first | decide | omega)) | (refine cmul_r ?_; constructor <;> (first | decide | omega)))
  | (show CPow _ _; exact (by refine ⟨by decide, by decide, by decide⟩))
  | (show CDivW _ _; exact ⟨by decide, by decide +kernel⟩))
local macro_rules | `(tactic| walk_at "sq") => `(tactic| first | assumption | exact Dh.mono (same_upd (by assumption)) _ _ (by assumption) | exact .inl (.inl (.inl (by assumption))) | exact .inr (.inl (.inl (by assumption))) | exact SqL.of (by assumption) | exact .inl (by assumption) | exact .inl (SqL.of (by assumption)) | exact SqT.of (by assumption) | exact .inr (SqT.of (by assumption)))
local macro_rules | `(tactic| walk_at "st") => `(tactic| first
  | refine ⟨_, rfl, ?_⟩
  | refine ⟨_, _, rfl, rfl, ?_⟩
  | refine .inl ⟨_, rfl, ?_⟩
  | refine ⟨rfl, ?_⟩
  | refine ⟨_, _, rfl, by walk_at "sq", ?_⟩
  | refine ⟨.inl ⟨rfl, _, SqL.of (by assumption)⟩, ?_⟩
  | refine ⟨by walk_at "cond", ?_⟩
  | (refine' ifBT ?hh ?_; (case hh => first | rfl | assumption))
  | (refine' ifBF ?hh ?_; (case hh => first | rfl | assumption)))
local macro_rules | `(tactic| walk_at "go") => `(tactic| repeat walk_at "st")
local macro_rules | `(tactic| walk_at "yes") => `(tactic| (refine' ifT ?hh ?_; (case hh => first | rfl | decide +kernel)))
local macro_rules | `(tactic| walk_at "no") => `(tactic| (refine' ifF ?hh ?_; (case hh => first | decide +kernel | (intro z; cases z; done))))

theorem all_mk {l : PySem.W.OpenLaw} {w : World} {K : PySem.W.Frag} {h : Heap} {mg : Str → Option Value} {fa : Addr} (X : K.In h) (G : h.Ns mainGlobals mg) (hfa : mg "law" = some (.ref fa))
    {od_working_set an_working_set : Option Addr} {sl_working_set : Array (Option Value)} {f_working_set : Addr} {oc_working_set kV_working_set dc_working_set pm_working_set cd_working_set ct_working_set : Value}
    (a_working_set : PySem.W.nsIn K mainGlobals "working_set" = some (some (.ref f_working_set)))
    (l_working_set : K.lookup f_working_set = some ⟨oc_working_set, od_working_set, .func (PySem.W.fnOf "working_set" "working_set" (C8.fnArgs s_working_set) (C8.fnBody s_working_set) (C8.fnScope s_working_set) .none kV_working_set dc_working_set pm_working_set an_working_set cd_working_set ct_working_set), sl_working_set⟩)
    (c_working_set : PySem.W.codeIn K cd_working_set "working_set" = true) (k_working_set : PySem.W.keepIn K (.ref f_working_set) = true)
    {od_phases an_phases : Option Addr} {sl_phases : Array (Option Value)} {f_phases : Addr} {oc_phases kV_phases dc_phases pm_phases cd_phases ct_phases : Value}
    (a_phases : PySem.W.nsIn K mainGlobals "phases" = some (some (.ref f_phases)))
    (l_phases : K.lookup f_phases = some ⟨oc_phases, od_phases, .func (PySem.W.fnOf "phases" "phases" (C8.fnArgs s_phases) (C8.fnBody s_phases) (C8.fnScope s_phases) .none kV_phases dc_phases pm_phases an_phases cd_phases ct_phases), sl_phases⟩)
    (c_phases : PySem.W.codeIn K cd_phases "phases" = true) (k_phases : PySem.W.keepIn K (.ref f_phases) = true)
    {od_number an_number : Option Addr} {sl_number : Array (Option Value)} {f_number : Addr} {oc_number kV_number dc_number pm_number cd_number ct_number : Value}
    (a_number : PySem.W.nsIn K mainGlobals "_law_number" = some (some (.ref f_number)))
    (l_number : K.lookup f_number = some ⟨oc_number, od_number, .func (PySem.W.fnOf "_law_number" "_law_number" (C8.fnArgs s_number) (C8.fnBody s_number) (C8.fnScope s_number) .none kV_number dc_number pm_number an_number cd_number ct_number), sl_number⟩)
    (c_number : PySem.W.codeIn K cd_number "_law_number" = true) (k_number : PySem.W.keepIn K (.ref f_number) = true)
    {od_is_whole an_is_whole : Option Addr} {sl_is_whole : Array (Option Value)} {f_is_whole : Addr} {oc_is_whole kV_is_whole dc_is_whole pm_is_whole cd_is_whole ct_is_whole : Value}
    (a_is_whole : PySem.W.nsIn K mainGlobals "_law_is_whole" = some (some (.ref f_is_whole)))
    (l_is_whole : K.lookup f_is_whole = some ⟨oc_is_whole, od_is_whole, .func (PySem.W.fnOf "_law_is_whole" "_law_is_whole" (C8.fnArgs s_is_whole) (C8.fnBody s_is_whole) (C8.fnScope s_is_whole) .none kV_is_whole dc_is_whole pm_is_whole an_is_whole cd_is_whole ct_is_whole), sl_is_whole⟩)
    (c_is_whole : PySem.W.codeIn K cd_is_whole "_law_is_whole" = true) (k_is_whole : PySem.W.keepIn K (.ref f_is_whole) = true)
    {od_same an_same : Option Addr} {sl_same : Array (Option Value)} {f_same : Addr} {oc_same kV_same dc_same pm_same cd_same ct_same : Value}
    (a_same : PySem.W.nsIn K mainGlobals "_law_same" = some (some (.ref f_same)))
    (l_same : K.lookup f_same = some ⟨oc_same, od_same, .func (PySem.W.fnOf "_law_same" "_law_same" (C8.fnArgs s_same) (C8.fnBody s_same) (C8.fnScope s_same) .none kV_same dc_same pm_same an_same cd_same ct_same), sl_same⟩)
    (c_same : PySem.W.codeIn K cd_same "_law_same" = true) (k_same : PySem.W.keepIn K (.ref f_same) = true)
    {od_names an_names : Option Addr} {sl_names : Array (Option Value)} {f_names : Addr} {oc_names kV_names dc_names pm_names cd_names ct_names : Value}
    (a_names : PySem.W.nsIn K mainGlobals "_law_names" = some (some (.ref f_names)))
    (l_names : K.lookup f_names = some ⟨oc_names, od_names, .func (PySem.W.fnOf "_law_names" "_law_names" (C8.fnArgs s_names) (C8.fnBody s_names) (C8.fnScope s_names) .none kV_names dc_names pm_names an_names cd_names ct_names), sl_names⟩)
    (c_names : PySem.W.codeIn K cd_names "_law_names" = true) (k_names : PySem.W.keepIn K (.ref f_names) = true)
    {od_trace an_trace : Option Addr} {sl_trace : Array (Option Value)} {f_trace : Addr} {oc_trace kV_trace dc_trace pm_trace cd_trace ct_trace : Value}
    (a_trace : PySem.W.nsIn K mainGlobals "_law_trace" = some (some (.ref f_trace)))
    (l_trace : K.lookup f_trace = some ⟨oc_trace, od_trace, .func (PySem.W.fnOf "_law_trace" "_law_trace" (C8.fnArgs s_trace) (C8.fnBody s_trace) (C8.fnScope s_trace) .none kV_trace dc_trace pm_trace an_trace cd_trace ct_trace), sl_trace⟩)
    (c_trace : PySem.W.codeIn K cd_trace "_law_trace" = true) (k_trace : PySem.W.keepIn K (.ref f_trace) = true)
    {od_different an_different : Option Addr} {sl_different : Array (Option Value)} {f_different : Addr} {oc_different kV_different dc_different pm_different cd_different ct_different : Value}
    (a_different : PySem.W.nsIn K mainGlobals "_law_different" = some (some (.ref f_different)))
    (l_different : K.lookup f_different = some ⟨oc_different, od_different, .func (PySem.W.fnOf "_law_different" "_law_different" (C8.fnArgs s_different) (C8.fnBody s_different) (C8.fnScope s_different) .none kV_different dc_different pm_different an_different cd_different ct_different), sl_different⟩)
    (c_different : PySem.W.codeIn K cd_different "_law_different" = true) (k_different : PySem.W.keepIn K (.ref f_different) = true)
    {od_stretches an_stretches : Option Addr} {sl_stretches : Array (Option Value)} {f_stretches : Addr} {oc_stretches kV_stretches dc_stretches pm_stretches cd_stretches ct_stretches : Value}
    (a_stretches : PySem.W.nsIn K mainGlobals "_law_stretches" = some (some (.ref f_stretches)))
    (l_stretches : K.lookup f_stretches = some ⟨oc_stretches, od_stretches, .func (PySem.W.fnOf "_law_stretches" "_law_stretches" (C8.fnArgs s_stretches) (C8.fnBody s_stretches) (C8.fnScope s_stretches) .none kV_stretches dc_stretches pm_stretches an_stretches cd_stretches ct_stretches), sl_stretches⟩)
    (c_stretches : PySem.W.codeIn K cd_stretches "_law_stretches" = true) (k_stretches : PySem.W.keepIn K (.ref f_stretches) = true)
    {od_fewest_stretches an_fewest_stretches : Option Addr} {sl_fewest_stretches : Array (Option Value)} {f_fewest_stretches : Addr} {oc_fewest_stretches kV_fewest_stretches dc_fewest_stretches pm_fewest_stretches cd_fewest_stretches ct_fewest_stretches : Value}
    (a_fewest_stretches : PySem.W.nsIn K mainGlobals "_law_fewest_stretches" = some (some (.ref f_fewest_stretches)))
    (l_fewest_stretches : K.lookup f_fewest_stretches = some ⟨oc_fewest_stretches, od_fewest_stretches, .func (PySem.W.fnOf "_law_fewest_stretches" "_law_fewest_stretches" (C8.fnArgs s_fewest_stretches) (C8.fnBody s_fewest_stretches) (C8.fnScope s_fewest_stretches) .none kV_fewest_stretches dc_fewest_stretches pm_fewest_stretches an_fewest_stretches cd_fewest_stretches ct_fewest_stretches), sl_fewest_stretches⟩)
    (c_fewest_stretches : PySem.W.codeIn K cd_fewest_stretches "_law_fewest_stretches" = true) (k_fewest_stretches : PySem.W.keepIn K (.ref f_fewest_stretches) = true)
    {od_law an_law : Option Addr} {sl_law : Array (Option Value)} {f_law : Addr} {oc_law kV_law dc_law pm_law cd_law ct_law : Value}
    (a_law : PySem.W.nsIn K mainGlobals "law" = some (some (.ref f_law)))
    (l_law : K.lookup f_law = some ⟨oc_law, od_law, .func (PySem.W.fnOf "law" "law" (C8.fnArgs s_law) (C8.fnBody s_law) (C8.fnScope s_law) .none kV_law dc_law pm_law an_law cd_law ct_law), sl_law⟩)
    (c_law : PySem.W.codeIn K cd_law "law" = true) (k_law : PySem.W.keepIn K (.ref f_law) = true)
    (z_len : PySem.W.nsIn K mainGlobals "len" = some none)
    (z_abs : PySem.W.nsIn K mainGlobals "abs" = some none)
    (z_int : PySem.W.nsIn K mainGlobals "int" = some none)
    (z_range : PySem.W.nsIn K mainGlobals "range" = some none)
    (z_isinstance : PySem.W.nsIn K mainGlobals "isinstance" = some none)
    (z_bool : PySem.W.nsIn K mainGlobals "bool" = some none)
    (z_str : PySem.W.nsIn K mainGlobals "str" = some none)
    (z_list : PySem.W.nsIn K mainGlobals "list" = some none)
    (z_tuple : PySem.W.nsIn K mainGlobals "tuple" = some none)
    (z_set : PySem.W.nsIn K mainGlobals "set" = some none)
    (z_max : PySem.W.nsIn K mainGlobals "max" = some none)
    (z_min : PySem.W.nsIn K mainGlobals "min" = some none)
    (z_enumerate : PySem.W.nsIn K mainGlobals "enumerate" = some none) :
    ∃ fd : FuncData, (∀ (s : Shared) (v : Value), BindsTo s fd ⟨[v], []⟩ [("_law_script", v)]) ∧ ∀ base : Heap, K.In base → base.Ns mainGlobals mg → FnOk l.prog w K mg base C8.CX0 4 fa fd ["_law_script"] (spLaw K) := by
  have e := hfa.symm.trans (PySem.W.mg_of X G a_law)
  cases e
  have T : Txt mg := ⟨PySem.W.mg_none_of X G z_len, PySem.W.mg_none_of X G z_abs, PySem.W.mg_none_of X G z_int, PySem.W.mg_none_of X G z_range, PySem.W.mg_none_of X G z_isinstance, PySem.W.mg_none_of X G z_bool, PySem.W.mg_none_of X G z_str, PySem.W.mg_none_of X G z_list, PySem.W.mg_none_of X G z_tuple⟩
  have TK : TxtK mg := ⟨T, PySem.W.mg_none_of X G z_set, PySem.W.mg_none_of X G z_max, PySem.W.mg_none_of X G z_min, PySem.W.mg_none_of X G z_enumerate⟩
  have D_working_set : Def K mg "working_set" s_working_set f_working_set _ := ⟨⟨oc_working_set, od_working_set, .none, kV_working_set, dc_working_set, pm_working_set, an_working_set, cd_working_set, ct_working_set, sl_working_set, rfl, l_working_set, c_working_set⟩, PySem.W.mg_of X G a_working_set, k_working_set⟩
  have b_working_set := D_working_set.fn.binds (ps := ["trace", "window"]) rfl fun _ _ _ _ _ _ us hl => match us, hl with | [_, _], _ => rfl
  have D_phases : Def K mg "phases" s_phases f_phases _ := ⟨⟨oc_phases, od_phases, .none, kV_phases, dc_phases, pm_phases, an_phases, cd_phases, ct_phases, sl_phases, rfl, l_phases, c_phases⟩, PySem.W.mg_of X G a_phases, k_phases⟩
  have b_phases := D_phases.fn.binds (ps := ["trace", "frames"]) rfl fun _ _ _ _ _ _ us hl => match us, hl with | [_, _], _ => rfl
  have D_number : Def K mg "_law_number" s_number f_number _ := ⟨⟨oc_number, od_number, .none, kV_number, dc_number, pm_number, an_number, cd_number, ct_number, sl_number, rfl, l_number, c_number⟩, PySem.W.mg_of X G a_number, k_number⟩
  have b_number := D_number.fn.binds (ps := ["_law_script", "_law_at", "_law_k", "_law_size"]) rfl fun _ _ _ _ _ _ us hl => match us, hl with | [_, _, _, _], _ => rfl
  have D_is_whole : Def K mg "_law_is_whole" s_is_whole f_is_whole _ := ⟨⟨oc_is_whole, od_is_whole, .none, kV_is_whole, dc_is_whole, pm_is_whole, an_is_whole, cd_is_whole, ct_is_whole, sl_is_whole, rfl, l_is_whole, c_is_whole⟩, PySem.W.mg_of X G a_is_whole, k_is_whole⟩
  have b_is_whole := D_is_whole.fn.binds (ps := ["_law_told"]) rfl fun _ _ _ _ _ _ us hl => match us, hl with | [_], _ => rfl
  have D_same : Def K mg "_law_same" s_same f_same _ := ⟨⟨oc_same, od_same, .none, kV_same, dc_same, pm_same, an_same, cd_same, ct_same, sl_same, rfl, l_same, c_same⟩, PySem.W.mg_of X G a_same, k_same⟩
  have b_same := D_same.fn.binds (ps := ["_law_told", "_law_due"]) rfl fun _ _ _ _ _ _ us hl => match us, hl with | [_, _], _ => rfl
  have D_names : Def K mg "_law_names" s_names f_names _ := ⟨⟨oc_names, od_names, .none, kV_names, dc_names, pm_names, an_names, cd_names, ct_names, sl_names, rfl, l_names, c_names⟩, PySem.W.mg_of X G a_names, k_names⟩
  have b_names := D_names.fn.binds (ps := ["_law_script", "_law_most"]) rfl fun _ _ _ _ _ _ us hl => match us, hl with | [_, _], _ => rfl
  have D_trace : Def K mg "_law_trace" s_trace f_trace _ := ⟨⟨oc_trace, od_trace, .none, kV_trace, dc_trace, pm_trace, an_trace, cd_trace, ct_trace, sl_trace, rfl, l_trace, c_trace⟩, PySem.W.mg_of X G a_trace, k_trace⟩
  have b_trace := D_trace.fn.binds (ps := ["_law_script", "_law_names_here"]) rfl fun _ _ _ _ _ _ us hl => match us, hl with | [_, _], _ => rfl
  have D_different : Def K mg "_law_different" s_different f_different _ := ⟨⟨oc_different, od_different, .none, kV_different, dc_different, pm_different, an_different, cd_different, ct_different, sl_different, rfl, l_different, c_different⟩, PySem.W.mg_of X G a_different, k_different⟩
  have b_different := D_different.fn.binds (ps := ["_law_row"]) rfl fun _ _ _ _ _ _ us hl => match us, hl with | [_], _ => rfl
  have D_stretches : Def K mg "_law_stretches" s_stretches f_stretches _ := ⟨⟨oc_stretches, od_stretches, .none, kV_stretches, dc_stretches, pm_stretches, an_stretches, cd_stretches, ct_stretches, sl_stretches, rfl, l_stretches, c_stretches⟩, PySem.W.mg_of X G a_stretches, k_stretches⟩
  have b_stretches := D_stretches.fn.binds (ps := ["_law_trace_here", "_law_many"]) rfl fun _ _ _ _ _ _ us hl => match us, hl with | [_, _], _ => rfl
  have D_fewest_stretches : Def K mg "_law_fewest_stretches" s_fewest_stretches f_fewest_stretches _ := ⟨⟨oc_fewest_stretches, od_fewest_stretches, .none, kV_fewest_stretches, dc_fewest_stretches, pm_fewest_stretches, an_fewest_stretches, cd_fewest_stretches, ct_fewest_stretches, sl_fewest_stretches, rfl, l_fewest_stretches, c_fewest_stretches⟩, PySem.W.mg_of X G a_fewest_stretches, k_fewest_stretches⟩
  have b_fewest_stretches := D_fewest_stretches.fn.binds (ps := ["_law_trace_here", "_law_many"]) rfl fun _ _ _ _ _ _ us hl => match us, hl with | [_, _], _ => rfl
  have D_law : Def K mg "law" s_law fa _ := ⟨⟨oc_law, od_law, .none, kV_law, dc_law, pm_law, an_law, cd_law, ct_law, sl_law, rfl, l_law, c_law⟩, PySem.W.mg_of X G a_law, k_law⟩
  refine ⟨PySem.W.fnOf "law" "law" (C8.fnArgs s_law) (C8.fnBody s_law) (C8.fnScope s_law) .none kV_law dc_law pm_law an_law cd_law ct_law, fun s v => .of_eq rfl, fun base _ _ => ?_⟩
  have c_number := ok_number (P := l.prog) (w := w) (base := base) D_number b_number T
  have c_whole := ok_whole (P := l.prog) (w := w) (base := base) D_is_whole b_is_whole T
  have c_same := ok_same D_same b_same T c_whole 2
  have c_dif := ok_different (P := l.prog) (w := w) (base := base) D_different b_different T
  have c_ws := ok_working_set (P := l.prog) (w := w) (base := base) D_working_set b_working_set TK
  have c_ph := ok_phases (P := l.prog) (w := w) (base := base) D_phases b_phases TK
  have c_st := ok_stretches D_stretches b_stretches T c_dif
  have c_fw := ok_fewest (P := l.prog) (w := w) (base := base) D_fewest_stretches b_fewest_stretches TK
  have c_names := ok_names D_names b_names T c_number
  have c_trace := ok_trace D_trace b_trace T c_number
  exact ok_law D_law TK c_number c_names c_trace c_dif c_ws c_ph c_st c_fw c_same

end

end Lw
open PySem PySem.W PyProof.Rows
set_option maxRecDepth 100000 in
set_option maxHeartbeats 0 in
theorem PySem.Challenge.cw_lentpages_k24_phases_holds : PySem.Challenge.rw_lentpages_k24_phases.Holds := by
  w_on; o_law; k_head; (case hw => w_witness2)
  k_fill
  refine L2.walk_of (l := PySem.Challenge.rw_lentpages_k24_phases) (n := 63) (k := 4) (x := "_law_script") (CX := fun _ => C8.CX0) (sp := fun w => Lw.spLaw _) rfl (by decide) rfl ⟨rfl, by decide, by decide⟩ (fun w h Y => by first | exact PySem.W.kIn_of Y | exact PySem.W.km_in_of Y) ?F (fun _ _ a ns hl _ hS => ⟨a, ns, rfl, hS, hl, fun _ => rfl⟩) (fun _ _ _ _ _ h => h)
  case F =>
    intro w mg fa h KX G hmg
    refine' Lw.all_mk KX G hmg ?a_working_set ?l_working_set ?c_working_set ?k_working_set ?a_phases ?l_phases ?c_phases ?k_phases ?a_number ?l_number ?c_number ?k_number ?a_is_whole ?l_is_whole ?c_is_whole ?k_is_whole ?a_same ?l_same ?c_same ?k_same ?a_names ?l_names ?c_names ?k_names ?a_trace ?l_trace ?c_trace ?k_trace ?a_different ?l_different ?c_different ?k_different ?a_stretches ?l_stretches ?c_stretches ?k_stretches ?a_fewest_stretches ?l_fewest_stretches ?c_fewest_stretches ?k_fewest_stretches ?a_law ?l_law ?c_law ?k_law ?z_len ?z_abs ?z_int ?z_range ?z_isinstance ?z_bool ?z_str ?z_list ?z_tuple ?z_set ?z_max ?z_min ?z_enumerate
    (case a_working_set => k_is)
    (case l_working_set => k_is)
    (case c_working_set => k_is)
    (case k_working_set => k_is)
    (case a_phases => k_is)
    (case l_phases => k_is)
    (case c_phases => k_is)
    (case k_phases => k_is)
    (case a_number => k_is)
    (case l_number => k_is)
    (case c_number => k_is)
    (case k_number => k_is)
    (case a_is_whole => k_is)
    (case l_is_whole => k_is)
    (case c_is_whole => k_is)
    (case k_is_whole => k_is)
    (case a_same => k_is)
    (case l_same => k_is)
    (case c_same => k_is)
    (case k_same => k_is)
    (case a_names => k_is)
    (case l_names => k_is)
    (case c_names => k_is)
    (case k_names => k_is)
    (case a_trace => k_is)
    (case l_trace => k_is)
    (case c_trace => k_is)
    (case k_trace => k_is)
    (case a_different => k_is)
    (case l_different => k_is)
    (case c_different => k_is)
    (case k_different => k_is)
    (case a_stretches => k_is)
    (case l_stretches => k_is)
    (case c_stretches => k_is)
    (case k_stretches => k_is)
    (case a_fewest_stretches => k_is)
    (case l_fewest_stretches => k_is)
    (case c_fewest_stretches => k_is)
    (case k_fewest_stretches => k_is)
    (case a_law => k_is)
    (case l_law => k_is)
    (case c_law => k_is)
    (case k_law => k_is)
    (case z_len => k_is)
    (case z_abs => k_is)
    (case z_int => k_is)
    (case z_range => k_is)
    (case z_isinstance => k_is)
    (case z_bool => k_is)
    (case z_str => k_is)
    (case z_list => k_is)
    (case z_tuple => k_is)
    (case z_set => k_is)
    (case z_max => k_is)
    (case z_min => k_is)
    (case z_enumerate => k_is)
