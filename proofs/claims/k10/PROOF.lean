import PyProof.Rows.All
import Wide.All
import OpenK.AllK
import Wide.FinOn
import HandS.ForMost
import HandS.Codes
import HandS.IsInst
import HandS.Wide
import PySem.Challenge.RW_lentpages_k10_change_kinds
set_option Elab.async false
set_option linter.all false
set_option maxRecDepth 100000
set_option maxHeartbeats 4000000
namespace Lw
open PySem PySem.Spec PyProof.Rows L2
open C8 (Def Cal cal0 pe_c)
def topS (i : Nat) : Stmt := PySem.Challenge.pw_lentpages_k10_change_kinds.main.body.getD i (.Pass ⟨0, 0, 0, 0⟩)

/-! ### data in the heap, tracked -/
mutual
def Dh (H : Hp) : PyData → V → Prop
  | .none, x => x = .non
  | .bool b, x => x = .bl b
  | .int i, x => x = .int i
  | .str s, x => x = .str s
  | .list ds, x => ∃ a xs, x = .ref a ∧ H a = some (.lst xs) ∧ DhAll H ds xs
  | .tuple ds, x => ∃ a xs, x = .ref a ∧ H a = some (.tup xs) ∧ DhAll H ds xs
  | .dict _, _ => False
def DhAll (H : Hp) : List PyData → List V → Prop
  | [], xs => xs = []
  | d :: ds, xs => ∃ v vs, xs = v :: vs ∧ Dh H d v ∧ DhAll H ds vs
end
mutual
theorem Dh.mono {H H' : Hp} (s : Same H H') : ∀ (d : PyData) (x : V), Dh H d x → Dh H' d x
  | .none, x, h => h
  | .bool b, x, h => h
  | .int i, x, h => h
  | .str i, x, h => h
  | .list ds, x, h => by
    obtain ⟨a, xs, e, g, r⟩ := h
    exact ⟨a, xs, e, s _ _ g, DhAll.mono s ds xs r⟩
  | .tuple ds, x, h => by
    obtain ⟨a, xs, e, g, r⟩ := h
    exact ⟨a, xs, e, s _ _ g, DhAll.mono s ds xs r⟩
  | .dict _, x, h => False.elim h
theorem DhAll.mono {H H' : Hp} (s : Same H H') : ∀ (ds : List PyData) (xs : List V), DhAll H ds xs → DhAll H' ds xs
  | [], xs, h => h
  | d :: ds, xs, h => by
    obtain ⟨v, vs, e, g, r⟩ := h
    exact ⟨v, vs, e, Dh.mono s d v g, DhAll.mono s ds vs r⟩
end
theorem DhAll.len {H : Hp} : ∀ {ds : List PyData} {xs : List V}, DhAll H ds xs → xs.length = ds.length
  | [], xs, h => by
    cases (show xs = [] from h)
    rfl
  | d :: ds, xs, h => by
    obtain ⟨v, vs, e, g, r⟩ := h
    rw [e, List.length_cons, List.length_cons, DhAll.len r]
theorem DhAll.get {H : Hp} : ∀ {ds : List PyData} {xs : List V} {i : Nat} {d : PyData}, DhAll H ds xs → ds[i]? = some d → ∃ x, xs[i]? = some x ∧ Dh H d x
  | [], xs, i, d, h, e => by simp at e
  | d' :: ds, xs, 0, d, h, e => by
    obtain ⟨v, vs, e', g, r⟩ := h
    simp at e
    subst e
    exact ⟨v, by rw [e']; rfl, g⟩
  | d' :: ds, xs, i + 1, d, h, e => by
    obtain ⟨v, vs, e', g, r⟩ := h
    obtain ⟨x, h1, h2⟩ := DhAll.get (i := i) (d := d) r (by simpa using e)
    exact ⟨x, by rw [e']; simpa using h1, h2⟩
mutual
theorem Dh.dp {K : PySem.W.Frag} {H : Hp} : ∀ (d : PyData) (x : V), Dh H d x → Dp K H x d
  | .none, x, h => by
    cases (show x = .non from h)
    exact .non
  | .bool b, x, h => by
    cases (show x = .bl b from h)
    exact .bl b
  | .int i, x, h => by
    cases (show x = .int i from h)
    exact .int i
  | .str i, x, h => by
    cases (show x = .str i from h)
    exact .str i
  | .list ds, x, h => by
    obtain ⟨a, xs, e, g, r⟩ := h
    rw [e]
    exact .lst (SqL.of g) (DhAll.dp ds xs r)
  | .tuple ds, x, h => by
    obtain ⟨a, xs, e, g, r⟩ := h
    rw [e]
    exact .tup (SqT.of g) (DhAll.dp ds xs r)
  | .dict _, x, h => False.elim h
theorem DhAll.dp {K : PySem.W.Frag} {H : Hp} : ∀ (ds : List PyData) (xs : List V), DhAll H ds xs → DpAll K H xs ds
  | [], xs, h => by
    cases (show xs = [] from h)
    exact .nil
  | d :: ds, xs, h => by
    obtain ⟨v, vs, e, g, r⟩ := h
    rw [e]
    exact .cons (Dh.dp d v g) (DhAll.dp ds vs r)
end
/-- a datum's type -/
def tyN : PyData → String
  | .none => "NoneType"
  | .bool _ => "bool"
  | .int _ => "int"
  | .str _ => "str"
  | .list _ => "list"
  | .tuple _ => "tuple"
  | .dict _ => "dict"
theorem Dh.ty {K : PySem.W.Frag} {H : Hp} : ∀ {d : PyData} {x : V}, Dh H d x → TyX K H x (.type (tyN d))
  | .none, x, h => by
    cases (show x = .non from h)
    exact .base .non
  | .bool b, x, h => by
    cases (show x = .bl b from h)
    exact .base (.bl b)
  | .int i, x, h => by
    cases (show x = .int i from h)
    exact .base (.int i)
  | .str i, x, h => by
    cases (show x = .str i from h)
    exact .base (.str i)
  | .list ds, x, h => by
    obtain ⟨a, xs, e, g, r⟩ := h
    rw [e]
    exact .base (.lst g)
  | .tuple ds, x, h => by
    obtain ⟨a, xs, e, g, r⟩ := h
    rw [e]
    exact .base (.tup g)
  | .dict _, x, h => False.elim h
/-- at most n lists and tuples in one another, none of them long -/
def Dle : Nat → PyData → Prop
  | 0, _ => False
  | n + 1, .list ds => ds.length ≤ 100000 ∧ ∀ d ∈ ds, Dle n d
  | n + 1, .tuple ds => ds.length ≤ 100000 ∧ ∀ d ∈ ds, Dle n d
  | _, .dict _ => False
  | _, _ => True
theorem same_upd {H : Hp} {p : Addr} {o : HO} (h : H p = none) : Same H (upd H p o) := fun b x e => by
  rw [upd_ne (ne_of_none e h)]
  exact e
theorem same_rfl {H : Hp} : Same H H := fun _ _ e => e
/-- what is asked of the top's names -/
structure Txt (mg : Str → Option Value) : Prop where
  len : mg "len" = none
  abs : mg "abs" = none
  int : mg "int" = none
  range : mg "range" = none
  isinstance : mg "isinstance" = none
  bool : mg "bool" = none
  str : mg "str" = none
  list : mg "list" = none
  tuple : mg "tuple" = none
abbrev sI (i : Int) : Option V := some (.int i)
abbrev sR (a : Addr) : Option V := some (.ref a)
abbrev sS (x : Str) : Option V := some (.str x)
abbrev sB (b : Bool) : Option V := some (.bl b)

/-! ### steps of a reading -/
theorem ifD {p : Prop} [Decidable p] {A B : Prop} (a : p → A) (b : ¬ p → B) : if decide p = true then A else B := by
  by_cases h : p
  · rw [if_pos (decide_eq_true h)]
    exact a h
  · rw [if_neg (fun z => h (of_decide_eq_true z))]
    exact b h
theorem ifEq {x y : Int} {A B : Prop} (a : x = y → A) (b : x ≠ y → B) : if decide (V.int x = V.int y) = true then A else B :=
  ifD (fun h => a (V.int.inj h)) (fun h => b (fun z => h (congrArg V.int z)))
theorem ifT {p : Prop} [Decidable p] {A B : Prop} (h : p) (a : A) : if decide p = true then A else B := by
  rw [if_pos (decide_eq_true h)]
  exact a
theorem ifF {p : Prop} [Decidable p] {A B : Prop} (h : ¬ p) (b : B) : if decide p = true then A else B := by
  rw [if_neg (fun z => h (of_decide_eq_true z))]
  exact b
theorem ifEqT {x y : Int} {A B : Prop} (h : x = y) (a : A) : if decide (V.int x = V.int y) = true then A else B := ifT (congrArg V.int h) a
theorem ifEqF {x y : Int} {A B : Prop} (h : x ≠ y) (b : B) : if decide (V.int x = V.int y) = true then A else B := ifF (fun z => h (V.int.inj z)) b
theorem cmul_l {i j : Int} (h : -(2 ^ 64) < i ∧ i < 2 ^ 64) : CMul i j := .inl h
theorem cmul_r {i j : Int} (h : -(2 ^ 64) < j ∧ j < 2 ^ 64) : CMul i j := .inr h
/-- a statement that the steps stop at -/
@[irreducible] def tMk (t : TS) : TS := t
theorem tMk_eq (t : TS) : tMk t = t := by
  unfold tMk
  rfl
theorem ps_mk {X : Cx} {s : Stmt} {t : TS} (h : PS X s t) : PS X s (tMk t) := by
  rw [tMk_eq]
  exact h
theorem un {t : TS} {D : Ends} {σ : L2.St} {H : Hp} (h : t D σ H) : tMk t D σ H := by
  rw [tMk_eq]
  exact h
/-- what follows, said once -/
theorem jn {t : TS} {D : Ends} {σ : L2.St} {H : Hp} (M : L2.St → Hp → Prop) (h2 : ∀ σ H, M σ H → D.nx σ H) (h1 : ∀ N : L2.St → Hp → Prop, (∀ σ H, M σ H → N σ H) → t { D with nx := N } σ H) : tMk t D σ H := by
  rw [tMk_eq]
  exact h1 D.nx h2
/-- a wish that the steps stop at -/
@[irreducible] def Ob (p : Prop) : Prop := p
theorem ob {p : Prop} (h : p) : Ob p := by
  unfold Ob
  exact h
theorem unob {p : Prop} (h : Ob p) : p := by
  unfold Ob at h
  exact h
theorem atI_getD {ns : List Int} {j : Int} (h0 : 0 ≤ j) (h1 : j < (ns.length : Int)) : atI (ns.map V.int) j = some (.int (ns.getD j.toNat 0)) := by
  have e : j = ((j.toNat : Nat) : Int) := by omega
  have hj : j.toNat < ns.length := by omega
  have q : atI (ns.map V.int) ((j.toNat : Nat) : Int) = some (.int (ns.getD j.toNat 0)) := atI_nat (by
    rw [List.getElem?_map, List.getElem?_eq_getElem hj, List.getD_eq_getElem?_getD, List.getElem?_eq_getElem hj]
    rfl)
  rw [← e] at q
  exact q
theorem sz {n : Nat} (h : n ≤ 1000 := by first | decide | simp) : n ≤ sizeLine := Nat.le_of_lt (small1000 h)
theorem sz5 {n : Nat} (h : n ≤ 1000000) : n < sizeLine := by
  rw [sizeLine_eq]
  omega
theorem take_succ_eq {α : Type} {xs ys : List α} {i : Nat} {x y : α} (hx : xs[i]? = some x) (hy : ys[i]? = some y) : xs.take (i + 1) = ys.take (i + 1) ↔ xs.take i = ys.take i ∧ x = y := by
  rw [List.take_add_one, List.take_add_one, hx, hy]
  constructor
  · intro h
    have h1 := List.append_inj' h rfl
    refine ⟨h1.1, ?_⟩
    have h2 := h1.2
    simpa using h2
  · rintro ⟨h1, rfl⟩
    rw [h1]
-- size2
theorem ifN {b : Bool} {A B : Prop} (h : if b = true then B else A) : if (!b) = true then A else B := by
  cases b
  · exact h
  · exact h
theorem ifNe {x y : Int} {A B : Prop} (a : x ≠ y → A) (b : x = y → B) : if (!decide (V.int x = V.int y)) = true then A else B := ifN (ifEq b a)
theorem ixAny {K : PySem.W.Frag} {H : Hp} {a : Addr} {xs : List V} {i : Int} {v : V} {Q : VK} (h : SqL K H a xs ∨ SqT K H a xs) (e : atI xs i = some v) (q : Q v H) : rIx K (.ref a) (.int i) H Q := by
  rcases h with h | h
  · exact .inl ⟨a, xs, i, v, rfl, rfl, h, e, q⟩
  · exact .inr (.inl ⟨a, xs, i, v, rfl, rfl, h, e, q⟩)
theorem sameT {K : PySem.W.Frag} {H H' : Hp} {a : Addr} {xs : List V} (s : Same H H') (h : SqT K H a xs) : SqT K H' a xs := by
  rcases h with (g | ⟨o, g⟩) | g
  · exact .inl (.inl (s _ _ g))
  · exact .inl (.inr ⟨o, s _ _ g⟩)
  · exact .inr g
theorem sqAny {K : PySem.W.Frag} {H H' : Hp} {a : Addr} {xs : List V} (s : Same H H') (h : SqL K H a xs ∨ SqT K H a xs) : SqL K H' a xs ∨ SqT K H' a xs := h.imp (fun z => s.seq z) (fun z => sameT s z)
theorem same_put {H H1 : Hp} {D : Addr} {o : HO} (s : Same H H1) (h : H D = none) : Same H (upd H1 D o) := fun b x e => by
  rw [upd_ne (ne_of_none e h)]
  exact s b x e

/-! ### rules that say the written part by a letter -/
theorem ixL {X : Cx} (K : PySem.W.Frag) (h : X.K = K) : IxR X (rIxL K) := by
  subst h
  exact ix_list
theorem ixT {X : Cx} (K : PySem.W.Frag) (h : X.K = K) : IxR X (rIxT K) := by
  subst h
  exact ix_tup
theorem ixA {X : Cx} (K : PySem.W.Frag) (h : X.K = K) : IxR X (rIx K) := by
  subst h
  exact ix_seq
def rLen (K : PySem.W.Frag) : List V → Hp → VK → Prop := fun xs H Q => ∃ p ys, xs = [.ref p] ∧ (SqL K H p ys ∨ SqT K H p ys) ∧ Q (.int ys.length) H
theorem lenQ {X : Cx} (K : PySem.W.Frag) (h : X.K = K) : CallR X (.builtin "len") (rLen K) := by
  subst h
  exact call_len_seq
def isB : PyData → Bool
  | .bool _ => true
  | _ => false
def isI : PyData → Bool
  | .int _ => true
  | _ => false
def isS : PyData → Bool
  | .str _ => true
  | _ => false
def isL : PyData → Bool
  | .list _ => true
  | _ => false
def isT : PyData → Bool
  | .tuple _ => true
  | _ => false
theorem kit_B {K : PySem.W.Frag} : ∀ (d : PyData), PySem.W.kitOne K (.type (tyN d)) (.type "bool") = some (isB d)
  | .none => kit_ty (show kitB "NoneType" "bool" = some false by decide +kernel)
  | .bool _ => kit_ty (show kitB "bool" "bool" = some true by decide +kernel)
  | .int _ => kit_ty (show kitB "int" "bool" = some false by decide +kernel)
  | .str _ => kit_ty (show kitB "str" "bool" = some false by decide +kernel)
  | .list _ => kit_ty (show kitB "list" "bool" = some false by decide +kernel)
  | .tuple _ => kit_ty (show kitB "tuple" "bool" = some false by decide +kernel)
  | .dict _ => kit_ty (show kitB "dict" "bool" = some false by decide +kernel)
theorem kit_I {K : PySem.W.Frag} : ∀ (d : PyData), PySem.W.kitOne K (.type (tyN d)) (.type "int") = some (isI d || isB d)
  | .none => kit_ty (show kitB "NoneType" "int" = some false by decide +kernel)
  | .bool _ => kit_ty (show kitB "bool" "int" = some true by decide +kernel)
  | .int _ => kit_ty (show kitB "int" "int" = some true by decide +kernel)
  | .str _ => kit_ty (show kitB "str" "int" = some false by decide +kernel)
  | .list _ => kit_ty (show kitB "list" "int" = some false by decide +kernel)
  | .tuple _ => kit_ty (show kitB "tuple" "int" = some false by decide +kernel)
  | .dict _ => kit_ty (show kitB "dict" "int" = some false by decide +kernel)
theorem kit_S {K : PySem.W.Frag} : ∀ (d : PyData), PySem.W.kitOne K (.type (tyN d)) (.type "str") = some (isS d)
  | .none => kit_ty (show kitB "NoneType" "str" = some false by decide +kernel)
  | .bool _ => kit_ty (show kitB "bool" "str" = some false by decide +kernel)
  | .int _ => kit_ty (show kitB "int" "str" = some false by decide +kernel)
  | .str _ => kit_ty (show kitB "str" "str" = some true by decide +kernel)
  | .list _ => kit_ty (show kitB "list" "str" = some false by decide +kernel)
  | .tuple _ => kit_ty (show kitB "tuple" "str" = some false by decide +kernel)
  | .dict _ => kit_ty (show kitB "dict" "str" = some false by decide +kernel)
theorem kit_L {K : PySem.W.Frag} : ∀ (d : PyData), PySem.W.kitOne K (.type (tyN d)) (.type "list") = some (isL d)
  | .none => kit_ty (show kitB "NoneType" "list" = some false by decide +kernel)
  | .bool _ => kit_ty (show kitB "bool" "list" = some false by decide +kernel)
  | .int _ => kit_ty (show kitB "int" "list" = some false by decide +kernel)
  | .str _ => kit_ty (show kitB "str" "list" = some false by decide +kernel)
  | .list _ => kit_ty (show kitB "list" "list" = some true by decide +kernel)
  | .tuple _ => kit_ty (show kitB "tuple" "list" = some false by decide +kernel)
  | .dict _ => kit_ty (show kitB "dict" "list" = some false by decide +kernel)
theorem kit_T {K : PySem.W.Frag} : ∀ (d : PyData), PySem.W.kitOne K (.type (tyN d)) (.type "tuple") = some (isT d)
  | .none => kit_ty (show kitB "NoneType" "tuple" = some false by decide +kernel)
  | .bool _ => kit_ty (show kitB "bool" "tuple" = some false by decide +kernel)
  | .int _ => kit_ty (show kitB "int" "tuple" = some false by decide +kernel)
  | .str _ => kit_ty (show kitB "str" "tuple" = some false by decide +kernel)
  | .list _ => kit_ty (show kitB "list" "tuple" = some false by decide +kernel)
  | .tuple _ => kit_ty (show kitB "tuple" "tuple" = some true by decide +kernel)
  | .dict _ => kit_ty (show kitB "dict" "tuple" = some false by decide +kernel)
theorem kit_LT {K : PySem.W.Frag} (d : PyData) : PySem.W.kitAny K (.type (tyN d)) [.type "list", .type "tuple"] = some (isL d || isT d) := by
  refine kitAny_cons (kit_L d) (fun h => ?_) (fun h => by rw [h]; rfl)
  rw [h]
  refine kitAny_cons (kit_T d) (fun h => by rw [h]; rfl) (fun h => by rw [h]; rfl)
/-- isinstance of a datum -/
def rIsD (T : String) (g : PyData → Bool) : List V → Hp → VK → Prop := fun xs H Q => ∃ x d, xs = [x, .ty T] ∧ Dh H d x ∧ Q (.bl (g d)) H
theorem isOf {X : Cx} {T : String} {g : PyData → Bool} (h : ∀ d, PySem.W.kitOne X.K (.type (tyN d)) (.type T) = some (g d)) : CallR X (.builtin "isinstance") (rIsD T g) := by
  intro pins s σ H xs us Q I r z
  obtain ⟨x, d, rfl, hx, q⟩ := z
  exact call_isi pins s σ H _ us Q I r ⟨_, _, _, _, _, rfl, .ty T, hx.ty, h d, q⟩
theorem is_bool {X : Cx} : CallR X (.builtin "isinstance") (rIsD "bool" isB) := isOf kit_B
theorem is_int {X : Cx} : CallR X (.builtin "isinstance") (rIsD "int" fun d => isI d || isB d) := isOf kit_I
theorem is_str {X : Cx} : CallR X (.builtin "isinstance") (rIsD "str" isS) := isOf kit_S
theorem is_list {X : Cx} : CallR X (.builtin "isinstance") (rIsD "list" isL) := isOf kit_L
theorem is_tuple {X : Cx} : CallR X (.builtin "isinstance") (rIsD "tuple" isT) := isOf kit_T
/-- isinstance(x, (list, tuple)) of a datum -/
def rIsLT : List V → Hp → VK → Prop := fun xs H Q => ∃ x d p, xs = [x, .ref p] ∧ H p = some (.tup [.ty "list", .ty "tuple"]) ∧ Dh H d x ∧ Q (.bl (isL d || isT d)) H
theorem is_lt {X : Cx} : CallR X (.builtin "isinstance") rIsLT := by
  intro pins s σ H xs us Q I r z
  obtain ⟨x, d, p, rfl, hp, hx, q⟩ := z
  exact call_isiT pins s σ H _ us Q I r ⟨_, _, _, _, _, _, rfl, hp, .cons (.ty "list") (.cons (.ty "tuple") .nil), hx.ty, kit_LT d, q⟩
theorem ifBT {b : Bool} {A B : Prop} (h : b = true) (a : A) : if b = true then A else B := by
  rw [if_pos h]
  exact a
theorem ifBF {b : Bool} {A B : Prop} (h : b = false) (q : B) : if b = true then A else B := by
  rw [h, if_neg Bool.false_ne_true]
  exact q
theorem inQ {X : Cx} (K : PySem.W.Frag) (h : X.K = K) : OpR X (compareOp .In) (rIn K false) := by
  subst h
  exact op_in_seq
theorem notInQ {X : Cx} (K : PySem.W.Frag) (h : X.K = K) : OpR X (compareOp .NotIn) (rIn K true) := by
  subst h
  exact op_notIn_seq
theorem eqQ {X : Cx} (K : PySem.W.Frag) (h : X.K = K) (hu : X.A.units + 64 < cLine) : OpR X (compareOp .Eq) (rEqD K) := by
  subst h
  exact op_eqD hu
theorem neQ {X : Cx} (K : PySem.W.Frag) (h : X.K = K) (hu : X.A.units + 64 < cLine) : OpR X (compareOp .NotEq) (rNeD K) := by
  subst h
  exact op_neD hu
def rLst (K : PySem.W.Frag) : List V → Hp → VK → Prop := fun xs H Q => ∃ p ys, xs = [.ref p] ∧ (SqL K H p ys ∨ SqT K H p ys) ∧ ∀ l, H l = none → Q (.ref l) (upd H l (.lst ys))
theorem listQ {X : Cx} (K : PySem.W.Frag) (h : X.K = K) : CallR X (.type "list") (rLst K) := by
  subst h
  exact call_list_of

-- a condition of an operator
local macro_rules | `(tactic| walk_at "cond") => `(tactic| first
  | (show (0 : Int) < _; omega)
  | (show CDiv _ _; constructor <;> (first | decide | omega))
  | (show CMul _ _; first | (refine cmul_l ?_; constructor <;> (first | decide | omega)) | (refine cmul_r ?_; constructor <;> (first | decide | omega)))
  | (show CPow _ _; exact (by refine ⟨by decide, by decide, by decide⟩))
  | (show CDivW _ _; exact ⟨by decide, by decide +kernel⟩))
local macro_rules | `(tactic| walk_at "sq") => `(tactic| first | assumption | exact Dh.mono (same_upd (by assumption)) _ _ (by assumption) | exact .inl (.inl (.inl (by assumption))) | exact .inr (.inl (.inl (by assumption))) | exact SqL.of (by assumption) | exact .inl (by assumption) | exact .inl (SqL.of (by assumption)) | exact SqT.of (by assumption) | exact .inr (SqT.of (by assumption)))
local macro_rules | `(tactic| walk_at "st") => `(tactic| first
  | refine ⟨_, rfl, ?_⟩
  | refine ⟨_, _, rfl, rfl, ?_⟩
  | refine .inl ⟨_, rfl, ?_⟩
  | refine ⟨rfl, ?_⟩
  | refine ⟨_, _, rfl, by walk_at "sq", ?_⟩
  | refine ⟨.inl ⟨rfl, _, SqL.of (by assumption)⟩, ?_⟩
  | refine ⟨by walk_at "cond", ?_⟩
  | (refine' ifBT ?hh ?_; (case hh => first | rfl | assumption))
  | (refine' ifBF ?hh ?_; (case hh => first | rfl | assumption)))
local macro_rules | `(tactic| walk_at "go") => `(tactic| repeat walk_at "st")
local macro_rules | `(tactic| walk_at "yes") => `(tactic| (refine' ifT ?hh ?_; (case hh => first | rfl | decide +kernel)))
local macro_rules | `(tactic| walk_at "no") => `(tactic| (refine' ifF ?hh ?_; (case hh => first | decide +kernel | (intro z; cases z; done))))

/-! ### _law_number -/
/-- n times // 1000 -/
def itd : Nat → Int → Int
  | 0, r => r
  | n + 1, r => itd n r / 1000
theorem itd_zero : ∀ n, itd n 0 = 0
  | 0 => rfl
  | n + 1 => by
    show itd n 0 / 1000 = 0
    rw [itd_zero n]
    rfl
theorem itd_add (r : Int) (h : itd n r = 0) : ∀ m, itd (n + m) r = 0
  | 0 => h
  | m + 1 => by
    show itd (n + m) r / 1000 = 0
    rw [itd_add r h m]
    rfl
theorem itd_nn {r : Int} (h : 0 ≤ r) : ∀ n, 0 ≤ itd n r
  | 0 => h
  | n + 1 => Int.ediv_nonneg (itd_nn h n) (by decide)
def nCell (ns : List Int) (i : Int) : Int := if ns.length = 0 then 0 else (ns.getD (i % (ns.length : Int)).toNat 0).natAbs
def nTurn (ns : List Int) (i : Int) : Int := if ns.length = 0 then i else i / (ns.length : Int)
def nPick (ns : List Int) (i k : Int) : Int := k + 16 * nTurn ns i
def nMix (c p : Int) : Int :=
  let a := (c + 7919 * p + 13) % 2147483647
  let b := (a * (a + 48271)) % 2147483629
  (b * (b + 69621) + 31 * p) % 2147483647
def num (ns : List Int) (i k size : Int) : Int :=
  let c := nCell ns i
  let p := nPick ns i k
  if c ≥ 10 ^ 18 then
    if itd p.toNat (c / 10 ^ 18) > 0 then itd p.toNat (c / 10 ^ 18) % 1000 % size else nMix c p / 9 % size
  else nMix c p / 9 % size
theorem num_nn {ns : List Int} {i k size : Int} (h : 0 < size) : 0 ≤ num ns i k size := by
  unfold num
  dsimp only
  split
  · split
    · exact Int.emod_nonneg _ (by omega)
    · exact Int.emod_nonneg _ (by omega)
  · exact Int.emod_nonneg _ (by omega)
theorem num_lt {ns : List Int} {i k size : Int} (h : 0 < size) : num ns i k size < size := by
  unfold num
  dsimp only
  split
  · split
    · exact Int.emod_lt_of_pos _ h
    · exact Int.emod_lt_of_pos _ h
  · exact Int.emod_lt_of_pos _ h
def spNum (K : PySem.W.Frag) : Sp := fun vs H Q _ => ∃ (a : Addr) (ns : List Int) (i k size : Int), vs = [.ref a, .int i, .int k, .int size] ∧ SqL K H a (ns.map V.int) ∧ ns.length ≤ 63 ∧
  0 ≤ i ∧ i ≤ 1000000000 ∧ 0 ≤ k ∧ k ≤ 1000000000 ∧ 0 < size ∧ Q (.int (num ns i k size)) H

abbrev s_number : Stmt := topS 4
theorem sc_number : FnScope ["_law_script", "_law_at", "_law_k", "_law_size", "_law_cell", "_law_turn", "_law_pick", "_law_rest", "_law_step", "_law_mixed"] ["_law_script", "_law_at", "_law_k", "_law_size"] (C8.fnScope s_number) := C8.fnScope_by (by decide +kernel)
section
variable {P : Program} {w : World} {K : PySem.W.Frag} {mg : Str → Option Value} {base : Heap}
theorem ok_number {f : Addr} {fd : FuncData} (D : Def K mg "_law_number" s_number f fd) (b : Binds K fd ["_law_script", "_law_at", "_law_k", "_law_size"] []) (T : Txt mg) : Cal P w K mg base 1 "_law_number" (spNum K) [] := by
  refine cal0 D b .nil sc_number (fun vs H Q E h => ?_) (fun cdv A outer s H vs Q E hr h => ?_)
  · obtain ⟨a, ns, i, k, size, rfl, _⟩ := h
    rfl
  obtain ⟨a, ns, i, k, size, rfl, hS, hl, i0, i1, k0, k1, hz, q⟩ := h
  refine ⟨_, (pss_cons (ps_set (i := 4) sc_number.nd rfl (.inl rfl) pe_int)
      (pss_cons (ps_set (i := 5) sc_number.nd rfl (.inl rfl) (pv 1))
      (pss_cons (ps_mk (ps_if (pt_cmpR op_gt (pe_callB (lenQ K rfl) (by rfl) T.len PySem.boot_len (pa_cons (pv 0) pa_nil)) pe_int (nomark _))
      (pss_cons (ps_set (i := 4) sc_number.nd rfl (.inl rfl) (pe_callB call_abs (by rfl) T.abs (by decide +kernel) (pa_cons (pe_ix (ixL K rfl) (pv 0) (pe_op op_mod (pe_callTy call_int1 (by rfl) T.int (by decide +kernel) (pa_cons (pv 1) pa_nil)) (pe_callB (lenQ K rfl) (by rfl) T.len PySem.boot_len (pa_cons (pv 0) pa_nil))) (fun _ _ => rfl)) pa_nil)))
      (pss_one (ps_set (i := 5) sc_number.nd rfl (.inl rfl) (pe_op op_fdiv (pv 1) (pe_callB (lenQ K rfl) (by rfl) T.len PySem.boot_len (pa_cons (pv 0) pa_nil))))))
      pss_nil))
      (pss_cons (ps_set (i := 6) sc_number.nd rfl (.inl rfl) (pe_op op_add (pv 2) (pe_op op_mul pe_int (pv 5))))
      (pss_cons (ps_mk (ps_if (pt_cmpR op_ge (pv 4) (pe_op op_pow pe_int pe_int) (nomark _))
      (pss_cons (ps_set (i := 7) sc_number.nd rfl (.inl rfl) (pe_op op_fdivW (pv 4) (pe_op op_pow pe_int pe_int)))
      (pss_cons (ps_mk (ps_for PassesOwn.never rfl (pi_range1 (by rfl) T.range (pa_cons (pv 6) pa_nil)) (pg_name (i := 8) sc_number.nd rfl (.inl rfl))
      (pss_cons (ps_mk (ps_if (pt_cmpR op_eq (pv 7) pe_int (nomark _))
      (pss_one ps_break)
      pss_nil))
      (pss_one (ps_set (i := 7) sc_number.nd rfl (.inl rfl) (pe_op op_fdiv (pv 7) pe_int))))))
      (pss_one (ps_mk (ps_if (pt_cmpR op_gt (pv 7) pe_int (nomark _))
      (pss_one (ps_ret (pe_op op_mod (pe_callTy call_int1 (by rfl) T.int (by decide +kernel) (pa_cons (pe_op op_mod (pe_callTy call_int1 (by rfl) T.int (by decide +kernel) (pa_cons (pv 7) pa_nil)) pe_int) pa_nil)) (pv 3))))
      pss_nil)))))
      pss_nil))
      (pss_cons (ps_set (i := 9) sc_number.nd rfl (.inl rfl) (pe_op op_mod (pe_callTy call_int1 (by rfl) T.int (by decide +kernel) (pa_cons (pe_op op_add (pe_op op_add (pv 4) (pe_op op_mul pe_int (pv 6))) pe_int) pa_nil)) pe_int))
      (pss_cons (ps_set (i := 9) sc_number.nd rfl (.inl rfl) (pe_op op_mod (pe_callTy call_int1 (by rfl) T.int (by decide +kernel) (pa_cons (pe_op op_mul (pv 9) (pe_op op_add (pv 9) pe_int)) pa_nil)) pe_int))
      (pss_cons (ps_set (i := 9) sc_number.nd rfl (.inl rfl) (pe_op op_mod (pe_callTy call_int1 (by rfl) T.int (by decide +kernel) (pa_cons (pe_op op_add (pe_op op_mul (pv 9) (pe_op op_add (pv 9) pe_int)) (pe_op op_mul pe_int (pv 6))) pa_nil)) pe_int))
      (pss_one (ps_ret (pe_op op_mod (pe_callTy call_int1 (by rfl) T.int (by decide +kernel) (pa_cons (pe_op op_fdiv (pv 9) pe_int) pa_nil)) (pv 3)))))))))))), ?_⟩
  have hml : (ns.map V.int).length = ns.length := List.length_map _
  have t0 : 0 ≤ nTurn ns i ∧ nTurn ns i ≤ 1000000000 := by
    unfold nTurn
    split
    · exact ⟨i0, i1⟩
    · exact ⟨Int.ediv_nonneg i0 (by omega), Int.le_trans (Int.ediv_le_self _ i0) i1⟩
  have p0 : 0 ≤ nPick ns i k ∧ nPick ns i k ≤ 17000000000 := by
    unfold nPick
    omega
  walk_at "go"
  refine jn (M := fun σ H' => ∃ c t : Int, c = nCell ns i ∧ t = nTurn ns i ∧ H' = H ∧ σ = [sR a, sI i, sI k, sI size, sI c, sI t, none, none, none, none]) ?_ (fun N kk => ?_)
  · rintro σ H' ⟨c, t, ec, et, rfl, rfl⟩
    walk_at "go"
    -- behind the pick
    have ep : k + 16 * t = nPick ns i k := by
      rw [et]
      rfl
    have c0 : 0 ≤ c := by
      rw [ec]
      unfold nCell
      split <;> omega
    have en : c < 10 ^ 18 ∨ ¬ itd (nPick ns i k).toNat (c / 10 ^ 18) > 0 → num ns i k size = nMix c (nPick ns i k) / 9 % size := fun h => by
      unfold num
      dsimp only
      rw [← ec]
      rcases h with h | h
      · rw [if_neg (by omega)]
      · split
        · rfl
        · rfl
    refine jn (M := fun σ H2 => H2 = H' ∧ (c < 10 ^ 18 ∨ ¬ itd (nPick ns i k).toNat (c / 10 ^ 18) > 0) ∧ ∃ y8 y9, σ = [sR a, sI i, sI k, sI size, sI c, sI t, sI (nPick ns i k), y8, y9, none]) ?_ (fun N kk => ?_)
    · rintro σ H2 ⟨rfl, hc, y8, y9, rfl⟩
      walk_at "go"
      have e := en hc
      unfold nMix at e
      dsimp only at e
      rw [e] at q
      exact q
    · walk_at "go"
      refine ifD (fun g => ?_) (fun g => ?_)
      · have g' : c ≥ 10 ^ 18 := g
        walk_at "go"
        have r0 : 0 ≤ c / 10 ^ 18 := Int.ediv_nonneg c0 (by decide)
        refine jn (M := fun σ H2 => H2 = H' ∧ ∃ y9, σ = [sR a, sI i, sI k, sI size, sI c, sI t, sI (nPick ns i k), sI (itd (nPick ns i k).toNat (c / 10 ^ 18)), y9, none]) ?_ (fun N2 k2 => ?_)
        · rintro σ H2 ⟨rfl, y9, rfl⟩
          refine un ?_
          walk_at "go"
          refine ifD (fun g2 => ?_) (fun g2 => ?_)
          · walk_at "go"
            have e : num ns i k size = itd (nPick ns i k).toNat (c / 10 ^ 18) % 1000 % size := by
              unfold num
              dsimp only
              rw [← ec, if_pos g', if_pos g2]
            rw [e] at q
            exact q
          · walk_at "go"
            exact kk _ _ ⟨rfl, .inr g2, _, _, rfl⟩
        · walk_at "go"
          refine ⟨(show -(2 ^ 62) ≤ k + 16 * t by omega), (show k + 16 * t < 2 ^ 62 by omega), for_range (lo := 0) (n := (k + 16 * t).toNat) (fun j σ H2 => Ob (H2 = H' ∧ ∃ y9, σ = [sR a, sI i, sI k, sI size, sI c, sI t, sI (nPick ns i k), sI (itd j (c / 10 ^ 18)), y9, none])) (ob ⟨rfl, none, ?_⟩) ?_ ?_⟩
          · rw [← ep]
            rfl
          · rintro j σ H2 hj h
            obtain ⟨rfl, y9, rfl⟩ := unob h
            refine un ?_
            walk_at "go"
            refine ifEq (fun z => ?_) (fun z => ?_)
            · walk_at "go"
              refine k2 _ _ ⟨rfl, sI (0 + (j : Int)), ?_⟩
              have z2 : itd (nPick ns i k).toNat (c / 10 ^ 18) = 0 := by
                have z3 := itd_add _ z ((nPick ns i k).toNat - j)
                rw [show j + ((nPick ns i k).toNat - j) = (nPick ns i k).toNat by omega] at z3
                exact z3
              rw [z2, ← z]
              rfl
            · walk_at "go"
              exact ob ⟨rfl, _, rfl⟩
          · rintro σ H2 h
            obtain ⟨rfl, y9, rfl⟩ := unob h
            refine k2 _ _ ⟨rfl, y9, ?_⟩
            rw [ep]
      · walk_at "go"
        have g' : ¬ c ≥ 10 ^ 18 := g
        refine kk _ _ ⟨rfl, .inl (by omega), none, none, ?_⟩
        rw [← ep]
        rfl
  · walk_at "go"
    refine ifD (fun c => ?_) (fun c => ?_)
    · walk_at "go"
      rw [hml] at c
      refine ⟨_, _, _, _, rfl, rfl, hS, atI_getD (Int.emod_nonneg _ (by omega)) (by rw [hml]; exact Int.emod_lt_of_pos _ (by omega)), ?_⟩
      walk_at "go"
      refine kk _ _ ⟨_, _, ?_, ?_, rfl, rfl⟩
      · unfold nCell
        rw [if_neg (show ¬ ns.length = 0 by omega)]
        simp only [hml]
        split
        · omega
        · omega
      · unfold nTurn
        rw [if_neg (by omega), hml]
    · walk_at "go"
      rw [hml] at c
      refine kk _ _ ⟨_, _, ?_, ?_, rfl, rfl⟩
      · unfold nCell
        rw [if_pos (by omega)]
      · unfold nTurn
        rw [if_pos (by omega)]
end

/-! ### _law_is_whole, _law_same -/
abbrev s_is_whole : Stmt := topS 5
theorem sc_is_whole : FnScope ["_law_told"] ["_law_told"] (C8.fnScope s_is_whole) := C8.fnScope_by (by decide +kernel)
abbrev s_same : Stmt := topS 6
theorem sc_same : FnScope ["_law_told", "_law_due", "_law_k"] ["_law_told", "_law_due"] (C8.fnScope s_same) := C8.fnScope_by (by decide +kernel)
def spWhole : Sp := fun vs H Q _ => ∃ (x : V) (d : PyData), vs = [x] ∧ Dh H d x ∧ Q (.bl (isI d)) H
def spSame (n : Nat) : Sp := fun vs H Q _ => ∃ (x y : V) (d e : PyData), vs = [x, y] ∧ Dh H d x ∧ Dh H e y ∧ Dle n e ∧ ∀ (b : Bool) (H' : Hp), (b = true ↔ d = e) → Same H H' → Q (.bl b) H'
section
variable {P : Program} {w : World} {K : PySem.W.Frag} {mg : Str → Option Value} {base : Heap}
theorem ok_whole {f : Addr} {fd : FuncData} (D : Def K mg "_law_is_whole" s_is_whole f fd) (b : Binds K fd ["_law_told"] []) (T : Txt mg) : Cal P w K mg base 1 "_law_is_whole" spWhole [] := by
  refine cal0 D b .nil sc_is_whole (fun vs H Q E h => ?_) (fun cdv A outer s H vs Q E hr h => ?_)
  · obtain ⟨x, d, rfl, _⟩ := h
    rfl
  obtain ⟨x, d, rfl, hx, q⟩ := h
  refine ⟨_, (pss_one (ps_ret (pe_and (pe_callB is_int (by rfl) T.isinstance (by decide +kernel) (pa_cons (pv 0) (pa_cons (pe_bltn (v := .ty "int") (by rfl) T.int (by decide +kernel) rfl) pa_nil))) (pe_one (pe_not (pe_callB is_bool (by rfl) T.isinstance (by decide +kernel) (pa_cons (pv 0) (pa_cons (pe_bltn (v := .ty "bool") (by rfl) T.bool (by decide +kernel) rfl) pa_nil)))))))), ?_⟩
  cases d <;> (walk_at "go"; exact q)
theorem ok_same_step {f : Addr} {fd : FuncData} (D : Def K mg "_law_same" s_same f fd) (b : Binds K fd ["_law_told", "_law_due"] []) (T : Txt mg) (c_is_whole : Cal P w K mg base 1 "_law_is_whole" spWhole []) {n : Nat}
    (c_same : Cal P w K mg base (n + 1) "_law_same" (spSame n) []) : Cal P w K mg base (n + 2) "_law_same" (spSame (n + 1)) [] := by
  refine cal0 D b .nil sc_same (fun vs H Q E h => ?_) (fun cdv A outer s H vs Q E hr h => ?_)
  · obtain ⟨x, y, d, e, rfl, _⟩ := h
    rfl
  obtain ⟨x, y, d, e, rfl, hx, hy, he, q⟩ := h
  refine ⟨_, (pss_cons (ps_mk (ps_if (pt_val (pe_callB is_lt (by rfl) T.isinstance (by decide +kernel) (pa_cons (pv 1) (pa_cons (pe_tup (pa_cons (pe_bltn (v := .ty "list") (by rfl) T.list (by decide +kernel) rfl) (pa_cons (pe_bltn (v := .ty "tuple") (by rfl) T.tuple (by decide +kernel) rfl) pa_nil))) pa_nil))))
      (pss_cons (ps_mk (ps_if (PW.pt (pw_or (pt_not (pt_val (pe_callB is_lt (by rfl) T.isinstance (by decide +kernel) (pa_cons (pv 0) (pa_cons (pe_tup (pa_cons (pe_bltn (v := .ty "list") (by rfl) T.list (by decide +kernel) rfl) (pa_cons (pe_bltn (v := .ty "tuple") (by rfl) T.tuple (by decide +kernel) rfl) pa_nil))) pa_nil))))) (pw_or1 (pt_cmpR op_ne (pe_callB is_list (by rfl) T.isinstance (by decide +kernel) (pa_cons (pv 0) (pa_cons (pe_bltn (v := .ty "list") (by rfl) T.list (by decide +kernel) rfl) pa_nil))) (pe_callB is_list (by rfl) T.isinstance (by decide +kernel) (pa_cons (pv 1) (pa_cons (pe_bltn (v := .ty "list") (by rfl) T.list (by decide +kernel) rfl) pa_nil))) (nomark _)))))
      (pss_one (ps_ret pe_bl))
      pss_nil))
      (pss_cons (ps_mk (ps_if (pt_cmpR op_ne (pe_callB (lenQ K rfl) (by rfl) T.len PySem.boot_len (pa_cons (pv 0) pa_nil)) (pe_callB (lenQ K rfl) (by rfl) T.len PySem.boot_len (pa_cons (pv 1) pa_nil)) (nomark _))
      (pss_one (ps_ret pe_bl))
      pss_nil))
      (pss_one (ps_ret (pe_cmpR op_eq (pe_callB (lenQ K rfl) (by rfl) T.len PySem.boot_len (pa_cons (pe_lc (own := [("_law_k", 2)]) (g := gName 2) rfl sc_same.nd (pi_range1 (by rfl) T.range (pa_cons (pe_callB (lenQ K rfl) (by rfl) T.len PySem.boot_len (pa_cons (pv 1) pa_nil)) pa_nil)) (blkOk_by (own := [("_law_k", 2)]) (N := ["_law_told", "_law_due", "_law_k"]) (sc := C8.fnScope s_same) (by decide +kernel)) (fun _ _ _ _ _ => (pg_name (i := 2) sc_same.nd rfl (.inl rfl))) (fun _ _ _ _ _ => (pts_one (pt_not (pt_val (C8.pe_c c_same hr (by omega) (by rfl) (pa_cons (pe_ix (ixA K rfl) (pv 0) (pv 2) (fun _ _ => rfl)) (pa_cons (pe_ix (ixA K rfl) (pv 1) (pv 2) (fun _ _ => rfl)) pa_nil))))))) (fun _ _ _ _ _ => (pv 2))) pa_nil)) pe_int (nomark _))))))
      pss_nil))
      (pss_cons (ps_mk (ps_if (pt_val (pe_callB is_bool (by rfl) T.isinstance (by decide +kernel) (pa_cons (pv 1) (pa_cons (pe_bltn (v := .ty "bool") (by rfl) T.bool (by decide +kernel) rfl) pa_nil))))
      (pss_one (ps_ret (pe_and (pe_callB is_bool (by rfl) T.isinstance (by decide +kernel) (pa_cons (pv 0) (pa_cons (pe_bltn (v := .ty "bool") (by rfl) T.bool (by decide +kernel) rfl) pa_nil))) (pe_one (pe_cmpR op_eq (pv 0) (pv 1) (nomark _))))))
      pss_nil))
      (pss_cons (ps_mk (ps_if (pt_val (pe_callB is_int (by rfl) T.isinstance (by decide +kernel) (pa_cons (pv 1) (pa_cons (pe_bltn (v := .ty "int") (by rfl) T.int (by decide +kernel) rfl) pa_nil))))
      (pss_one (ps_ret (pe_and (C8.pe_c c_is_whole hr (by omega) (by rfl) (pa_cons (pv 0) pa_nil)) (pe_one (pe_cmpR op_eq (pv 0) (pv 1) (nomark _))))))
      pss_nil))
      (pss_cons (ps_mk (ps_if (pt_val (pe_callB is_str (by rfl) T.isinstance (by decide +kernel) (pa_cons (pv 1) (pa_cons (pe_bltn (v := .ty "str") (by rfl) T.str (by decide +kernel) rfl) pa_nil))))
      (pss_one (ps_ret (pe_and (pe_callB is_str (by rfl) T.isinstance (by decide +kernel) (pa_cons (pv 0) (pa_cons (pe_bltn (v := .ty "str") (by rfl) T.str (by decide +kernel) rfl) pa_nil))) (pe_one (pe_cmpR op_eq (pv 0) (pv 1) (nomark _))))))
      pss_nil))
      (pss_one (ps_ret (pe_and (pe_cmpR op_isN (pv 0) pe_non (nomark _)) (pe_one (pe_cmpR op_isN (pv 1) pe_non (nomark _)))))))))), ?_⟩
  refine jn (M := fun σ H' => Same H H' ∧ σ = [some x, some y, none] ∧ (isL e || isT e) = false) ?_ (fun N kk => ?_)
  · rintro σ H1 ⟨s1, rfl, hf⟩
    have hx1 := Dh.mono s1 _ _ hx
    have hy1 := Dh.mono s1 _ _ hy
    clear hx hy he
    cases e with
    | list es => cases hf
    | tuple es => cases hf
    | dict kvs => exact False.elim hy1
    | none =>
      cases (show y = V.non from hy1)
      cases d
      case dict => exact False.elim hx1
      all_goals first | (obtain ⟨_, _, e1, _, _⟩ := id hx1; cases e1) | (cases (show x = _ from hx1))
      all_goals repeat (first | refine un ?_ | walk_at "st")
      all_goals exact q _ _ (by simp) s1
    | bool c =>
      cases (show y = V.bl c from hy1)
      cases d
      case dict => exact False.elim hx1
      all_goals first | (obtain ⟨_, _, e1, _, _⟩ := id hx1; cases e1) | (cases (show x = _ from hx1))
      all_goals repeat (first | refine un ?_ | walk_at "st")
      all_goals exact q _ _ (by simp) s1
    | int c =>
      cases (show y = V.int c from hy1)
      cases d
      case dict => exact False.elim hx1
      all_goals first | (obtain ⟨_, _, e1, _, _⟩ := id hx1; cases e1) | (cases (show x = _ from hx1))
      all_goals repeat (first | refine un ?_ | walk_at "st")
      all_goals first | exact q _ _ (by simp) s1 | skip
      all_goals refine ⟨_, _, rfl, hx1, ?_⟩
      all_goals repeat (first | refine un ?_ | walk_at "st")
      all_goals exact q _ _ (by simp) s1
    | str c =>
      cases (show y = V.str c from hy1)
      cases d
      case dict => exact False.elim hx1
      all_goals first | (obtain ⟨_, _, e1, _, _⟩ := id hx1; cases e1) | (cases (show x = _ from hx1))
      all_goals repeat (first | refine un ?_ | walk_at "st")
      all_goals exact q _ _ (by simp) s1
  · walk_at "go"
    refine ⟨sz, fun p hp => ?_⟩
    refine ⟨_, _, _, rfl, upd_same, Dh.mono (same_upd hp) _ _ hy, ?_⟩
    walk_at "go"
    have s1 : Same H (upd H p (.tup [.ty "list", .ty "tuple"])) := same_upd hp
    have hx1 := Dh.mono s1 _ _ hx
    have hy1 := Dh.mono s1 _ _ hy
    cases hf : (isL e || isT e) with
    | false =>
      refine ifBF rfl ?_
      exact kk _ _ ⟨s1, rfl, hf⟩
    | true =>
      refine ifBT rfl ?_
      generalize upd H p (HO.tup [V.ty "list", V.ty "tuple"]) = H1 at *
      clear hx hy kk hp
      walk_at "go"
      refine jn (M := fun σ H2 => Same H1 H2 ∧ ∃ a c xs ys ds es, σ = [sR a, sR c, none] ∧ (SqL K H2 a xs ∨ SqT K H2 a xs) ∧ (SqL K H2 c ys ∨ SqT K H2 c ys) ∧ DhAll H2 ds xs ∧ DhAll H2 es ys ∧ es.length ≤ 100000 ∧ (∀ e' ∈ es, Dle n e') ∧ (d = e ↔ ds = es)) ?_ (fun N2 k2 => ?_)
      · rintro σ H2 ⟨s2, a, c, xs, ys, ds, es, rfl, hA, hC, hds, hes, hlen, hle, hiff⟩
        have lx := hds.len
        have ly := hes.len
        walk_at "go"
        refine jn (M := fun σ H3 => H3 = H2 ∧ σ = [sR a, sR c, none] ∧ ds.length = es.length) ?_ (fun N3 k3 => ?_)
        · rintro σ H3 ⟨rfl, rfl, el⟩
          walk_at "go"
          refine ⟨by omega, by omega, fun L hL => lc_range (lo := 0) (n := ((ys.length : Nat) : Int).toNat)
            (fun i H' => Ob (Same H3 H' ∧ ∃ acc, H' L = some (.lst acc) ∧ acc.length ≤ i ∧ (acc = [] ↔ ds.take i = es.take i))) (ob ⟨same_upd hL, [], upd_same, Nat.le_refl _, by simp⟩) ?_ ?_⟩
          · intro i H4 hi h4
            obtain ⟨s4, acc, g4, l4, e4⟩ := unob h4
            have hi2 : i < es.length := by omega
            have hi3 : i < ds.length := by omega
            obtain ⟨xv, ex, dx⟩ := hds.get (List.getElem?_eq_getElem hi3)
            obtain ⟨yv, ey, dy⟩ := hes.get (List.getElem?_eq_getElem hi2)
            have tk := take_succ_eq (List.getElem?_eq_getElem hi3) (List.getElem?_eq_getElem hi2)
            have ax : atI xs (0 + (i : Int)) = some xv := by
              rw [Int.zero_add]
              exact atI_nat ex
            have ay : atI ys (0 + (i : Int)) = some yv := by
              rw [Int.zero_add]
              exact atI_nat ey
            refine ⟨rfl, ?_⟩
            walk_at "go"
            refine ixAny (sqAny s4 hA) ax ?_
            walk_at "go"
            refine ixAny (sqAny s4 hC) ay ?_
            walk_at "go"
            refine ⟨_, _, _, _, rfl, Dh.mono s4 _ _ dx, Dh.mono s4 _ _ dy, hle _ (List.getElem_mem hi2), fun b5 H5 hb s5 => ?_⟩
            walk_at "go"
            refine ifN ?_
            cases b5 with
            | true =>
              refine ifBT rfl (ob ⟨s4.trans s5, acc, s5 _ _ g4, Nat.le_succ_of_le l4, ?_⟩)
              rw [e4, tk]
              exact ⟨fun z => ⟨z, hb.mp rfl⟩, fun z => z.1⟩
            | false =>
              refine ifBF rfl ?_
              walk_at "go"
              refine ⟨acc, s5 _ _ g4, sz5 (by omega), ob ⟨same_put (s4.trans s5) hL, _, upd_same, ?_, ?_⟩⟩
              · rw [List.length_append]
                exact Nat.add_le_add_right l4 1
              · constructor
                · intro z
                  exact absurd (congrArg List.length z) (by rw [List.length_append]; simp)
                · intro z
                  exact absurd (hb.mpr (tk.mp z).2) Bool.false_ne_true
          · intro H4 h4
            obtain ⟨s4, acc, g4, l4, e4⟩ := unob h4
            walk_at "go"
            refine q _ _ ?_ ((s1.trans s2).trans s4)
            rw [hiff]
            have et : ((ys.length : Nat) : Int).toNat = es.length := by omega
            rw [et, List.take_of_length_le (by omega), List.take_of_length_le (Nat.le_refl _)] at e4
            rw [← e4, decide_eq_true_iff]
            constructor
            · intro z
              have z2 := V.int.inj z
              exact List.eq_nil_of_length_eq_zero (by omega)
            · intro z
              rw [z]
              rfl
        · walk_at "go"
          refine ifNe (fun z => ?_) (fun z => ?_)
          · walk_at "go"
            refine q _ _ ?_ (s1.trans s2)
            rw [hiff]
            constructor
            · intro h
              cases h
            · intro h
              rw [h] at lx
              omega
          · walk_at "go"
            exact k3 _ _ ⟨rfl, rfl, by omega⟩
      · walk_at "go"
        refine ⟨sz, fun p2 hp2 => ?_⟩
        have s2 : Same H1 (upd H1 p2 (HO.tup [V.ty "list", V.ty "tuple"])) := same_upd hp2
        refine ⟨_, _, _, rfl, upd_same, Dh.mono s2 _ _ hx1, ?_⟩
        have hx2 := Dh.mono s2 _ _ hx1
        have hy2 := Dh.mono s2 _ _ hy1
        walk_at "go"
        generalize upd H1 p2 (HO.tup [V.ty "list", V.ty "tuple"]) = H2 at *
        clear hp2
        cases e with
        | none => cases hf
        | bool _ => cases hf
        | int _ => cases hf
        | str _ => cases hf
        | dict kvs => cases hf
        | list es =>
          obtain ⟨c, ys, rfl, gy, hes⟩ := id hy2
          cases d
          case dict => exact False.elim hx2
          case list ds =>
            obtain ⟨a, xs, rfl, gx, hds⟩ := id hx2
            walk_at "go"
            exact k2 _ _ ⟨s2, _, _, _, _, ds, es, rfl, .inl (.inl (.inl gx)), .inl (.inl (.inl gy)), hds, hes, he.1, he.2, by simp⟩
          all_goals walk_at "go"
          all_goals exact q _ _ (by simp) (s1.trans s2)
        | tuple es =>
          obtain ⟨c, ys, rfl, gy, hes⟩ := id hy2
          cases d
          case dict => exact False.elim hx2
          case tuple ds =>
            obtain ⟨a, xs, rfl, gx, hds⟩ := id hx2
            walk_at "go"
            exact k2 _ _ ⟨s2, _, _, _, _, ds, es, rfl, .inr (.inl (.inl gx)), .inr (.inl (.inl gy)), hds, hes, he.1, he.2, by simp⟩
          all_goals walk_at "go"
          all_goals exact q _ _ (by simp) (s1.trans s2)
theorem ok_same {f : Addr} {fd : FuncData} (D : Def K mg "_law_same" s_same f fd) (b : Binds K fd ["_law_told", "_law_due"] []) (T : Txt mg) (c_is_whole : Cal P w K mg base 1 "_law_is_whole" spWhole []) :
    ∀ n, Cal P w K mg base (n + 1) "_law_same" (spSame n) []
  | 0 => by
    have no : ∀ vs H Q E, ¬ spSame 0 vs H Q E := fun vs H Q E h => by
      obtain ⟨x, y, d, e, _, _, _, h1, _⟩ := h
      exact h1
    exact ⟨f, fd, _, _, ⟨fun vs H Q E h => absurd h (no vs H Q E), fun A outer s H args us vs Q E _ _ _ _ h => absurd h (no vs H Q E)⟩, D.mgf, D.kp, b, .nil⟩
  | n + 1 => ok_same_step D b T c_is_whole (ok_same D b T c_is_whole n)
end

local macro_rules | `(tactic| walk_at "st") => `(tactic| refine ⟨_, _, _, _, _, rfl, by assumption, by assumption, by omega, by omega, by omega, by omega, by omega, ?_⟩)
local macro_rules | `(tactic| walk_at "st") => `(tactic| refine ⟨_, _, _, _, _, rfl, Same.seq (by assumption) (by assumption), by assumption, by omega, by omega, by omega, by omega, by omega, ?_⟩)

/-! ### _law_thing, _law_change_of, _law_kinds, _law_safe, change_kind, is_safe -/
abbrev s_thing : Stmt := topS 7
theorem sc_thing : FnScope ["_law_script", "_law_at", "_law_k", "_law_number_here", "_law_kind", "_law_word", "_law_rest", "_law_step"] ["_law_script", "_law_at", "_law_k"] (C8.fnScope s_thing) := C8.fnScope_by (by decide +kernel)
def strOkk (x : Str) : Prop := PyData.canLay0 (.str x) = true
theorem okk_nil : strOkk "" := by
  show PyData.canLay0 (.str "") = true
  decide +kernel
theorem okk_one : strOkk "1" := by
  show PyData.canLay0 (.str "1") = true
  decide +kernel
theorem okk_app {x : Str} {c : Nat} (h : strOkk x) (hc : c < 0x110000) : strOkk (x ++ ⟨#[c]⟩) := by
  have h2 : x.cps.all (· < 0x110000) = true := h
  show (x ++ (⟨#[c]⟩ : Str)).cps.all (· < 0x110000) = true
  rw [Str.cps_append, Array.all_append, h2]
  simpa using hc
/-- what _law_thing may give: ints, texts, tuples of these, never a bool -/
def Flat1 : PyData → Prop
  | .int _ => True
  | .str x => strOkk x
  | _ => False
def Thing : PyData → Prop
  | .int _ => True
  | .str x => strOkk x
  | .tuple ds => ds.length ≤ 3 ∧ ∀ d ∈ ds, Flat1 d
  | _ => False
theorem ab1 (j : Int) (h0 : 0 ≤ j) (h1 : j < 3) : ∃ c, atI ("ab1" : Str).cps.toList j = some c ∧ c < 0x110000 := by
  have h : j = 0 ∨ j = 1 ∨ j = 2 := by omega
  rcases h with rfl | rfl | rfl
  · exact ⟨97, by decide +kernel, by decide⟩
  · exact ⟨98, by decide +kernel, by decide⟩
  · exact ⟨49, by decide +kernel, by decide⟩
def spThing (K : PySem.W.Frag) : Sp := fun vs H Q _ => ∃ (a : Addr) (ns : List Int) (i k : Int), vs = [.ref a, .int i, .int k] ∧ SqL K H a (ns.map V.int) ∧ ns.length ≤ 63 ∧
  0 ≤ i ∧ i ≤ 1000000 ∧ 0 ≤ k ∧ k ≤ 1000000 ∧ ∀ (v : V) (d : PyData) (H' : Hp), Same H H' → Dh H' d v → Thing d → Q v H'
section
variable {P : Program} {w : World} {K : PySem.W.Frag} {mg : Str → Option Value} {base : Heap}
theorem ok_thing {f : Addr} {fd : FuncData} (D : Def K mg "_law_thing" s_thing f fd) (b : Binds K fd ["_law_script", "_law_at", "_law_k"] []) (T : Txt mg) (c_number : Cal P w K mg base 1 "_law_number" (spNum K) []) : Cal P w K mg base 2 "_law_thing" (spThing K) [] := by
  refine cal0 D b .nil sc_thing (fun vs H Q E h => ?_) (fun cdv A outer s H vs Q E hr h => ?_)
  · obtain ⟨a, ns, i, k, rfl, _⟩ := h
    rfl
  obtain ⟨a, ns, i, k, rfl, hS, hl, i0, i1, k0, k1, q⟩ := h
  refine ⟨_, (pss_cons (ps_set (i := 3) sc_thing.nd rfl (.inl rfl) (C8.pe_c c_number hr (by omega) (by rfl) (pa_cons (pv 0) (pa_cons (pv 1) (pa_cons (pv 2) (pa_cons pe_int pa_nil))))))
      (pss_cons (ps_set (i := 4) sc_thing.nd rfl (.inl rfl) (C8.pe_c c_number hr (by omega) (by rfl) (pa_cons (pv 0) (pa_cons (pv 1) (pa_cons (pe_op op_add (pv 2) pe_int) (pa_cons pe_int pa_nil))))))
      (pss_cons (ps_set (i := 5) sc_thing.nd rfl (.inl rfl) pe_str)
      (pss_cons (ps_set (i := 6) sc_thing.nd rfl (.inl rfl) (pe_op op_fdiv (pv 3) pe_int))
      (pss_cons (ps_mk (ps_for PassesOwn.never rfl (pi_range1 (by rfl) T.range (pa_cons (pe_op op_mod (pe_callTy call_int1 (by rfl) T.int (by decide +kernel) (pa_cons (pv 3) pa_nil)) pe_int) pa_nil)) (pg_name (i := 7) sc_thing.nd rfl (.inl rfl))
      (pss_cons (ps_set (i := 5) sc_thing.nd rfl (.inl rfl) (pe_op op_add_str (pv 5) (pe_ix ix_str pe_str (pe_op op_mod (pe_callTy call_int1 (by rfl) T.int (by decide +kernel) (pa_cons (pv 6) pa_nil)) pe_int) (fun _ _ => rfl))))
      (pss_one (ps_set (i := 6) sc_thing.nd rfl (.inl rfl) (pe_op op_fdiv (pv 6) pe_int))))))
      (pss_cons (ps_mk (ps_if (pt_cmpR op_lt (pv 4) pe_int (nomark _))
      (pss_one (ps_ret (pe_op op_mod (pe_callTy call_int1 (by rfl) T.int (by decide +kernel) (pa_cons (pv 3) pa_nil)) pe_int)))
      pss_nil))
      (pss_cons (ps_mk (ps_if (pt_cmpR op_eq (pv 4) pe_int (nomark _))
      (pss_one (ps_ret (pe_op op_add (pe_op op_mul (pv 3) (pe_op op_pow pe_int pe_int)) pe_int)))
      pss_nil))
      (pss_cons (ps_mk (ps_if (pt_cmpR op_eq (pv 4) pe_int (nomark _))
      (pss_one (ps_ret (pe_op op_sub (pe_un un_neg pe_int) (pv 3))))
      pss_nil))
      (pss_cons (ps_mk (ps_if (pt_cmpR op_lt (pv 4) pe_int (nomark _))
      (pss_one (ps_ret (pv 5)))
      pss_nil))
      (pss_cons (ps_mk (ps_if (pt_cmpR op_eq (pv 4) pe_int (nomark _))
      (pss_one (ps_ret (pe_tup (pa_cons (pe_op op_mod (pe_callTy call_int1 (by rfl) T.int (by decide +kernel) (pa_cons (pv 3) pa_nil)) pe_int) pa_nil))))
      pss_nil))
      (pss_cons (ps_mk (ps_if (pt_cmpR op_eq (pv 4) pe_int (nomark _))
      (pss_one (ps_ret (pe_tup (pa_cons (pv 5) (pa_cons (pe_op op_fdiv (pv 3) pe_int) pa_nil)))))
      pss_nil))
      (pss_one (ps_ret (pe_ix (ixL K rfl) (pe_lst (pa_cons (pe_tup pa_nil) (pa_cons (pe_tup (pa_cons (pv 5) pa_nil)) (pa_cons (pe_tup (pa_cons (pv 5) (pa_cons (pv 5) pa_nil))) (pa_cons (pe_tup (pa_cons pe_int (pa_cons pe_str (pa_cons (pv 5) pa_nil)))) pa_nil))))) (pe_op op_mod (pe_callTy call_int1 (by rfl) T.int (by decide +kernel) (pa_cons (pe_op op_fdiv (pv 3) pe_int) pa_nil)) pe_int) (fun _ _ => rfl))))))))))))))), ?_⟩
  have r0 : 0 ≤ num ns i k 1000 := num_nn (by decide)
  have r1 : num ns i k 1000 < 1000 := num_lt (by decide)
  walk_at "go"
  refine jn (M := fun σ H' => H' = H ∧ ∃ z y6 y7, strOkk z ∧ z.length ≤ 3 ∧ σ = [sR a, sI i, sI k, sI (num ns i k 1000), sI (num ns i (k + 1) 9), sS z, y6, y7]) ?_ (fun N kk => ?_)
  · rintro σ H' ⟨rfl, z, y6, y7, ok, hz, rfl⟩
    generalize num ns i k 1000 = r at *
    generalize num ns i (k + 1) 9 = m at *
    walk_at "go"
    refine jn (M := fun σ H2 => H2 = H' ∧ σ = [sR a, sI i, sI k, sI r, sI m, sS z, y6, y7]) ?_ (fun N k2 => ?_)
    rotate_left
    · walk_at "go"
      refine ifD (fun c => ?_) (fun c => ?_)
      · walk_at "go"
        exact q _ (.int _) _ same_rfl rfl trivial
      · walk_at "go"
        exact k2 _ _ ⟨rfl, rfl⟩
    rintro σ H2 ⟨rfl, rfl⟩
    walk_at "go"
    refine jn (M := fun σ H3 => H3 = H2 ∧ σ = [sR a, sI i, sI k, sI r, sI m, sS z, y6, y7]) ?_ (fun N k2 => ?_)
    rotate_left
    · walk_at "go"
      refine ifEq (fun c => ?_) (fun c => ?_)
      · walk_at "go"
        exact q _ (.int _) _ same_rfl rfl trivial
      · walk_at "go"
        exact k2 _ _ ⟨rfl, rfl⟩
    rintro σ H3 ⟨rfl, rfl⟩
    walk_at "go"
    refine jn (M := fun σ H2 => H2 = H3 ∧ σ = [sR a, sI i, sI k, sI r, sI m, sS z, y6, y7]) ?_ (fun N k2 => ?_)
    rotate_left
    · walk_at "go"
      refine ifEq (fun c => ?_) (fun c => ?_)
      · walk_at "go"
        exact q _ (.int _) _ same_rfl rfl trivial
      · walk_at "go"
        exact k2 _ _ ⟨rfl, rfl⟩
    rintro σ H2 ⟨rfl, rfl⟩
    walk_at "go"
    refine jn (M := fun σ H3 => H3 = H2 ∧ σ = [sR a, sI i, sI k, sI r, sI m, sS z, y6, y7]) ?_ (fun N k2 => ?_)
    rotate_left
    · walk_at "go"
      refine ifD (fun c => ?_) (fun c => ?_)
      · walk_at "go"
        exact q _ (.str _) _ same_rfl rfl ok
      · walk_at "go"
        exact k2 _ _ ⟨rfl, rfl⟩
    rintro σ H3 ⟨rfl, rfl⟩
    walk_at "go"
    refine jn (M := fun σ H2 => H2 = H3 ∧ σ = [sR a, sI i, sI k, sI r, sI m, sS z, y6, y7]) ?_ (fun N k2 => ?_)
    rotate_left
    · walk_at "go"
      refine ifEq (fun c => ?_) (fun c => ?_)
      · walk_at "go"
        refine ⟨sz, fun p hp => ?_⟩
        exact q _ (.tuple [.int _]) _ (same_upd hp) ⟨p, _, rfl, upd_same, ⟨_, _, rfl, rfl, rfl⟩⟩ ⟨by simp, by simp [Flat1, ok, okk_one]⟩
      · walk_at "go"
        exact k2 _ _ ⟨rfl, rfl⟩
    rintro σ H2 ⟨rfl, rfl⟩
    walk_at "go"
    refine jn (M := fun σ H3 => H3 = H2 ∧ σ = [sR a, sI i, sI k, sI r, sI m, sS z, y6, y7]) ?_ (fun N k2 => ?_)
    rotate_left
    · walk_at "go"
      refine ifEq (fun c => ?_) (fun c => ?_)
      · walk_at "go"
        refine ⟨sz, fun p hp => ?_⟩
        exact q _ (.tuple [.str _, .int _]) _ (same_upd hp) ⟨p, _, rfl, upd_same, ⟨_, _, rfl, rfl, _, _, rfl, rfl, rfl⟩⟩ ⟨by simp, by simp [Flat1, ok, okk_one]⟩
      · walk_at "go"
        exact k2 _ _ ⟨rfl, rfl⟩
    rintro σ H3 ⟨rfl, rfl⟩
    walk_at "go"
    refine ⟨sz, fun p0 h0 => ?_⟩
    walk_at "go"
    refine ⟨sz, fun p1 h1 => ?_⟩
    walk_at "go"
    refine ⟨sz, fun p2 h2 => ?_⟩
    walk_at "go"
    refine ⟨sz, fun p3 h3 => ?_⟩
    walk_at "go"
    refine ⟨sz, fun p4 h4 => ?_⟩
    walk_at "go"
    have s0 := same_upd (o := HO.tup []) h0
    have s1 := same_upd (o := HO.tup [V.str z]) h1
    have s2 := same_upd (o := HO.tup [V.str z, V.str z]) h2
    have s3 := same_upd (o := HO.tup [V.int 1, V.str "1", V.str z]) h3
    have s4 := same_upd (o := HO.lst [V.ref p0, V.ref p1, V.ref p2, V.ref p3]) h4
    have hS5 := SqL.of (K := K) (xs := [V.ref p0, V.ref p1, V.ref p2, V.ref p3]) (upd_same (H := (upd (upd (upd (upd H3 p0 (HO.tup [])) p1 (HO.tup [V.str z])) p2 (HO.tup [V.str z, V.str z])) p3 (HO.tup [V.int 1, V.str "1", V.str z]))) (a := p4))
    obtain ⟨j, hj⟩ : ∃ j, j = r / 108 % 4 := ⟨_, rfl⟩
    have j4 : j = 0 ∨ j = 1 ∨ j = 2 ∨ j = 3 := by omega
    rcases j4 with e | e | e | e
    · refine ⟨_, _, _, V.ref p0, rfl, rfl, hS5, (by rw [← hj, e]; rfl), ?_⟩
      exact q _ (.tuple []) _ (s0.trans (s1.trans (s2.trans (s3.trans s4)))) ⟨p0, _, rfl, s4 _ _ (s3 _ _ (s2 _ _ (s1 _ _ upd_same))), rfl⟩ ⟨by decide, by simp⟩
    · refine ⟨_, _, _, V.ref p1, rfl, rfl, hS5, (by rw [← hj, e]; rfl), ?_⟩
      exact q _ (.tuple [.str z]) _ (s0.trans (s1.trans (s2.trans (s3.trans s4)))) ⟨p1, _, rfl, s4 _ _ (s3 _ _ (s2 _ _ upd_same)), ⟨_, _, rfl, rfl, rfl⟩⟩ ⟨by simp, by simp [Flat1, ok, okk_one]⟩
    · refine ⟨_, _, _, V.ref p2, rfl, rfl, hS5, (by rw [← hj, e]; rfl), ?_⟩
      exact q _ (.tuple [.str z, .str z]) _ (s0.trans (s1.trans (s2.trans (s3.trans s4)))) ⟨p2, _, rfl, s4 _ _ (s3 _ _ upd_same), ⟨_, _, rfl, rfl, _, _, rfl, rfl, rfl⟩⟩ ⟨by simp, by simp [Flat1, ok, okk_one]⟩
    · refine ⟨_, _, _, V.ref p3, rfl, rfl, hS5, (by rw [← hj, e]; rfl), ?_⟩
      exact q _ (.tuple [.int 1, .str "1", .str z]) _ (s0.trans (s1.trans (s2.trans (s3.trans s4)))) ⟨p3, _, rfl, s4 _ _ upd_same, ⟨_, _, rfl, rfl, _, _, rfl, rfl, _, _, rfl, rfl, rfl⟩⟩ ⟨by simp, by simp [Flat1, ok, okk_one]⟩
  · walk_at "go"
    refine ⟨by omega, by omega, for_range (lo := 0) (n := (num ns i k 1000 % 4).toNat) (fun j σ H' => Ob (H' = H ∧ ∃ z r y7, strOkk z ∧ z.length ≤ j ∧ 0 ≤ r ∧ σ = [sR a, sI i, sI k, sI (num ns i k 1000), sI (num ns i (k + 1) 9), sS z, sI r, y7])) (ob ⟨rfl, _, _, none, okk_nil, Nat.le_refl 0, Int.ediv_nonneg r0 (by decide), rfl⟩) ?_ ?_⟩
    · rintro j σ H' hj h
      obtain ⟨rfl, z, r, y7, ok, hz, hr0, rfl⟩ := unob h
      obtain ⟨c, hc, hc2⟩ := ab1 (r % 3) (by omega) (by omega)
      walk_at "go"
      refine ⟨_, _, c, rfl, rfl, by decide +kernel, hc, ?_⟩
      walk_at "go"
      have l1 : (⟨#[c]⟩ : Str).length = 1 := rfl
      refine ⟨by rw [l1]; exact Nat.le_of_lt (sz5 (by omega)), ?_⟩
      walk_at "go"
      exact ob ⟨rfl, _, _, _, okk_app ok hc2, by rw [Str.length_append, l1]; omega, Int.ediv_nonneg hr0 (by decide), rfl⟩
    · rintro σ H' h
      obtain ⟨rfl, z, r, y7, ok, hz, hr0, rfl⟩ := unob h
      exact kk _ _ ⟨rfl, z, _, _, ok, by omega, rfl⟩
end
abbrev s_change_kind : Stmt := topS 1
theorem sc_change_kind : FnScope ["old", "new"] ["old", "new"] (C8.fnScope s_change_kind) := C8.fnScope_by (by decide +kernel)
abbrev s_change_of : Stmt := topS 8
theorem sc_change_of : FnScope ["_law_old", "_law_new"] ["_law_old", "_law_new"] (C8.fnScope s_change_of) := C8.fnScope_by (by decide +kernel)
abbrev s_is_safe : Stmt := topS 2
theorem sc_is_safe : FnScope ["kinds", "capacity"] ["kinds", "capacity"] (C8.fnScope s_is_safe) := C8.fnScope_by (by decide +kernel)
abbrev s_safe : Stmt := topS 10
theorem sc_safe : FnScope ["_law_kinds_here", "_law_size"] ["_law_kinds_here", "_law_size"] (C8.fnScope s_safe) := C8.fnScope_by (by decide +kernel)
abbrev s_kinds : Stmt := topS 9
theorem sc_kinds : FnScope ["_law_script", "_law_at", "_law_k", "_law_rest", "_law_kinds_here", "_law_step"] ["_law_script", "_law_at", "_law_k"] (C8.fnScope s_kinds) := C8.fnScope_by (by decide +kernel)
/-- a datum or None -/
def Opt (d : PyData) : Prop := d = .none ∨ Thing d
mutual
theorem eqv_flat : ∀ {d e : PyData}, Flat1 d → Flat1 e → (PyData.eqv d e = true ↔ d = e)
  | .int i, .int j, _, _ => by
    show (i == j) = true ↔ _
    simp
  | .str i, .str j, _, _ => by
    show (i == j) = true ↔ _
    simp
  | .int i, .str j, _, _ => by simp [PyData.eqv]
  | .str i, .int j, _, _ => by simp [PyData.eqv]
end
theorem eqv_flats : ∀ {ds es : List PyData}, (∀ d ∈ ds, Flat1 d) → (∀ d ∈ es, Flat1 d) → (PyData.eqvAll ds es = true ↔ ds = es)
  | [], [], _, _ => by simp [PyData.eqvAll]
  | [], _ :: _, _, _ => by simp [PyData.eqvAll]
  | _ :: _, [], _, _ => by simp [PyData.eqvAll]
  | d :: ds, e :: es, h1, h2 => by
    show (PyData.eqv d e && PyData.eqvAll ds es) = true ↔ _
    rw [Bool.and_eq_true, eqv_flat (h1 d List.mem_cons_self) (h2 e List.mem_cons_self), eqv_flats (fun x hx => h1 x (List.mem_cons_of_mem _ hx)) (fun x hx => h2 x (List.mem_cons_of_mem _ hx))]
    simp
theorem eqv_thing {d e : PyData} (h1 : Opt d) (h2 : Opt e) : PyData.eqv d e = true ↔ d = e := by
  cases d with
  | none => cases e <;> simp [PyData.eqv]
  | bool _ => exact (h1.resolve_left (by simp)).elim
  | list _ => exact (h1.resolve_left (by simp)).elim
  | dict _ => exact (h1.resolve_left (by simp)).elim
  | int i =>
    cases e with
    | bool _ => exact (h2.resolve_left (by simp)).elim
    | _ => simp [PyData.eqv]
  | str i =>
    cases e with
    | bool _ => exact (h2.resolve_left (by simp)).elim
    | _ => simp [PyData.eqv]
  | tuple ds =>
    cases e with
    | bool _ => exact (h2.resolve_left (by simp)).elim
    | tuple es =>
      have h3 := h1.resolve_left (by simp)
      have h4 := h2.resolve_left (by simp)
      show PyData.eqvAll ds es = true ↔ _
      rw [eqv_flats h3.2 h4.2]
      simp
    | _ => simp [PyData.eqv]
theorem flat_lay {d : PyData} (h : Flat1 d) : d.canLay0 = true ∧ d.depth = 0 := by
  cases d with
  | int i => exact ⟨rfl, rfl⟩
  | str x => exact ⟨h, rfl⟩
  | _ => exact h.elim
theorem flats_lay : ∀ {ds : List PyData}, (∀ d ∈ ds, Flat1 d) → PyData.canLayAll0 ds = true ∧ PyData.depthAll ds = 0
  | [], _ => ⟨rfl, rfl⟩
  | d :: ds, h => by
    have h1 := flat_lay (h d List.mem_cons_self)
    have h2 := flats_lay (ds := ds) fun x hx => h x (List.mem_cons_of_mem _ hx)
    exact ⟨by show (d.canLay0 && PyData.canLayAll0 ds) = true; rw [h1.1, h2.1]; rfl, by show max d.depth (PyData.depthAll ds) = 0; rw [h1.2, h2.2]; rfl⟩
theorem shaped_opt {d : PyData} (h : Opt d) : SeqAt.shaped d = true := by
  cases d with
  | none => rfl
  | bool _ => exact (h.resolve_left (by simp)).elim
  | list _ => exact (h.resolve_left (by simp)).elim
  | dict _ => exact (h.resolve_left (by simp)).elim
  | int i => rfl
  | str x =>
    have h3 : PyData.canLay0 (.str x) = true := h.resolve_left (by simp)
    show (PyData.canLay0 (.str x) && decide (PyData.depth (.str x) ≤ 64)) = true
    rw [h3]
    rfl
  | tuple ds =>
    have h3 := flats_lay (h.resolve_left (by simp)).2
    show (PyData.canLayAll0 ds && decide (PyData.depthAll ds + 1 ≤ 64)) = true
    rw [h3.1, h3.2]
    rfl
theorem dle_opt {d : PyData} (h : Opt d) : Dle 2 d := by
  cases d with
  | none => trivial
  | bool _ => trivial
  | list _ => exact (h.resolve_left (by simp)).elim
  | dict _ => exact (h.resolve_left (by simp)).elim
  | int i => trivial
  | str x => trivial
  | tuple ds =>
    have h3 := h.resolve_left (by simp)
    refine ⟨Nat.le_trans h3.1 (by decide), fun e he => ?_⟩
    have h4 := h3.2 e he
    cases e with
    | int i => trivial
    | str i => trivial
    | _ => exact h4.elim
theorem dle_strs {ss : List Str} (h : ss.length ≤ 1000) : Dle 2 (.list (ss.map PyData.str)) := by
  refine ⟨by rw [List.length_map]; omega, fun e he => ?_⟩
  obtain ⟨x, _, rfl⟩ := List.mem_map.mp he
  trivial
theorem dh_strs {H : Hp} : ∀ (ss : List Str), DhAll H (ss.map PyData.str) (ss.map V.str)
  | [] => rfl
  | s :: ss => ⟨.str s, ss.map V.str, rfl, rfl, dh_strs ss⟩
/-- the word for a change -/
def IsKind (d e : PyData) (s : Str) : Prop := (d = e → s = "same") ∧ (d ≠ e → d = .none → s = "gain") ∧ (d ≠ e → d ≠ .none → e = .none → s = "loss") ∧ (d ≠ e → d ≠ .none → e ≠ .none → s = "move")
theorem IsKind.one {d e : PyData} {s t : Str} (h : IsKind d e s) (k : IsKind d e t) : s = t := by
  by_cases h1 : d = e
  · rw [h.1 h1, k.1 h1]
  · by_cases h2 : d = .none
    · rw [h.2.1 h1 h2, k.2.1 h1 h2]
    · by_cases h3 : e = .none
      · rw [h.2.2.1 h1 h2 h3, k.2.2.1 h1 h2 h3]
      · rw [h.2.2.2 h1 h2 h3, k.2.2.2 h1 h2 h3]
theorem Dh.non_iff {H : Hp} : ∀ {d : PyData} {x : V}, Dh H d x → (x = .non ↔ d = .none)
  | .none, x, h => by simp [show x = .non from h]
  | .bool b, x, h => by simp [show x = .bl b from h]
  | .int b, x, h => by simp [show x = .int b from h]
  | .str b, x, h => by simp [show x = .str b from h]
  | .list ds, x, h => by
    obtain ⟨a, xs, e, _⟩ := h
    simp [e]
  | .tuple ds, x, h => by
    obtain ⟨a, xs, e, _⟩ := h
    simp [e]
  | .dict _, x, h => False.elim h
def safeOf (ss : List Str) (n : Int) : Bool := decide (n = 0) || (inV (.str "loss") (ss.map V.str) && inV (.str "move") (ss.map V.str))
def spChange : Sp := fun vs H Q _ => ∃ (x y : V) (d e : PyData), vs = [x, y] ∧ Dh H d x ∧ Dh H e y ∧ Opt d ∧ Opt e ∧ ∀ (s : Str) (H' : Hp), IsKind d e s → Same H H' → Q (.str s) H'
def spSafe (K : PySem.W.Frag) : Sp := fun vs H Q _ => ∃ (p : Addr) (ss : List Str) (n : Int), vs = [.ref p, .int n] ∧ H p = some (.lst (ss.map V.str)) ∧ Q (.bl (safeOf ss n)) H
def spKinds (K : PySem.W.Frag) : Sp := fun vs H Q _ => ∃ (a : Addr) (ns : List Int) (i k : Int), vs = [.ref a, .int i, .int k] ∧ SqL K H a (ns.map V.int) ∧ ns.length ≤ 63 ∧
  0 ≤ i ∧ i ≤ 1000000 ∧ 0 ≤ k ∧ k ≤ 1000000 ∧ ∀ (p : Addr) (ss : List Str) (H' : Hp), Same H H' → H p = none → H' p = some (.lst (ss.map V.str)) → ss.length ≤ 5 → Q (.ref p) H'
theorem flat_strs (ss : List Str) : (ss.map V.str).all flatV = true := by
  rw [List.all_eq_true]
  intro x hx
  obtain ⟨y, _, rfl⟩ := List.mem_map.mp hx
  rfl
section
variable {P : Program} {w : World} {K : PySem.W.Frag} {mg : Str → Option Value} {base : Heap}
theorem ok_change {f : Addr} {fd : FuncData} (D : Def K mg "change_kind" s_change_kind f fd) (b : Binds K fd ["old", "new"] []) (T : Txt mg) : Cal P w K mg base 1 "change_kind" spChange [] := by
  refine cal0 D b .nil sc_change_kind (fun vs H Q E h => ?_) (fun cdv A outer s H vs Q E hr h => ?_)
  · obtain ⟨x, y, d, e, rfl, _⟩ := h
    rfl
  obtain ⟨x, y, d, e, rfl, hx, hy, od, oe, q⟩ := h
  refine ⟨_, (pss_cons (ps_mk (ps_if (pt_cmpR (eqQ K rfl hr.units) (pv 0) (pv 1) (nomark _))
      (pss_one (ps_ret pe_str))
      pss_nil))
      (pss_cons (ps_mk (ps_if (pt_cmpR op_isN (pv 0) pe_non (nomark _))
      (pss_one (ps_ret pe_str))
      pss_nil))
      (pss_cons (ps_mk (ps_if (pt_cmpR op_isN (pv 1) pe_non (nomark _))
      (pss_one (ps_ret pe_str))
      pss_nil))
      (pss_one (ps_ret pe_str))))), ?_⟩
  have ev := eqv_thing od oe
  refine un ?_
  walk_at "go"
  refine ⟨d, e, hx.dp, hy.dp, shaped_opt od, shaped_opt oe, ?_⟩
  walk_at "go"
  by_cases c : d = e
  · refine ifBT (ev.mpr c) ?_
    walk_at "go"
    exact q _ _ ⟨fun _ => rfl, fun z => absurd c z, fun z => absurd c z, fun z => absurd c z⟩ same_rfl
  refine ifBF (Bool.eq_false_iff.mpr (fun z => c (ev.mp z))) ?_
  walk_at "go"
  refine un ?_
  walk_at "go"
  refine ifD (fun z => ?_) (fun z => ?_)
  · walk_at "go"
    exact q _ _ ⟨fun z => absurd z c, fun _ _ => rfl, fun _ z2 => absurd (hx.non_iff.mp z) z2, fun _ z2 => absurd (hx.non_iff.mp z) z2⟩ same_rfl
  have z1 : d ≠ .none := fun z2 => z (hx.non_iff.mpr z2)
  walk_at "go"
  refine un ?_
  walk_at "go"
  refine ifD (fun z => ?_) (fun z => ?_)
  · walk_at "go"
    exact q _ _ ⟨fun z => absurd z c, fun _ z2 => absurd z2 z1, fun _ _ _ => rfl, fun _ _ z2 => absurd (hy.non_iff.mp z) z2⟩ same_rfl
  have z2 : e ≠ .none := fun z2 => z (hy.non_iff.mpr z2)
  walk_at "go"
  exact q _ _ ⟨fun z => absurd z c, fun _ z2 => absurd z2 z1, fun _ _ z3 => absurd z3 z2, fun _ _ _ => rfl⟩ same_rfl
theorem ok_change_of {f : Addr} {fd : FuncData} (D : Def K mg "_law_change_of" s_change_of f fd) (b : Binds K fd ["_law_old", "_law_new"] []) (T : Txt mg) (c_same : Cal P w K mg base 3 "_law_same" (spSame 2) []) : Cal P w K mg base 4 "_law_change_of" spChange [] := by
  refine cal0 D b .nil sc_change_of (fun vs H Q E h => ?_) (fun cdv A outer s H vs Q E hr h => ?_)
  · obtain ⟨x, y, d, e, rfl, _⟩ := h
    rfl
  obtain ⟨x, y, d, e, rfl, hx, hy, od, oe, q⟩ := h
  refine ⟨_, (pss_cons (ps_mk (ps_if (PW.pt (pw_and (pt_cmpR op_isN (pv 0) pe_non (nomark _)) (pw_and1 (pt_cmpR op_isN (pv 1) pe_non (nomark _)))))
      (pss_one (ps_ret pe_str))
      pss_nil))
      (pss_cons (ps_mk (ps_if (pt_cmpR op_isN (pv 0) pe_non (nomark _))
      (pss_one (ps_ret pe_str))
      pss_nil))
      (pss_cons (ps_mk (ps_if (pt_cmpR op_isN (pv 1) pe_non (nomark _))
      (pss_one (ps_ret pe_str))
      pss_nil))
      (pss_cons (ps_mk (ps_if (pt_val (C8.pe_c c_same hr (by omega) (by rfl) (pa_cons (pv 1) (pa_cons (pv 0) pa_nil))))
      (pss_one (ps_ret pe_str))
      pss_nil))
      (pss_one (ps_ret pe_str)))))), ?_⟩
  by_cases hd : d = .none
  · have ex := hx.non_iff.mpr hd
    by_cases he : e = .none
    · have ey := hy.non_iff.mpr he
      refine un ?_
      walk_at "go"
      refine ifT ex ?_
      walk_at "go"
      refine ifT ey ?_
      walk_at "go"
      exact q _ _ ⟨fun _ => rfl, fun z => absurd (hd.trans he.symm) z, fun z => absurd (hd.trans he.symm) z, fun z => absurd (hd.trans he.symm) z⟩ same_rfl
    · have ey : ¬ y = .non := fun z => he (hy.non_iff.mp z)
      refine un ?_
      walk_at "go"
      refine ifT ex ?_
      walk_at "go"
      refine ifF ey ?_
      walk_at "go"
      refine un ?_
      walk_at "go"
      refine ifT ex ?_
      walk_at "go"
      exact q _ _ ⟨fun z => absurd (z.symm.trans hd) he, fun _ _ => rfl, fun _ z => absurd hd z, fun _ z => absurd hd z⟩ same_rfl
  · have ex : ¬ x = .non := fun z => hd (hx.non_iff.mp z)
    refine un ?_
    walk_at "go"
    refine ifF ex ?_
    walk_at "go"
    refine un ?_
    walk_at "go"
    refine ifF ex ?_
    walk_at "go"
    refine un ?_
    walk_at "go"
    by_cases he : e = .none
    · have ey := hy.non_iff.mpr he
      refine ifT ey ?_
      walk_at "go"
      exact q _ _ ⟨fun z => absurd (z.trans he) hd, fun _ z => absurd z hd, fun _ _ _ => rfl, fun _ _ z => absurd he z⟩ same_rfl
    · have ey : ¬ y = .non := fun z => he (hy.non_iff.mp z)
      refine ifF ey ?_
      walk_at "go"
      refine un ?_
      walk_at "go"
      refine ⟨_, _, e, d, rfl, hy, hx, dle_opt od, fun b5 H5 hb s5 => ?_⟩
      walk_at "go"
      cases b5 with
      | true =>
        refine ifBT rfl ?_
        walk_at "go"
        have z := hb.mp rfl
        exact q _ _ ⟨fun _ => rfl, fun z2 => absurd z.symm z2, fun z2 => absurd z.symm z2, fun z2 => absurd z.symm z2⟩ s5
      | false =>
        refine ifBF rfl ?_
        walk_at "go"
        exact q _ _ ⟨fun z => absurd (hb.mpr z.symm) Bool.false_ne_true, fun _ z => absurd z hd, fun _ _ z => absurd z he, fun _ _ _ => rfl⟩ s5
theorem ok_is_safe {f : Addr} {fd : FuncData} (D : Def K mg "is_safe" s_is_safe f fd) (b : Binds K fd ["kinds", "capacity"] []) (T : Txt mg) : Cal P w K mg base 1 "is_safe" (spSafe K) [] := by
  refine cal0 D b .nil sc_is_safe (fun vs H Q E h => ?_) (fun cdv A outer s H vs Q E hr h => ?_)
  · obtain ⟨p, ss, n, rfl, _⟩ := h
    rfl
  obtain ⟨p, ss, n, rfl, hp, q⟩ := h
  refine ⟨_, (pss_one (ps_ret (pe_or (pe_cmpR op_eq (pv 1) pe_int (nomark _)) (pe_one (pe_and (pe_cmpR (inQ K rfl) pe_str (pv 0) (by rfl)) (pe_one (pe_cmpR (inQ K rfl) pe_str (pv 0) (by rfl)))))))), ?_⟩
  unfold safeOf at q
  walk_at "go"
  refine ifEq (fun c => ?_) (fun c => ?_)
  · rw [decide_eq_true c] at q
    exact q
  · rw [decide_eq_false c] at q
    walk_at "go"
    refine ⟨flat_strs ss, ?_⟩
    walk_at "go"
    cases h1 : inV (.str "loss") (ss.map V.str) with
    | false =>
      rw [h1] at q
      refine ifBF rfl ?_
      exact q
    | true =>
      rw [h1] at q
      refine ifBT rfl ?_
      walk_at "go"
      refine ⟨flat_strs ss, ?_⟩
      exact q
theorem ok_law_safe {f : Addr} {fd : FuncData} (D : Def K mg "_law_safe" s_safe f fd) (b : Binds K fd ["_law_kinds_here", "_law_size"] []) (T : Txt mg) : Cal P w K mg base 1 "_law_safe" (spSafe K) [] := by
  refine cal0 D b .nil sc_safe (fun vs H Q E h => ?_) (fun cdv A outer s H vs Q E hr h => ?_)
  · obtain ⟨p, ss, n, rfl, _⟩ := h
    rfl
  obtain ⟨p, ss, n, rfl, hp, q⟩ := h
  refine ⟨_, (pss_one (ps_ret (pe_or (pe_cmpR op_eq (pv 1) pe_int (nomark _)) (pe_one (pe_and (pe_cmpR (inQ K rfl) pe_str (pv 0) (by rfl)) (pe_one (pe_cmpR (inQ K rfl) pe_str (pv 0) (by rfl)))))))), ?_⟩
  unfold safeOf at q
  walk_at "go"
  refine ifEq (fun c => ?_) (fun c => ?_)
  · rw [decide_eq_true c] at q
    exact q
  · rw [decide_eq_false c] at q
    walk_at "go"
    refine ⟨flat_strs ss, ?_⟩
    walk_at "go"
    cases h1 : inV (.str "loss") (ss.map V.str) with
    | false =>
      rw [h1] at q
      refine ifBF rfl ?_
      exact q
    | true =>
      rw [h1] at q
      refine ifBT rfl ?_
      walk_at "go"
      refine ⟨flat_strs ss, ?_⟩
      exact q
theorem ok_kinds {f : Addr} {fd : FuncData} (D : Def K mg "_law_kinds" s_kinds f fd) (b : Binds K fd ["_law_script", "_law_at", "_law_k"] []) (T : Txt mg) (c_number : Cal P w K mg base 1 "_law_number" (spNum K) []) : Cal P w K mg base 2 "_law_kinds" (spKinds K) [] := by
  refine cal0 D b .nil sc_kinds (fun vs H Q E h => ?_) (fun cdv A outer s H vs Q E hr h => ?_)
  · obtain ⟨a, ns, i, k, rfl, _⟩ := h
    rfl
  obtain ⟨a, ns, i, k, rfl, hS, hl, i0, i1, k0, k1, q⟩ := h
  refine ⟨_, (pss_cons (ps_set (i := 3) sc_kinds.nd rfl (.inl rfl) (C8.pe_c c_number hr (by omega) (by rfl) (pa_cons (pv 0) (pa_cons (pv 1) (pa_cons (pv 2) (pa_cons pe_int pa_nil))))))
      (pss_cons (ps_set (i := 4) sc_kinds.nd rfl (.inl rfl) (pe_lst pa_nil))
      (pss_cons (ps_mk (ps_for PassesOwn.never rfl (pi_range1 (by rfl) T.range (pa_cons (C8.pe_c c_number hr (by omega) (by rfl) (pa_cons (pv 0) (pa_cons (pv 1) (pa_cons (pe_op op_add (pv 2) pe_int) (pa_cons pe_int pa_nil))))) pa_nil)) (pg_name (i := 5) sc_kinds.nd rfl (.inl rfl))
      (pss_cons (ps_expr (pe_bm PySem.F.plainAttrs_list PySem.F.slot_list_append PySem.F.type_list_append mt_append (pv 4) (pa_cons (pe_ix (ixL K rfl) (pe_lst (pa_cons pe_str (pa_cons pe_str (pa_cons pe_str (pa_cons pe_str pa_nil))))) (pe_op op_mod (pe_callTy call_int1 (by rfl) T.int (by decide +kernel) (pa_cons (pv 3) pa_nil)) pe_int) (fun _ _ => rfl)) pa_nil)))
      (pss_one (ps_set (i := 3) sc_kinds.nd rfl (.inl rfl) (pe_op op_fdiv (pv 3) pe_int))))))
      (pss_one (ps_ret (pv 4)))))), ?_⟩
  have r0 : 0 ≤ num ns i k 256 := num_nn (by decide)
  have r1 : num ns i k 256 < 256 := num_lt (by decide)
  have m0 : 0 ≤ num ns i (k + 1) 5 := num_nn (by decide)
  have m1 : num ns i (k + 1) 5 < 5 := num_lt (by decide)
  walk_at "go"
  refine ⟨sz, fun L hL => ?_⟩
  have s0 := same_upd (o := HO.lst []) hL
  walk_at "go"
  refine jn (M := fun σ H' => ∃ (ss : List Str) (y3 y5 : Option V), Same H H' ∧ H' L = some (.lst (ss.map V.str)) ∧ ss.length ≤ 5 ∧ σ = [sR a, sI i, sI k, y3, sR L, y5]) ?_ (fun N kk => ?_)
  · rintro σ H' ⟨ss, y3, y5, s1, g1, l1, rfl⟩
    walk_at "go"
    exact q L ss _ s1 hL g1 l1
  walk_at "go"
  refine ⟨by omega, by omega, for_range (lo := 0) (n := (num ns i (k + 1) 5).toNat) (fun j σ H' => Ob (∃ (ss : List Str) (r : Int) (y5 : Option V), Same H H' ∧ H' L = some (.lst (ss.map V.str)) ∧ ss.length ≤ j ∧ 0 ≤ r ∧ σ = [sR a, sI i, sI k, sI r, sR L, y5])) (ob ⟨[], _, none, s0, upd_same, Nat.le_refl 0, r0, rfl⟩) ?_ ?_⟩
  · rintro j σ H' hj h
    obtain ⟨ss, r, y5, s1, g1, l1, r2, rfl⟩ := unob h
    walk_at "go"
    refine ⟨sz, fun p hp => ?_⟩
    have s2 := same_upd (o := HO.lst [.str "same", .str "gain", .str "loss", .str "move"]) hp
    have g2 := s2 _ _ g1
    obtain ⟨t, ht⟩ : ∃ t : Str, atI [V.str "same", V.str "gain", V.str "loss", V.str "move"] (r % 4) = some (.str t) := by
      have h4 : r % 4 = 0 ∨ r % 4 = 1 ∨ r % 4 = 2 ∨ r % 4 = 3 := by omega
      rcases h4 with e | e | e | e
      · exact ⟨_, by rw [e]; rfl⟩
      · exact ⟨_, by rw [e]; rfl⟩
      · exact ⟨_, by rw [e]; rfl⟩
      · exact ⟨_, by rw [e]; rfl⟩
    walk_at "go"
    refine ⟨_, _, _, _, rfl, rfl, SqL.of upd_same, ht, ?_⟩
    walk_at "go"
    refine ⟨_, _, _, rfl, rfl, g2, sz5 (by rw [List.length_map]; omega), ?_⟩
    walk_at "go"
    refine ob ⟨ss ++ [t], _, _, same_put (s1.trans s2) hL, ?_, ?_, Int.ediv_nonneg r2 (by decide), rfl⟩
    · rw [upd_same, List.map_append]
      rfl
    · rw [List.length_append]
      exact Nat.add_le_add_right l1 1
  · rintro σ H' h
    obtain ⟨ss, r, y5, s1, g1, l1, r2, rfl⟩ := unob h
    exact kk _ _ ⟨ss, _, _, s1, g1, by omega, rfl⟩
end

abbrev s_law : Stmt := topS 11
theorem sc_law : FnScope ["_law_script", "_law_at", "_law_pick", "_law_old", "_law_new", "_law_kinds_here", "_law_size", "_law_given", "_law_word"] ["_law_script"] (C8.fnScope s_law) := C8.fnScope_by (by decide +kernel)
def spLaw (K : PySem.W.Frag) : Sp := fun vs H Q _ => ∃ (a : Addr) (ns : List Int), vs = [.ref a] ∧ SqL K H a (ns.map V.int) ∧ ns.length ≤ 63 ∧ ∀ H', Q (.bl true) H'
theorem pick6 {H : Hp} {p0 p1 p2 : Addr} (h0 : H p0 = some (.tup [])) (h1 : H p1 = some (.tup [.int 0])) (h2 : H p2 = some (.tup [.str ""])) (j : Int) (j0 : 0 ≤ j) (j1 : j < 6) :
    ∃ v d, atI [V.int 0, V.str "", V.ref p0, V.str "0", V.ref p1, V.ref p2] j = some v ∧ Dh H d v ∧ Opt d := by
  have h : j = 0 ∨ j = 1 ∨ j = 2 ∨ j = 3 ∨ j = 4 ∨ j = 5 := by omega
  rcases h with rfl | rfl | rfl | rfl | rfl | rfl
  · exact ⟨_, .int 0, rfl, rfl, .inr trivial⟩
  · exact ⟨_, .str "", rfl, rfl, .inr okk_nil⟩
  · exact ⟨_, .tuple [], rfl, ⟨_, _, rfl, h0, rfl⟩, .inr ⟨by simp, by simp⟩⟩
  · exact ⟨_, .str "0", rfl, rfl, .inr (show PyData.canLay0 (.str "0") = true by decide +kernel)⟩
  · exact ⟨_, .tuple [.int 0], rfl, ⟨_, _, rfl, h1, _, _, rfl, rfl, rfl⟩, .inr ⟨by simp, by simp [Flat1]⟩⟩
  · exact ⟨_, .tuple [.str ""], rfl, ⟨_, _, rfl, h2, _, _, rfl, rfl, rfl⟩, .inr ⟨by simp, by simp [Flat1, okk_nil]⟩⟩
theorem safe_nil (z : Int) : safeOf [] z = decide (V.int z = V.int 0) := by
  unfold safeOf
  rw [dec_int, Bool.eq_iff_iff]
  simp [inV]
section
variable {P : Program} {w : World} {K : PySem.W.Frag} {mg : Str → Option Value} {base : Heap}
theorem ok_law {f : Addr} {fd : FuncData} (D : Def K mg "law" s_law f fd) (T : Txt mg) (c_number : Cal P w K mg base 1 "_law_number" (spNum K) [])
    (c_same : Cal P w K mg base 3 "_law_same" (spSame 2) []) (c_thing : Cal P w K mg base 2 "_law_thing" (spThing K) []) (c_change_kind : Cal P w K mg base 1 "change_kind" spChange []) (c_change_of : Cal P w K mg base 4 "_law_change_of" spChange [])
    (c_kinds : Cal P w K mg base 2 "_law_kinds" (spKinds K) []) (c_is_safe : Cal P w K mg base 1 "is_safe" (spSafe K) []) (c_safe : Cal P w K mg base 1 "_law_safe" (spSafe K) []) : FnOk P w K mg base C8.CX0 5 f fd ["_law_script"] (spLaw K) := by
  refine C8.fn0 D.fn sc_law (fun vs H Q E h => ?_) (fun cdv A outer s H vs Q E hr h => ?_)
  · obtain ⟨a, ns, rfl, _⟩ := h
    rfl
  obtain ⟨a, ns, rfl, hS, hl, q⟩ := h
  refine ⟨_, (pss_cons (ps_mk (ps_for PassesOwn.never rfl (pi_range2 (by rfl) T.range (pa_cons pe_int (pa_cons (pe_op op_add pe_int (C8.pe_c c_number hr (by omega) (by rfl) (pa_cons (pv 0) (pa_cons pe_int (pa_cons pe_int (pa_cons pe_int pa_nil)))))) pa_nil))) (pg_name (i := 1) sc_law.nd rfl (.inl rfl))
      (pss_cons (ps_set (i := 2) sc_law.nd rfl (.inl rfl) (C8.pe_c c_number hr (by omega) (by rfl) (pa_cons (pv 0) (pa_cons (pv 1) (pa_cons pe_int (pa_cons pe_int pa_nil))))))
      (pss_cons (ps_set (i := 3) sc_law.nd rfl (.inl rfl) (C8.pe_c c_thing hr (by omega) (by rfl) (pa_cons (pv 0) (pa_cons (pv 1) (pa_cons pe_int pa_nil)))))
      (pss_cons (ps_set (i := 4) sc_law.nd rfl (.inl rfl) (C8.pe_c c_thing hr (by omega) (by rfl) (pa_cons (pv 0) (pa_cons (pv 1) (pa_cons pe_int pa_nil)))))
      (pss_cons (ps_mk (ps_if (PW.pt (pw_or (pt_cmpR op_eq (pv 2) pe_int (nomark _)) (pw_or1 (pt_cmpR op_eq (pv 2) pe_int (nomark _)))))
      (pss_one (ps_set (i := 3) sc_law.nd rfl (.inl rfl) pe_non))
      pss_nil))
      (pss_cons (ps_mk (ps_if (PW.pt (pw_or (pt_cmpR op_eq (pv 2) pe_int (nomark _)) (pw_or1 (pt_cmpR op_eq (pv 2) pe_int (nomark _)))))
      (pss_one (ps_set (i := 4) sc_law.nd rfl (.inl rfl) pe_non))
      pss_nil))
      (pss_cons (ps_mk (ps_if (PW.pt (pw_or (pt_cmpR op_eq (pv 2) pe_int (nomark _)) (pw_or1 (pt_cmpR op_eq (pv 2) pe_int (nomark _)))))
      (pss_one (ps_set (i := 4) sc_law.nd rfl (.inl rfl) (C8.pe_c c_thing hr (by omega) (by rfl) (pa_cons (pv 0) (pa_cons (pv 1) (pa_cons pe_int pa_nil))))))
      pss_nil))
      (pss_cons (ps_mk (ps_if (pt_cmpR op_eq (pv 2) pe_int (nomark _))
      (pss_cons (ps_set (i := 3) sc_law.nd rfl (.inl rfl) (pe_ix (ixL K rfl) (pe_lst (pa_cons pe_int (pa_cons pe_str (pa_cons (pe_tup pa_nil) (pa_cons pe_str (pa_cons (pe_tup (pa_cons pe_int pa_nil)) (pa_cons (pe_tup (pa_cons pe_str pa_nil)) pa_nil))))))) (C8.pe_c c_number hr (by omega) (by rfl) (pa_cons (pv 0) (pa_cons (pv 1) (pa_cons pe_int (pa_cons pe_int pa_nil))))) (fun _ _ => rfl)))
      (pss_one (ps_set (i := 4) sc_law.nd rfl (.inl rfl) (pe_ix (ixL K rfl) (pe_lst (pa_cons pe_int (pa_cons pe_str (pa_cons (pe_tup pa_nil) (pa_cons pe_str (pa_cons (pe_tup (pa_cons pe_int pa_nil)) (pa_cons (pe_tup (pa_cons pe_str pa_nil)) pa_nil))))))) (C8.pe_c c_number hr (by omega) (by rfl) (pa_cons (pv 0) (pa_cons (pv 1) (pa_cons pe_int (pa_cons pe_int pa_nil))))) (fun _ _ => rfl)))))
      pss_nil))
      (pss_cons (ps_mk (ps_if (pt_not (pt_val (C8.pe_c c_same hr (by omega) (by rfl) (pa_cons (C8.pe_c c_change_kind hr (by omega) (by rfl) (pa_cons (pv 3) (pa_cons (pv 4) pa_nil))) (pa_cons (C8.pe_c c_change_of hr (by omega) (by rfl) (pa_cons (pv 3) (pa_cons (pv 4) pa_nil))) pa_nil)))))
      (pss_one (ps_ret pe_bl))
      pss_nil))
      (pss_cons (ps_mk (ps_if (pt_not (pt_val (C8.pe_c c_same hr (by omega) (by rfl) (pa_cons (C8.pe_c c_change_kind hr (by omega) (by rfl) (pa_cons (pv 4) (pa_cons (pv 3) pa_nil))) (pa_cons (C8.pe_c c_change_of hr (by omega) (by rfl) (pa_cons (pv 4) (pa_cons (pv 3) pa_nil))) pa_nil)))))
      (pss_one (ps_ret pe_bl))
      pss_nil))
      (pss_cons (ps_set (i := 5) sc_law.nd rfl (.inl rfl) (C8.pe_c c_kinds hr (by omega) (by rfl) (pa_cons (pv 0) (pa_cons (pv 1) (pa_cons pe_int pa_nil)))))
      (pss_cons (ps_set (i := 6) sc_law.nd rfl (.inl rfl) (C8.pe_c c_number hr (by omega) (by rfl) (pa_cons (pv 0) (pa_cons (pv 1) (pa_cons pe_int (pa_cons pe_int pa_nil))))))
      (pss_cons (ps_mk (ps_if (pt_cmpR op_gt (pv 6) pe_int (nomark _))
      (pss_one (ps_set (i := 6) sc_law.nd rfl (.inl rfl) (pe_ix (ixL K rfl) (pe_lst (pa_cons pe_int (pa_cons pe_int (pa_cons (pe_op op_add pe_int (C8.pe_c c_number hr (by omega) (by rfl) (pa_cons (pv 0) (pa_cons (pv 1) (pa_cons pe_int (pa_cons pe_int pa_nil)))))) pa_nil)))) (pe_op op_sub (pv 6) pe_int) (fun _ _ => rfl))))
      pss_nil))
      (pss_cons (ps_set (i := 7) sc_law.nd rfl (.inl rfl) (pe_callTy (listQ K rfl) (by rfl) T.list (by decide +kernel) (pa_cons (pv 5) pa_nil)))
      (pss_cons (ps_mk (ps_if (PW.pt (pw_or (pt_not (pt_val (C8.pe_c c_same hr (by omega) (by rfl) (pa_cons (C8.pe_c c_is_safe hr (by omega) (by rfl) (pa_cons (pv 7) (pa_cons (pv 6) pa_nil))) (pa_cons (C8.pe_c c_safe hr (by omega) (by rfl) (pa_cons (pv 5) (pa_cons (pv 6) pa_nil))) pa_nil))))) (pw_or1 (pt_not (pt_val (C8.pe_c c_same hr (by omega) (by rfl) (pa_cons (pv 7) (pa_cons (pv 5) pa_nil))))))))
      (pss_one (ps_ret pe_bl))
      pss_nil))
      (pss_cons (ps_mk (ps_for PassesOwn.never rfl (pi_list (pe_ix (ixL K rfl) (pe_lst (pa_cons (pe_lst (pa_cons pe_str (pa_cons pe_str (pa_cons pe_str pa_nil)))) (pa_cons (pe_lst (pa_cons pe_str (pa_cons pe_str (pa_cons pe_str pa_nil)))) pa_nil))) (pe_op op_mod (pe_callTy call_int1 (by rfl) T.int (by decide +kernel) (pa_cons (pv 2) pa_nil)) pe_int) (fun _ _ => rfl))) (pg_name (i := 8) sc_law.nd rfl (.inl rfl))
      (pss_cons (ps_expr (pe_bm PySem.F.plainAttrs_list PySem.F.slot_list_append PySem.F.type_list_append mt_append (pv 7) (pa_cons (pv 8) pa_nil)))
      (pss_cons (ps_expr (pe_bm PySem.F.plainAttrs_list PySem.F.slot_list_append PySem.F.type_list_append mt_append (pv 5) (pa_cons (pv 8) pa_nil)))
      (pss_one (ps_mk (ps_if (PW.pt (pw_or (pt_not (pt_val (C8.pe_c c_same hr (by omega) (by rfl) (pa_cons (C8.pe_c c_is_safe hr (by omega) (by rfl) (pa_cons (pv 7) (pa_cons (pv 6) pa_nil))) (pa_cons (C8.pe_c c_safe hr (by omega) (by rfl) (pa_cons (pv 5) (pa_cons (pv 6) pa_nil))) pa_nil))))) (pw_or1 (pt_not (pt_val (C8.pe_c c_same hr (by omega) (by rfl) (pa_cons (pv 7) (pa_cons (pv 5) pa_nil))))))))
      (pss_one (ps_ret pe_bl))
      pss_nil)))))))
      (pss_one (ps_mk (ps_if (PW.pt (pw_or (pt_not (pt_val (C8.pe_c c_same hr (by omega) (by rfl) (pa_cons (C8.pe_c c_is_safe hr (by omega) (by rfl) (pa_cons (pe_lst pa_nil) (pa_cons (pv 6) pa_nil))) (pa_cons (pe_cmpR op_eq (pv 6) pe_int (nomark _)) pa_nil))))) (pw_or1 (pt_not (pt_val (C8.pe_c c_same hr (by omega) (by rfl) (pa_cons (C8.pe_c c_is_safe hr (by omega) (by rfl) (pa_cons (pe_lst pa_nil) (pa_cons pe_int pa_nil))) (pa_cons pe_bl pa_nil))))))))
      (pss_one (ps_ret pe_bl))
      pss_nil))))))))))))))))))))
      (pss_one (ps_ret pe_bl))), ?_⟩
  refine jn (M := fun σ H' => True) (fun σ H' _ => ?_) (fun N kk => ?_)
  · walk_at "go"
    exact q _
  have m0 : 0 ≤ num ns 0 9 6 := num_nn (by decide)
  have m1 : num ns 0 9 6 < 6 := num_lt (by decide)
  walk_at "go"
  refine ⟨_, _, rfl, ⟨by omega, by omega, by omega, by omega⟩, for_range (lo := 1) (n := (2 + num ns 0 9 6 - 1).toNat) (fun j σ H' => Ob (Same H H' ∧ ∃ y1 y2 y3 y4 y5 y6 y7 y8, σ = [sR a, y1, y2, y3, y4, y5, y6, y7, y8])) (ob ⟨same_rfl, none, none, none, none, none, none, none, none, rfl⟩) ?_ (fun σ H' _ => kk _ _ trivial)⟩
  rintro j σ H1 hj h
  obtain ⟨s1, y1, y2, y3, y4, y5, y6, y7, y8, rfl⟩ := unob h
  clear kk
  have t0 : 0 ≤ 1 + (j : Int) := by omega
  have t1 : 1 + (j : Int) ≤ 1000 := by omega
  generalize 1 + (j : Int) = t at *
  have hS1 := s1.seq hS
  walk_at "go"
  refine ⟨_, _, _, _, rfl, hS1, hl, t0, by omega, by omega, by omega, fun v1 d1 H2 s2 h1 o1 => ?_⟩
  have hS2 := s2.seq hS1
  walk_at "go"
  refine ⟨_, _, _, _, rfl, hS2, hl, t0, by omega, by omega, by omega, fun v2 d2 H3 s3 h2 o2 => ?_⟩
  have hS3 := s3.seq hS2
  have h1' := Dh.mono s3 _ _ h1
  have s03 := (s1.trans s2).trans s3
  walk_at "go"
  have pk0 : 0 ≤ num ns t 0 8 := num_nn (by decide)
  generalize num ns t 0 8 = pk at *
  clear h1 s1 s2 s3 hS1 hS2
  -- None or not
  refine jn (M := fun σ H' => ∃ v1 v2 d1 d2, Same H H' ∧ Dh H' d1 v1 ∧ Opt d1 ∧ Dh H' d2 v2 ∧ Opt d2 ∧ σ = [sR a, sI t, sI pk, some v1, some v2, y5, y6, y7, y8]) ?_ (fun N kk => ?_)
  rotate_left
  · walk_at "go"
    refine ifEq (fun c => ?_) (fun c => ?_)
    · walk_at "go"
      exact kk _ _ ⟨_, _, .none, d2, s03, rfl, .inl rfl, h2, .inr o2, rfl⟩
    · walk_at "go"
      refine ifEq (fun c => ?_) (fun c => ?_)
      · walk_at "go"
        exact kk _ _ ⟨_, _, .none, d2, s03, rfl, .inl rfl, h2, .inr o2, rfl⟩
      · walk_at "go"
        exact kk _ _ ⟨_, _, d1, d2, s03, h1', .inr o1, h2, .inr o2, rfl⟩
  clear h1' h2 o1 o2 s03 hS3
  rintro σ H4 ⟨v1, v2, d1, d2, s4, h1, o1, h2, o2, rfl⟩
  walk_at "go"
  refine jn (M := fun σ H' => ∃ v1 v2 d1 d2, Same H H' ∧ Dh H' d1 v1 ∧ Opt d1 ∧ Dh H' d2 v2 ∧ Opt d2 ∧ σ = [sR a, sI t, sI pk, some v1, some v2, y5, y6, y7, y8]) ?_ (fun N kk => ?_)
  rotate_left
  · walk_at "go"
    refine ifEq (fun c => ?_) (fun c => ?_)
    · walk_at "go"
      exact kk _ _ ⟨_, _, d1, .none, s4, h1, o1, rfl, .inl rfl, rfl⟩
    · walk_at "go"
      refine ifEq (fun c => ?_) (fun c => ?_)
      · walk_at "go"
        exact kk _ _ ⟨_, _, d1, .none, s4, h1, o1, rfl, .inl rfl, rfl⟩
      · walk_at "go"
        exact kk _ _ ⟨_, _, d1, d2, s4, h1, o1, h2, o2, rfl⟩
  clear h1 h2 o1 o2 s4
  rintro σ H4 ⟨v1, v2, d1, d2, s4, h1, o1, h2, o2, rfl⟩
  have hS4 := s4.seq hS
  walk_at "go"
  refine jn (M := fun σ H' => ∃ v1 v2 d1 d2, Same H H' ∧ Dh H' d1 v1 ∧ Opt d1 ∧ Dh H' d2 v2 ∧ Opt d2 ∧ σ = [sR a, sI t, sI pk, some v1, some v2, y5, y6, y7, y8]) ?_ (fun N kk => ?_)
  rotate_left
  · walk_at "go"
    refine ifEq (fun c => ?_) (fun c => ?_)
    · walk_at "go"
      refine ⟨_, _, _, _, rfl, hS4, hl, t0, by omega, by omega, by omega, fun v3 d3 H5 s5 h3 o3 => ?_⟩
      walk_at "go"
      exact kk _ _ ⟨_, _, d1, d3, s4.trans s5, Dh.mono s5 _ _ h1, o1, h3, .inr o3, rfl⟩
    · walk_at "go"
      refine ifEq (fun c => ?_) (fun c => ?_)
      · walk_at "go"
        refine ⟨_, _, _, _, rfl, hS4, hl, t0, by omega, by omega, by omega, fun v3 d3 H5 s5 h3 o3 => ?_⟩
        walk_at "go"
        exact kk _ _ ⟨_, _, d1, d3, s4.trans s5, Dh.mono s5 _ _ h1, o1, h3, .inr o3, rfl⟩
      · walk_at "go"
        exact kk _ _ ⟨_, _, d1, d2, s4, h1, o1, h2, o2, rfl⟩
  clear h1 h2 o1 o2 s4 hS4
  rintro σ H4 ⟨v1, v2, d1, d2, s4, h1, o1, h2, o2, rfl⟩
  have hS4 := s4.seq hS
  walk_at "go"
  refine jn (M := fun σ H' => ∃ v1 v2 d1 d2, Same H H' ∧ Dh H' d1 v1 ∧ Opt d1 ∧ Dh H' d2 v2 ∧ Opt d2 ∧ σ = [sR a, sI t, sI pk, some v1, some v2, y5, y6, y7, y8]) ?_ (fun N kk => ?_)
  rotate_left
  · walk_at "go"
    refine ifEq (fun c => ?_) (fun c => ?_)
    · walk_at "go"
      refine ⟨sz, fun p0 n0 => ?_⟩
      walk_at "go"
      refine ⟨sz, fun p1 n1 => ?_⟩
      walk_at "go"
      refine ⟨sz, fun p2 n2 => ?_⟩
      walk_at "go"
      refine ⟨sz, fun p3 n3 => ?_⟩
      have e0 := same_upd (o := HO.tup []) n0
      have e1 := same_upd (o := HO.tup [V.int 0]) n1
      have e2 := same_upd (o := HO.tup [V.str ""]) n2
      have e3 := same_upd (o := HO.lst [V.int 0, V.str "", V.ref p0, V.str "0", V.ref p1, V.ref p2]) n3
      have e03 := e0.trans (e1.trans (e2.trans e3))
      obtain ⟨v3, d3, hat, hd3, od3⟩ := pick6 (H := upd (upd (upd (upd H4 p0 (HO.tup [])) p1 (HO.tup [V.int 0])) p2 (HO.tup [V.str ""])) p3 (HO.lst [V.int 0, V.str "", V.ref p0, V.str "0", V.ref p1, V.ref p2])) (e3 _ _ (e2 _ _ (e1 _ _ upd_same))) (e3 _ _ (e2 _ _ upd_same)) (e3 _ _ upd_same) (num ns t 1 6) (num_nn (by decide)) (num_lt (by decide))
      have l3 := SqL.of (K := K) (H := upd (upd (upd (upd H4 p0 (HO.tup [])) p1 (HO.tup [V.int 0])) p2 (HO.tup [V.str ""])) p3 (HO.lst [V.int 0, V.str "", V.ref p0, V.str "0", V.ref p1, V.ref p2])) upd_same
      have hS5 := e03.seq hS4
      generalize upd (upd (upd (upd H4 p0 (HO.tup [])) p1 (HO.tup [V.int 0])) p2 (HO.tup [V.str ""])) p3 (HO.lst [V.int 0, V.str "", V.ref p0, V.str "0", V.ref p1, V.ref p2]) = H5 at *
      clear e0 e1 e2 e3 n0 n1 n2 n3
      walk_at "go"
      refine ⟨_, _, _, v3, rfl, rfl, l3, hat, ?_⟩
      walk_at "go"
      refine ⟨sz, fun p0 n0 => ?_⟩
      walk_at "go"
      refine ⟨sz, fun p1 n1 => ?_⟩
      walk_at "go"
      refine ⟨sz, fun p2 n2 => ?_⟩
      walk_at "go"
      refine ⟨sz, fun p3 n3 => ?_⟩
      have e0 := same_upd (o := HO.tup []) n0
      have e1 := same_upd (o := HO.tup [V.int 0]) n1
      have e2 := same_upd (o := HO.tup [V.str ""]) n2
      have e3 := same_upd (o := HO.lst [V.int 0, V.str "", V.ref p0, V.str "0", V.ref p1, V.ref p2]) n3
      have e04 := e0.trans (e1.trans (e2.trans e3))
      obtain ⟨v4, d4, hat4, hd4, od4⟩ := pick6 (H := upd (upd (upd (upd H5 p0 (HO.tup [])) p1 (HO.tup [V.int 0])) p2 (HO.tup [V.str ""])) p3 (HO.lst [V.int 0, V.str "", V.ref p0, V.str "0", V.ref p1, V.ref p2])) (e3 _ _ (e2 _ _ (e1 _ _ upd_same))) (e3 _ _ (e2 _ _ upd_same)) (e3 _ _ upd_same) (num ns t 3 6) (num_nn (by decide)) (num_lt (by decide))
      have l4 := SqL.of (K := K) (H := upd (upd (upd (upd H5 p0 (HO.tup [])) p1 (HO.tup [V.int 0])) p2 (HO.tup [V.str ""])) p3 (HO.lst [V.int 0, V.str "", V.ref p0, V.str "0", V.ref p1, V.ref p2])) upd_same
      have hS6 := e04.seq hS5
      generalize upd (upd (upd (upd H5 p0 (HO.tup [])) p1 (HO.tup [V.int 0])) p2 (HO.tup [V.str ""])) p3 (HO.lst [V.int 0, V.str "", V.ref p0, V.str "0", V.ref p1, V.ref p2]) = H6 at *
      clear e0 e1 e2 e3 n0 n1 n2 n3
      walk_at "go"
      refine ⟨_, _, _, v4, rfl, rfl, l4, hat4, ?_⟩
      walk_at "go"
      exact kk _ _ ⟨_, _, d3, d4, s4.trans (e03.trans e04), Dh.mono e04 _ _ hd3, od3, hd4, od4, rfl⟩
    · walk_at "go"
      exact kk _ _ ⟨_, _, d1, d2, s4, h1, o1, h2, o2, rfl⟩
  clear h1 h2 o1 o2 s4 hS4
  rintro σ H4 ⟨v1, v2, d1, d2, s4, h1, o1, h2, o2, rfl⟩
  have hS4 := s4.seq hS
  -- change_kind, both ways
  refine jn (M := fun σ H' => Same H4 H' ∧ σ = [sR a, sI t, sI pk, some v1, some v2, y5, y6, y7, y8]) ?_ (fun N kk => ?_)
  rotate_left
  · walk_at "go"
    refine ⟨_, _, d1, d2, rfl, h1, h2, o1, o2, fun w5 H5 k5 e5 => ?_⟩
    walk_at "go"
    refine ⟨_, _, d1, d2, rfl, Dh.mono e5 _ _ h1, Dh.mono e5 _ _ h2, o1, o2, fun w6 H6 k6 e6 => ?_⟩
    walk_at "go"
    refine ⟨_, _, .str w5, .str w6, rfl, rfl, rfl, trivial, fun b7 H7 hb e7 => ?_⟩
    obtain rfl : b7 = true := hb.mpr (congrArg PyData.str (k5.one k6))
    walk_at "go"
    exact kk _ _ ⟨e5.trans (e6.trans e7), rfl⟩
  rintro σ H5 ⟨s5, rfl⟩
  have h1 := Dh.mono s5 _ _ h1
  have h2 := Dh.mono s5 _ _ h2
  have s4 := s4.trans s5
  have hS4 := s5.seq hS4
  clear s5
  walk_at "go"
  refine jn (M := fun σ H' => Same H5 H' ∧ σ = [sR a, sI t, sI pk, some v1, some v2, y5, y6, y7, y8]) ?_ (fun N kk => ?_)
  rotate_left
  · walk_at "go"
    refine ⟨_, _, d2, d1, rfl, h2, h1, o2, o1, fun w5 H5 k5 e5 => ?_⟩
    walk_at "go"
    refine ⟨_, _, d2, d1, rfl, Dh.mono e5 _ _ h2, Dh.mono e5 _ _ h1, o2, o1, fun w6 H6 k6 e6 => ?_⟩
    walk_at "go"
    refine ⟨_, _, .str w5, .str w6, rfl, rfl, rfl, trivial, fun b7 H7 hb e7 => ?_⟩
    obtain rfl : b7 = true := hb.mpr (congrArg PyData.str (k5.one k6))
    walk_at "go"
    exact kk _ _ ⟨e5.trans (e6.trans e7), rfl⟩
  rintro σ H6 ⟨s5, rfl⟩
  have s4 := s4.trans s5
  have hS6 := s4.seq hS
  clear s5 h1 h2 o1 o2 hS4
  -- the kinds, the size
  walk_at "go"
  refine ⟨_, _, _, _, rfl, hS6, hl, t0, by omega, by omega, by omega, fun L ss H7 s7 n7 g7 l7 => ?_⟩
  have s7 := s4.trans s7
  have hS7 := s7.seq hS
  have nL : H L = none := by
    cases e : H L with
    | none => rfl
    | some o =>
      have z := s4 _ _ e
      rw [n7] at z
      cases z
  clear n7 s4 hS6
  walk_at "go"
  have z0 : 0 ≤ num ns t 7 8 := num_nn (by decide)
  have z1 : num ns t 7 8 < 8 := num_lt (by decide)
  refine jn (M := fun σ H' => ∃ z, Same H7 H' ∧ σ = [sR a, sI t, sI pk, some v1, some v2, sR L, sI z, y7, y8]) ?_ (fun N kk => ?_)
  rotate_left
  · walk_at "go"
    refine ifD (fun c => ?_) (fun c => ?_)
    · walk_at "go"
      refine ⟨sz, fun p np => ?_⟩
      obtain ⟨z, hz⟩ : ∃ z, atI [V.int 1, V.int 2, V.int (5 + num ns t 8 60)] (num ns t 7 8 - 5) = some (.int z) := by
        have h : num ns t 7 8 - 5 = 0 ∨ num ns t 7 8 - 5 = 1 ∨ num ns t 7 8 - 5 = 2 := by omega
        rcases h with e | e | e
        · exact ⟨_, by rw [e]; rfl⟩
        · exact ⟨_, by rw [e]; rfl⟩
        · exact ⟨_, by rw [e]; rfl⟩
      walk_at "go"
      refine ⟨_, _, _, _, rfl, rfl, SqL.of upd_same, hz, ?_⟩
      walk_at "go"
      exact kk _ _ ⟨_, same_upd np, rfl⟩
    · walk_at "go"
      exact kk _ _ ⟨_, same_rfl, rfl⟩
  rintro σ H8 ⟨z, s8, rfl⟩
  have g8 := s8 _ _ g7
  have s8 := s7.trans s8
  have hS8 := s8.seq hS
  clear s7 hS7 g7 z0 z1
  walk_at "go"
  intro G nG
  have nG0 : H G = none := s8.free nG
  have gL := same_upd (o := HO.lst (ss.map V.str)) nG _ _ g8
  have gG := upd_same (H := H8) (a := G) (o := HO.lst (ss.map V.str))
  have hLG : L ≠ G := ne_of_none g8 nG
  have s9 := s8.trans (same_upd (o := HO.lst (ss.map V.str)) nG)
  generalize upd H8 G (HO.lst (ss.map V.str)) = H9 at *
  clear g8 nG s8 hS8
  walk_at "go"
  -- the two lists
  refine jn (M := fun σ H' => Same H9 H' ∧ σ = [sR a, sI t, sI pk, some v1, some v2, sR L, sI z, sR G, y8]) ?_ (fun N kk => ?_)
  rotate_left
  · walk_at "go"
    refine ⟨_, ss, _, rfl, gG, ?_⟩
    walk_at "go"
    refine ⟨_, ss, _, rfl, gL, ?_⟩
    walk_at "go"
    refine ⟨_, _, .bool _, .bool _, rfl, rfl, rfl, trivial, fun b7 H7 hb e7 => ?_⟩
    obtain rfl : b7 = true := hb.mpr rfl
    walk_at "go"
    refine ⟨_, _, .list (ss.map PyData.str), .list (ss.map PyData.str), rfl, ⟨G, _, rfl, e7 _ _ gG, dh_strs ss⟩, ⟨L, _, rfl, e7 _ _ gL, dh_strs ss⟩, dle_strs (by omega), fun b8 H8 hb8 e8 => ?_⟩
    obtain rfl : b8 = true := hb8.mpr rfl
    walk_at "go"
    exact kk _ _ ⟨e7.trans e8, rfl⟩
  rintro σ H10 ⟨s10, rfl⟩
  have gG := s10 _ _ gG
  have gL := s10 _ _ gL
  have s9 := s9.trans s10
  clear s10
  walk_at "go"
  refine jn (M := fun σ H' => Same H H' ∧ ∃ y8, σ = [sR a, sI t, sI pk, some v1, some v2, sR L, sI z, sR G, y8]) ?_ (fun N kk => ?_)
  · rintro σ H11 ⟨s11, y8, rfl⟩
    walk_at "go"
    refine jn (M := fun σ H' => Same H H' ∧ σ = [sR a, sI t, sI pk, some v1, some v2, sR L, sI z, sR G, y8]) ?_ (fun N kk => ?_)
    · rintro σ H12 ⟨s12, rfl⟩
      walk_at "go"
      exact ob ⟨s12, _, _, _, _, _, _, _, _, rfl⟩
    walk_at "go"
    refine ⟨sz, fun p np => ?_⟩
    have s13 := s11.trans (same_upd (o := HO.lst []) np)
    walk_at "go"
    refine ⟨_, [], _, rfl, upd_same, ?_⟩
    walk_at "go"
    refine ⟨_, _, .bool _, .bool _, rfl, rfl, rfl, trivial, fun b7 H7 hb e7 => ?_⟩
    obtain rfl : b7 = true := hb.mpr (congrArg PyData.bool (safe_nil z))
    have s14 := s13.trans e7
    walk_at "go"
    refine ⟨sz, fun p2 np2 => ?_⟩
    walk_at "go"
    refine ⟨_, [], _, rfl, upd_same, ?_⟩
    walk_at "go"
    refine ⟨_, _, .bool _, .bool _, rfl, rfl, rfl, trivial, fun b8 H8 hb8 e8 => ?_⟩
    obtain rfl : b8 = true := hb8.mpr rfl
    walk_at "go"
    exact kk _ _ ⟨s14.trans ((same_upd np2).trans e8), rfl⟩
  walk_at "go"
  refine ⟨sz, fun W0 n0 => ?_⟩
  walk_at "go"
  refine ⟨sz, fun W1 n1 => ?_⟩
  walk_at "go"
  refine ⟨sz, fun W2 n2 => ?_⟩
  have e0 := same_upd (o := HO.lst [V.str "loss", V.str "gain", V.str "move"]) n0
  have e1 := same_upd (o := HO.lst [V.str "move", V.str "gain", V.str "loss"]) n1
  have e2 := same_upd (o := HO.lst [V.ref W0, V.ref W1]) n2
  have l2 := SqL.of (K := K) (H := upd (upd (upd H10 W0 (HO.lst [V.str "loss", V.str "gain", V.str "move"])) W1 (HO.lst [V.str "move", V.str "gain", V.str "loss"])) W2 (HO.lst [V.ref W0, V.ref W1])) upd_same
  obtain ⟨Wd, ws, hat, gW, lW, hWG, hWL⟩ : ∃ (Wd : Addr) (ws : List Str), atI [V.ref W0, V.ref W1] (pk % 2) = some (.ref Wd) ∧ (upd (upd (upd H10 W0 (HO.lst [V.str "loss", V.str "gain", V.str "move"])) W1 (HO.lst [V.str "move", V.str "gain", V.str "loss"])) W2 (HO.lst [V.ref W0, V.ref W1])) Wd = some (.lst (ws.map V.str)) ∧ ws.length = 3 ∧ G ≠ Wd ∧ L ≠ Wd := by
    have h : pk % 2 = 0 ∨ pk % 2 = 1 := by omega
    rcases h with e | e
    · exact ⟨W0, ["loss", "gain", "move"], by rw [e]; rfl, e2 _ _ (e1 _ _ upd_same), rfl, ne_of_none gG n0, ne_of_none gL n0⟩
    · exact ⟨W1, ["move", "gain", "loss"], by rw [e]; rfl, e2 _ _ upd_same, rfl, ne_of_none (e0 _ _ gG) n1, ne_of_none (e0 _ _ gL) n1⟩
  have s11 := s9.trans (e0.trans (e1.trans e2))
  have gG := e2 _ _ (e1 _ _ (e0 _ _ gG))
  have gL := e2 _ _ (e1 _ _ (e0 _ _ gL))
  generalize upd (upd (upd H10 W0 (HO.lst [V.str "loss", V.str "gain", V.str "move"])) W1 (HO.lst [V.str "move", V.str "gain", V.str "loss"])) W2 (HO.lst [V.ref W0, V.ref W1]) = H11 at *
  clear e0 e1 e2 n0 n1 n2 s9
  walk_at "go"
  refine ⟨_, _, _, _, rfl, rfl, l2, hat, ?_⟩
  refine ⟨Wd, rfl, ⟨_, SqL.of gW⟩, for_list (K := K) (a := Wd) (xs := ws.map V.str) (fun i σ H' => Ob (Same H H' ∧ H' Wd = some (.lst (ws.map V.str)) ∧ ∃ (ss : List Str) (y8 : Option V), ss.length ≤ 5 + i ∧ H' G = some (.lst (ss.map V.str)) ∧ H' L = some (.lst (ss.map V.str)) ∧ σ = [sR a, sI t, sI pk, some v1, some v2, sR L, sI z, sR G, y8])) (ob ⟨s11, gW, ss, y8, l7, gG, gL, rfl⟩) ?_ ?_ ?_⟩
  · intro i σ H' hi h
    exact SqL.of (unob h).2.1
  · intro i x σ H' hi h
    obtain ⟨s12, gW, ss, y8, lss, gG, gL, rfl⟩ := unob h
    have hi3 : i < (ws.map V.str).length := (List.getElem?_eq_some_iff.mp hi).1
    rw [List.length_map, lW] at hi3
    obtain ⟨u, rfl⟩ : ∃ u, x = V.str u := by
      rw [List.getElem?_map] at hi
      cases e : ws[i]? with
      | none =>
        rw [e] at hi
        cases hi
      | some u =>
        rw [e] at hi
        exact ⟨u, (Option.some.inj hi).symm⟩
    walk_at "go"
    refine ⟨_, _, _, rfl, rfl, gG, sz5 (by rw [List.length_map]; omega), ?_⟩
    have gL2 : (upd H' G (HO.lst (ss.map V.str ++ [V.str u]))) L = some (.lst (ss.map V.str)) := by rw [upd_ne hLG]; exact gL
    walk_at "go"
    refine ⟨_, _, _, rfl, rfl, gL2, sz5 (by rw [List.length_map]; omega), ?_⟩
    have em : ss.map V.str ++ [V.str u] = (ss ++ [u]).map V.str := by rw [List.map_append]; rfl
    have gL3 := upd_same (H := upd H' G (HO.lst (ss.map V.str ++ [V.str u]))) (a := L) (o := HO.lst (ss.map V.str ++ [V.str u]))
    have gG3 : (upd (upd H' G (HO.lst (ss.map V.str ++ [V.str u]))) L (HO.lst (ss.map V.str ++ [V.str u]))) G = some (.lst (ss.map V.str ++ [V.str u])) := by
      rw [upd_ne hLG.symm]
      exact upd_same
    have gW3 : (upd (upd H' G (HO.lst (ss.map V.str ++ [V.str u]))) L (HO.lst (ss.map V.str ++ [V.str u]))) Wd = some (.lst (ws.map V.str)) := by
      rw [upd_ne hWL.symm, upd_ne hWG.symm]
      exact gW
    have s13 := same_put (o := HO.lst (ss.map V.str ++ [V.str u])) (same_put (o := HO.lst (ss.map V.str ++ [V.str u])) s12 nG0) nL
    generalize upd (upd H' G (HO.lst (ss.map V.str ++ [V.str u]))) L (HO.lst (ss.map V.str ++ [V.str u])) = H14 at *
    rw [em] at gL3 gG3
    have lss2 : (ss ++ [u]).length ≤ 5 + (i + 1) := by
      rw [List.length_append]
      show ss.length + 1 ≤ _
      omega
    generalize ss ++ [u] = tt at *
    walk_at "go"
    refine un ?_
    walk_at "go"
    refine ⟨_, tt, _, rfl, gG3, ?_⟩
    walk_at "go"
    refine ⟨_, tt, _, rfl, gL3, ?_⟩
    walk_at "go"
    refine ⟨_, _, .bool _, .bool _, rfl, rfl, rfl, trivial, fun b7 H7 hb e7 => ?_⟩
    obtain rfl : b7 = true := hb.mpr rfl
    walk_at "go"
    refine ⟨_, _, .list (tt.map PyData.str), .list (tt.map PyData.str), rfl, ⟨G, _, rfl, e7 _ _ gG3, dh_strs tt⟩, ⟨L, _, rfl, e7 _ _ gL3, dh_strs tt⟩, dle_strs (by omega), fun b8 H8 hb8 e8 => ?_⟩
    obtain rfl : b8 = true := hb8.mpr rfl
    have e78 := e7.trans e8
    walk_at "go"
    exact ob ⟨s13.trans e78, e78 _ _ gW3, tt, _, lss2, e78 _ _ gG3, e78 _ _ gL3, rfl⟩
  · intro σ H' h
    obtain ⟨s12, gW, ss, y8, lss, gG, gL, rfl⟩ := unob h
    exact kk _ _ ⟨s12, y8, rfl⟩
end

theorem all_mk {l : PySem.W.OpenLaw} {w : World} {K : PySem.W.Frag} {h : Heap} {mg : Str → Option Value} {fa : Addr} (X : K.In h) (G : h.Ns mainGlobals mg) (hfa : mg "law" = some (.ref fa))
    {od_change_kind an_change_kind : Option Addr} {sl_change_kind : Array (Option Value)} {f_change_kind : Addr} {oc_change_kind kV_change_kind dc_change_kind pm_change_kind cd_change_kind ct_change_kind : Value}
    (a_change_kind : PySem.W.nsIn K mainGlobals "change_kind" = some (some (.ref f_change_kind)))
    (l_change_kind : K.lookup f_change_kind = some ⟨oc_change_kind, od_change_kind, .func (PySem.W.fnOf "change_kind" "change_kind" (C8.fnArgs s_change_kind) (C8.fnBody s_change_kind) (C8.fnScope s_change_kind) .none kV_change_kind dc_change_kind pm_change_kind an_change_kind cd_change_kind ct_change_kind), sl_change_kind⟩)
    (c_change_kind : PySem.W.codeIn K cd_change_kind "change_kind" = true) (k_change_kind : PySem.W.keepIn K (.ref f_change_kind) = true)
    {od_is_safe an_is_safe : Option Addr} {sl_is_safe : Array (Option Value)} {f_is_safe : Addr} {oc_is_safe kV_is_safe dc_is_safe pm_is_safe cd_is_safe ct_is_safe : Value}
    (a_is_safe : PySem.W.nsIn K mainGlobals "is_safe" = some (some (.ref f_is_safe)))
    (l_is_safe : K.lookup f_is_safe = some ⟨oc_is_safe, od_is_safe, .func (PySem.W.fnOf "is_safe" "is_safe" (C8.fnArgs s_is_safe) (C8.fnBody s_is_safe) (C8.fnScope s_is_safe) .none kV_is_safe dc_is_safe pm_is_safe an_is_safe cd_is_safe ct_is_safe), sl_is_safe⟩)
    (c_is_safe : PySem.W.codeIn K cd_is_safe "is_safe" = true) (k_is_safe : PySem.W.keepIn K (.ref f_is_safe) = true)
    {od_number an_number : Option Addr} {sl_number : Array (Option Value)} {f_number : Addr} {oc_number kV_number dc_number pm_number cd_number ct_number : Value}
    (a_number : PySem.W.nsIn K mainGlobals "_law_number" = some (some (.ref f_number)))
    (l_number : K.lookup f_number = some ⟨oc_number, od_number, .func (PySem.W.fnOf "_law_number" "_law_number" (C8.fnArgs s_number) (C8.fnBody s_number) (C8.fnScope s_number) .none kV_number dc_number pm_number an_number cd_number ct_number), sl_number⟩)
    (c_number : PySem.W.codeIn K cd_number "_law_number" = true) (k_number : PySem.W.keepIn K (.ref f_number) = true)
    {od_is_whole an_is_whole : Option Addr} {sl_is_whole : Array (Option Value)} {f_is_whole : Addr} {oc_is_whole kV_is_whole dc_is_whole pm_is_whole cd_is_whole ct_is_whole : Value}
    (a_is_whole : PySem.W.nsIn K mainGlobals "_law_is_whole" = some (some (.ref f_is_whole)))
    (l_is_whole : K.lookup f_is_whole = some ⟨oc_is_whole, od_is_whole, .func (PySem.W.fnOf "_law_is_whole" "_law_is_whole" (C8.fnArgs s_is_whole) (C8.fnBody s_is_whole) (C8.fnScope s_is_whole) .none kV_is_whole dc_is_whole pm_is_whole an_is_whole cd_is_whole ct_is_whole), sl_is_whole⟩)
    (c_is_whole : PySem.W.codeIn K cd_is_whole "_law_is_whole" = true) (k_is_whole : PySem.W.keepIn K (.ref f_is_whole) = true)
    {od_same an_same : Option Addr} {sl_same : Array (Option Value)} {f_same : Addr} {oc_same kV_same dc_same pm_same cd_same ct_same : Value}
    (a_same : PySem.W.nsIn K mainGlobals "_law_same" = some (some (.ref f_same)))
    (l_same : K.lookup f_same = some ⟨oc_same, od_same, .func (PySem.W.fnOf "_law_same" "_law_same" (C8.fnArgs s_same) (C8.fnBody s_same) (C8.fnScope s_same) .none kV_same dc_same pm_same an_same cd_same ct_same), sl_same⟩)
    (c_same : PySem.W.codeIn K cd_same "_law_same" = true) (k_same : PySem.W.keepIn K (.ref f_same) = true)
    {od_thing an_thing : Option Addr} {sl_thing : Array (Option Value)} {f_thing : Addr} {oc_thing kV_thing dc_thing pm_thing cd_thing ct_thing : Value}
    (a_thing : PySem.W.nsIn K mainGlobals "_law_thing" = some (some (.ref f_thing)))
    (l_thing : K.lookup f_thing = some ⟨oc_thing, od_thing, .func (PySem.W.fnOf "_law_thing" "_law_thing" (C8.fnArgs s_thing) (C8.fnBody s_thing) (C8.fnScope s_thing) .none kV_thing dc_thing pm_thing an_thing cd_thing ct_thing), sl_thing⟩)
    (c_thing : PySem.W.codeIn K cd_thing "_law_thing" = true) (k_thing : PySem.W.keepIn K (.ref f_thing) = true)
    {od_change_of an_change_of : Option Addr} {sl_change_of : Array (Option Value)} {f_change_of : Addr} {oc_change_of kV_change_of dc_change_of pm_change_of cd_change_of ct_change_of : Value}
    (a_change_of : PySem.W.nsIn K mainGlobals "_law_change_of" = some (some (.ref f_change_of)))
    (l_change_of : K.lookup f_change_of = some ⟨oc_change_of, od_change_of, .func (PySem.W.fnOf "_law_change_of" "_law_change_of" (C8.fnArgs s_change_of) (C8.fnBody s_change_of) (C8.fnScope s_change_of) .none kV_change_of dc_change_of pm_change_of an_change_of cd_change_of ct_change_of), sl_change_of⟩)
    (c_change_of : PySem.W.codeIn K cd_change_of "_law_change_of" = true) (k_change_of : PySem.W.keepIn K (.ref f_change_of) = true)
    {od_kinds an_kinds : Option Addr} {sl_kinds : Array (Option Value)} {f_kinds : Addr} {oc_kinds kV_kinds dc_kinds pm_kinds cd_kinds ct_kinds : Value}
    (a_kinds : PySem.W.nsIn K mainGlobals "_law_kinds" = some (some (.ref f_kinds)))
    (l_kinds : K.lookup f_kinds = some ⟨oc_kinds, od_kinds, .func (PySem.W.fnOf "_law_kinds" "_law_kinds" (C8.fnArgs s_kinds) (C8.fnBody s_kinds) (C8.fnScope s_kinds) .none kV_kinds dc_kinds pm_kinds an_kinds cd_kinds ct_kinds), sl_kinds⟩)
    (c_kinds : PySem.W.codeIn K cd_kinds "_law_kinds" = true) (k_kinds : PySem.W.keepIn K (.ref f_kinds) = true)
    {od_safe an_safe : Option Addr} {sl_safe : Array (Option Value)} {f_safe : Addr} {oc_safe kV_safe dc_safe pm_safe cd_safe ct_safe : Value}
    (a_safe : PySem.W.nsIn K mainGlobals "_law_safe" = some (some (.ref f_safe)))
    (l_safe : K.lookup f_safe = some ⟨oc_safe, od_safe, .func (PySem.W.fnOf "_law_safe" "_law_safe" (C8.fnArgs s_safe) (C8.fnBody s_safe) (C8.fnScope s_safe) .none kV_safe dc_safe pm_safe an_safe cd_safe ct_safe), sl_safe⟩)
    (c_safe : PySem.W.codeIn K cd_safe "_law_safe" = true) (k_safe : PySem.W.keepIn K (.ref f_safe) = true)
    {od_law an_law : Option Addr} {sl_law : Array (Option Value)} {f_law : Addr} {oc_law kV_law dc_law pm_law cd_law ct_law : Value}
    (a_law : PySem.W.nsIn K mainGlobals "law" = some (some (.ref f_law)))
    (l_law : K.lookup f_law = some ⟨oc_law, od_law, .func (PySem.W.fnOf "law" "law" (C8.fnArgs s_law) (C8.fnBody s_law) (C8.fnScope s_law) .none kV_law dc_law pm_law an_law cd_law ct_law), sl_law⟩)
    (c_law : PySem.W.codeIn K cd_law "law" = true) (k_law : PySem.W.keepIn K (.ref f_law) = true)
    (z_len : PySem.W.nsIn K mainGlobals "len" = some none)
    (z_abs : PySem.W.nsIn K mainGlobals "abs" = some none)
    (z_int : PySem.W.nsIn K mainGlobals "int" = some none)
    (z_range : PySem.W.nsIn K mainGlobals "range" = some none)
    (z_isinstance : PySem.W.nsIn K mainGlobals "isinstance" = some none)
    (z_bool : PySem.W.nsIn K mainGlobals "bool" = some none)
    (z_str : PySem.W.nsIn K mainGlobals "str" = some none)
    (z_list : PySem.W.nsIn K mainGlobals "list" = some none)
    (z_tuple : PySem.W.nsIn K mainGlobals "tuple" = some none) :
    ∃ fd : FuncData, (∀ (s : Shared) (v : Value), BindsTo s fd ⟨[v], []⟩ [("_law_script", v)]) ∧ ∀ base : Heap, K.In base → base.Ns mainGlobals mg → FnOk l.prog w K mg base C8.CX0 5 fa fd ["_law_script"] (spLaw K) := by
  have e := hfa.symm.trans (PySem.W.mg_of X G a_law)
  cases e
  have T : Txt mg := ⟨PySem.W.mg_none_of X G z_len, PySem.W.mg_none_of X G z_abs, PySem.W.mg_none_of X G z_int, PySem.W.mg_none_of X G z_range, PySem.W.mg_none_of X G z_isinstance, PySem.W.mg_none_of X G z_bool, PySem.W.mg_none_of X G z_str, PySem.W.mg_none_of X G z_list, PySem.W.mg_none_of X G z_tuple⟩
  have D_change_kind : Def K mg "change_kind" s_change_kind f_change_kind _ := ⟨⟨oc_change_kind, od_change_kind, .none, kV_change_kind, dc_change_kind, pm_change_kind, an_change_kind, cd_change_kind, ct_change_kind, sl_change_kind, rfl, l_change_kind, c_change_kind⟩, PySem.W.mg_of X G a_change_kind, k_change_kind⟩
  have b_change_kind := D_change_kind.fn.binds (ps := ["old", "new"]) rfl fun _ _ _ _ _ _ us hl => match us, hl with | [_, _], _ => rfl
  have D_is_safe : Def K mg "is_safe" s_is_safe f_is_safe _ := ⟨⟨oc_is_safe, od_is_safe, .none, kV_is_safe, dc_is_safe, pm_is_safe, an_is_safe, cd_is_safe, ct_is_safe, sl_is_safe, rfl, l_is_safe, c_is_safe⟩, PySem.W.mg_of X G a_is_safe, k_is_safe⟩
  have b_is_safe := D_is_safe.fn.binds (ps := ["kinds", "capacity"]) rfl fun _ _ _ _ _ _ us hl => match us, hl with | [_, _], _ => rfl
  have D_number : Def K mg "_law_number" s_number f_number _ := ⟨⟨oc_number, od_number, .none, kV_number, dc_number, pm_number, an_number, cd_number, ct_number, sl_number, rfl, l_number, c_number⟩, PySem.W.mg_of X G a_number, k_number⟩
  have b_number := D_number.fn.binds (ps := ["_law_script", "_law_at", "_law_k", "_law_size"]) rfl fun _ _ _ _ _ _ us hl => match us, hl with | [_, _, _, _], _ => rfl
  have D_is_whole : Def K mg "_law_is_whole" s_is_whole f_is_whole _ := ⟨⟨oc_is_whole, od_is_whole, .none, kV_is_whole, dc_is_whole, pm_is_whole, an_is_whole, cd_is_whole, ct_is_whole, sl_is_whole, rfl, l_is_whole, c_is_whole⟩, PySem.W.mg_of X G a_is_whole, k_is_whole⟩
  have b_is_whole := D_is_whole.fn.binds (ps := ["_law_told"]) rfl fun _ _ _ _ _ _ us hl => match us, hl with | [_], _ => rfl
  have D_same : Def K mg "_law_same" s_same f_same _ := ⟨⟨oc_same, od_same, .none, kV_same, dc_same, pm_same, an_same, cd_same, ct_same, sl_same, rfl, l_same, c_same⟩, PySem.W.mg_of X G a_same, k_same⟩
  have b_same := D_same.fn.binds (ps := ["_law_told", "_law_due"]) rfl fun _ _ _ _ _ _ us hl => match us, hl with | [_, _], _ => rfl
  have D_thing : Def K mg "_law_thing" s_thing f_thing _ := ⟨⟨oc_thing, od_thing, .none, kV_thing, dc_thing, pm_thing, an_thing, cd_thing, ct_thing, sl_thing, rfl, l_thing, c_thing⟩, PySem.W.mg_of X G a_thing, k_thing⟩
  have b_thing := D_thing.fn.binds (ps := ["_law_script", "_law_at", "_law_k"]) rfl fun _ _ _ _ _ _ us hl => match us, hl with | [_, _, _], _ => rfl
  have D_change_of : Def K mg "_law_change_of" s_change_of f_change_of _ := ⟨⟨oc_change_of, od_change_of, .none, kV_change_of, dc_change_of, pm_change_of, an_change_of, cd_change_of, ct_change_of, sl_change_of, rfl, l_change_of, c_change_of⟩, PySem.W.mg_of X G a_change_of, k_change_of⟩
  have b_change_of := D_change_of.fn.binds (ps := ["_law_old", "_law_new"]) rfl fun _ _ _ _ _ _ us hl => match us, hl with | [_, _], _ => rfl
  have D_kinds : Def K mg "_law_kinds" s_kinds f_kinds _ := ⟨⟨oc_kinds, od_kinds, .none, kV_kinds, dc_kinds, pm_kinds, an_kinds, cd_kinds, ct_kinds, sl_kinds, rfl, l_kinds, c_kinds⟩, PySem.W.mg_of X G a_kinds, k_kinds⟩
  have b_kinds := D_kinds.fn.binds (ps := ["_law_script", "_law_at", "_law_k"]) rfl fun _ _ _ _ _ _ us hl => match us, hl with | [_, _, _], _ => rfl
  have D_safe : Def K mg "_law_safe" s_safe f_safe _ := ⟨⟨oc_safe, od_safe, .none, kV_safe, dc_safe, pm_safe, an_safe, cd_safe, ct_safe, sl_safe, rfl, l_safe, c_safe⟩, PySem.W.mg_of X G a_safe, k_safe⟩
  have b_safe := D_safe.fn.binds (ps := ["_law_kinds_here", "_law_size"]) rfl fun _ _ _ _ _ _ us hl => match us, hl with | [_, _], _ => rfl
  have D_law : Def K mg "law" s_law fa _ := ⟨⟨oc_law, od_law, .none, kV_law, dc_law, pm_law, an_law, cd_law, ct_law, sl_law, rfl, l_law, c_law⟩, PySem.W.mg_of X G a_law, k_law⟩
  refine ⟨PySem.W.fnOf "law" "law" (C8.fnArgs s_law) (C8.fnBody s_law) (C8.fnScope s_law) .none kV_law dc_law pm_law an_law cd_law ct_law, fun s v => .of_eq rfl, fun base _ _ => ?_⟩
  have c_number := ok_number (P := l.prog) (w := w) (base := base) D_number b_number T
  have c_whole := ok_whole (P := l.prog) (w := w) (base := base) D_is_whole b_is_whole T
  have c_same := ok_same D_same b_same T c_whole 2
  exact ok_law D_law T c_number c_same (ok_thing D_thing b_thing T c_number) (ok_change D_change_kind b_change_kind T) (ok_change_of D_change_of b_change_of T c_same) (ok_kinds D_kinds b_kinds T c_number) (ok_is_safe D_is_safe b_is_safe T) (ok_law_safe D_safe b_safe T)

end Lw
open PySem PySem.W PyProof.Rows
set_option maxRecDepth 100000 in
set_option maxHeartbeats 0 in
theorem PySem.Challenge.cw_lentpages_k10_change_kinds_holds : PySem.Challenge.rw_lentpages_k10_change_kinds.Holds := by
  w_on; o_law; k_head; (case hw => w_witness2)
  k_fill
  refine L2.walk_of (l := PySem.Challenge.rw_lentpages_k10_change_kinds) (n := 63) (k := 5) (x := "_law_script") (CX := fun _ => C8.CX0) (sp := fun w => Lw.spLaw _) rfl (by decide) rfl ⟨rfl, by decide, by decide⟩ (fun w h Y => by first | exact PySem.W.kIn_of Y | exact PySem.W.km_in_of Y) ?F (fun _ _ a ns hl _ hS => ⟨a, ns, rfl, hS, hl, fun _ => rfl⟩) (fun _ _ _ _ _ h => h)
  case F =>
    intro w mg fa h KX G hmg
    refine' Lw.all_mk KX G hmg ?a_change_kind ?l_change_kind ?c_change_kind ?k_change_kind ?a_is_safe ?l_is_safe ?c_is_safe ?k_is_safe ?a_number ?l_number ?c_number ?k_number ?a_is_whole ?l_is_whole ?c_is_whole ?k_is_whole ?a_same ?l_same ?c_same ?k_same ?a_thing ?l_thing ?c_thing ?k_thing ?a_change_of ?l_change_of ?c_change_of ?k_change_of ?a_kinds ?l_kinds ?c_kinds ?k_kinds ?a_safe ?l_safe ?c_safe ?k_safe ?a_law ?l_law ?c_law ?k_law ?z_len ?z_abs ?z_int ?z_range ?z_isinstance ?z_bool ?z_str ?z_list ?z_tuple
    (case a_change_kind => k_is)
    (case l_change_kind => k_is)
    (case c_change_kind => k_is)
    (case k_change_kind => k_is)
    (case a_is_safe => k_is)
    (case l_is_safe => k_is)
    (case c_is_safe => k_is)
    (case k_is_safe => k_is)
    (case a_number => k_is)
    (case l_number => k_is)
    (case c_number => k_is)
    (case k_number => k_is)
    (case a_is_whole => k_is)
    (case l_is_whole => k_is)
    (case c_is_whole => k_is)
    (case k_is_whole => k_is)
    (case a_same => k_is)
    (case l_same => k_is)
    (case c_same => k_is)
    (case k_same => k_is)
    (case a_thing => k_is)
    (case l_thing => k_is)
    (case c_thing => k_is)
    (case k_thing => k_is)
    (case a_change_of => k_is)
    (case l_change_of => k_is)
    (case c_change_of => k_is)
    (case k_change_of => k_is)
    (case a_kinds => k_is)
    (case l_kinds => k_is)
    (case c_kinds => k_is)
    (case k_kinds => k_is)
    (case a_safe => k_is)
    (case l_safe => k_is)
    (case c_safe => k_is)
    (case k_safe => k_is)
    (case a_law => k_is)
    (case l_law => k_is)
    (case c_law => k_is)
    (case k_law => k_is)
    (case z_len => k_is)
    (case z_abs => k_is)
    (case z_int => k_is)
    (case z_range => k_is)
    (case z_isinstance => k_is)
    (case z_bool => k_is)
    (case z_str => k_is)
    (case z_list => k_is)
    (case z_tuple => k_is)
