import PyProof.Rows.All
import Wide.All
import OpenK.AllK
import Wide.FinOn
import HandS.ForMost
import HandS.Codes
import HandS.IsInst
import HandS.Wide
import HandS.DictTup
import PyProof.DictMoreH
import HandS.TupLen
import PySem.Challenge.RW_lentpages_k12_unsafe_trace
set_option Elab.async false
set_option linter.all false
set_option maxRecDepth 100000
set_option maxHeartbeats 4000000
namespace Lw
open PySem PySem.Spec PyProof.Rows L2
open C8 (Def Cal cal0 pe_c)
def topS (i : Nat) : Stmt := PySem.Challenge.pw_lentpages_k12_unsafe_trace.main.body.getD i (.Pass ⟨0, 0, 0, 0⟩)

/-! ### data in the heap, tracked -/
mutual
def Dh (H : Hp) : PyData → V → Prop
  | .none, x => x = .non
  | .bool b, x => x = .bl b
  | .int i, x => x = .int i
  | .str s, x => x = .str s
  | .list ds, x => ∃ a xs, x = .ref a ∧ H a = some (.lst xs) ∧ DhAll H ds xs
  | .tuple ds, x => ∃ a xs, x = .ref a ∧ H a = some (.tup xs) ∧ DhAll H ds xs
  | .dict _, _ => False
def DhAll (H : Hp) : List PyData → List V → Prop
  | [], xs => xs = []
  | d :: ds, xs => ∃ v vs, xs = v :: vs ∧ Dh H d v ∧ DhAll H ds vs
end
mutual
theorem Dh.mono {H H' : Hp} (s : Same H H') : ∀ (d : PyData) (x : V), Dh H d x → Dh H' d x
  | .none, x, h => h
  | .bool b, x, h => h
  | .int i, x, h => h
  | .str i, x, h => h
  | .list ds, x, h => by
    obtain ⟨a, xs, e, g, r⟩ := h
    exact ⟨a, xs, e, s _ _ g, DhAll.mono s ds xs r⟩
  | .tuple ds, x, h => by
    obtain ⟨a, xs, e, g, r⟩ := h
    exact ⟨a, xs, e, s _ _ g, DhAll.mono s ds xs r⟩
  | .dict _, x, h => False.elim h
theorem DhAll.mono {H H' : Hp} (s : Same H H') : ∀ (ds : List PyData) (xs : List V), DhAll H ds xs → DhAll H' ds xs
  | [], xs, h => h
  | d :: ds, xs, h => by
    obtain ⟨v, vs, e, g, r⟩ := h
    exact ⟨v, vs, e, Dh.mono s d v g, DhAll.mono s ds vs r⟩
end
theorem DhAll.len {H : Hp} : ∀ {ds : List PyData} {xs : List V}, DhAll H ds xs → xs.length = ds.length
  | [], xs, h => by
    cases (show xs = [] from h)
    rfl
  | d :: ds, xs, h => by
    obtain ⟨v, vs, e, g, r⟩ := h
    rw [e, List.length_cons, List.length_cons, DhAll.len r]
theorem DhAll.get {H : Hp} : ∀ {ds : List PyData} {xs : List V} {i : Nat} {d : PyData}, DhAll H ds xs → ds[i]? = some d → ∃ x, xs[i]? = some x ∧ Dh H d x
  | [], xs, i, d, h, e => by simp at e
  | d' :: ds, xs, 0, d, h, e => by
    obtain ⟨v, vs, e', g, r⟩ := h
    simp at e
    subst e
    exact ⟨v, by rw [e']; rfl, g⟩
  | d' :: ds, xs, i + 1, d, h, e => by
    obtain ⟨v, vs, e', g, r⟩ := h
    obtain ⟨x, h1, h2⟩ := DhAll.get (i := i) (d := d) r (by simpa using e)
    exact ⟨x, by rw [e']; simpa using h1, h2⟩
mutual
theorem Dh.dp {K : PySem.W.Frag} {H : Hp} : ∀ (d : PyData) (x : V), Dh H d x → Dp K H x d
  | .none, x, h => by
    cases (show x = .non from h)
    exact .non
  | .bool b, x, h => by
    cases (show x = .bl b from h)
    exact .bl b
  | .int i, x, h => by
    cases (show x = .int i from h)
    exact .int i
  | .str i, x, h => by
    cases (show x = .str i from h)
    exact .str i
  | .list ds, x, h => by
    obtain ⟨a, xs, e, g, r⟩ := h
    rw [e]
    exact .lst (SqL.of g) (DhAll.dp ds xs r)
  | .tuple ds, x, h => by
    obtain ⟨a, xs, e, g, r⟩ := h
    rw [e]
    exact .tup (SqT.of g) (DhAll.dp ds xs r)
  | .dict _, x, h => False.elim h
theorem DhAll.dp {K : PySem.W.Frag} {H : Hp} : ∀ (ds : List PyData) (xs : List V), DhAll H ds xs → DpAll K H xs ds
  | [], xs, h => by
    cases (show xs = [] from h)
    exact .nil
  | d :: ds, xs, h => by
    obtain ⟨v, vs, e, g, r⟩ := h
    rw [e]
    exact .cons (Dh.dp d v g) (DhAll.dp ds vs r)
end
/-- a datum's type -/
def tyN : PyData → String
  | .none => "NoneType"
  | .bool _ => "bool"
  | .int _ => "int"
  | .str _ => "str"
  | .list _ => "list"
  | .tuple _ => "tuple"
  | .dict _ => "dict"
theorem Dh.ty {K : PySem.W.Frag} {H : Hp} : ∀ {d : PyData} {x : V}, Dh H d x → TyX K H x (.type (tyN d))
  | .none, x, h => by
    cases (show x = .non from h)
    exact .base .non
  | .bool b, x, h => by
    cases (show x = .bl b from h)
    exact .base (.bl b)
  | .int i, x, h => by
    cases (show x = .int i from h)
    exact .base (.int i)
  | .str i, x, h => by
    cases (show x = .str i from h)
    exact .base (.str i)
  | .list ds, x, h => by
    obtain ⟨a, xs, e, g, r⟩ := h
    rw [e]
    exact .base (.lst g)
  | .tuple ds, x, h => by
    obtain ⟨a, xs, e, g, r⟩ := h
    rw [e]
    exact .base (.tup g)
  | .dict _, x, h => False.elim h
/-- at most n lists and tuples in one another, none of them long -/
def Dle : Nat → PyData → Prop
  | 0, _ => False
  | n + 1, .list ds => ds.length ≤ 100000 ∧ ∀ d ∈ ds, Dle n d
  | n + 1, .tuple ds => ds.length ≤ 100000 ∧ ∀ d ∈ ds, Dle n d
  | _, .dict _ => False
  | _, _ => True
theorem same_upd {H : Hp} {p : Addr} {o : HO} (h : H p = none) : Same H (upd H p o) := fun b x e => by
  rw [upd_ne (ne_of_none e h)]
  exact e
theorem same_rfl {H : Hp} : Same H H := fun _ _ e => e
/-- what is asked of the top's names -/
structure Txt (mg : Str → Option Value) : Prop where
  len : mg "len" = none
  abs : mg "abs" = none
  int : mg "int" = none
  range : mg "range" = none
  isinstance : mg "isinstance" = none
  bool : mg "bool" = none
  str : mg "str" = none
  list : mg "list" = none
  tuple : mg "tuple" = none
abbrev sI (i : Int) : Option V := some (.int i)
abbrev sR (a : Addr) : Option V := some (.ref a)
abbrev sS (x : Str) : Option V := some (.str x)
abbrev sB (b : Bool) : Option V := some (.bl b)

/-! ### steps of a reading -/
theorem ifD {p : Prop} [Decidable p] {A B : Prop} (a : p → A) (b : ¬ p → B) : if decide p = true then A else B := by
  by_cases h : p
  · rw [if_pos (decide_eq_true h)]
    exact a h
  · rw [if_neg (fun z => h (of_decide_eq_true z))]
    exact b h
theorem ifEq {x y : Int} {A B : Prop} (a : x = y → A) (b : x ≠ y → B) : if decide (V.int x = V.int y) = true then A else B :=
  ifD (fun h => a (V.int.inj h)) (fun h => b (fun z => h (congrArg V.int z)))
theorem ifT {p : Prop} [Decidable p] {A B : Prop} (h : p) (a : A) : if decide p = true then A else B := by
  rw [if_pos (decide_eq_true h)]
  exact a
theorem ifF {p : Prop} [Decidable p] {A B : Prop} (h : ¬ p) (b : B) : if decide p = true then A else B := by
  rw [if_neg (fun z => h (of_decide_eq_true z))]
  exact b
theorem ifEqT {x y : Int} {A B : Prop} (h : x = y) (a : A) : if decide (V.int x = V.int y) = true then A else B := ifT (congrArg V.int h) a
theorem ifEqF {x y : Int} {A B : Prop} (h : x ≠ y) (b : B) : if decide (V.int x = V.int y) = true then A else B := ifF (fun z => h (V.int.inj z)) b
theorem cmul_l {i j : Int} (h : -(2 ^ 64) < i ∧ i < 2 ^ 64) : CMul i j := .inl h
theorem cmul_r {i j : Int} (h : -(2 ^ 64) < j ∧ j < 2 ^ 64) : CMul i j := .inr h
/-- a statement that the steps stop at -/
@[irreducible] def tMk (t : TS) : TS := t
theorem tMk_eq (t : TS) : tMk t = t := by
  unfold tMk
  rfl
theorem ps_mk {X : Cx} {s : Stmt} {t : TS} (h : PS X s t) : PS X s (tMk t) := by
  rw [tMk_eq]
  exact h
theorem un {t : TS} {D : Ends} {σ : L2.St} {H : Hp} (h : t D σ H) : tMk t D σ H := by
  rw [tMk_eq]
  exact h
/-- what follows, said once -/
theorem jn {t : TS} {D : Ends} {σ : L2.St} {H : Hp} (M : L2.St → Hp → Prop) (h2 : ∀ σ H, M σ H → D.nx σ H) (h1 : ∀ N : L2.St → Hp → Prop, (∀ σ H, M σ H → N σ H) → t { D with nx := N } σ H) : tMk t D σ H := by
  rw [tMk_eq]
  exact h1 D.nx h2
/-- a wish that the steps stop at -/
@[irreducible] def Ob (p : Prop) : Prop := p
theorem ob {p : Prop} (h : p) : Ob p := by
  unfold Ob
  exact h
theorem unob {p : Prop} (h : Ob p) : p := by
  unfold Ob at h
  exact h
theorem atI_getD {ns : List Int} {j : Int} (h0 : 0 ≤ j) (h1 : j < (ns.length : Int)) : atI (ns.map V.int) j = some (.int (ns.getD j.toNat 0)) := by
  have e : j = ((j.toNat : Nat) : Int) := by omega
  have hj : j.toNat < ns.length := by omega
  have q : atI (ns.map V.int) ((j.toNat : Nat) : Int) = some (.int (ns.getD j.toNat 0)) := atI_nat (by
    rw [List.getElem?_map, List.getElem?_eq_getElem hj, List.getD_eq_getElem?_getD, List.getElem?_eq_getElem hj]
    rfl)
  rw [← e] at q
  exact q
theorem sz {n : Nat} (h : n ≤ 1000 := by first | decide | simp) : n ≤ sizeLine := Nat.le_of_lt (small1000 h)
theorem sz5 {n : Nat} (h : n ≤ 1000000) : n < sizeLine := by
  rw [sizeLine_eq]
  omega
theorem take_succ_eq {α : Type} {xs ys : List α} {i : Nat} {x y : α} (hx : xs[i]? = some x) (hy : ys[i]? = some y) : xs.take (i + 1) = ys.take (i + 1) ↔ xs.take i = ys.take i ∧ x = y := by
  rw [List.take_add_one, List.take_add_one, hx, hy]
  constructor
  · intro h
    have h1 := List.append_inj' h rfl
    refine ⟨h1.1, ?_⟩
    have h2 := h1.2
    simpa using h2
  · rintro ⟨h1, rfl⟩
    rw [h1]
-- size2
theorem ifN {b : Bool} {A B : Prop} (h : if b = true then B else A) : if (!b) = true then A else B := by
  cases b
  · exact h
  · exact h
theorem ifNe {x y : Int} {A B : Prop} (a : x ≠ y → A) (b : x = y → B) : if (!decide (V.int x = V.int y)) = true then A else B := ifN (ifEq b a)
theorem ixAny {K : PySem.W.Frag} {H : Hp} {a : Addr} {xs : List V} {i : Int} {v : V} {Q : VK} (h : SqL K H a xs ∨ SqT K H a xs) (e : atI xs i = some v) (q : Q v H) : rIx K (.ref a) (.int i) H Q := by
  rcases h with h | h
  · exact .inl ⟨a, xs, i, v, rfl, rfl, h, e, q⟩
  · exact .inr (.inl ⟨a, xs, i, v, rfl, rfl, h, e, q⟩)
theorem sameT {K : PySem.W.Frag} {H H' : Hp} {a : Addr} {xs : List V} (s : Same H H') (h : SqT K H a xs) : SqT K H' a xs := by
  rcases h with (g | ⟨o, g⟩) | g
  · exact .inl (.inl (s _ _ g))
  · exact .inl (.inr ⟨o, s _ _ g⟩)
  · exact .inr g
theorem sqAny {K : PySem.W.Frag} {H H' : Hp} {a : Addr} {xs : List V} (s : Same H H') (h : SqL K H a xs ∨ SqT K H a xs) : SqL K H' a xs ∨ SqT K H' a xs := h.imp (fun z => s.seq z) (fun z => sameT s z)
theorem same_put {H H1 : Hp} {D : Addr} {o : HO} (s : Same H H1) (h : H D = none) : Same H (upd H1 D o) := fun b x e => by
  rw [upd_ne (ne_of_none e h)]
  exact s b x e

/-! ### rules that say the written part by a letter -/
theorem ixL {X : Cx} (K : PySem.W.Frag) (h : X.K = K) : IxR X (rIxL K) := by
  subst h
  exact ix_list
theorem ixT {X : Cx} (K : PySem.W.Frag) (h : X.K = K) : IxR X (rIxT K) := by
  subst h
  exact ix_tup
theorem ixA {X : Cx} (K : PySem.W.Frag) (h : X.K = K) : IxR X (rIx K) := by
  subst h
  exact ix_seq
def rLen (K : PySem.W.Frag) : List V → Hp → VK → Prop := fun xs H Q => ∃ p ys, xs = [.ref p] ∧ (SqL K H p ys ∨ SqT K H p ys) ∧ Q (.int ys.length) H
theorem lenQ {X : Cx} (K : PySem.W.Frag) (h : X.K = K) : CallR X (.builtin "len") (rLen K) := by
  subst h
  exact call_len_seq
def isB : PyData → Bool
  | .bool _ => true
  | _ => false
def isI : PyData → Bool
  | .int _ => true
  | _ => false
def isS : PyData → Bool
  | .str _ => true
  | _ => false
def isL : PyData → Bool
  | .list _ => true
  | _ => false
def isT : PyData → Bool
  | .tuple _ => true
  | _ => false
theorem kit_B {K : PySem.W.Frag} : ∀ (d : PyData), PySem.W.kitOne K (.type (tyN d)) (.type "bool") = some (isB d)
  | .none => kit_ty (show kitB "NoneType" "bool" = some false by decide +kernel)
  | .bool _ => kit_ty (show kitB "bool" "bool" = some true by decide +kernel)
  | .int _ => kit_ty (show kitB "int" "bool" = some false by decide +kernel)
  | .str _ => kit_ty (show kitB "str" "bool" = some false by decide +kernel)
  | .list _ => kit_ty (show kitB "list" "bool" = some false by decide +kernel)
  | .tuple _ => kit_ty (show kitB "tuple" "bool" = some false by decide +kernel)
  | .dict _ => kit_ty (show kitB "dict" "bool" = some false by decide +kernel)
theorem kit_I {K : PySem.W.Frag} : ∀ (d : PyData), PySem.W.kitOne K (.type (tyN d)) (.type "int") = some (isI d || isB d)
  | .none => kit_ty (show kitB "NoneType" "int" = some false by decide +kernel)
  | .bool _ => kit_ty (show kitB "bool" "int" = some true by decide +kernel)
  | .int _ => kit_ty (show kitB "int" "int" = some true by decide +kernel)
  | .str _ => kit_ty (show kitB "str" "int" = some false by decide +kernel)
  | .list _ => kit_ty (show kitB "list" "int" = some false by decide +kernel)
  | .tuple _ => kit_ty (show kitB "tuple" "int" = some false by decide +kernel)
  | .dict _ => kit_ty (show kitB "dict" "int" = some false by decide +kernel)
theorem kit_S {K : PySem.W.Frag} : ∀ (d : PyData), PySem.W.kitOne K (.type (tyN d)) (.type "str") = some (isS d)
  | .none => kit_ty (show kitB "NoneType" "str" = some false by decide +kernel)
  | .bool _ => kit_ty (show kitB "bool" "str" = some false by decide +kernel)
  | .int _ => kit_ty (show kitB "int" "str" = some false by decide +kernel)
  | .str _ => kit_ty (show kitB "str" "str" = some true by decide +kernel)
  | .list _ => kit_ty (show kitB "list" "str" = some false by decide +kernel)
  | .tuple _ => kit_ty (show kitB "tuple" "str" = some false by decide +kernel)
  | .dict _ => kit_ty (show kitB "dict" "str" = some false by decide +kernel)
theorem kit_L {K : PySem.W.Frag} : ∀ (d : PyData), PySem.W.kitOne K (.type (tyN d)) (.type "list") = some (isL d)
  | .none => kit_ty (show kitB "NoneType" "list" = some false by decide +kernel)
  | .bool _ => kit_ty (show kitB "bool" "list" = some false by decide +kernel)
  | .int _ => kit_ty (show kitB "int" "list" = some false by decide +kernel)
  | .str _ => kit_ty (show kitB "str" "list" = some false by decide +kernel)
  | .list _ => kit_ty (show kitB "list" "list" = some true by decide +kernel)
  | .tuple _ => kit_ty (show kitB "tuple" "list" = some false by decide +kernel)
  | .dict _ => kit_ty (show kitB "dict" "list" = some false by decide +kernel)
theorem kit_T {K : PySem.W.Frag} : ∀ (d : PyData), PySem.W.kitOne K (.type (tyN d)) (.type "tuple") = some (isT d)
  | .none => kit_ty (show kitB "NoneType" "tuple" = some false by decide +kernel)
  | .bool _ => kit_ty (show kitB "bool" "tuple" = some false by decide +kernel)
  | .int _ => kit_ty (show kitB "int" "tuple" = some false by decide +kernel)
  | .str _ => kit_ty (show kitB "str" "tuple" = some false by decide +kernel)
  | .list _ => kit_ty (show kitB "list" "tuple" = some false by decide +kernel)
  | .tuple _ => kit_ty (show kitB "tuple" "tuple" = some true by decide +kernel)
  | .dict _ => kit_ty (show kitB "dict" "tuple" = some false by decide +kernel)
theorem kit_LT {K : PySem.W.Frag} (d : PyData) : PySem.W.kitAny K (.type (tyN d)) [.type "list", .type "tuple"] = some (isL d || isT d) := by
  refine kitAny_cons (kit_L d) (fun h => ?_) (fun h => by rw [h]; rfl)
  rw [h]
  refine kitAny_cons (kit_T d) (fun h => by rw [h]; rfl) (fun h => by rw [h]; rfl)
/-- isinstance of a datum -/
def rIsD (T : String) (g : PyData → Bool) : List V → Hp → VK → Prop := fun xs H Q => ∃ x d, xs = [x, .ty T] ∧ Dh H d x ∧ Q (.bl (g d)) H
theorem isOf {X : Cx} {T : String} {g : PyData → Bool} (h : ∀ d, PySem.W.kitOne X.K (.type (tyN d)) (.type T) = some (g d)) : CallR X (.builtin "isinstance") (rIsD T g) := by
  intro pins s σ H xs us Q I r z
  obtain ⟨x, d, rfl, hx, q⟩ := z
  exact call_isi pins s σ H _ us Q I r ⟨_, _, _, _, _, rfl, .ty T, hx.ty, h d, q⟩
theorem is_bool {X : Cx} : CallR X (.builtin "isinstance") (rIsD "bool" isB) := isOf kit_B
theorem is_int {X : Cx} : CallR X (.builtin "isinstance") (rIsD "int" fun d => isI d || isB d) := isOf kit_I
theorem is_str {X : Cx} : CallR X (.builtin "isinstance") (rIsD "str" isS) := isOf kit_S
theorem is_list {X : Cx} : CallR X (.builtin "isinstance") (rIsD "list" isL) := isOf kit_L
theorem is_tuple {X : Cx} : CallR X (.builtin "isinstance") (rIsD "tuple" isT) := isOf kit_T
/-- isinstance(x, (list, tuple)) of a datum -/
def rIsLT : List V → Hp → VK → Prop := fun xs H Q => ∃ x d p, xs = [x, .ref p] ∧ H p = some (.tup [.ty "list", .ty "tuple"]) ∧ Dh H d x ∧ Q (.bl (isL d || isT d)) H
theorem is_lt {X : Cx} : CallR X (.builtin "isinstance") rIsLT := by
  intro pins s σ H xs us Q I r z
  obtain ⟨x, d, p, rfl, hp, hx, q⟩ := z
  exact call_isiT pins s σ H _ us Q I r ⟨_, _, _, _, _, _, rfl, hp, .cons (.ty "list") (.cons (.ty "tuple") .nil), hx.ty, kit_LT d, q⟩
theorem ifBT {b : Bool} {A B : Prop} (h : b = true) (a : A) : if b = true then A else B := by
  rw [if_pos h]
  exact a
theorem ifBF {b : Bool} {A B : Prop} (h : b = false) (q : B) : if b = true then A else B := by
  rw [h, if_neg Bool.false_ne_true]
  exact q
theorem inQ {X : Cx} (K : PySem.W.Frag) (h : X.K = K) : OpR X (compareOp .In) (rIn K false) := by
  subst h
  exact op_in_seq
theorem notInQ {X : Cx} (K : PySem.W.Frag) (h : X.K = K) : OpR X (compareOp .NotIn) (rIn K true) := by
  subst h
  exact op_notIn_seq
theorem eqQ {X : Cx} (K : PySem.W.Frag) (h : X.K = K) (hu : X.A.units + 64 < cLine) : OpR X (compareOp .Eq) (rEqD K) := by
  subst h
  exact op_eqD hu
theorem neQ {X : Cx} (K : PySem.W.Frag) (h : X.K = K) (hu : X.A.units + 64 < cLine) : OpR X (compareOp .NotEq) (rNeD K) := by
  subst h
  exact op_neD hu
def rLst (K : PySem.W.Frag) : List V → Hp → VK → Prop := fun xs H Q => ∃ p ys, xs = [.ref p] ∧ (SqL K H p ys ∨ SqT K H p ys) ∧ ∀ l, H l = none → Q (.ref l) (upd H l (.lst ys))
theorem listQ {X : Cx} (K : PySem.W.Frag) (h : X.K = K) : CallR X (.type "list") (rLst K) := by
  subst h
  exact call_list_of

section

-- a condition of an operator
local macro_rules | `(tactic| walk_at "cond") => `(tactic| first
  | (show (0 : Int) < _; omega)
  | (show CDiv _ _; constructor <;> (first | decide | omega))
  | (show CMul _ _; first | (refine cmul_l ?_; constructor <;> (first | decide | omega)) | (refine cmul_r ?_; constructor <;> (first | decide | omega)))
  | (show CPow _ _; exact (by refine ⟨by decide, by decide, by decide⟩))
  | (show CDivW _ _; exact ⟨by decide, by decide +kernel⟩))
local macro_rules | `(tactic| walk_at "sq") => `(tactic| first | assumption | exact Dh.mono (same_upd (by assumption)) _ _ (by assumption) | exact .inl (.inl (.inl (by assumption))) | exact .inr (.inl (.inl (by assumption))) | exact SqL.of (by assumption) | exact .inl (by assumption) | exact .inl (SqL.of (by assumption)) | exact SqT.of (by assumption) | exact .inr (SqT.of (by assumption)))
local macro_rules | `(tactic| walk_at "st") => `(tactic| first
  | refine ⟨_, rfl, ?_⟩
  | refine ⟨_, _, rfl, rfl, ?_⟩
  | refine .inl ⟨_, rfl, ?_⟩
  | refine ⟨rfl, ?_⟩
  | refine ⟨_, _, rfl, by walk_at "sq", ?_⟩
  | refine ⟨.inl ⟨rfl, _, SqL.of (by assumption)⟩, ?_⟩
  | refine ⟨by walk_at "cond", ?_⟩
  | (refine' ifBT ?hh ?_; (case hh => first | rfl | assumption))
  | (refine' ifBF ?hh ?_; (case hh => first | rfl | assumption)))
local macro_rules | `(tactic| walk_at "go") => `(tactic| repeat walk_at "st")
local macro_rules | `(tactic| walk_at "yes") => `(tactic| (refine' ifT ?hh ?_; (case hh => first | rfl | decide +kernel)))
local macro_rules | `(tactic| walk_at "no") => `(tactic| (refine' ifF ?hh ?_; (case hh => first | decide +kernel | (intro z; cases z; done))))

/-! ### _law_number -/
/-- n times // 1000 -/
def itd : Nat → Int → Int
  | 0, r => r
  | n + 1, r => itd n r / 1000
theorem itd_zero : ∀ n, itd n 0 = 0
  | 0 => rfl
  | n + 1 => by
    show itd n 0 / 1000 = 0
    rw [itd_zero n]
    rfl
theorem itd_add (r : Int) (h : itd n r = 0) : ∀ m, itd (n + m) r = 0
  | 0 => h
  | m + 1 => by
    show itd (n + m) r / 1000 = 0
    rw [itd_add r h m]
    rfl
theorem itd_nn {r : Int} (h : 0 ≤ r) : ∀ n, 0 ≤ itd n r
  | 0 => h
  | n + 1 => Int.ediv_nonneg (itd_nn h n) (by decide)
def nCell (ns : List Int) (i : Int) : Int := if ns.length = 0 then 0 else (ns.getD (i % (ns.length : Int)).toNat 0).natAbs
def nTurn (ns : List Int) (i : Int) : Int := if ns.length = 0 then i else i / (ns.length : Int)
def nPick (ns : List Int) (i k : Int) : Int := k + 16 * nTurn ns i
def nMix (c p : Int) : Int :=
  let a := (c + 7919 * p + 13) % 2147483647
  let b := (a * (a + 48271)) % 2147483629
  (b * (b + 69621) + 31 * p) % 2147483647
def num (ns : List Int) (i k size : Int) : Int :=
  let c := nCell ns i
  let p := nPick ns i k
  if c ≥ 10 ^ 18 then
    if itd p.toNat (c / 10 ^ 18) > 0 then itd p.toNat (c / 10 ^ 18) % 1000 % size else nMix c p / 9 % size
  else nMix c p / 9 % size
theorem num_nn {ns : List Int} {i k size : Int} (h : 0 < size) : 0 ≤ num ns i k size := by
  unfold num
  dsimp only
  split
  · split
    · exact Int.emod_nonneg _ (by omega)
    · exact Int.emod_nonneg _ (by omega)
  · exact Int.emod_nonneg _ (by omega)
theorem num_lt {ns : List Int} {i k size : Int} (h : 0 < size) : num ns i k size < size := by
  unfold num
  dsimp only
  split
  · split
    · exact Int.emod_lt_of_pos _ h
    · exact Int.emod_lt_of_pos _ h
  · exact Int.emod_lt_of_pos _ h
def spNum (K : PySem.W.Frag) : Sp := fun vs H Q _ => ∃ (a : Addr) (ns : List Int) (i k size : Int), vs = [.ref a, .int i, .int k, .int size] ∧ SqL K H a (ns.map V.int) ∧ ns.length ≤ 63 ∧
  0 ≤ i ∧ i ≤ 1000000000 ∧ 0 ≤ k ∧ k ≤ 1000000000 ∧ 0 < size ∧ Q (.int (num ns i k size)) H

abbrev s_number : Stmt := topS 10
theorem sc_number : FnScope ["_law_script", "_law_at", "_law_k", "_law_size", "_law_cell", "_law_turn", "_law_pick", "_law_rest", "_law_step", "_law_mixed"] ["_law_script", "_law_at", "_law_k", "_law_size"] (C8.fnScope s_number) := C8.fnScope_by (by decide +kernel)
section
variable {P : Program} {w : World} {K : PySem.W.Frag} {mg : Str → Option Value} {base : Heap}
theorem ok_number {f : Addr} {fd : FuncData} (D : Def K mg "_law_number" s_number f fd) (b : Binds K fd ["_law_script", "_law_at", "_law_k", "_law_size"] []) (T : Txt mg) : Cal P w K mg base 1 "_law_number" (spNum K) [] := by
  refine cal0 D b .nil sc_number (fun vs H Q E h => ?_) (fun cdv A outer s H vs Q E hr h => ?_)
  · obtain ⟨a, ns, i, k, size, rfl, _⟩ := h
    rfl
  obtain ⟨a, ns, i, k, size, rfl, hS, hl, i0, i1, k0, k1, hz, q⟩ := h
  refine ⟨_, (pss_cons (ps_set (i := 4) sc_number.nd rfl (.inl rfl) pe_int)
      (pss_cons (ps_set (i := 5) sc_number.nd rfl (.inl rfl) (pv 1))
      (pss_cons (ps_mk (ps_if (pt_cmpR op_gt (pe_callB (lenQ K rfl) (by rfl) T.len PySem.boot_len (pa_cons (pv 0) pa_nil)) pe_int (nomark _))
      (pss_cons (ps_set (i := 4) sc_number.nd rfl (.inl rfl) (pe_callB call_abs (by rfl) T.abs (by decide +kernel) (pa_cons (pe_ix (ixL K rfl) (pv 0) (pe_op op_mod (pe_callTy call_int1 (by rfl) T.int (by decide +kernel) (pa_cons (pv 1) pa_nil)) (pe_callB (lenQ K rfl) (by rfl) T.len PySem.boot_len (pa_cons (pv 0) pa_nil))) (fun _ _ => rfl)) pa_nil)))
      (pss_one (ps_set (i := 5) sc_number.nd rfl (.inl rfl) (pe_op op_fdiv (pv 1) (pe_callB (lenQ K rfl) (by rfl) T.len PySem.boot_len (pa_cons (pv 0) pa_nil))))))
      pss_nil))
      (pss_cons (ps_set (i := 6) sc_number.nd rfl (.inl rfl) (pe_op op_add (pv 2) (pe_op op_mul pe_int (pv 5))))
      (pss_cons (ps_mk (ps_if (pt_cmpR op_ge (pv 4) (pe_op op_pow pe_int pe_int) (nomark _))
      (pss_cons (ps_set (i := 7) sc_number.nd rfl (.inl rfl) (pe_op op_fdivW (pv 4) (pe_op op_pow pe_int pe_int)))
      (pss_cons (ps_mk (ps_for PassesOwn.never rfl (pi_range1 (by rfl) T.range (pa_cons (pv 6) pa_nil)) (pg_name (i := 8) sc_number.nd rfl (.inl rfl))
      (pss_cons (ps_mk (ps_if (pt_cmpR op_eq (pv 7) pe_int (nomark _))
      (pss_one ps_break)
      pss_nil))
      (pss_one (ps_set (i := 7) sc_number.nd rfl (.inl rfl) (pe_op op_fdiv (pv 7) pe_int))))))
      (pss_one (ps_mk (ps_if (pt_cmpR op_gt (pv 7) pe_int (nomark _))
      (pss_one (ps_ret (pe_op op_mod (pe_callTy call_int1 (by rfl) T.int (by decide +kernel) (pa_cons (pe_op op_mod (pe_callTy call_int1 (by rfl) T.int (by decide +kernel) (pa_cons (pv 7) pa_nil)) pe_int) pa_nil)) (pv 3))))
      pss_nil)))))
      pss_nil))
      (pss_cons (ps_set (i := 9) sc_number.nd rfl (.inl rfl) (pe_op op_mod (pe_callTy call_int1 (by rfl) T.int (by decide +kernel) (pa_cons (pe_op op_add (pe_op op_add (pv 4) (pe_op op_mul pe_int (pv 6))) pe_int) pa_nil)) pe_int))
      (pss_cons (ps_set (i := 9) sc_number.nd rfl (.inl rfl) (pe_op op_mod (pe_callTy call_int1 (by rfl) T.int (by decide +kernel) (pa_cons (pe_op op_mul (pv 9) (pe_op op_add (pv 9) pe_int)) pa_nil)) pe_int))
      (pss_cons (ps_set (i := 9) sc_number.nd rfl (.inl rfl) (pe_op op_mod (pe_callTy call_int1 (by rfl) T.int (by decide +kernel) (pa_cons (pe_op op_add (pe_op op_mul (pv 9) (pe_op op_add (pv 9) pe_int)) (pe_op op_mul pe_int (pv 6))) pa_nil)) pe_int))
      (pss_one (ps_ret (pe_op op_mod (pe_callTy call_int1 (by rfl) T.int (by decide +kernel) (pa_cons (pe_op op_fdiv (pv 9) pe_int) pa_nil)) (pv 3)))))))))))), ?_⟩
  have hml : (ns.map V.int).length = ns.length := List.length_map _
  have t0 : 0 ≤ nTurn ns i ∧ nTurn ns i ≤ 1000000000 := by
    unfold nTurn
    split
    · exact ⟨i0, i1⟩
    · exact ⟨Int.ediv_nonneg i0 (by omega), Int.le_trans (Int.ediv_le_self _ i0) i1⟩
  have p0 : 0 ≤ nPick ns i k ∧ nPick ns i k ≤ 17000000000 := by
    unfold nPick
    omega
  walk_at "go"
  refine jn (M := fun σ H' => ∃ c t : Int, c = nCell ns i ∧ t = nTurn ns i ∧ H' = H ∧ σ = [sR a, sI i, sI k, sI size, sI c, sI t, none, none, none, none]) ?_ (fun N kk => ?_)
  · rintro σ H' ⟨c, t, ec, et, rfl, rfl⟩
    walk_at "go"
    -- behind the pick
    have ep : k + 16 * t = nPick ns i k := by
      rw [et]
      rfl
    have c0 : 0 ≤ c := by
      rw [ec]
      unfold nCell
      split <;> omega
    have en : c < 10 ^ 18 ∨ ¬ itd (nPick ns i k).toNat (c / 10 ^ 18) > 0 → num ns i k size = nMix c (nPick ns i k) / 9 % size := fun h => by
      unfold num
      dsimp only
      rw [← ec]
      rcases h with h | h
      · rw [if_neg (by omega)]
      · split
        · rfl
        · rfl
    refine jn (M := fun σ H2 => H2 = H' ∧ (c < 10 ^ 18 ∨ ¬ itd (nPick ns i k).toNat (c / 10 ^ 18) > 0) ∧ ∃ y8 y9, σ = [sR a, sI i, sI k, sI size, sI c, sI t, sI (nPick ns i k), y8, y9, none]) ?_ (fun N kk => ?_)
    · rintro σ H2 ⟨rfl, hc, y8, y9, rfl⟩
      walk_at "go"
      have e := en hc
      unfold nMix at e
      dsimp only at e
      rw [e] at q
      exact q
    · walk_at "go"
      refine ifD (fun g => ?_) (fun g => ?_)
      · have g' : c ≥ 10 ^ 18 := g
        walk_at "go"
        have r0 : 0 ≤ c / 10 ^ 18 := Int.ediv_nonneg c0 (by decide)
        refine jn (M := fun σ H2 => H2 = H' ∧ ∃ y9, σ = [sR a, sI i, sI k, sI size, sI c, sI t, sI (nPick ns i k), sI (itd (nPick ns i k).toNat (c / 10 ^ 18)), y9, none]) ?_ (fun N2 k2 => ?_)
        · rintro σ H2 ⟨rfl, y9, rfl⟩
          refine un ?_
          walk_at "go"
          refine ifD (fun g2 => ?_) (fun g2 => ?_)
          · walk_at "go"
            have e : num ns i k size = itd (nPick ns i k).toNat (c / 10 ^ 18) % 1000 % size := by
              unfold num
              dsimp only
              rw [← ec, if_pos g', if_pos g2]
            rw [e] at q
            exact q
          · walk_at "go"
            exact kk _ _ ⟨rfl, .inr g2, _, _, rfl⟩
        · walk_at "go"
          refine ⟨(show -(2 ^ 62) ≤ k + 16 * t by omega), (show k + 16 * t < 2 ^ 62 by omega), for_range (lo := 0) (n := (k + 16 * t).toNat) (fun j σ H2 => Ob (H2 = H' ∧ ∃ y9, σ = [sR a, sI i, sI k, sI size, sI c, sI t, sI (nPick ns i k), sI (itd j (c / 10 ^ 18)), y9, none])) (ob ⟨rfl, none, ?_⟩) ?_ ?_⟩
          · rw [← ep]
            rfl
          · rintro j σ H2 hj h
            obtain ⟨rfl, y9, rfl⟩ := unob h
            refine un ?_
            walk_at "go"
            refine ifEq (fun z => ?_) (fun z => ?_)
            · walk_at "go"
              refine k2 _ _ ⟨rfl, sI (0 + (j : Int)), ?_⟩
              have z2 : itd (nPick ns i k).toNat (c / 10 ^ 18) = 0 := by
                have z3 := itd_add _ z ((nPick ns i k).toNat - j)
                rw [show j + ((nPick ns i k).toNat - j) = (nPick ns i k).toNat by omega] at z3
                exact z3
              rw [z2, ← z]
              rfl
            · walk_at "go"
              exact ob ⟨rfl, _, rfl⟩
          · rintro σ H2 h
            obtain ⟨rfl, y9, rfl⟩ := unob h
            refine k2 _ _ ⟨rfl, y9, ?_⟩
            rw [ep]
      · walk_at "go"
        have g' : ¬ c ≥ 10 ^ 18 := g
        refine kk _ _ ⟨rfl, .inl (by omega), none, none, ?_⟩
        rw [← ep]
        rfl
  · walk_at "go"
    refine ifD (fun c => ?_) (fun c => ?_)
    · walk_at "go"
      rw [hml] at c
      refine ⟨_, _, _, _, rfl, rfl, hS, atI_getD (Int.emod_nonneg _ (by omega)) (by rw [hml]; exact Int.emod_lt_of_pos _ (by omega)), ?_⟩
      walk_at "go"
      refine kk _ _ ⟨_, _, ?_, ?_, rfl, rfl⟩
      · unfold nCell
        rw [if_neg (show ¬ ns.length = 0 by omega)]
        simp only [hml]
        split
        · omega
        · omega
      · unfold nTurn
        rw [if_neg (by omega), hml]
    · walk_at "go"
      rw [hml] at c
      refine kk _ _ ⟨_, _, ?_, ?_, rfl, rfl⟩
      · unfold nCell
        rw [if_pos (by omega)]
      · unfold nTurn
        rw [if_pos (by omega)]
end

/-! ### _law_is_whole, _law_same -/
abbrev s_is_whole : Stmt := topS 11
theorem sc_is_whole : FnScope ["_law_told"] ["_law_told"] (C8.fnScope s_is_whole) := C8.fnScope_by (by decide +kernel)
abbrev s_same : Stmt := topS 12
theorem sc_same : FnScope ["_law_told", "_law_due", "_law_k"] ["_law_told", "_law_due"] (C8.fnScope s_same) := C8.fnScope_by (by decide +kernel)
def spWhole : Sp := fun vs H Q _ => ∃ (x : V) (d : PyData), vs = [x] ∧ Dh H d x ∧ Q (.bl (isI d)) H
def spSame (n : Nat) : Sp := fun vs H Q _ => ∃ (x y : V) (d e : PyData), vs = [x, y] ∧ Dh H d x ∧ Dh H e y ∧ Dle n e ∧ ∀ (b : Bool) (H' : Hp), (b = true ↔ d = e) → Same H H' → Q (.bl b) H'
section
variable {P : Program} {w : World} {K : PySem.W.Frag} {mg : Str → Option Value} {base : Heap}
theorem ok_whole {f : Addr} {fd : FuncData} (D : Def K mg "_law_is_whole" s_is_whole f fd) (b : Binds K fd ["_law_told"] []) (T : Txt mg) : Cal P w K mg base 1 "_law_is_whole" spWhole [] := by
  refine cal0 D b .nil sc_is_whole (fun vs H Q E h => ?_) (fun cdv A outer s H vs Q E hr h => ?_)
  · obtain ⟨x, d, rfl, _⟩ := h
    rfl
  obtain ⟨x, d, rfl, hx, q⟩ := h
  refine ⟨_, (pss_one (ps_ret (pe_and (pe_callB is_int (by rfl) T.isinstance (by decide +kernel) (pa_cons (pv 0) (pa_cons (pe_bltn (v := .ty "int") (by rfl) T.int (by decide +kernel) rfl) pa_nil))) (pe_one (pe_not (pe_callB is_bool (by rfl) T.isinstance (by decide +kernel) (pa_cons (pv 0) (pa_cons (pe_bltn (v := .ty "bool") (by rfl) T.bool (by decide +kernel) rfl) pa_nil)))))))), ?_⟩
  cases d <;> (walk_at "go"; exact q)
theorem ok_same_step {f : Addr} {fd : FuncData} (D : Def K mg "_law_same" s_same f fd) (b : Binds K fd ["_law_told", "_law_due"] []) (T : Txt mg) (c_is_whole : Cal P w K mg base 1 "_law_is_whole" spWhole []) {n : Nat}
    (c_same : Cal P w K mg base (n + 1) "_law_same" (spSame n) []) : Cal P w K mg base (n + 2) "_law_same" (spSame (n + 1)) [] := by
  refine cal0 D b .nil sc_same (fun vs H Q E h => ?_) (fun cdv A outer s H vs Q E hr h => ?_)
  · obtain ⟨x, y, d, e, rfl, _⟩ := h
    rfl
  obtain ⟨x, y, d, e, rfl, hx, hy, he, q⟩ := h
  refine ⟨_, (pss_cons (ps_mk (ps_if (pt_val (pe_callB is_lt (by rfl) T.isinstance (by decide +kernel) (pa_cons (pv 1) (pa_cons (pe_tup (pa_cons (pe_bltn (v := .ty "list") (by rfl) T.list (by decide +kernel) rfl) (pa_cons (pe_bltn (v := .ty "tuple") (by rfl) T.tuple (by decide +kernel) rfl) pa_nil))) pa_nil))))
      (pss_cons (ps_mk (ps_if (PW.pt (pw_or (pt_not (pt_val (pe_callB is_lt (by rfl) T.isinstance (by decide +kernel) (pa_cons (pv 0) (pa_cons (pe_tup (pa_cons (pe_bltn (v := .ty "list") (by rfl) T.list (by decide +kernel) rfl) (pa_cons (pe_bltn (v := .ty "tuple") (by rfl) T.tuple (by decide +kernel) rfl) pa_nil))) pa_nil))))) (pw_or1 (pt_cmpR op_ne (pe_callB is_list (by rfl) T.isinstance (by decide +kernel) (pa_cons (pv 0) (pa_cons (pe_bltn (v := .ty "list") (by rfl) T.list (by decide +kernel) rfl) pa_nil))) (pe_callB is_list (by rfl) T.isinstance (by decide +kernel) (pa_cons (pv 1) (pa_cons (pe_bltn (v := .ty "list") (by rfl) T.list (by decide +kernel) rfl) pa_nil))) (nomark _)))))
      (pss_one (ps_ret pe_bl))
      pss_nil))
      (pss_cons (ps_mk (ps_if (pt_cmpR op_ne (pe_callB (lenQ K rfl) (by rfl) T.len PySem.boot_len (pa_cons (pv 0) pa_nil)) (pe_callB (lenQ K rfl) (by rfl) T.len PySem.boot_len (pa_cons (pv 1) pa_nil)) (nomark _))
      (pss_one (ps_ret pe_bl))
      pss_nil))
      (pss_one (ps_ret (pe_cmpR op_eq (pe_callB (lenQ K rfl) (by rfl) T.len PySem.boot_len (pa_cons (pe_lc (own := [("_law_k", 2)]) (g := gName 2) rfl sc_same.nd (pi_range1 (by rfl) T.range (pa_cons (pe_callB (lenQ K rfl) (by rfl) T.len PySem.boot_len (pa_cons (pv 1) pa_nil)) pa_nil)) (blkOk_by (own := [("_law_k", 2)]) (N := ["_law_told", "_law_due", "_law_k"]) (sc := C8.fnScope s_same) (by decide +kernel)) (fun _ _ _ _ _ => (pg_name (i := 2) sc_same.nd rfl (.inl rfl))) (fun _ _ _ _ _ => (pts_one (pt_not (pt_val (C8.pe_c c_same hr (by omega) (by rfl) (pa_cons (pe_ix (ixA K rfl) (pv 0) (pv 2) (fun _ _ => rfl)) (pa_cons (pe_ix (ixA K rfl) (pv 1) (pv 2) (fun _ _ => rfl)) pa_nil))))))) (fun _ _ _ _ _ => (pv 2))) pa_nil)) pe_int (nomark _))))))
      pss_nil))
      (pss_cons (ps_mk (ps_if (pt_val (pe_callB is_bool (by rfl) T.isinstance (by decide +kernel) (pa_cons (pv 1) (pa_cons (pe_bltn (v := .ty "bool") (by rfl) T.bool (by decide +kernel) rfl) pa_nil))))
      (pss_one (ps_ret (pe_and (pe_callB is_bool (by rfl) T.isinstance (by decide +kernel) (pa_cons (pv 0) (pa_cons (pe_bltn (v := .ty "bool") (by rfl) T.bool (by decide +kernel) rfl) pa_nil))) (pe_one (pe_cmpR op_eq (pv 0) (pv 1) (nomark _))))))
      pss_nil))
      (pss_cons (ps_mk (ps_if (pt_val (pe_callB is_int (by rfl) T.isinstance (by decide +kernel) (pa_cons (pv 1) (pa_cons (pe_bltn (v := .ty "int") (by rfl) T.int (by decide +kernel) rfl) pa_nil))))
      (pss_one (ps_ret (pe_and (C8.pe_c c_is_whole hr (by omega) (by rfl) (pa_cons (pv 0) pa_nil)) (pe_one (pe_cmpR op_eq (pv 0) (pv 1) (nomark _))))))
      pss_nil))
      (pss_cons (ps_mk (ps_if (pt_val (pe_callB is_str (by rfl) T.isinstance (by decide +kernel) (pa_cons (pv 1) (pa_cons (pe_bltn (v := .ty "str") (by rfl) T.str (by decide +kernel) rfl) pa_nil))))
      (pss_one (ps_ret (pe_and (pe_callB is_str (by rfl) T.isinstance (by decide +kernel) (pa_cons (pv 0) (pa_cons (pe_bltn (v := .ty "str") (by rfl) T.str (by decide +kernel) rfl) pa_nil))) (pe_one (pe_cmpR op_eq (pv 0) (pv 1) (nomark _))))))
      pss_nil))
      (pss_one (ps_ret (pe_and (pe_cmpR op_isN (pv 0) pe_non (nomark _)) (pe_one (pe_cmpR op_isN (pv 1) pe_non (nomark _)))))))))), ?_⟩
  refine jn (M := fun σ H' => Same H H' ∧ σ = [some x, some y, none] ∧ (isL e || isT e) = false) ?_ (fun N kk => ?_)
  · rintro σ H1 ⟨s1, rfl, hf⟩
    have hx1 := Dh.mono s1 _ _ hx
    have hy1 := Dh.mono s1 _ _ hy
    clear hx hy he
    cases e with
    | list es => cases hf
    | tuple es => cases hf
    | dict kvs => exact False.elim hy1
    | none =>
      cases (show y = V.non from hy1)
      cases d
      case dict => exact False.elim hx1
      all_goals first | (obtain ⟨_, _, e1, _, _⟩ := id hx1; cases e1) | (cases (show x = _ from hx1))
      all_goals repeat (first | refine un ?_ | walk_at "st")
      all_goals exact q _ _ (by simp) s1
    | bool c =>
      cases (show y = V.bl c from hy1)
      cases d
      case dict => exact False.elim hx1
      all_goals first | (obtain ⟨_, _, e1, _, _⟩ := id hx1; cases e1) | (cases (show x = _ from hx1))
      all_goals repeat (first | refine un ?_ | walk_at "st")
      all_goals exact q _ _ (by simp) s1
    | int c =>
      cases (show y = V.int c from hy1)
      cases d
      case dict => exact False.elim hx1
      all_goals first | (obtain ⟨_, _, e1, _, _⟩ := id hx1; cases e1) | (cases (show x = _ from hx1))
      all_goals repeat (first | refine un ?_ | walk_at "st")
      all_goals first | exact q _ _ (by simp) s1 | skip
      all_goals refine ⟨_, _, rfl, hx1, ?_⟩
      all_goals repeat (first | refine un ?_ | walk_at "st")
      all_goals exact q _ _ (by simp) s1
    | str c =>
      cases (show y = V.str c from hy1)
      cases d
      case dict => exact False.elim hx1
      all_goals first | (obtain ⟨_, _, e1, _, _⟩ := id hx1; cases e1) | (cases (show x = _ from hx1))
      all_goals repeat (first | refine un ?_ | walk_at "st")
      all_goals exact q _ _ (by simp) s1
  · walk_at "go"
    refine ⟨sz, fun p hp => ?_⟩
    refine ⟨_, _, _, rfl, upd_same, Dh.mono (same_upd hp) _ _ hy, ?_⟩
    walk_at "go"
    have s1 : Same H (upd H p (.tup [.ty "list", .ty "tuple"])) := same_upd hp
    have hx1 := Dh.mono s1 _ _ hx
    have hy1 := Dh.mono s1 _ _ hy
    cases hf : (isL e || isT e) with
    | false =>
      refine ifBF rfl ?_
      exact kk _ _ ⟨s1, rfl, hf⟩
    | true =>
      refine ifBT rfl ?_
      generalize upd H p (HO.tup [V.ty "list", V.ty "tuple"]) = H1 at *
      clear hx hy kk hp
      walk_at "go"
      refine jn (M := fun σ H2 => Same H1 H2 ∧ ∃ a c xs ys ds es, σ = [sR a, sR c, none] ∧ (SqL K H2 a xs ∨ SqT K H2 a xs) ∧ (SqL K H2 c ys ∨ SqT K H2 c ys) ∧ DhAll H2 ds xs ∧ DhAll H2 es ys ∧ es.length ≤ 100000 ∧ (∀ e' ∈ es, Dle n e') ∧ (d = e ↔ ds = es)) ?_ (fun N2 k2 => ?_)
      · rintro σ H2 ⟨s2, a, c, xs, ys, ds, es, rfl, hA, hC, hds, hes, hlen, hle, hiff⟩
        have lx := hds.len
        have ly := hes.len
        walk_at "go"
        refine jn (M := fun σ H3 => H3 = H2 ∧ σ = [sR a, sR c, none] ∧ ds.length = es.length) ?_ (fun N3 k3 => ?_)
        · rintro σ H3 ⟨rfl, rfl, el⟩
          walk_at "go"
          refine ⟨by omega, by omega, fun L hL => lc_range (lo := 0) (n := ((ys.length : Nat) : Int).toNat)
            (fun i H' => Ob (Same H3 H' ∧ ∃ acc, H' L = some (.lst acc) ∧ acc.length ≤ i ∧ (acc = [] ↔ ds.take i = es.take i))) (ob ⟨same_upd hL, [], upd_same, Nat.le_refl _, by simp⟩) ?_ ?_⟩
          · intro i H4 hi h4
            obtain ⟨s4, acc, g4, l4, e4⟩ := unob h4
            have hi2 : i < es.length := by omega
            have hi3 : i < ds.length := by omega
            obtain ⟨xv, ex, dx⟩ := hds.get (List.getElem?_eq_getElem hi3)
            obtain ⟨yv, ey, dy⟩ := hes.get (List.getElem?_eq_getElem hi2)
            have tk := take_succ_eq (List.getElem?_eq_getElem hi3) (List.getElem?_eq_getElem hi2)
            have ax : atI xs (0 + (i : Int)) = some xv := by
              rw [Int.zero_add]
              exact atI_nat ex
            have ay : atI ys (0 + (i : Int)) = some yv := by
              rw [Int.zero_add]
              exact atI_nat ey
            refine ⟨rfl, ?_⟩
            walk_at "go"
            refine ixAny (sqAny s4 hA) ax ?_
            walk_at "go"
            refine ixAny (sqAny s4 hC) ay ?_
            walk_at "go"
            refine ⟨_, _, _, _, rfl, Dh.mono s4 _ _ dx, Dh.mono s4 _ _ dy, hle _ (List.getElem_mem hi2), fun b5 H5 hb s5 => ?_⟩
            walk_at "go"
            refine ifN ?_
            cases b5 with
            | true =>
              refine ifBT rfl (ob ⟨s4.trans s5, acc, s5 _ _ g4, Nat.le_succ_of_le l4, ?_⟩)
              rw [e4, tk]
              exact ⟨fun z => ⟨z, hb.mp rfl⟩, fun z => z.1⟩
            | false =>
              refine ifBF rfl ?_
              walk_at "go"
              refine ⟨acc, s5 _ _ g4, sz5 (by omega), ob ⟨same_put (s4.trans s5) hL, _, upd_same, ?_, ?_⟩⟩
              · rw [List.length_append]
                exact Nat.add_le_add_right l4 1
              · constructor
                · intro z
                  exact absurd (congrArg List.length z) (by rw [List.length_append]; simp)
                · intro z
                  exact absurd (hb.mpr (tk.mp z).2) Bool.false_ne_true
          · intro H4 h4
            obtain ⟨s4, acc, g4, l4, e4⟩ := unob h4
            walk_at "go"
            refine q _ _ ?_ ((s1.trans s2).trans s4)
            rw [hiff]
            have et : ((ys.length : Nat) : Int).toNat = es.length := by omega
            rw [et, List.take_of_length_le (by omega), List.take_of_length_le (Nat.le_refl _)] at e4
            rw [← e4, decide_eq_true_iff]
            constructor
            · intro z
              have z2 := V.int.inj z
              exact List.eq_nil_of_length_eq_zero (by omega)
            · intro z
              rw [z]
              rfl
        · walk_at "go"
          refine ifNe (fun z => ?_) (fun z => ?_)
          · walk_at "go"
            refine q _ _ ?_ (s1.trans s2)
            rw [hiff]
            constructor
            · intro h
              cases h
            · intro h
              rw [h] at lx
              omega
          · walk_at "go"
            exact k3 _ _ ⟨rfl, rfl, by omega⟩
      · walk_at "go"
        refine ⟨sz, fun p2 hp2 => ?_⟩
        have s2 : Same H1 (upd H1 p2 (HO.tup [V.ty "list", V.ty "tuple"])) := same_upd hp2
        refine ⟨_, _, _, rfl, upd_same, Dh.mono s2 _ _ hx1, ?_⟩
        have hx2 := Dh.mono s2 _ _ hx1
        have hy2 := Dh.mono s2 _ _ hy1
        walk_at "go"
        generalize upd H1 p2 (HO.tup [V.ty "list", V.ty "tuple"]) = H2 at *
        clear hp2
        cases e with
        | none => cases hf
        | bool _ => cases hf
        | int _ => cases hf
        | str _ => cases hf
        | dict kvs => cases hf
        | list es =>
          obtain ⟨c, ys, rfl, gy, hes⟩ := id hy2
          cases d
          case dict => exact False.elim hx2
          case list ds =>
            obtain ⟨a, xs, rfl, gx, hds⟩ := id hx2
            walk_at "go"
            exact k2 _ _ ⟨s2, _, _, _, _, ds, es, rfl, .inl (.inl (.inl gx)), .inl (.inl (.inl gy)), hds, hes, he.1, he.2, by simp⟩
          all_goals walk_at "go"
          all_goals exact q _ _ (by simp) (s1.trans s2)
        | tuple es =>
          obtain ⟨c, ys, rfl, gy, hes⟩ := id hy2
          cases d
          case dict => exact False.elim hx2
          case tuple ds =>
            obtain ⟨a, xs, rfl, gx, hds⟩ := id hx2
            walk_at "go"
            exact k2 _ _ ⟨s2, _, _, _, _, ds, es, rfl, .inr (.inl (.inl gx)), .inr (.inl (.inl gy)), hds, hes, he.1, he.2, by simp⟩
          all_goals walk_at "go"
          all_goals exact q _ _ (by simp) (s1.trans s2)
theorem ok_same {f : Addr} {fd : FuncData} (D : Def K mg "_law_same" s_same f fd) (b : Binds K fd ["_law_told", "_law_due"] []) (T : Txt mg) (c_is_whole : Cal P w K mg base 1 "_law_is_whole" spWhole []) :
    ∀ n, Cal P w K mg base (n + 1) "_law_same" (spSame n) []
  | 0 => by
    have no : ∀ vs H Q E, ¬ spSame 0 vs H Q E := fun vs H Q E h => by
      obtain ⟨x, y, d, e, _, _, _, h1, _⟩ := h
      exact h1
    exact ⟨f, fd, _, _, ⟨fun vs H Q E h => absurd h (no vs H Q E), fun A outer s H args us vs Q E _ _ _ _ h => absurd h (no vs H Q E)⟩, D.mgf, D.kp, b, .nil⟩
  | n + 1 => ok_same_step D b T c_is_whole (ok_same D b T c_is_whole n)
end

end

section

-- a condition of an operator
local macro_rules | `(tactic| walk_at "cond") => `(tactic| first
  | (show (0 : Int) < _; omega)
  | (show CDiv _ _; constructor <;> (first | decide | omega))
  | (show CMul _ _; first | (refine cmul_l ?_; constructor <;> (first | decide | omega)) | (refine cmul_r ?_; constructor <;> (first | decide | omega)))
  | (show CPow _ _; exact (by refine ⟨by decide, by decide, by decide⟩))
  | (show CDivW _ _; exact ⟨by decide, by decide +kernel⟩))
local macro_rules | `(tactic| walk_at "sq") => `(tactic| first | assumption | exact Dh.mono (same_upd (by assumption)) _ _ (by assumption) | exact .inl (.inl (.inl (by assumption))) | exact .inr (.inl (.inl (by assumption))) | exact SqL.of (by assumption) | exact .inl (by assumption) | exact .inl (SqL.of (by assumption)) | exact SqT.of (by assumption) | exact .inr (SqT.of (by assumption)))
local macro_rules | `(tactic| walk_at "st") => `(tactic| first
  | refine ⟨_, rfl, ?_⟩
  | refine ⟨_, _, rfl, rfl, ?_⟩
  | refine .inl ⟨_, rfl, ?_⟩
  | refine ⟨rfl, ?_⟩
  | refine ⟨_, _, rfl, by walk_at "sq", ?_⟩
  | refine ⟨.inl ⟨rfl, _, SqL.of (by assumption)⟩, ?_⟩
  | refine ⟨by walk_at "cond", ?_⟩
  | (refine' ifBT ?hh ?_; (case hh => first | rfl | assumption))
  | (refine' ifBF ?hh ?_; (case hh => first | rfl | assumption)))
local macro_rules | `(tactic| walk_at "go") => `(tactic| repeat walk_at "st")
local macro_rules | `(tactic| walk_at "yes") => `(tactic| (refine' ifT ?hh ?_; (case hh => first | rfl | decide +kernel)))
local macro_rules | `(tactic| walk_at "no") => `(tactic| (refine' ifF ?hh ?_; (case hh => first | decide +kernel | (intro z; cases z; done))))

local macro_rules | `(tactic| walk_at "st") => `(tactic| refine ⟨_, _, _, _, _, rfl, by assumption, by assumption, by omega, by omega, by omega, by omega, by omega, ?_⟩)
local macro_rules | `(tactic| walk_at "st") => `(tactic| refine ⟨_, _, _, _, _, rfl, Same.seq (by assumption) (by assumption), by assumption, by omega, by omega, by omega, by omega, by omega, ?_⟩)

/-! ### _law_thing, _law_change_of, _law_kinds, _law_safe, change_kind, is_safe -/
abbrev s_thing : Stmt := topS 13
theorem sc_thing : FnScope ["_law_script", "_law_at", "_law_k", "_law_number_here", "_law_kind", "_law_word", "_law_rest", "_law_step"] ["_law_script", "_law_at", "_law_k"] (C8.fnScope s_thing) := C8.fnScope_by (by decide +kernel)
def strOkk (x : Str) : Prop := PyData.canLay0 (.str x) = true
theorem okk_nil : strOkk "" := by
  show PyData.canLay0 (.str "") = true
  decide +kernel
theorem okk_one : strOkk "1" := by
  show PyData.canLay0 (.str "1") = true
  decide +kernel
theorem okk_app {x : Str} {c : Nat} (h : strOkk x) (hc : c < 0x110000) : strOkk (x ++ ⟨#[c]⟩) := by
  have h2 : x.cps.all (· < 0x110000) = true := h
  show (x ++ (⟨#[c]⟩ : Str)).cps.all (· < 0x110000) = true
  rw [Str.cps_append, Array.all_append, h2]
  simpa using hc
/-- what _law_thing may give: ints, texts, tuples of these, never a bool -/
def Flat1 : PyData → Prop
  | .int _ => True
  | .str x => strOkk x
  | _ => False
def Thing : PyData → Prop
  | .int _ => True
  | .str x => strOkk x
  | .tuple ds => ds.length ≤ 3 ∧ ∀ d ∈ ds, Flat1 d
  | _ => False
theorem ab1 (j : Int) (h0 : 0 ≤ j) (h1 : j < 3) : ∃ c, atI ("ab1" : Str).cps.toList j = some c ∧ c < 0x110000 := by
  have h : j = 0 ∨ j = 1 ∨ j = 2 := by omega
  rcases h with rfl | rfl | rfl
  · exact ⟨97, by decide +kernel, by decide⟩
  · exact ⟨98, by decide +kernel, by decide⟩
  · exact ⟨49, by decide +kernel, by decide⟩
def spThing (K : PySem.W.Frag) : Sp := fun vs H Q _ => ∃ (a : Addr) (ns : List Int) (i k : Int), vs = [.ref a, .int i, .int k] ∧ SqL K H a (ns.map V.int) ∧ ns.length ≤ 63 ∧
  0 ≤ i ∧ i ≤ 1000000 ∧ 0 ≤ k ∧ k ≤ 1000000 ∧ ∀ (v : V) (d : PyData) (H' : Hp), Same H H' → Dh H' d v → Thing d → Q v H'
section
variable {P : Program} {w : World} {K : PySem.W.Frag} {mg : Str → Option Value} {base : Heap}
theorem ok_thing {f : Addr} {fd : FuncData} (D : Def K mg "_law_thing" s_thing f fd) (b : Binds K fd ["_law_script", "_law_at", "_law_k"] []) (T : Txt mg) (c_number : Cal P w K mg base 1 "_law_number" (spNum K) []) : Cal P w K mg base 2 "_law_thing" (spThing K) [] := by
  refine cal0 D b .nil sc_thing (fun vs H Q E h => ?_) (fun cdv A outer s H vs Q E hr h => ?_)
  · obtain ⟨a, ns, i, k, rfl, _⟩ := h
    rfl
  obtain ⟨a, ns, i, k, rfl, hS, hl, i0, i1, k0, k1, q⟩ := h
  refine ⟨_, (pss_cons (ps_set (i := 3) sc_thing.nd rfl (.inl rfl) (C8.pe_c c_number hr (by omega) (by rfl) (pa_cons (pv 0) (pa_cons (pv 1) (pa_cons (pv 2) (pa_cons pe_int pa_nil))))))
      (pss_cons (ps_set (i := 4) sc_thing.nd rfl (.inl rfl) (C8.pe_c c_number hr (by omega) (by rfl) (pa_cons (pv 0) (pa_cons (pv 1) (pa_cons (pe_op op_add (pv 2) pe_int) (pa_cons pe_int pa_nil))))))
      (pss_cons (ps_set (i := 5) sc_thing.nd rfl (.inl rfl) pe_str)
      (pss_cons (ps_set (i := 6) sc_thing.nd rfl (.inl rfl) (pe_op op_fdiv (pv 3) pe_int))
      (pss_cons (ps_mk (ps_for PassesOwn.never rfl (pi_range1 (by rfl) T.range (pa_cons (pe_op op_mod (pe_callTy call_int1 (by rfl) T.int (by decide +kernel) (pa_cons (pv 3) pa_nil)) pe_int) pa_nil)) (pg_name (i := 7) sc_thing.nd rfl (.inl rfl))
      (pss_cons (ps_set (i := 5) sc_thing.nd rfl (.inl rfl) (pe_op op_add_str (pv 5) (pe_ix ix_str pe_str (pe_op op_mod (pe_callTy call_int1 (by rfl) T.int (by decide +kernel) (pa_cons (pv 6) pa_nil)) pe_int) (fun _ _ => rfl))))
      (pss_one (ps_set (i := 6) sc_thing.nd rfl (.inl rfl) (pe_op op_fdiv (pv 6) pe_int))))))
      (pss_cons (ps_mk (ps_if (pt_cmpR op_lt (pv 4) pe_int (nomark _))
      (pss_one (ps_ret (pe_op op_mod (pe_callTy call_int1 (by rfl) T.int (by decide +kernel) (pa_cons (pv 3) pa_nil)) pe_int)))
      pss_nil))
      (pss_cons (ps_mk (ps_if (pt_cmpR op_eq (pv 4) pe_int (nomark _))
      (pss_one (ps_ret (pe_op op_add (pe_op op_mul (pv 3) (pe_op op_pow pe_int pe_int)) pe_int)))
      pss_nil))
      (pss_cons (ps_mk (ps_if (pt_cmpR op_eq (pv 4) pe_int (nomark _))
      (pss_one (ps_ret (pe_op op_sub (pe_un un_neg pe_int) (pv 3))))
      pss_nil))
      (pss_cons (ps_mk (ps_if (pt_cmpR op_lt (pv 4) pe_int (nomark _))
      (pss_one (ps_ret (pv 5)))
      pss_nil))
      (pss_cons (ps_mk (ps_if (pt_cmpR op_eq (pv 4) pe_int (nomark _))
      (pss_one (ps_ret (pe_tup (pa_cons (pe_op op_mod (pe_callTy call_int1 (by rfl) T.int (by decide +kernel) (pa_cons (pv 3) pa_nil)) pe_int) pa_nil))))
      pss_nil))
      (pss_cons (ps_mk (ps_if (pt_cmpR op_eq (pv 4) pe_int (nomark _))
      (pss_one (ps_ret (pe_tup (pa_cons (pv 5) (pa_cons (pe_op op_fdiv (pv 3) pe_int) pa_nil)))))
      pss_nil))
      (pss_one (ps_ret (pe_ix (ixL K rfl) (pe_lst (pa_cons (pe_tup pa_nil) (pa_cons (pe_tup (pa_cons (pv 5) pa_nil)) (pa_cons (pe_tup (pa_cons (pv 5) (pa_cons (pv 5) pa_nil))) (pa_cons (pe_tup (pa_cons pe_int (pa_cons pe_str (pa_cons (pv 5) pa_nil)))) pa_nil))))) (pe_op op_mod (pe_callTy call_int1 (by rfl) T.int (by decide +kernel) (pa_cons (pe_op op_fdiv (pv 3) pe_int) pa_nil)) pe_int) (fun _ _ => rfl))))))))))))))), ?_⟩
  have r0 : 0 ≤ num ns i k 1000 := num_nn (by decide)
  have r1 : num ns i k 1000 < 1000 := num_lt (by decide)
  walk_at "go"
  refine jn (M := fun σ H' => H' = H ∧ ∃ z y6 y7, strOkk z ∧ z.length ≤ 3 ∧ σ = [sR a, sI i, sI k, sI (num ns i k 1000), sI (num ns i (k + 1) 9), sS z, y6, y7]) ?_ (fun N kk => ?_)
  · rintro σ H' ⟨rfl, z, y6, y7, ok, hz, rfl⟩
    generalize num ns i k 1000 = r at *
    generalize num ns i (k + 1) 9 = m at *
    walk_at "go"
    refine jn (M := fun σ H2 => H2 = H' ∧ σ = [sR a, sI i, sI k, sI r, sI m, sS z, y6, y7]) ?_ (fun N k2 => ?_)
    rotate_left
    · walk_at "go"
      refine ifD (fun c => ?_) (fun c => ?_)
      · walk_at "go"
        exact q _ (.int _) _ same_rfl rfl trivial
      · walk_at "go"
        exact k2 _ _ ⟨rfl, rfl⟩
    rintro σ H2 ⟨rfl, rfl⟩
    walk_at "go"
    refine jn (M := fun σ H3 => H3 = H2 ∧ σ = [sR a, sI i, sI k, sI r, sI m, sS z, y6, y7]) ?_ (fun N k2 => ?_)
    rotate_left
    · walk_at "go"
      refine ifEq (fun c => ?_) (fun c => ?_)
      · walk_at "go"
        exact q _ (.int _) _ same_rfl rfl trivial
      · walk_at "go"
        exact k2 _ _ ⟨rfl, rfl⟩
    rintro σ H3 ⟨rfl, rfl⟩
    walk_at "go"
    refine jn (M := fun σ H2 => H2 = H3 ∧ σ = [sR a, sI i, sI k, sI r, sI m, sS z, y6, y7]) ?_ (fun N k2 => ?_)
    rotate_left
    · walk_at "go"
      refine ifEq (fun c => ?_) (fun c => ?_)
      · walk_at "go"
        exact q _ (.int _) _ same_rfl rfl trivial
      · walk_at "go"
        exact k2 _ _ ⟨rfl, rfl⟩
    rintro σ H2 ⟨rfl, rfl⟩
    walk_at "go"
    refine jn (M := fun σ H3 => H3 = H2 ∧ σ = [sR a, sI i, sI k, sI r, sI m, sS z, y6, y7]) ?_ (fun N k2 => ?_)
    rotate_left
    · walk_at "go"
      refine ifD (fun c => ?_) (fun c => ?_)
      · walk_at "go"
        exact q _ (.str _) _ same_rfl rfl ok
      · walk_at "go"
        exact k2 _ _ ⟨rfl, rfl⟩
    rintro σ H3 ⟨rfl, rfl⟩
    walk_at "go"
    refine jn (M := fun σ H2 => H2 = H3 ∧ σ = [sR a, sI i, sI k, sI r, sI m, sS z, y6, y7]) ?_ (fun N k2 => ?_)
    rotate_left
    · walk_at "go"
      refine ifEq (fun c => ?_) (fun c => ?_)
      · walk_at "go"
        refine ⟨sz, fun p hp => ?_⟩
        exact q _ (.tuple [.int _]) _ (same_upd hp) ⟨p, _, rfl, upd_same, ⟨_, _, rfl, rfl, rfl⟩⟩ ⟨by simp, by simp [Flat1, ok, okk_one]⟩
      · walk_at "go"
        exact k2 _ _ ⟨rfl, rfl⟩
    rintro σ H2 ⟨rfl, rfl⟩
    walk_at "go"
    refine jn (M := fun σ H3 => H3 = H2 ∧ σ = [sR a, sI i, sI k, sI r, sI m, sS z, y6, y7]) ?_ (fun N k2 => ?_)
    rotate_left
    · walk_at "go"
      refine ifEq (fun c => ?_) (fun c => ?_)
      · walk_at "go"
        refine ⟨sz, fun p hp => ?_⟩
        exact q _ (.tuple [.str _, .int _]) _ (same_upd hp) ⟨p, _, rfl, upd_same, ⟨_, _, rfl, rfl, _, _, rfl, rfl, rfl⟩⟩ ⟨by simp, by simp [Flat1, ok, okk_one]⟩
      · walk_at "go"
        exact k2 _ _ ⟨rfl, rfl⟩
    rintro σ H3 ⟨rfl, rfl⟩
    walk_at "go"
    refine ⟨sz, fun p0 h0 => ?_⟩
    walk_at "go"
    refine ⟨sz, fun p1 h1 => ?_⟩
    walk_at "go"
    refine ⟨sz, fun p2 h2 => ?_⟩
    walk_at "go"
    refine ⟨sz, fun p3 h3 => ?_⟩
    walk_at "go"
    refine ⟨sz, fun p4 h4 => ?_⟩
    walk_at "go"
    have s0 := same_upd (o := HO.tup []) h0
    have s1 := same_upd (o := HO.tup [V.str z]) h1
    have s2 := same_upd (o := HO.tup [V.str z, V.str z]) h2
    have s3 := same_upd (o := HO.tup [V.int 1, V.str "1", V.str z]) h3
    have s4 := same_upd (o := HO.lst [V.ref p0, V.ref p1, V.ref p2, V.ref p3]) h4
    have hS5 := SqL.of (K := K) (xs := [V.ref p0, V.ref p1, V.ref p2, V.ref p3]) (upd_same (H := (upd (upd (upd (upd H3 p0 (HO.tup [])) p1 (HO.tup [V.str z])) p2 (HO.tup [V.str z, V.str z])) p3 (HO.tup [V.int 1, V.str "1", V.str z]))) (a := p4))
    obtain ⟨j, hj⟩ : ∃ j, j = r / 108 % 4 := ⟨_, rfl⟩
    have j4 : j = 0 ∨ j = 1 ∨ j = 2 ∨ j = 3 := by omega
    rcases j4 with e | e | e | e
    · refine ⟨_, _, _, V.ref p0, rfl, rfl, hS5, (by rw [← hj, e]; rfl), ?_⟩
      exact q _ (.tuple []) _ (s0.trans (s1.trans (s2.trans (s3.trans s4)))) ⟨p0, _, rfl, s4 _ _ (s3 _ _ (s2 _ _ (s1 _ _ upd_same))), rfl⟩ ⟨by decide, by simp⟩
    · refine ⟨_, _, _, V.ref p1, rfl, rfl, hS5, (by rw [← hj, e]; rfl), ?_⟩
      exact q _ (.tuple [.str z]) _ (s0.trans (s1.trans (s2.trans (s3.trans s4)))) ⟨p1, _, rfl, s4 _ _ (s3 _ _ (s2 _ _ upd_same)), ⟨_, _, rfl, rfl, rfl⟩⟩ ⟨by simp, by simp [Flat1, ok, okk_one]⟩
    · refine ⟨_, _, _, V.ref p2, rfl, rfl, hS5, (by rw [← hj, e]; rfl), ?_⟩
      exact q _ (.tuple [.str z, .str z]) _ (s0.trans (s1.trans (s2.trans (s3.trans s4)))) ⟨p2, _, rfl, s4 _ _ (s3 _ _ upd_same), ⟨_, _, rfl, rfl, _, _, rfl, rfl, rfl⟩⟩ ⟨by simp, by simp [Flat1, ok, okk_one]⟩
    · refine ⟨_, _, _, V.ref p3, rfl, rfl, hS5, (by rw [← hj, e]; rfl), ?_⟩
      exact q _ (.tuple [.int 1, .str "1", .str z]) _ (s0.trans (s1.trans (s2.trans (s3.trans s4)))) ⟨p3, _, rfl, s4 _ _ upd_same, ⟨_, _, rfl, rfl, _, _, rfl, rfl, _, _, rfl, rfl, rfl⟩⟩ ⟨by simp, by simp [Flat1, ok, okk_one]⟩
  · walk_at "go"
    refine ⟨by omega, by omega, for_range (lo := 0) (n := (num ns i k 1000 % 4).toNat) (fun j σ H' => Ob (H' = H ∧ ∃ z r y7, strOkk z ∧ z.length ≤ j ∧ 0 ≤ r ∧ σ = [sR a, sI i, sI k, sI (num ns i k 1000), sI (num ns i (k + 1) 9), sS z, sI r, y7])) (ob ⟨rfl, _, _, none, okk_nil, Nat.le_refl 0, Int.ediv_nonneg r0 (by decide), rfl⟩) ?_ ?_⟩
    · rintro j σ H' hj h
      obtain ⟨rfl, z, r, y7, ok, hz, hr0, rfl⟩ := unob h
      obtain ⟨c, hc, hc2⟩ := ab1 (r % 3) (by omega) (by omega)
      walk_at "go"
      refine ⟨_, _, c, rfl, rfl, by decide +kernel, hc, ?_⟩
      walk_at "go"
      have l1 : (⟨#[c]⟩ : Str).length = 1 := rfl
      refine ⟨by rw [l1]; exact Nat.le_of_lt (sz5 (by omega)), ?_⟩
      walk_at "go"
      exact ob ⟨rfl, _, _, _, okk_app ok hc2, by rw [Str.length_append, l1]; omega, Int.ediv_nonneg hr0 (by decide), rfl⟩
    · rintro σ H' h
      obtain ⟨rfl, z, r, y7, ok, hz, hr0, rfl⟩ := unob h
      exact kk _ _ ⟨rfl, z, _, _, ok, by omega, rfl⟩
end
abbrev s_change_kind : Stmt := topS 3
theorem sc_change_kind : FnScope ["old", "new"] ["old", "new"] (C8.fnScope s_change_kind) := C8.fnScope_by (by decide +kernel)
abbrev s_change_of : Stmt := topS 20
theorem sc_change_of : FnScope ["_law_old", "_law_new"] ["_law_old", "_law_new"] (C8.fnScope s_change_of) := C8.fnScope_by (by decide +kernel)
abbrev s_is_safe : Stmt := topS 5
theorem sc_is_safe : FnScope ["kinds", "capacity"] ["kinds", "capacity"] (C8.fnScope s_is_safe) := C8.fnScope_by (by decide +kernel)
abbrev s_kinds : Stmt := topS 21
theorem sc_kinds : FnScope ["_law_script", "_law_at", "_law_k", "_law_rest", "_law_kinds_here", "_law_step"] ["_law_script", "_law_at", "_law_k"] (C8.fnScope s_kinds) := C8.fnScope_by (by decide +kernel)
/-- a datum or None -/
def Opt (d : PyData) : Prop := d = .none ∨ Thing d
mutual
theorem eqv_flat : ∀ {d e : PyData}, Flat1 d → Flat1 e → (PyData.eqv d e = true ↔ d = e)
  | .int i, .int j, _, _ => by
    show (i == j) = true ↔ _
    simp
  | .str i, .str j, _, _ => by
    show (i == j) = true ↔ _
    simp
  | .int i, .str j, _, _ => by simp [PyData.eqv]
  | .str i, .int j, _, _ => by simp [PyData.eqv]
end
theorem eqv_flats : ∀ {ds es : List PyData}, (∀ d ∈ ds, Flat1 d) → (∀ d ∈ es, Flat1 d) → (PyData.eqvAll ds es = true ↔ ds = es)
  | [], [], _, _ => by simp [PyData.eqvAll]
  | [], _ :: _, _, _ => by simp [PyData.eqvAll]
  | _ :: _, [], _, _ => by simp [PyData.eqvAll]
  | d :: ds, e :: es, h1, h2 => by
    show (PyData.eqv d e && PyData.eqvAll ds es) = true ↔ _
    rw [Bool.and_eq_true, eqv_flat (h1 d List.mem_cons_self) (h2 e List.mem_cons_self), eqv_flats (fun x hx => h1 x (List.mem_cons_of_mem _ hx)) (fun x hx => h2 x (List.mem_cons_of_mem _ hx))]
    simp
theorem eqv_thing {d e : PyData} (h1 : Opt d) (h2 : Opt e) : PyData.eqv d e = true ↔ d = e := by
  cases d with
  | none => cases e <;> simp [PyData.eqv]
  | bool _ => exact (h1.resolve_left (by simp)).elim
  | list _ => exact (h1.resolve_left (by simp)).elim
  | dict _ => exact (h1.resolve_left (by simp)).elim
  | int i =>
    cases e with
    | bool _ => exact (h2.resolve_left (by simp)).elim
    | _ => simp [PyData.eqv]
  | str i =>
    cases e with
    | bool _ => exact (h2.resolve_left (by simp)).elim
    | _ => simp [PyData.eqv]
  | tuple ds =>
    cases e with
    | bool _ => exact (h2.resolve_left (by simp)).elim
    | tuple es =>
      have h3 := h1.resolve_left (by simp)
      have h4 := h2.resolve_left (by simp)
      show PyData.eqvAll ds es = true ↔ _
      rw [eqv_flats h3.2 h4.2]
      simp
    | _ => simp [PyData.eqv]
theorem flat_lay {d : PyData} (h : Flat1 d) : d.canLay0 = true ∧ d.depth = 0 := by
  cases d with
  | int i => exact ⟨rfl, rfl⟩
  | str x => exact ⟨h, rfl⟩
  | _ => exact h.elim
theorem flats_lay : ∀ {ds : List PyData}, (∀ d ∈ ds, Flat1 d) → PyData.canLayAll0 ds = true ∧ PyData.depthAll ds = 0
  | [], _ => ⟨rfl, rfl⟩
  | d :: ds, h => by
    have h1 := flat_lay (h d List.mem_cons_self)
    have h2 := flats_lay (ds := ds) fun x hx => h x (List.mem_cons_of_mem _ hx)
    exact ⟨by show (d.canLay0 && PyData.canLayAll0 ds) = true; rw [h1.1, h2.1]; rfl, by show max d.depth (PyData.depthAll ds) = 0; rw [h1.2, h2.2]; rfl⟩
theorem shaped_opt {d : PyData} (h : Opt d) : SeqAt.shaped d = true := by
  cases d with
  | none => rfl
  | bool _ => exact (h.resolve_left (by simp)).elim
  | list _ => exact (h.resolve_left (by simp)).elim
  | dict _ => exact (h.resolve_left (by simp)).elim
  | int i => rfl
  | str x =>
    have h3 : PyData.canLay0 (.str x) = true := h.resolve_left (by simp)
    show (PyData.canLay0 (.str x) && decide (PyData.depth (.str x) ≤ 64)) = true
    rw [h3]
    rfl
  | tuple ds =>
    have h3 := flats_lay (h.resolve_left (by simp)).2
    show (PyData.canLayAll0 ds && decide (PyData.depthAll ds + 1 ≤ 64)) = true
    rw [h3.1, h3.2]
    rfl
theorem dle_opt {d : PyData} (h : Opt d) : Dle 2 d := by
  cases d with
  | none => trivial
  | bool _ => trivial
  | list _ => exact (h.resolve_left (by simp)).elim
  | dict _ => exact (h.resolve_left (by simp)).elim
  | int i => trivial
  | str x => trivial
  | tuple ds =>
    have h3 := h.resolve_left (by simp)
    refine ⟨Nat.le_trans h3.1 (by decide), fun e he => ?_⟩
    have h4 := h3.2 e he
    cases e with
    | int i => trivial
    | str i => trivial
    | _ => exact h4.elim
theorem dle_strs {ss : List Str} (h : ss.length ≤ 1000) : Dle 2 (.list (ss.map PyData.str)) := by
  refine ⟨by rw [List.length_map]; omega, fun e he => ?_⟩
  obtain ⟨x, _, rfl⟩ := List.mem_map.mp he
  trivial
theorem dh_strs {H : Hp} : ∀ (ss : List Str), DhAll H (ss.map PyData.str) (ss.map V.str)
  | [] => rfl
  | s :: ss => ⟨.str s, ss.map V.str, rfl, rfl, dh_strs ss⟩
/-- the word for a change -/
def IsKind (d e : PyData) (s : Str) : Prop := (d = e → s = "same") ∧ (d ≠ e → d = .none → s = "gain") ∧ (d ≠ e → d ≠ .none → e = .none → s = "loss") ∧ (d ≠ e → d ≠ .none → e ≠ .none → s = "move")
theorem IsKind.one {d e : PyData} {s t : Str} (h : IsKind d e s) (k : IsKind d e t) : s = t := by
  by_cases h1 : d = e
  · rw [h.1 h1, k.1 h1]
  · by_cases h2 : d = .none
    · rw [h.2.1 h1 h2, k.2.1 h1 h2]
    · by_cases h3 : e = .none
      · rw [h.2.2.1 h1 h2 h3, k.2.2.1 h1 h2 h3]
      · rw [h.2.2.2 h1 h2 h3, k.2.2.2 h1 h2 h3]
theorem Dh.non_iff {H : Hp} : ∀ {d : PyData} {x : V}, Dh H d x → (x = .non ↔ d = .none)
  | .none, x, h => by simp [show x = .non from h]
  | .bool b, x, h => by simp [show x = .bl b from h]
  | .int b, x, h => by simp [show x = .int b from h]
  | .str b, x, h => by simp [show x = .str b from h]
  | .list ds, x, h => by
    obtain ⟨a, xs, e, _⟩ := h
    simp [e]
  | .tuple ds, x, h => by
    obtain ⟨a, xs, e, _⟩ := h
    simp [e]
  | .dict _, x, h => False.elim h
def safeOf (ss : List Str) (n : Int) : Bool := decide (n = 0) || (inV (.str "loss") (ss.map V.str) && inV (.str "move") (ss.map V.str))
def spChange : Sp := fun vs H Q _ => ∃ (x y : V) (d e : PyData), vs = [x, y] ∧ Dh H d x ∧ Dh H e y ∧ Opt d ∧ Opt e ∧ ∀ (s : Str) (H' : Hp), IsKind d e s → Same H H' → Q (.str s) H'
def spSafe (K : PySem.W.Frag) : Sp := fun vs H Q _ => ∃ (p : Addr) (ss : List Str) (n : Int), vs = [.ref p, .int n] ∧ H p = some (.lst (ss.map V.str)) ∧ Q (.bl (safeOf ss n)) H
def spKinds (K : PySem.W.Frag) : Sp := fun vs H Q _ => ∃ (a : Addr) (ns : List Int) (i k : Int), vs = [.ref a, .int i, .int k] ∧ SqL K H a (ns.map V.int) ∧ ns.length ≤ 63 ∧
  0 ≤ i ∧ i ≤ 1000000 ∧ 0 ≤ k ∧ k ≤ 1000000 ∧ ∀ (p : Addr) (ss : List Str) (H' : Hp), Same H H' → H p = none → H' p = some (.lst (ss.map V.str)) → ss.length ≤ 5 → Q (.ref p) H'
theorem flat_strs (ss : List Str) : (ss.map V.str).all flatV = true := by
  rw [List.all_eq_true]
  intro x hx
  obtain ⟨y, _, rfl⟩ := List.mem_map.mp hx
  rfl
section
variable {P : Program} {w : World} {K : PySem.W.Frag} {mg : Str → Option Value} {base : Heap}
theorem ok_change {f : Addr} {fd : FuncData} (D : Def K mg "change_kind" s_change_kind f fd) (b : Binds K fd ["old", "new"] []) (T : Txt mg) : Cal P w K mg base 1 "change_kind" spChange [] := by
  refine cal0 D b .nil sc_change_kind (fun vs H Q E h => ?_) (fun cdv A outer s H vs Q E hr h => ?_)
  · obtain ⟨x, y, d, e, rfl, _⟩ := h
    rfl
  obtain ⟨x, y, d, e, rfl, hx, hy, od, oe, q⟩ := h
  refine ⟨_, (pss_cons (ps_mk (ps_if (pt_cmpR (eqQ K rfl hr.units) (pv 0) (pv 1) (nomark _))
      (pss_one (ps_ret pe_str))
      pss_nil))
      (pss_cons (ps_mk (ps_if (pt_cmpR op_isN (pv 0) pe_non (nomark _))
      (pss_one (ps_ret pe_str))
      pss_nil))
      (pss_cons (ps_mk (ps_if (pt_cmpR op_isN (pv 1) pe_non (nomark _))
      (pss_one (ps_ret pe_str))
      pss_nil))
      (pss_one (ps_ret pe_str))))), ?_⟩
  have ev := eqv_thing od oe
  refine un ?_
  walk_at "go"
  refine ⟨d, e, hx.dp, hy.dp, shaped_opt od, shaped_opt oe, ?_⟩
  walk_at "go"
  by_cases c : d = e
  · refine ifBT (ev.mpr c) ?_
    walk_at "go"
    exact q _ _ ⟨fun _ => rfl, fun z => absurd c z, fun z => absurd c z, fun z => absurd c z⟩ same_rfl
  refine ifBF (Bool.eq_false_iff.mpr (fun z => c (ev.mp z))) ?_
  walk_at "go"
  refine un ?_
  walk_at "go"
  refine ifD (fun z => ?_) (fun z => ?_)
  · walk_at "go"
    exact q _ _ ⟨fun z => absurd z c, fun _ _ => rfl, fun _ z2 => absurd (hx.non_iff.mp z) z2, fun _ z2 => absurd (hx.non_iff.mp z) z2⟩ same_rfl
  have z1 : d ≠ .none := fun z2 => z (hx.non_iff.mpr z2)
  walk_at "go"
  refine un ?_
  walk_at "go"
  refine ifD (fun z => ?_) (fun z => ?_)
  · walk_at "go"
    exact q _ _ ⟨fun z => absurd z c, fun _ z2 => absurd z2 z1, fun _ _ _ => rfl, fun _ _ z2 => absurd (hy.non_iff.mp z) z2⟩ same_rfl
  have z2 : e ≠ .none := fun z2 => z (hy.non_iff.mpr z2)
  walk_at "go"
  exact q _ _ ⟨fun z => absurd z c, fun _ z2 => absurd z2 z1, fun _ _ z3 => absurd z3 z2, fun _ _ _ => rfl⟩ same_rfl
theorem ok_change_of {f : Addr} {fd : FuncData} (D : Def K mg "_law_change_of" s_change_of f fd) (b : Binds K fd ["_law_old", "_law_new"] []) (T : Txt mg) (c_same : Cal P w K mg base 3 "_law_same" (spSame 2) []) : Cal P w K mg base 4 "_law_change_of" spChange [] := by
  refine cal0 D b .nil sc_change_of (fun vs H Q E h => ?_) (fun cdv A outer s H vs Q E hr h => ?_)
  · obtain ⟨x, y, d, e, rfl, _⟩ := h
    rfl
  obtain ⟨x, y, d, e, rfl, hx, hy, od, oe, q⟩ := h
  refine ⟨_, (pss_cons (ps_mk (ps_if (PW.pt (pw_and (pt_cmpR op_isN (pv 0) pe_non (nomark _)) (pw_and1 (pt_cmpR op_isN (pv 1) pe_non (nomark _)))))
      (pss_one (ps_ret pe_str))
      pss_nil))
      (pss_cons (ps_mk (ps_if (pt_cmpR op_isN (pv 0) pe_non (nomark _))
      (pss_one (ps_ret pe_str))
      pss_nil))
      (pss_cons (ps_mk (ps_if (pt_cmpR op_isN (pv 1) pe_non (nomark _))
      (pss_one (ps_ret pe_str))
      pss_nil))
      (pss_cons (ps_mk (ps_if (pt_val (C8.pe_c c_same hr (by omega) (by rfl) (pa_cons (pv 1) (pa_cons (pv 0) pa_nil))))
      (pss_one (ps_ret pe_str))
      pss_nil))
      (pss_one (ps_ret pe_str)))))), ?_⟩
  by_cases hd : d = .none
  · have ex := hx.non_iff.mpr hd
    by_cases he : e = .none
    · have ey := hy.non_iff.mpr he
      refine un ?_
      walk_at "go"
      refine ifT ex ?_
      walk_at "go"
      refine ifT ey ?_
      walk_at "go"
      exact q _ _ ⟨fun _ => rfl, fun z => absurd (hd.trans he.symm) z, fun z => absurd (hd.trans he.symm) z, fun z => absurd (hd.trans he.symm) z⟩ same_rfl
    · have ey : ¬ y = .non := fun z => he (hy.non_iff.mp z)
      refine un ?_
      walk_at "go"
      refine ifT ex ?_
      walk_at "go"
      refine ifF ey ?_
      walk_at "go"
      refine un ?_
      walk_at "go"
      refine ifT ex ?_
      walk_at "go"
      exact q _ _ ⟨fun z => absurd (z.symm.trans hd) he, fun _ _ => rfl, fun _ z => absurd hd z, fun _ z => absurd hd z⟩ same_rfl
  · have ex : ¬ x = .non := fun z => hd (hx.non_iff.mp z)
    refine un ?_
    walk_at "go"
    refine ifF ex ?_
    walk_at "go"
    refine un ?_
    walk_at "go"
    refine ifF ex ?_
    walk_at "go"
    refine un ?_
    walk_at "go"
    by_cases he : e = .none
    · have ey := hy.non_iff.mpr he
      refine ifT ey ?_
      walk_at "go"
      exact q _ _ ⟨fun z => absurd (z.trans he) hd, fun _ z => absurd z hd, fun _ _ _ => rfl, fun _ _ z => absurd he z⟩ same_rfl
    · have ey : ¬ y = .non := fun z => he (hy.non_iff.mp z)
      refine ifF ey ?_
      walk_at "go"
      refine un ?_
      walk_at "go"
      refine ⟨_, _, e, d, rfl, hy, hx, dle_opt od, fun b5 H5 hb s5 => ?_⟩
      walk_at "go"
      cases b5 with
      | true =>
        refine ifBT rfl ?_
        walk_at "go"
        have z := hb.mp rfl
        exact q _ _ ⟨fun _ => rfl, fun z2 => absurd z.symm z2, fun z2 => absurd z.symm z2, fun z2 => absurd z.symm z2⟩ s5
      | false =>
        refine ifBF rfl ?_
        walk_at "go"
        exact q _ _ ⟨fun z => absurd (hb.mpr z.symm) Bool.false_ne_true, fun _ z => absurd z hd, fun _ _ z => absurd z he, fun _ _ _ => rfl⟩ s5
theorem ok_is_safe {f : Addr} {fd : FuncData} (D : Def K mg "is_safe" s_is_safe f fd) (b : Binds K fd ["kinds", "capacity"] []) (T : Txt mg) : Cal P w K mg base 1 "is_safe" (spSafe K) [] := by
  refine cal0 D b .nil sc_is_safe (fun vs H Q E h => ?_) (fun cdv A outer s H vs Q E hr h => ?_)
  · obtain ⟨p, ss, n, rfl, _⟩ := h
    rfl
  obtain ⟨p, ss, n, rfl, hp, q⟩ := h
  refine ⟨_, (pss_one (ps_ret (pe_or (pe_cmpR op_eq (pv 1) pe_int (nomark _)) (pe_one (pe_and (pe_cmpR (inQ K rfl) pe_str (pv 0) (by rfl)) (pe_one (pe_cmpR (inQ K rfl) pe_str (pv 0) (by rfl)))))))), ?_⟩
  unfold safeOf at q
  walk_at "go"
  refine ifEq (fun c => ?_) (fun c => ?_)
  · rw [decide_eq_true c] at q
    exact q
  · rw [decide_eq_false c] at q
    walk_at "go"
    refine ⟨flat_strs ss, ?_⟩
    walk_at "go"
    cases h1 : inV (.str "loss") (ss.map V.str) with
    | false =>
      rw [h1] at q
      refine ifBF rfl ?_
      exact q
    | true =>
      rw [h1] at q
      refine ifBT rfl ?_
      walk_at "go"
      refine ⟨flat_strs ss, ?_⟩
      exact q
theorem ok_kinds {f : Addr} {fd : FuncData} (D : Def K mg "_law_kinds" s_kinds f fd) (b : Binds K fd ["_law_script", "_law_at", "_law_k"] []) (T : Txt mg) (c_number : Cal P w K mg base 1 "_law_number" (spNum K) []) : Cal P w K mg base 2 "_law_kinds" (spKinds K) [] := by
  refine cal0 D b .nil sc_kinds (fun vs H Q E h => ?_) (fun cdv A outer s H vs Q E hr h => ?_)
  · obtain ⟨a, ns, i, k, rfl, _⟩ := h
    rfl
  obtain ⟨a, ns, i, k, rfl, hS, hl, i0, i1, k0, k1, q⟩ := h
  refine ⟨_, (pss_cons (ps_set (i := 3) sc_kinds.nd rfl (.inl rfl) (C8.pe_c c_number hr (by omega) (by rfl) (pa_cons (pv 0) (pa_cons (pv 1) (pa_cons (pv 2) (pa_cons pe_int pa_nil))))))
      (pss_cons (ps_set (i := 4) sc_kinds.nd rfl (.inl rfl) (pe_lst pa_nil))
      (pss_cons (ps_mk (ps_for PassesOwn.never rfl (pi_range1 (by rfl) T.range (pa_cons (C8.pe_c c_number hr (by omega) (by rfl) (pa_cons (pv 0) (pa_cons (pv 1) (pa_cons (pe_op op_add (pv 2) pe_int) (pa_cons pe_int pa_nil))))) pa_nil)) (pg_name (i := 5) sc_kinds.nd rfl (.inl rfl))
      (pss_cons (ps_expr (pe_bm PySem.F.plainAttrs_list PySem.F.slot_list_append PySem.F.type_list_append mt_append (pv 4) (pa_cons (pe_ix (ixL K rfl) (pe_lst (pa_cons pe_str (pa_cons pe_str (pa_cons pe_str (pa_cons pe_str pa_nil))))) (pe_op op_mod (pe_callTy call_int1 (by rfl) T.int (by decide +kernel) (pa_cons (pv 3) pa_nil)) pe_int) (fun _ _ => rfl)) pa_nil)))
      (pss_one (ps_set (i := 3) sc_kinds.nd rfl (.inl rfl) (pe_op op_fdiv (pv 3) pe_int))))))
      (pss_one (ps_ret (pv 4)))))), ?_⟩
  have r0 : 0 ≤ num ns i k 256 := num_nn (by decide)
  have r1 : num ns i k 256 < 256 := num_lt (by decide)
  have m0 : 0 ≤ num ns i (k + 1) 5 := num_nn (by decide)
  have m1 : num ns i (k + 1) 5 < 5 := num_lt (by decide)
  walk_at "go"
  refine ⟨sz, fun L hL => ?_⟩
  have s0 := same_upd (o := HO.lst []) hL
  walk_at "go"
  refine jn (M := fun σ H' => ∃ (ss : List Str) (y3 y5 : Option V), Same H H' ∧ H' L = some (.lst (ss.map V.str)) ∧ ss.length ≤ 5 ∧ σ = [sR a, sI i, sI k, y3, sR L, y5]) ?_ (fun N kk => ?_)
  · rintro σ H' ⟨ss, y3, y5, s1, g1, l1, rfl⟩
    walk_at "go"
    exact q L ss _ s1 hL g1 l1
  walk_at "go"
  refine ⟨by omega, by omega, for_range (lo := 0) (n := (num ns i (k + 1) 5).toNat) (fun j σ H' => Ob (∃ (ss : List Str) (r : Int) (y5 : Option V), Same H H' ∧ H' L = some (.lst (ss.map V.str)) ∧ ss.length ≤ j ∧ 0 ≤ r ∧ σ = [sR a, sI i, sI k, sI r, sR L, y5])) (ob ⟨[], _, none, s0, upd_same, Nat.le_refl 0, r0, rfl⟩) ?_ ?_⟩
  · rintro j σ H' hj h
    obtain ⟨ss, r, y5, s1, g1, l1, r2, rfl⟩ := unob h
    walk_at "go"
    refine ⟨sz, fun p hp => ?_⟩
    have s2 := same_upd (o := HO.lst [.str "same", .str "gain", .str "loss", .str "move"]) hp
    have g2 := s2 _ _ g1
    obtain ⟨t, ht⟩ : ∃ t : Str, atI [V.str "same", V.str "gain", V.str "loss", V.str "move"] (r % 4) = some (.str t) := by
      have h4 : r % 4 = 0 ∨ r % 4 = 1 ∨ r % 4 = 2 ∨ r % 4 = 3 := by omega
      rcases h4 with e | e | e | e
      · exact ⟨_, by rw [e]; rfl⟩
      · exact ⟨_, by rw [e]; rfl⟩
      · exact ⟨_, by rw [e]; rfl⟩
      · exact ⟨_, by rw [e]; rfl⟩
    walk_at "go"
    refine ⟨_, _, _, _, rfl, rfl, SqL.of upd_same, ht, ?_⟩
    walk_at "go"
    refine ⟨_, _, _, rfl, rfl, g2, sz5 (by rw [List.length_map]; omega), ?_⟩
    walk_at "go"
    refine ob ⟨ss ++ [t], _, _, same_put (s1.trans s2) hL, ?_, ?_, Int.ediv_nonneg r2 (by decide), rfl⟩
    · rw [upd_same, List.map_append]
      rfl
    · rw [List.length_append]
      exact Nat.add_le_add_right l1 1
  · rintro σ H' h
    obtain ⟨ss, r, y5, s1, g1, l1, r2, rfl⟩ := unob h
    exact kk _ _ ⟨ss, _, _, s1, g1, by omega, rfl⟩
end

end

section

-- a condition of an operator
local macro_rules | `(tactic| walk_at "cond") => `(tactic| first
  | (show (0 : Int) < _; omega)
  | (show CDiv _ _; constructor <;> (first | decide | omega))
  | (show CMul _ _; first | (refine cmul_l ?_; constructor <;> (first | decide | omega)) | (refine cmul_r ?_; constructor <;> (first | decide | omega)))
  | (show CPow _ _; exact (by refine ⟨by decide, by decide, by decide⟩))
  | (show CDivW _ _; exact ⟨by decide, by decide +kernel⟩))
local macro_rules | `(tactic| walk_at "sq") => `(tactic| first | assumption | exact Dh.mono (same_upd (by assumption)) _ _ (by assumption) | exact .inl (.inl (.inl (by assumption))) | exact .inr (.inl (.inl (by assumption))) | exact SqL.of (by assumption) | exact .inl (by assumption) | exact .inl (SqL.of (by assumption)) | exact SqT.of (by assumption) | exact .inr (SqT.of (by assumption)))
local macro_rules | `(tactic| walk_at "st") => `(tactic| first
  | refine ⟨_, rfl, ?_⟩
  | refine ⟨_, _, rfl, rfl, ?_⟩
  | refine .inl ⟨_, rfl, ?_⟩
  | refine ⟨rfl, ?_⟩
  | refine ⟨_, _, rfl, by walk_at "sq", ?_⟩
  | refine ⟨.inl ⟨rfl, _, SqL.of (by assumption)⟩, ?_⟩
  | refine ⟨by walk_at "cond", ?_⟩
  | (refine' ifBT ?hh ?_; (case hh => first | rfl | assumption))
  | (refine' ifBF ?hh ?_; (case hh => first | rfl | assumption)))
local macro_rules | `(tactic| walk_at "go") => `(tactic| repeat walk_at "st")
local macro_rules | `(tactic| walk_at "yes") => `(tactic| (refine' ifT ?hh ?_; (case hh => first | rfl | decide +kernel)))
local macro_rules | `(tactic| walk_at "no") => `(tactic| (refine' ifF ?hh ?_; (case hh => first | decide +kernel | (intro z; cases z; done))))

/-! ### a dict with at most one key: an int, a text, or a tuple of such -/
def isN : PyData → Bool
  | .none => true
  | _ => false
theorem isN_iff {e : PyData} : isN e = true ↔ e = .none := by cases e <;> simp [isN]
def keyD : L2.Key → PyData
  | .inl i => .int i
  | .inr s => .str s
theorem dh_key {H : Hp} : ∀ {k : L2.Key} {x : V}, Dh H (keyD k) x → x = kV k
  | .inl i, x, h => h
  | .inr s, x, h => h
theorem dhs_key {H : Hp} : ∀ {ks : List L2.Key} {xs : List V}, DhAll H (ks.map keyD) xs → xs = ks.map kV
  | [], xs, h => h
  | k :: ks, xs, h => by
    obtain ⟨v, vs, e, g, r⟩ := h
    rw [e, dh_key g, dhs_key r]
    rfl
theorem flat_key {d : PyData} (h : Flat1 d) : ∃ k, d = keyD k := by
  cases d with
  | int i => exact ⟨.inl i, rfl⟩
  | str s => exact ⟨.inr s, rfl⟩
  | _ => exact h.elim
theorem flats_key : ∀ {ds : List PyData}, (∀ d ∈ ds, Flat1 d) → ∃ ks : List L2.Key, ds = ks.map keyD
  | [], _ => ⟨[], rfl⟩
  | d :: ds, h => by
    obtain ⟨k, e⟩ := flat_key (h d List.mem_cons_self)
    obtain ⟨ks, es⟩ := flats_key (ds := ds) fun x hx => h x (List.mem_cons_of_mem _ hx)
    exact ⟨k :: ks, by rw [e, es]; rfl⟩
/-- lists and tuples stay -/
def Sq (H H' : Hp) : Prop := ∀ b xs, (H b = some (.lst xs) → H' b = some (.lst xs)) ∧ (H b = some (.tup xs) → H' b = some (.tup xs))
mutual
theorem Dh.sq {H H' : Hp} (s : Sq H H') : ∀ (d : PyData) (x : V), Dh H d x → Dh H' d x
  | .none, x, h => h
  | .bool b, x, h => h
  | .int i, x, h => h
  | .str i, x, h => h
  | .list ds, x, h => by
    obtain ⟨a, xs, e, g, r⟩ := h
    exact ⟨a, xs, e, (s _ _).1 g, DhAll.sq s ds xs r⟩
  | .tuple ds, x, h => by
    obtain ⟨a, xs, e, g, r⟩ := h
    exact ⟨a, xs, e, (s _ _).2 g, DhAll.sq s ds xs r⟩
  | .dict _, x, h => False.elim h
theorem DhAll.sq {H H' : Hp} (s : Sq H H') : ∀ (ds : List PyData) (xs : List V), DhAll H ds xs → DhAll H' ds xs
  | [], xs, h => h
  | d :: ds, xs, h => by
    obtain ⟨v, vs, e, g, r⟩ := h
    exact ⟨v, vs, e, Dh.sq s d v g, DhAll.sq s ds vs r⟩
end
/-- what is at d is no list and no tuple -/
def NoSq (H : Hp) (d : Addr) : Prop := ∀ xs, H d ≠ some (.lst xs) ∧ H d ≠ some (.tup xs)
theorem sq_upd {H : Hp} {d : Addr} {o : HO} (n : NoSq H d) : Sq H (upd H d o) := fun b xs => by
  refine ⟨fun h => ?_, fun h => ?_⟩
  · rw [upd_ne (fun z => by rw [z] at h; exact (n xs).1 h)]
    exact h
  · rw [upd_ne (fun z => by rw [z] at h; exact (n xs).2 h)]
    exact h
theorem Sq.of {H H' : Hp} (s : Same H H') : Sq H H' := fun b xs => ⟨fun h => s _ _ h, fun h => s _ _ h⟩
theorem Sq.trans {H H' H'' : Hp} (s : Sq H H') (t : Sq H' H'') : Sq H H'' := fun b xs => ⟨fun h => (t b xs).1 ((s b xs).1 h), fun h => (t b xs).2 ((s b xs).2 h)⟩
/-- all but d stays -/
def But (H H' : Hp) (d : Addr) : Prop := ∀ b o, b ≠ d → H b = some o → H' b = some o
theorem but_upd {H : Hp} {d : Addr} {o : HO} : But H (upd H d o) d := fun b u n h => by
  rw [upd_ne n]
  exact h
def DD (H : Hp) (d : Addr) (kd e : PyData) : Prop :=
  ∃ v, Dh H e v ∧ ((∃ k : L2.Key, kd = keyD k ∧ H d = some (.dK (if isN e then [] else [(k, v)]))) ∨ ∃ ks : List L2.Key, kd = .tuple (ks.map keyD) ∧ H d = some (.dT (if isN e then [] else [(ks, v)])))
theorem DD.no {H : Hp} {d : Addr} {kd e : PyData} (h : DD H d kd e) : NoSq H d := by
  obtain ⟨v, _, ⟨k, _, g⟩ | ⟨k, _, g⟩⟩ := h
  · exact fun xs => by rw [g]; exact ⟨fun z => (by cases z), fun z => (by cases z)⟩
  · exact fun xs => by rw [g]; exact ⟨fun z => (by cases z), fun z => (by cases z)⟩
theorem DD.sq {H H' : Hp} {d : Addr} {kd e : PyData} (h : DD H d kd e) (s : Sq H H') (hd : ∀ o, H d = some o → H' d = some o) : DD H' d kd e := by
  obtain ⟨v, hv, g⟩ := h
  refine ⟨v, Dh.sq s _ _ hv, ?_⟩
  rcases g with ⟨k, e1, g⟩ | ⟨k, e1, g⟩
  · exact .inl ⟨k, e1, hd _ g⟩
  · exact .inr ⟨k, e1, hd _ g⟩
theorem DD.same {H H' : Hp} {d : Addr} {kd e : PyData} (h : DD H d kd e) (s : Same H H') : DD H' d kd e := h.sq (Sq.of s) fun o g => s _ _ g
theorem DD.get {H : Hp} {d : Addr} {kd e : PyData} {x : V} (h : DD H d kd e) (hx : Dh H kd x) : ∃ v, Dh H e v ∧ DGet H d x (if isN e then none else some v) := by
  obtain ⟨v, hv, ⟨k, e1, g⟩ | ⟨ks, e1, g⟩⟩ := h
  · refine ⟨v, hv, ?_⟩
    rw [e1] at hx
    rw [dh_key hx]
    have q := DGet.k (k := k) g
    cases he : isN e with
    | true =>
      rw [he] at q
      exact q
    | false =>
      rw [he] at q
      rw [show valV (if false = true then [] else [(k, v)]) k = some v from valV_pos rfl] at q
      exact q
  · refine ⟨v, hv, ?_⟩
    rw [e1] at hx
    obtain ⟨a, xs, rfl, ga, r⟩ := hx
    rw [dhs_key r] at ga
    have q := DGet.t (k := ks) g ga
    cases he : isN e with
    | true =>
      rw [he] at q
      exact q
    | false =>
      rw [he] at q
      rw [show valV (if false = true then [] else [(ks, v)]) ks = some v from valV_pos rfl] at q
      exact q
theorem putK_one {κ : Type} [DecidableEq κ] (k : κ) (v v' : V) (b : Bool) : putK (if b then [] else [(k, v)]) k v' = [(k, v')] := by
  cases b with
  | true => rfl
  | false =>
    show putK [(k, v)] k v' = _
    simp [putK]
theorem one_len {α : Type} (b : Bool) (x : α) : (if b = true then [] else [x]).length < sizeLine := by
  cases b with
  | true => exact small1000 (Nat.zero_le _)
  | false => exact small1000 (by decide : 1 ≤ 1000)
theorem DD.put {H : Hp} {d : Addr} {kd e e' : PyData} {x v' : V} (h : DD H d kd e) (hx : Dh H kd x) (hv' : Dh H e' v') (ne : isN e' = false) : ∃ H', DPut H d x v' H' ∧ DD H' d kd e' ∧ But H H' d := by
  have no := h.no
  obtain ⟨v, hv, ⟨k, e1, g⟩ | ⟨ks, e1, g⟩⟩ := h
  · rw [e1] at hx
    rw [dh_key hx]
    refine ⟨_, DPut.k (k := k) g (one_len _ _), ?_, but_upd⟩
    rw [putK_one]
    refine ⟨v', Dh.sq (sq_upd no) _ _ hv', .inl ⟨k, e1, ?_⟩⟩
    rw [ne]
    exact upd_same
  · rw [e1] at hx
    obtain ⟨a, xs, rfl, ga, r⟩ := hx
    rw [dhs_key r] at ga
    refine ⟨_, DPut.t (k := ks) g ga (one_len _ _), ?_, but_upd⟩
    rw [putK_one]
    refine ⟨v', Dh.sq (sq_upd no) _ _ hv', .inr ⟨ks, e1, ?_⟩⟩
    rw [ne]
    exact upd_same
section
variable {X : Cx}
def rInDD (neg : Bool) : R2 := fun x y H Q => ∃ d kd e, y = .ref d ∧ DD H d kd e ∧ Dh H kd x ∧ Q (.bl (if neg then isN e else !isN e)) H
theorem in_dd (hu : X.A.units + 1 < cLine) : OpR X (compareOp .In) (rInDD false) := by
  intro pins s σ H x y v u Q I rx ry h
  obtain ⟨d, kd, e, rfl, hd, hx, q⟩ := h
  cases ry
  obtain ⟨v1, _, g⟩ := hd.get hx
  refine d_in hu I g rx fun s' I' => ⟨.bl _, H, I', rfl, ?_⟩
  cases he : isN e with
  | true =>
    rw [he] at q
    exact q
  | false =>
    rw [he] at q
    exact q
theorem notin_dd (hu : X.A.units + 1 < cLine) : OpR X (compareOp .NotIn) (rInDD true) := by
  intro pins s σ H x y v u Q I rx ry h
  obtain ⟨d, kd, e, rfl, hd, hx, q⟩ := h
  cases ry
  obtain ⟨v1, _, g⟩ := hd.get hx
  refine d_notIn hu I g rx fun s' I' => ⟨.bl _, H, I', rfl, ?_⟩
  cases he : isN e with
  | true =>
    rw [he] at q
    exact q
  | false =>
    rw [he] at q
    exact q
def rGetDD : V → List V → Hp → VK → Prop := fun x xs H Q => ∃ d kd e k, x = .ref d ∧ xs = [k] ∧ DD H d kd e ∧ Dh H kd k ∧ ∀ v, Dh H e v → Q v H
theorem get_dd (hu : X.A.units + 1 < cLine) : MtR X "dict.get" rGetDD := by
  intro pins s σ H x xs v us Q I rx rs h
  obtain ⟨d, kd, e, k, rfl, rfl, hd, hk, q⟩ := h
  cases rx
  obtain ⟨u, rfl, ru⟩ := vals1 rs
  obtain ⟨v1, hv1, g⟩ := hd.get hk
  refine d_get1 hu I g ru fun w' s' I' r => ⟨_, H, I', r, q _ ?_⟩
  cases he : isN e with
  | true =>
    rw [isN_iff.mp he]
    rfl
  | false => exact hv1
def rSetDD : TSet := fun o i v H Q => ∃ d kd e e', o = .ref d ∧ DD H d kd e ∧ Dh H kd i ∧ Dh H e' v ∧ isN e' = false ∧ ∀ H', DD H' d kd e' → But H H' d → Q H'
theorem set_dd (hu : X.A.units + 1 < cLine) : PSet X rSetDD := by
  intro pins s σ H o i v ov iv u Q I ro ri rv h
  obtain ⟨d, kd, e, e', rfl, hd, hi, hv, ne, q⟩ := h
  cases ro
  obtain ⟨H', p, hd', b⟩ := hd.put hi hv ne
  exact d_setItem hu I p ri rv fun s' I' => ⟨H', I', q H' hd' b⟩
theorem DD.empty {H : Hp} {d : Addr} {kd : PyData} (h : (∃ k : L2.Key, kd = keyD k ∧ H d = some (.dK [])) ∨ ∃ ks : List L2.Key, kd = .tuple (ks.map keyD) ∧ H d = some (.dT [])) : DD H d kd .none := ⟨.non, rfl, h⟩
/-- {} -/
def tNewDD : TE := fun _ H Q => ∃ kd, Thing kd ∧ ∀ d H', H d = none → DD H' d kd .none → Same H H' → Q (.ref d) H'
theorem new_dd {pos : Pos} : PE X (.Dict [] [] pos) tNewDD := by
  refine ⟨fun pins s σ H Q I h => ?_⟩
  obtain ⟨kd, th, q⟩ := h
  cases kd with
  | int i => exact pe_dnewK.run pins s σ H Q I fun p hp => q p _ hp (.empty (.inl ⟨.inl i, rfl, upd_same⟩)) (same_upd hp)
  | str i => exact pe_dnewK.run pins s σ H Q I fun p hp => q p _ hp (.empty (.inl ⟨.inr i, rfl, upd_same⟩)) (same_upd hp)
  | tuple ds =>
    obtain ⟨ks, rfl⟩ := flats_key th.2
    exact pe_dnewT.run pins s σ H Q I fun p hp => q p _ hp (.empty (.inr ⟨ks, rfl, upd_same⟩)) (same_upd hp)
  | _ => exact th.elim
/-- len -/
def rLenDD : List V → Hp → VK → Prop := fun xs H Q => ∃ d kd e, xs = [.ref d] ∧ DD H d kd e ∧ Q (.int (if isN e then 0 else 1)) H
theorem len_dd : CallR X (.builtin "len") rLenDD := by
  intro pins s σ H xs us Q I r h
  obtain ⟨d, kd, e, rfl, ⟨v, _, ⟨k, _, g⟩ | ⟨k, _, g⟩⟩, q⟩ := h
  · refine call_lenD pins s σ H _ us Q I r ⟨d, _, rfl, g, ?_⟩
    cases he : isN e with
    | true =>
      rw [he] at q
      exact q
    | false =>
      rw [he] at q
      exact q
  · refine call_len_dT pins s σ H _ us Q I r ⟨d, _, rfl, g, ?_⟩
    cases he : isN e with
    | true =>
      rw [he] at q
      exact q
    | false =>
      rw [he] at q
      exact q
theorem dropK_one {κ : Type} [DecidableEq κ] (k : κ) (v : V) (b : Bool) : dropK (if b then [] else [(k, v)]) k = [] := by
  cases b with
  | true => rfl
  | false =>
    show dropK [(k, v)] k = []
    simp [dropK]
/-- a tuple's key leaves the dict -/
theorem drop_T {pins : List (Addr × Obj)} {σ : L2.St} {H : Hp} {s : Shared} {d : Addr} {ks : List L2.Key} {v : V} {kvs : List (List L2.Key × V)} (I : Inv X pins σ H s) (g : H d = some (.dT kvs)) {h' : Heap} {tk : Nat} {xs : List (List L2.Key × Addr × Value)}
    (rel : KT H kvs xs) (dd' : h'.DictOfH (tupleKind (mixKind X.prog X.w)) d (withoutH xs ks)) (hs : Heap.SameBut d s.heap h') : Inv X pins σ (upd H d (.dT (dropK kvs ks))) { s with heap := h', toks := tk } := by
  obtain ⟨z, hd, _⟩ := dt_of I.hok g
  obtain ⟨o, es, ep, hq, h2, h3, h4, _, h5⟩ := dd'
  exact d_write I (by rw [g]; exact True.intro) hs ⟨o, hq⟩ ⟨Nat.le_trans (dropK_le kvs ks) z, hd, _, (L2.DX.KT_drop ks rel).keeps (fun c ys ec => by rw [upd_ne (ne_of ec g (fun z => nomatch z))]; exact ec), o, es, ep, hq, h2, h3, h4, h5⟩
/-- what is wanted behind the key's leaving -/
theorem DD.gone {H : Hp} {d : Addr} {kd e : PyData} {v : V} {Q : V → Hp → Prop} (no : NoSq H d) (hv : Dh H e v) (q : ∀ v H', Dh H' e v → DD H' d kd .none → But H H' d → Q v H') {ob : HO}
    (h : (∃ k : L2.Key, kd = keyD k ∧ ob = .dK []) ∨ ∃ ks : List L2.Key, kd = .tuple (ks.map keyD) ∧ ob = .dT []) : Q v (upd H d ob) := by
  refine q v _ (Dh.sq (sq_upd no) _ _ hv) (.empty ?_) but_upd
  rcases h with ⟨k, e1, rfl⟩ | ⟨k, e1, rfl⟩
  · exact .inl ⟨k, e1, upd_same⟩
  · exact .inr ⟨k, e1, upd_same⟩
def rPop1DD : V → List V → Hp → VK → Prop := fun x xs H Q => ∃ d kd e k, x = .ref d ∧ xs = [k] ∧ DD H d kd e ∧ Dh H kd k ∧ isN e = false ∧ ∀ v H', Dh H' e v → DD H' d kd .none → But H H' d → Q v H'
theorem pop1_dd (hu : X.A.units + 1 < cLine) : MtR X "dict.pop" rPop1DD := by
  intro pins s σ H x xs v us Q I rx rs h
  obtain ⟨d, kd, e, k, rfl, rfl, hd, hk, ne, q⟩ := h
  have no := hd.no
  cases rx
  obtain ⟨u, rfl, ru⟩ := vals1 rs
  obtain ⟨v, hv, ⟨k1, e1, g⟩ | ⟨ks, e1, g⟩⟩ := hd
  · rw [ne] at g
    rw [e1] at hk
    rw [dh_key hk] at ru
    refine d_pop I g ru (v := v) (valV_pos rfl) (.inl rfl) fun w' s' I' rw' => ⟨v, _, I', rw', ?_⟩
    exact DD.gone no hv q (.inl ⟨k1, e1, by rw [show dropK (if false = true then [] else [(k1, v)]) k1 = [] from dropK_one k1 v false]⟩)
  · rw [ne] at g
    rw [e1] at hk
    obtain ⟨a, ys, rfl, ga, r⟩ := hk
    rw [dhs_key r] at ga
    cases ru
    obtain ⟨z, hd2, xs', rel, dd⟩ := dt_of I.hok g
    have rv := rel.val ks
    rw [show valV (if false = true then [] else [(ks, v)]) ks = some v from valV_pos rfl] at rv
    obtain ⟨p, hp, rp⟩ : ∃ p, atKey xs' ks = some p ∧ RelV v p.2 := by
      cases hp : atKey xs' ks with
      | none =>
        rw [hp] at rv
        exact (show False from rv).elim
      | some p =>
        rw [hp] at rv
        exact ⟨p, rfl, rv⟩
    refine call_pop_heap (more := []) (hsz := by rw [← Paired.length rel]; exact z) (.inl rfl) (PySem.F.args_dict_pop_2 _ _) (tupleKind_room_in1 hu) (key_of I.hok ga) hd2 dd hp fun h' dd' hs => ?_
    refine ⟨v, _, drop_T I g rel dd' hs (v := v), rp, ?_⟩
    exact DD.gone no hv q (.inr ⟨ks, e1, by rw [show dropK (if false = true then [] else [(ks, v)]) ks = [] from dropK_one ks v false]⟩)
def sDelDD (td ty : TE) : TS := fun D σ H => td σ H fun x H1 => ty σ H1 fun y H2 => ∃ d kd e, x = .ref d ∧ DD H2 d kd e ∧ Dh H2 kd y ∧ isN e = false ∧ ∀ H', DD H' d kd .none → But H2 H' d → D.nx σ H'
theorem del_dd {o i : Expr} {td ty : TE} {tpos pos : Pos} (hu : X.A.units + 1 < cLine) (ho : PE X o td) (hi : PE X i ty) : PS X (.Delete [.Subscript o i tpos] pos) (sDelDD td ty) := by
  refine ⟨fun pins s σ H D I h => ?_⟩
  refine wpAny_Delete (wpAny_deleteEach_cons (wpAny_delete_Subscript (thn (ho.run pins s σ H _ I h) fun u s1 hh => ?_)))
  obtain ⟨x, H1, I1, rx, q1⟩ := hh
  refine thn (hi.run pins s1 σ H1 _ I1 q1) fun iv s2 hh => ?_
  obtain ⟨y, H2, I2, ry, d, kd, e, rfl, hd, hk, ne, q⟩ := hh
  have no := hd.no
  cases rx
  obtain ⟨v, hv, ⟨k1, e1, g⟩ | ⟨ks, e1, g⟩⟩ := hd
  · rw [ne] at g
    rw [e1] at hk
    rw [dh_key hk] at ry
    refine d_delItem I2 g ry (by rw [show valV (if false = true then [] else [(k1, v)]) k1 = some v from valV_pos rfl]; rfl) fun s3 I3 => wpAny_deleteEach_nil ⟨σ, _, I3, ?_⟩
    exact DD.gone (Q := fun _ H' => D.nx σ H') no hv (fun _ H' _ a b => q H' a b) (.inl ⟨k1, e1, by rw [show dropK (if false = true then [] else [(k1, v)]) k1 = [] from dropK_one k1 v false]⟩)
  · rw [ne] at g
    rw [e1] at hk
    obtain ⟨a, ys, rfl, ga, r⟩ := hk
    rw [dhs_key r] at ga
    cases ry
    obtain ⟨z, hd2, xs', rel, dd⟩ := dt_of I2.hok g
    have rv := rel.val ks
    rw [show valV (if false = true then [] else [(ks, v)]) ks = some v from valV_pos rfl] at rv
    obtain ⟨p, hp⟩ : ∃ p, atKey xs' ks = some p := by
      cases hp : atKey xs' ks with
      | none =>
        rw [hp] at rv
        exact (show False from rv).elim
      | some p => exact ⟨p, rfl⟩
    refine wpAny_delItem_heap (hsz := by rw [← Paired.length rel]; exact z) (tupleKind_room_in1 hu) (key_of I2.hok ga) hd2 dd hp fun h' dd' hs => wpAny_deleteEach_nil ⟨σ, _, drop_T I2 g rel dd' hs (v := v), ?_⟩
    exact DD.gone (Q := fun _ H' => D.nx σ H') no hv (fun _ H' _ a b => q H' a b) (.inr ⟨ks, e1, by rw [show dropK (if false = true then [] else [(ks, v)]) ks = [] from dropK_one ks v false]⟩)
def rPop2DD : V → List V → Hp → VK → Prop := fun x xs H Q => ∃ d kd e k, x = .ref d ∧ xs = [k, .non] ∧ DD H d kd e ∧ Dh H kd k ∧ ∀ v H', DD H' d kd .none → But H H' d → Q v H'
theorem pop2_dd (hu : X.A.units + 1 < cLine) : MtR X "dict.pop" rPop2DD := by
  intro pins s σ H x xs v us Q I rx rs h
  obtain ⟨d, kd, e, k, rfl, rfl, hd, hk, q⟩ := h
  have hd0 := hd
  have no := hd.no
  obtain ⟨v, hv, ⟨k1, e1, g⟩ | ⟨ks, e1, g⟩⟩ := hd
  · cases rx
    obtain ⟨u, u2, rfl, ru, ru2⟩ := vals2 rs
    cases ru2
    rw [e1] at hk
    rw [dh_key hk] at ru
    cases he : isN e with
    | true =>
      rw [he] at g
      exact d_popD I g ru rfl fun s' I' => ⟨.non, H, I', rfl, q _ _ (by rw [isN_iff.mp he] at hd0; exact hd0) (fun _ _ _ z => z)⟩
    | false =>
      rw [he] at g
      refine d_pop I g ru (v := v) (valV_pos rfl) (.inr ⟨_, rfl⟩) fun w' s' I' rw' => ⟨v, _, I', rw', ?_⟩
      exact DD.gone no hv (fun v H' _ a b => q v H' a b) (.inl ⟨k1, e1, by rw [show dropK (if false = true then [] else [(k1, v)]) k1 = [] from dropK_one k1 v false]⟩)
  · rw [e1] at hk
    obtain ⟨a, ys, rfl, ga, r⟩ := hk
    rw [dhs_key r] at ga
    refine L2.DX.mt_popT hu pins s σ H _ _ _ us Q I rx rs ⟨d, _, ks, a, .non, rfl, rfl, g, ga, fun w hw => ?_, fun hw => ?_⟩
    · rw [dropK_one]
      exact DD.gone no hv (fun v H' _ a b => q v H' a b) (v := v) (.inr ⟨ks, e1, rfl⟩) |> fun z => by
        cases he : isN e with
        | true =>
          rw [he] at hw
          cases hw
        | false =>
          rw [he, show valV (if false = true then [] else [(ks, v)]) ks = some v from valV_pos rfl] at hw
          cases hw
          exact z
    · cases he : isN e with
      | true => exact q _ _ (by rw [isN_iff.mp he] at hd0; exact hd0) (fun _ _ _ z => z)
      | false =>
        rw [he, show valV (if false = true then [] else [(ks, v)]) ks = some v from valV_pos rfl] at hw
        cases hw
end

end

section

-- a condition of an operator
local macro_rules | `(tactic| walk_at "cond") => `(tactic| first
  | (show (0 : Int) < _; omega)
  | (show CDiv _ _; constructor <;> (first | decide | omega))
  | (show CMul _ _; first | (refine cmul_l ?_; constructor <;> (first | decide | omega)) | (refine cmul_r ?_; constructor <;> (first | decide | omega)))
  | (show CPow _ _; exact (by refine ⟨by decide, by decide, by decide⟩))
  | (show CDivW _ _; exact ⟨by decide, by decide +kernel⟩))
local macro_rules | `(tactic| walk_at "sq") => `(tactic| first | assumption | exact Dh.mono (same_upd (by assumption)) _ _ (by assumption) | exact .inl (.inl (.inl (by assumption))) | exact .inr (.inl (.inl (by assumption))) | exact SqL.of (by assumption) | exact .inl (by assumption) | exact .inl (SqL.of (by assumption)) | exact SqT.of (by assumption) | exact .inr (SqT.of (by assumption)))
local macro_rules | `(tactic| walk_at "st") => `(tactic| first
  | refine ⟨_, rfl, ?_⟩
  | refine ⟨_, _, rfl, rfl, ?_⟩
  | refine .inl ⟨_, rfl, ?_⟩
  | refine ⟨rfl, ?_⟩
  | refine ⟨_, _, rfl, by walk_at "sq", ?_⟩
  | refine ⟨.inl ⟨rfl, _, SqL.of (by assumption)⟩, ?_⟩
  | refine ⟨by walk_at "cond", ?_⟩
  | (refine' ifBT ?hh ?_; (case hh => first | rfl | assumption))
  | (refine' ifBF ?hh ?_; (case hh => first | rfl | assumption)))
local macro_rules | `(tactic| walk_at "go") => `(tactic| repeat walk_at "st")
local macro_rules | `(tactic| walk_at "yes") => `(tactic| (refine' ifT ?hh ?_; (case hh => first | rfl | decide +kernel)))
local macro_rules | `(tactic| walk_at "no") => `(tactic| (refine' ifF ?hh ?_; (case hh => first | decide +kernel | (intro z; cases z; done))))

/-! ### the program's Cache -/
abbrev s_Cache___init__ : Stmt := inClass (topS 1) 0
theorem sc_Cache___init__ : FnScope ["self", "capacity"] ["self", "capacity"] (C8.fnScope s_Cache___init__) := C8.fnScope_by (by decide +kernel)
abbrev s_Cache_look : Stmt := inClass (topS 1) 1
theorem sc_Cache_look : FnScope ["self", "key", "value"] ["self", "key"] (C8.fnScope s_Cache_look) := C8.fnScope_by (by decide +kernel)
abbrev s_Cache_fill : Stmt := inClass (topS 1) 2
theorem sc_Cache_fill : FnScope ["self", "key", "value", "oldest"] ["self", "key", "value"] (C8.fnScope s_Cache_fill) := C8.fnScope_by (by decide +kernel)
abbrev s_Cache_drop : Stmt := inClass (topS 1) 3
theorem sc_Cache_drop : FnScope ["self", "key"] ["self", "key"] (C8.fnScope s_Cache_drop) := C8.fnScope_by (by decide +kernel)
abbrev s_Cache_clear_all : Stmt := inClass (topS 1) 4
theorem sc_Cache_clear_all : FnScope ["self", "count"] ["self"] (C8.fnScope s_Cache_clear_all) := C8.fnScope_by (by decide +kernel)
theorem kce : ¬ (("_capacity" : Str) = "_entries") := by decide +kernel
def flds (c : Int) (d : Addr) : List (Str × V) := putF "_entries" (.ref d) (putF "_capacity" (.int c) [])
theorem flds_eq (c : Int) (d : Addr) : flds c d = ([("_capacity", V.int c), ("_entries", V.ref d)] : List (Str × V)) := by
  show (if ("_capacity" : Str) = "_entries" then [(("_capacity" : Str), V.ref d)] else (("_capacity" : Str), V.int c) :: putF "_entries" (V.ref d) []) = _
  rw [if_neg kce]
  all_goals rfl
theorem flds_c (c : Int) (d : Addr) : (flds c d).lookup ("_capacity" : Str) = some (.int c) := by
  unfold flds
  rw [lookup_putF, if_neg kce, lookup_putF, if_pos rfl]
theorem flds_e (c : Int) (d : Addr) : (flds c d).lookup ("_entries" : Str) = some (.ref d) := by
  unfold flds
  rw [lookup_putF, if_pos rfl]
theorem flds_no (c : Int) (d : Addr) {m : Str} (h1 : ¬ m = "_entries") (h2 : ¬ m = "_capacity") : (flds c d).lookup m = none := by
  unfold flds
  rw [lookup_putF, if_neg h1, lookup_putF, if_neg h2]
  all_goals rfl
theorem flds_put (c : Int) (d d' : Addr) : putF "_entries" (.ref d') (flds c d) = flds c d' := by
  rw [flds_eq, flds_eq]
  show (if ("_capacity" : Str) = "_entries" then _ else (("_capacity" : Str), V.int c) :: (if ("_entries" : Str) = "_entries" then [(("_entries" : Str), V.ref d')] else _)) = _
  rw [if_neg kce, if_pos rfl]
structure CTxt (K : PySem.W.Frag) (mg : Str → Option Value) (C : Addr) : Prop where
  cl : Cls K C
  nC : NoAttr K C "_capacity"
  nE : NoAttr K C "_entries"
  mgC : mg "Cache" = some (.ref C)
  len : mg "len" = none
def CacheAt (C : Addr) (H : Hp) (p d : Addr) (c : Int) (kd e : PyData) : Prop := (∃ dx, H p = some (.ins C dx (flds c d))) ∧ DD H d kd e
theorem CacheAt.ne {C : Addr} {H : Hp} {p d : Addr} {c : Int} {kd e : PyData} (h : CacheAt C H p d c kd e) : p ≠ d := by
  obtain ⟨⟨dx, g⟩, v, _, ⟨k, _, g2⟩ | ⟨k, _, g2⟩⟩ := h
  · exact ne_of g g2 (fun z => by cases z)
  · exact ne_of g g2 (fun z => by cases z)
theorem sq_but {H H' : Hp} {d : Addr} (b : But H H' d) (n : NoSq H d) : Sq H H' := fun a xs => by
  refine ⟨fun h => b a _ (fun z => ?_) h, fun h => b a _ (fun z => ?_) h⟩
  · rw [z] at h
    exact (n xs).1 h
  · rw [z] at h
    exact (n xs).2 h
theorem CacheAt.behind {C : Addr} {H H' : Hp} {p d : Addr} {c : Int} {kd e e' : PyData} (h : CacheAt C H p d c kd e) (b : But H H' d) (n : DD H' d kd e') : CacheAt C H' p d c kd e' := by
  have ne := h.ne
  obtain ⟨⟨dx, g⟩, _⟩ := h
  exact ⟨⟨dx, b _ _ ne g⟩, n⟩
def spInit (C : Addr) : Sp := fun vs H Q _ => ∃ (p dx : Addr) (c : Int) (kd : PyData), vs = [.ref p, .int c] ∧ H p = some (.ins C dx []) ∧ Thing kd ∧ ∀ (d : Addr) (H' : Hp), H d = none → CacheAt C H' p d c kd .none → But H H' p → Q .non H'
def spLook (C : Addr) : Sp := fun vs H Q _ => ∃ (p d : Addr) (k : V) (c : Int) (kd e : PyData), vs = [.ref p, k] ∧ CacheAt C H p d c kd e ∧ Dh H kd k ∧ ∀ v H', Dh H' e v → CacheAt C H' p d c kd e → But H H' d → Q v H'
def spFill (C : Addr) : Sp := fun vs H Q _ => ∃ (p d : Addr) (k v : V) (c : Int) (kd e e' : PyData), vs = [.ref p, k, v] ∧ CacheAt C H p d c kd e ∧ Dh H kd k ∧ Dh H e' v ∧ isN e' = false ∧ 0 ≤ c ∧ ∀ H', CacheAt C H' p d c kd (if c = 0 then e else e') → But H H' d → Q .non H'
def spDrop (C : Addr) : Sp := fun vs H Q _ => ∃ (p d : Addr) (k : V) (c : Int) (kd e : PyData), vs = [.ref p, k] ∧ CacheAt C H p d c kd e ∧ Dh H kd k ∧ ∀ b H', CacheAt C H' p d c kd .none → But H H' d → Q (.bl b) H'
def spClear (C : Addr) : Sp := fun vs H Q _ => ∃ (p d : Addr) (c : Int) (kd e : PyData), vs = [.ref p] ∧ CacheAt C H p d c kd e ∧ Thing kd ∧ ∀ n d' H', H d' = none → CacheAt C H' p d' c kd .none → But H H' p → Q (.int n) H'

local macro_rules | `(tactic| walk_at "st") => `(tactic| first
  | refine ⟨_, _, _, _, _, rfl, by assumption, CTxt.cl (by assumption), CTxt.nE (by assumption), flds_e _ _, ?_⟩
  | refine ⟨_, _, _, _, _, rfl, by assumption, CTxt.cl (by assumption), CTxt.nC (by assumption), flds_c _ _, ?_⟩)

section
variable {P : Program} {w : World} {K : PySem.W.Frag} {mg : Str → Option Value} {base : Heap} {C : Addr}
theorem ok_init {f : Addr} {fd : FuncData} (F : C8.Fun K "__init__" "Cache.__init__" s_Cache___init__ f fd) (M : Mk K C f) (b : Binds K fd ["self", "capacity"] []) (T : CTxt K mg C) : C8.Mak P w K mg base 1 "Cache" C (spInit C) [] := by
  refine C8.mak0 M T.mgC F b .nil sc_Cache___init__ (fun vs H Q E h => ?_) (fun cdv A outer s H vs Q E hr h => ?_)
  · obtain ⟨p, dx, c, kd, rfl, _⟩ := h
    rfl
  obtain ⟨p, dx, c, kd, rfl, hp, th, q⟩ := h
  refine ⟨_, (pss_cons (ps_fld (pv 0) (pv 1) rfl)
      (pss_one (ps_fld (pv 0) new_dd rfl))), ?_⟩
  refine ⟨_, rfl, _, rfl, p, C, dx, [], rfl, hp, T.cl, T.nC, (by show 0 < 1000; decide), ?_⟩
  refine ⟨kd, th, fun d H' nd hd hs => ?_⟩
  have np : p ≠ d := fun z => by
    rw [← z, upd_same] at nd
    cases nd
  have nd0 : H d = none := by
    rw [upd_ne np.symm] at nd
    exact nd
  have g := hs _ _ (upd_same (H := H) (a := p) (o := HO.ins C dx (putF "_capacity" (V.int c) [])))
  refine ⟨_, rfl, p, C, dx, _, rfl, g, T.cl, T.nE, (by show 1 < 1000; decide), ?_⟩
  have sq : Sq H' (upd H' p (HO.ins C dx (putF "_entries" (V.ref d) (putF "_capacity" (V.int c) [])))) := sq_upd fun xs => by
    rw [g]
    exact ⟨fun z => (by cases z), fun z => (by cases z)⟩
  refine q d _ nd0 ⟨⟨dx, upd_same⟩, hd.sq sq fun o ho => ?_⟩ fun b o hb e => ?_
  · rw [upd_ne np.symm]
    exact ho
  · rw [upd_ne hb]
    exact hs _ _ (by rw [upd_ne hb]; exact e)
theorem ok_drop {f : Addr} {fd : FuncData} (F : C8.Fun K "drop" "Cache.drop" s_Cache_drop f fd) (M : Meth K C "drop" f) (b : Binds K fd ["self", "key"] []) (T : CTxt K mg C) : C8.Met P w K mg base 1 C "drop" (spDrop C) [] := by
  refine C8.met0 T.cl M F b sc_Cache_drop (fun vs H Q E h => ?_) (fun cdv A outer s H vs Q E hr h => ?_)
  · obtain ⟨p, d, k, c, kd, e, rfl, _⟩ := h
    rfl
  obtain ⟨p, d, k, c, kd, e, rfl, hc, hk, q⟩ := h
  obtain ⟨⟨dx, h1⟩, hd⟩ := id hc
  refine ⟨_, (pss_cons (ps_mk (ps_if (pt_cmpR (notin_dd (hu_of hr)) (pv 1) (pe_fld (pv 0) rfl) (by rfl))
      (pss_one (ps_ret pe_bl))
      pss_nil))
      (pss_cons (del_dd (hu_of hr) (pe_fld (pv 0) rfl) (pv 1))
      (pss_one (ps_ret pe_bl)))), ?_⟩
  refine un ?_
  walk_at "go"
  refine ⟨d, kd, e, rfl, hd, hk, ?_⟩
  walk_at "go"
  cases he : isN e with
  | true =>
    refine ifBT rfl ?_
    walk_at "go"
    rw [isN_iff.mp he] at hc
    exact q _ _ hc fun _ _ _ z => z
  | false =>
    refine ifBF rfl ?_
    walk_at "go"
    refine ⟨d, kd, e, rfl, hd, hk, he, fun H' hd' b' => ?_⟩
    walk_at "go"
    exact q _ _ (hc.behind b' hd') b'
theorem ok_look {f : Addr} {fd : FuncData} (F : C8.Fun K "look" "Cache.look" s_Cache_look f fd) (M : Meth K C "look" f) (b : Binds K fd ["self", "key"] []) (T : CTxt K mg C) : C8.Met P w K mg base 1 C "look" (spLook C) [] := by
  refine C8.met0 T.cl M F b sc_Cache_look (fun vs H Q E h => ?_) (fun cdv A outer s H vs Q E hr h => ?_)
  · obtain ⟨p, d, k, c, kd, e, rfl, _⟩ := h
    rfl
  obtain ⟨p, d, k, c, kd, e, rfl, hc, hk, q⟩ := h
  obtain ⟨⟨dx, h1⟩, hd⟩ := id hc
  refine ⟨_, (pss_cons (ps_mk (ps_if (pt_cmpR (notin_dd (hu_of hr)) (pv 1) (pe_fld (pv 0) rfl) (by rfl))
      (pss_one (ps_ret pe_non))
      pss_nil))
      (pss_cons (ps_set (i := 2) sc_Cache_look.nd rfl (.inl rfl) (pe_bm PySem.F.plainAttrs_dict PySem.F.slot_dict_pop PySem.F.type_dict_pop (pop1_dd (hu_of hr)) (pe_fld (pv 0) rfl) (pa_cons (pv 1) pa_nil)))
      (pss_cons (ps_asg (pv 2) (pg_sub (pe_fld (pv 0) rfl) (pv 1) (set_dd (hu_of hr))))
      (pss_one (ps_ret (pv 2)))))), ?_⟩
  refine un ?_
  walk_at "go"
  refine ⟨d, kd, e, rfl, hd, hk, ?_⟩
  walk_at "go"
  cases he : isN e with
  | true =>
    refine ifBT rfl ?_
    walk_at "go"
    rw [isN_iff.mp he] at hc q
    exact q .non _ rfl hc fun _ _ _ z => z
  | false =>
    refine ifBF rfl ?_
    walk_at "go"
    have ty : tyV K "dict" (.ref d) H := by
      obtain ⟨v, _, ⟨k1, _, g⟩ | ⟨k1, _, g⟩⟩ := id hd
      · exact .inr (.inr (.inl ⟨rfl, .inl ⟨_, g⟩⟩))
      · exact .inr (.inr (.inl ⟨rfl, .inr ⟨_, g⟩⟩))
    refine ⟨ty, ?_⟩
    walk_at "go"
    refine ⟨d, kd, e, k, rfl, rfl, hd, hk, he, fun v H' hv hd' b' => ?_⟩
    have h1' := b' _ _ hc.ne h1
    have hk' := Dh.sq (sq_but b' hd.no) _ _ hk
    walk_at "go"
    refine ⟨d, kd, .none, e, rfl, hd', hk', hv, he, fun H2 hd2 b2 => ?_⟩
    walk_at "go"
    exact q v _ (Dh.sq (sq_but b2 hd'.no) _ _ hv) ((hc.behind b' hd').behind b2 hd2) fun a o n z => b2 _ _ n (b' _ _ n z)
theorem ok_clear {f : Addr} {fd : FuncData} (F : C8.Fun K "clear_all" "Cache.clear_all" s_Cache_clear_all f fd) (M : Meth K C "clear_all" f) (b : Binds K fd ["self"] []) (T : CTxt K mg C) : C8.Met P w K mg base 1 C "clear_all" (spClear C) [] := by
  refine C8.met0 T.cl M F b sc_Cache_clear_all (fun vs H Q E h => ?_) (fun cdv A outer s H vs Q E hr h => ?_)
  · obtain ⟨p, d, c, kd, e, rfl, _⟩ := h
    rfl
  obtain ⟨p, d, c, kd, e, rfl, hc, th, q⟩ := h
  obtain ⟨⟨dx, h1⟩, hd⟩ := id hc
  refine ⟨_, (pss_cons (ps_set (i := 1) sc_Cache_clear_all.nd rfl (.inl rfl) (pe_callB len_dd (by rfl) T.len PySem.boot_len (pa_cons (pe_fld (pv 0) rfl) pa_nil)))
      (pss_cons (ps_fld (pv 0) new_dd rfl)
      (pss_one (ps_ret (pv 1))))), ?_⟩
  walk_at "go"
  refine ⟨d, kd, e, rfl, hd, ?_⟩
  walk_at "go"
  refine ⟨kd, th, fun d' H' nd hd' hs => ?_⟩
  have g := hs _ _ h1
  have np : p ≠ d' := ne_of_none h1 nd
  walk_at "go"
  refine ⟨p, C, dx, _, rfl, g, T.cl, T.nE, (by rw [flds_eq]; show 2 < 1000; decide), ?_⟩
  walk_at "go"
  rw [flds_put]
  have sq : Sq H' (upd H' p (HO.ins C dx (flds c d'))) := sq_upd fun xs => by
    rw [g]
    exact ⟨fun z => (by cases z), fun z => (by cases z)⟩
  refine q _ d' _ nd ⟨⟨dx, upd_same⟩, hd'.sq sq fun o ho => ?_⟩ fun b o hb e => ?_
  · rw [upd_ne np.symm]
    exact ho
  · rw [upd_ne hb]
    exact hs _ _ e
theorem ok_fill {f : Addr} {fd : FuncData} (F : C8.Fun K "fill" "Cache.fill" s_Cache_fill f fd) (M : Meth K C "fill" f) (b : Binds K fd ["self", "key", "value"] []) (T : CTxt K mg C) (m_drop : C8.Met P w K mg base 1 C "drop" (spDrop C) []) : C8.Met P w K mg base 2 C "fill" (spFill C) [] := by
  refine C8.met0 T.cl M F b sc_Cache_fill (fun vs H Q E h => ?_) (fun cdv A outer s H vs Q E hr h => ?_)
  · obtain ⟨p, d, k, v, c, kd, e, e', rfl, _⟩ := h
    rfl
  obtain ⟨p, d, k, v, c, kd, e, e', rfl, hc, hk, hv, ne, c0, q⟩ := h
  obtain ⟨⟨dx, h1⟩, hd⟩ := id hc
  refine ⟨_, (pss_cons (ps_mk (ps_if (pt_cmpR op_eq (pe_fld (pv 0) rfl) pe_int (nomark _))
      (pss_one (ps_ret pe_non))
      pss_nil))
      (pss_cons (ps_expr (C8.pe_mt m_drop hr (by omega) (pv 0) (pa_cons (pv 1) pa_nil)))
      (pss_cons (ps_asg (pv 2) (pg_sub (pe_fld (pv 0) rfl) (pv 1) (set_dd (hu_of hr))))
      (pss_cons (ps_mk (ps_if (pt_cmpR op_le (pe_callB len_dd (by rfl) T.len PySem.boot_len (pa_cons (pe_fld (pv 0) rfl) pa_nil)) (pe_fld (pv 0) rfl) (nomark _))
      (pss_one (ps_ret pe_non))
      pss_nil))
      (pss_cons (ps_never)
      (pss_cons (ps_expr (C8.pe_mt m_drop hr (by omega) (pv 0) (pa_cons (pv 3) pa_nil)))
      (pss_one (ps_ret (pv 3))))))))), ?_⟩
  refine un ?_
  walk_at "go"
  refine ifEq (fun z => ?_) (fun z => ?_)
  · walk_at "go"
    rw [if_pos z] at q
    exact q _ hc fun _ _ _ z => z
  rw [if_neg z] at q
  walk_at "go"
  refine ⟨p, dx, _, rfl, h1, flds_no _ _ (by decide +kernel) (by decide +kernel), ?_⟩
  walk_at "go"
  refine ⟨p, d, k, c, kd, e, rfl, hc, hk, fun b1 H1 hc1 b1' => ?_⟩
  obtain ⟨⟨dx1, h11⟩, hd1⟩ := id hc1
  have hk1 := Dh.sq (sq_but b1' hd.no) _ _ hk
  have hv1 := Dh.sq (sq_but b1' hd.no) _ _ hv
  walk_at "go"
  refine ⟨d, kd, .none, e', rfl, hd1, hk1, hv1, ne, fun H2 hd2 b2 => ?_⟩
  have hc2 := hc1.behind b2 hd2
  obtain ⟨⟨dx2, h12⟩, _⟩ := id hc2
  refine un ?_
  walk_at "go"
  refine ⟨d, kd, e', rfl, hd2, ?_⟩
  walk_at "go"
  refine ifT (by rw [ne]; show (1 : Int) ≤ c; omega) ?_
  walk_at "go"
  exact q _ hc2 fun a o n z => b2 _ _ n (b1' _ _ n z)
end

end

section

-- a condition of an operator
local macro_rules | `(tactic| walk_at "cond") => `(tactic| first
  | (show (0 : Int) < _; omega)
  | (show CDiv _ _; constructor <;> (first | decide | omega))
  | (show CMul _ _; first | (refine cmul_l ?_; constructor <;> (first | decide | omega)) | (refine cmul_r ?_; constructor <;> (first | decide | omega)))
  | (show CPow _ _; exact (by refine ⟨by decide, by decide, by decide⟩))
  | (show CDivW _ _; exact ⟨by decide, by decide +kernel⟩))
local macro_rules | `(tactic| walk_at "sq") => `(tactic| first | assumption | exact Dh.mono (same_upd (by assumption)) _ _ (by assumption) | exact .inl (.inl (.inl (by assumption))) | exact .inr (.inl (.inl (by assumption))) | exact SqL.of (by assumption) | exact .inl (by assumption) | exact .inl (SqL.of (by assumption)) | exact SqT.of (by assumption) | exact .inr (SqT.of (by assumption)))
local macro_rules | `(tactic| walk_at "st") => `(tactic| first
  | refine ⟨_, rfl, ?_⟩
  | refine ⟨_, _, rfl, rfl, ?_⟩
  | refine .inl ⟨_, rfl, ?_⟩
  | refine ⟨rfl, ?_⟩
  | refine ⟨_, _, rfl, by walk_at "sq", ?_⟩
  | refine ⟨.inl ⟨rfl, _, SqL.of (by assumption)⟩, ?_⟩
  | refine ⟨by walk_at "cond", ?_⟩
  | (refine' ifBT ?hh ?_; (case hh => first | rfl | assumption))
  | (refine' ifBF ?hh ?_; (case hh => first | rfl | assumption)))
local macro_rules | `(tactic| walk_at "go") => `(tactic| repeat walk_at "st")
local macro_rules | `(tactic| walk_at "yes") => `(tactic| (refine' ifT ?hh ?_; (case hh => first | rfl | decide +kernel)))
local macro_rules | `(tactic| walk_at "no") => `(tactic| (refine' ifF ?hh ?_; (case hh => first | decide +kernel | (intro z; cases z; done))))

local macro_rules | `(tactic| walk_at "st") => `(tactic| first
  | refine ⟨_, _, _, _, _, rfl, by assumption, CTxt.cl (by assumption), CTxt.nE (by assumption), flds_e _ _, ?_⟩
  | refine ⟨_, _, _, _, _, rfl, by assumption, CTxt.cl (by assumption), CTxt.nC (by assumption), flds_c _ _, ?_⟩)

/-! ### the mirror of a trace over one key -/
noncomputable def kindW (d e : PyData) : Str := by
  classical
  exact if d = e then "same" else if d = .none then "gain" else if e = .none then "loss" else "move"
theorem kindW_is (d e : PyData) : IsKind d e (kindW d e) := by
  unfold kindW
  refine ⟨fun h => ?_, fun h1 h2 => ?_, fun h1 h2 h3 => ?_, fun h1 h2 h3 => ?_⟩
  · rw [if_pos h]
  · rw [if_neg h1, if_pos h2]
  · rw [if_neg h1, if_neg h2, if_pos h3]
  · rw [if_neg h1, if_neg h2, if_neg h3]
def memK (x : Str) (ks : List Str) : Bool := inV (.str x) (ks.map V.str)
inductive Ev where
  | set (e : PyData)
  | touch
  | flush
def Ev.ok : Ev → Prop
  | .set e => Opt e
  | _ => True
noncomputable def keptN (ks : List Str) (cap : Int) (tab kept : PyData) : Ev → PyData
  | .set e => if memK (kindW tab e) ks then .none else kept
  | .touch => if isN kept = true ∧ isN tab = false ∧ cap ≠ 0 then tab else kept
  | .flush => .none
def tabN (tab : PyData) : Ev → PyData
  | .set e => e
  | _ => tab
def seenN (tab kept : PyData) : PyData := if isN kept then tab else kept
def toldN (tab kept : PyData) : Ev → List (PyData × PyData)
  | .touch => [(seenN tab kept, tab)]
  | _ => []
noncomputable def turn (ks : List Str) (cap : Int) (s : PyData × PyData × List (PyData × PyData)) (ev : Ev) : PyData × PyData × List (PyData × PyData) := (tabN s.1 ev, keptN ks cap s.1 s.2.1 ev, s.2.2 ++ toldN s.1 s.2.1 ev)
noncomputable def run (ks : List Str) (cap : Int) (evs : List Ev) : PyData × PyData × List (PyData × PyData) := evs.foldl (turn ks cap) (.none, .none, [])
theorem run_more {ks : List Str} {cap : Int} {evs : List Ev} {i : Nat} {ev : Ev} (h : evs[i]? = some ev) : run ks cap (evs.take (i + 1)) = turn ks cap (run ks cap (evs.take i)) ev := by
  unfold run
  rw [List.take_add_one, h, Option.toList_some, List.foldl_append]
  rfl
def OptP (q : PyData × PyData) : Prop := Opt q.1 ∧ Opt q.2
theorem keptN_opt {ks : List Str} {cap : Int} {tab kept : PyData} (h1 : Opt tab) (h2 : Opt kept) (ev : Ev) : Opt (keptN ks cap tab kept ev) := by
  cases ev with
  | set e =>
    show Opt (if _ then _ else _)
    split
    · exact .inl rfl
    · exact h2
  | touch =>
    show Opt (if _ then _ else _)
    split
    · exact h1
    · exact h2
  | flush => exact .inl rfl
theorem seenN_opt {tab kept : PyData} (h1 : Opt tab) (h2 : Opt kept) : Opt (seenN tab kept) := by
  unfold seenN
  split
  · exact h1
  · exact h2
theorem turn_opt {ks : List Str} {cap : Int} {s : PyData × PyData × List (PyData × PyData)} {ev : Ev} (h : Opt s.1 ∧ Opt s.2.1 ∧ ∀ q ∈ s.2.2, OptP q) (he : ev.ok) : Opt (turn ks cap s ev).1 ∧ Opt (turn ks cap s ev).2.1 ∧ ∀ q ∈ (turn ks cap s ev).2.2, OptP q := by
  obtain ⟨h1, h2, h3⟩ := h
  refine ⟨?_, keptN_opt h1 h2 ev, ?_⟩
  · cases ev with
    | set e => exact he
    | touch => exact h1
    | flush => exact h1
  · intro q hq
    rcases List.mem_append.mp hq with hq | hq
    · exact h3 q hq
    · cases ev with
      | set e => cases hq
      | flush => cases hq
      | touch =>
        obtain rfl := List.mem_singleton.mp hq
        exact ⟨seenN_opt h1 h2, h1⟩
theorem run_opt {ks : List Str} {cap : Int} {evs : List Ev} (he : ∀ ev ∈ evs, ev.ok) (i : Nat) : Opt (run ks cap (evs.take i)).1 ∧ Opt (run ks cap (evs.take i)).2.1 ∧ ∀ q ∈ (run ks cap (evs.take i)).2.2, OptP q := by
  induction i with
  | zero => exact ⟨.inl rfl, .inl rfl, fun q hq => by cases hq⟩
  | succ i ih =>
    cases e : evs[i]? with
    | none =>
      rw [List.take_add_one, e]
      simpa using ih
    | some ev =>
      rw [run_more e]
      exact turn_opt ih (he ev (List.mem_of_getElem? e))
theorem told_len {ks : List Str} {cap : Int} {evs : List Ev} (i : Nat) : (run ks cap (evs.take i)).2.2.length ≤ i := by
  induction i with
  | zero => exact Nat.le_refl 0
  | succ i ih =>
    cases e : evs[i]? with
    | none =>
      rw [List.take_add_one, e]
      simp only [Option.toList_none, List.append_nil]
      omega
    | some ev =>
      rw [run_more e]
      show (_ ++ toldN _ _ ev).length ≤ _
      rw [List.length_append]
      have : (toldN (run ks cap (evs.take i)).1 (run ks cap (evs.take i)).2.1 ev).length ≤ 1 := by cases ev <;> simp [toldN]
      omega
/-- tuples stay -/
def Tq (H H' : Hp) : Prop := ∀ b xs, H b = some (.tup xs) → H' b = some (.tup xs)
theorem flats_tq {H H' : Hp} : ∀ {ds : List PyData} {xs : List V}, (∀ d ∈ ds, Flat1 d) → DhAll H ds xs → DhAll H' ds xs
  | [], _, _, h => h
  | d :: ds, xs, f, h => by
    obtain ⟨v, vs, e, g, r⟩ := h
    refine ⟨v, vs, e, ?_, flats_tq (fun x hx => f x (List.mem_cons_of_mem _ hx)) r⟩
    have f1 := f d List.mem_cons_self
    cases d with
    | int i => exact g
    | str i => exact g
    | _ => exact f1.elim
theorem Dh.tq {H H' : Hp} {d : PyData} {x : V} (o : Opt d) (t : Tq H H') (h : Dh H d x) : Dh H' d x := by
  cases d with
  | none => exact h
  | int i => exact h
  | str i => exact h
  | bool b => exact h
  | list ds => exact (o.resolve_left (by simp)).elim
  | dict ds => exact h.elim
  | tuple ds =>
    obtain ⟨a, xs, e, g, r⟩ := h
    exact ⟨a, xs, e, t _ _ g, flats_tq (o.resolve_left (by simp)).2 r⟩
def PairsAt (H : Hp) : List (PyData × PyData) → List V → Prop
  | [], vs => vs = []
  | q :: r, vs => ∃ p x y rest, vs = .ref p :: rest ∧ H p = some (.tup [x, y]) ∧ Dh H q.1 x ∧ Dh H q.2 y ∧ PairsAt H r rest
theorem PairsAt.tq {H H' : Hp} (t : Tq H H') : ∀ {ps : List (PyData × PyData)} {vs : List V}, (∀ q ∈ ps, OptP q) → PairsAt H ps vs → PairsAt H' ps vs
  | [], _, _, h => h
  | q :: r, vs, o, h => by
    obtain ⟨p, x, y, rest, e, g, h1, h2, h3⟩ := h
    have oq := o q List.mem_cons_self
    exact ⟨p, x, y, rest, e, t _ _ g, Dh.tq oq.1 t h1, Dh.tq oq.2 t h2, PairsAt.tq t (fun z hz => o z (List.mem_cons_of_mem _ hz)) h3⟩
theorem PairsAt.more {H : Hp} {q : PyData × PyData} {p : Addr} {x y : V} (g : H p = some (.tup [x, y])) (h1 : Dh H q.1 x) (h2 : Dh H q.2 y) : ∀ {ps : List (PyData × PyData)} {vs : List V}, PairsAt H ps vs → PairsAt H (ps ++ [q]) (vs ++ [.ref p])
  | [], vs, h => by
    cases (show vs = [] from h)
    exact ⟨p, x, y, [], rfl, g, h1, h2, rfl⟩
  | q' :: r, vs, h => by
    obtain ⟨p', x', y', rest, e, g', h1', h2', h3'⟩ := h
    rw [e]
    exact ⟨p', x', y', rest ++ [.ref p], rfl, g', h1', h2', PairsAt.more g h1 h2 h3'⟩
theorem PairsAt.len {H : Hp} : ∀ {ps : List (PyData × PyData)} {vs : List V}, PairsAt H ps vs → vs.length = ps.length
  | [], vs, h => by
    cases (show vs = [] from h)
    rfl
  | q' :: r, vs, h => by
    obtain ⟨p', x', y', rest, e, g', h1', h2', h3'⟩ := h
    rw [e, List.length_cons, List.length_cons, PairsAt.len h3']
def pairD (q : PyData × PyData) : PyData := .tuple [q.1, q.2]
theorem PairsAt.dh {H : Hp} : ∀ {ps : List (PyData × PyData)} {vs : List V}, PairsAt H ps vs → DhAll H (ps.map pairD) vs
  | [], vs, h => h
  | q' :: r, vs, h => by
    obtain ⟨p', x', y', rest, e, g', h1', h2', h3'⟩ := h
    exact ⟨_, _, e, ⟨p', _, rfl, g', _, _, rfl, h1', _, _, rfl, h2', rfl⟩, PairsAt.dh h3'⟩
/-- an event at a -/
def EvAt (H : Hp) (kd : PyData) (a : Addr) : Ev → Prop
  | .set e => ∃ k v, H a = some (.tup [.str "set", k, v]) ∧ Dh H kd k ∧ Dh H e v
  | .touch => ∃ k, H a = some (.tup [.str "touch", k]) ∧ Dh H kd k
  | .flush => H a = some (.tup [.str "flush"])
theorem EvAt.same {H H' : Hp} (s : Same H H') {kd : PyData} {a : Addr} : ∀ {ev : Ev}, EvAt H kd a ev → EvAt H' kd a ev
  | .set e, h => by
    obtain ⟨k, v, g, h1, h2⟩ := h
    exact ⟨k, v, s _ _ g, Dh.mono s _ _ h1, Dh.mono s _ _ h2⟩
  | .touch, h => by
    obtain ⟨k, g, h1⟩ := h
    exact ⟨k, s _ _ g, Dh.mono s _ _ h1⟩
  | .flush, h => s _ _ h
/-- a trace of a key -/
structure TraceAt (H : Hp) (kd : PyData) (tr : Addr) (evs : List Ev) (as : List Addr) : Prop where
  l : H tr = some (.lst (as.map V.ref))
  n : as.length = evs.length
  at_ : ∀ (i : Nat) (a : Addr) (ev : Ev), as[i]? = some a → evs[i]? = some ev → EvAt H kd a ev
  ok : ∀ ev ∈ evs, ev.ok
  few : evs.length ≤ 100

abbrev s_set_value : Stmt := topS 8
theorem sc_set_value : FnScope ["table", "cache", "entry", "kinds", "key", "value"] ["table", "cache", "entry", "kinds"] (C8.fnScope s_set_value) := C8.fnScope_by (by decide +kernel)
abbrev s_touch : Stmt := topS 7
theorem sc_touch : FnScope ["table", "cache", "key", "actual", "seen"] ["table", "cache", "key"] (C8.fnScope s_touch) := C8.fnScope_by (by decide +kernel)
abbrev s_play_trace : Stmt := topS 4
theorem sc_play_trace : FnScope ["trace", "capacity", "kinds", "table", "cache", "pairs", "event"] ["trace", "capacity", "kinds"] (C8.fnScope s_play_trace) := C8.fnScope_by (by decide +kernel)
theorem dd_ty {K : PySem.W.Frag} {H : Hp} {d : Addr} {kd e : PyData} (h : DD H d kd e) : tyV K "dict" (.ref d) H := by
  obtain ⟨v, _, ⟨k1, _, g⟩ | ⟨k1, _, g⟩⟩ := h
  · exact .inr (.inr (.inl ⟨rfl, .inl ⟨_, g⟩⟩))
  · exact .inr (.inr (.inl ⟨rfl, .inr ⟨_, g⟩⟩))
theorem ne_ins {H : Hp} {p t C dx : Addr} {fs : List (Str × V)} {kd e : PyData} (g : H p = some (.ins C dx fs)) (h : DD H t kd e) : p ≠ t := by
  obtain ⟨v, _, ⟨k, _, g2⟩ | ⟨k, _, g2⟩⟩ := h
  · exact ne_of g g2 (fun z => by cases z)
  · exact ne_of g g2 (fun z => by cases z)
theorem CacheAt.same {C : Addr} {H H' : Hp} {p d : Addr} {c : Int} {kd e : PyData} (h : CacheAt C H p d c kd e) (s : Same H H') : CacheAt C H' p d c kd e := by
  obtain ⟨⟨dx, g⟩, hd⟩ := h
  exact ⟨⟨dx, s _ _ g⟩, hd.same s⟩
theorem DD.tq {H H' : Hp} {d : Addr} {kd e : PyData} (h : DD H d kd e) (o : Opt e) (t : Tq H H') (hd : ∀ o, H d = some o → H' d = some o) : DD H' d kd e := by
  obtain ⟨v, hv, g⟩ := h
  refine ⟨v, Dh.tq o t hv, ?_⟩
  rcases g with ⟨k, e1, g⟩ | ⟨k, e1, g⟩
  · exact .inl ⟨k, e1, hd _ g⟩
  · exact .inr ⟨k, e1, hd _ g⟩
theorem CacheAt.tq {C : Addr} {H H' : Hp} {p d : Addr} {c : Int} {kd e : PyData} (h : CacheAt C H p d c kd e) (o : Opt e) (t : Tq H H') (hp : ∀ o, H p = some o → H' p = some o) (hd : ∀ o, H d = some o → H' d = some o) : CacheAt C H' p d c kd e := by
  obtain ⟨⟨dx, g⟩, h2⟩ := h
  exact ⟨⟨dx, hp _ g⟩, h2.tq o t hd⟩
def spSetV (C : Addr) (K : PySem.W.Frag) : Sp := fun vs H Q _ => ∃ (t p en kl d : Addr) (k v : V) (ks : List Str) (cap : Int) (kd tab kept e : PyData), vs = [.ref t, .ref p, .ref en, .ref kl] ∧ DD H t kd tab ∧ CacheAt C H p d cap kd kept ∧ t ≠ d ∧
  H en = some (.tup [k, v]) ∧ Dh H kd k ∧ Dh H e v ∧ Opt tab ∧ Opt e ∧ H kl = some (.lst (ks.map V.str)) ∧ ∀ H', DD H' t kd e → CacheAt C H' p d cap kd (if memK (kindW tab e) ks then .none else kept) → (∀ b o, b ≠ t → b ≠ d → H b = some o → H' b = some o) → Q .non H'
def spTouch (C : Addr) : Sp := fun vs H Q _ => ∃ (t p d : Addr) (k : V) (cap : Int) (kd tab kept : PyData), vs = [.ref t, .ref p, k] ∧ DD H t kd tab ∧ CacheAt C H p d cap kd kept ∧ t ≠ d ∧ Dh H kd k ∧ Opt tab ∧ Opt kept ∧ 0 ≤ cap ∧
  ∀ r x y H', H' r = some (.tup [x, y]) → H r = none → Dh H' (seenN tab kept) x → Dh H' tab y → DD H' t kd tab → CacheAt C H' p d cap kd (keptN [] cap tab kept .touch) → But H H' d → Q (.ref r) H'
def spPlay (C : Addr) (K : PySem.W.Frag) : Sp := fun vs H Q _ => ∃ (tr kl : Addr) (as : List Addr) (ks : List Str) (cap : Int) (kd : PyData) (evs : List Ev), vs = [.ref tr, .int cap, .ref kl] ∧ Thing kd ∧ TraceAt H kd tr evs as ∧ H kl = some (.lst (ks.map V.str)) ∧ 0 ≤ cap ∧
  ∀ r H', Same H H' → H r = none → Dh H' (.list ((run ks cap evs).2.2.map pairD)) (.ref r) → Q (.ref r) H'
section
variable {P : Program} {w : World} {K : PySem.W.Frag} {mg : Str → Option Value} {base : Heap} {C : Addr}
theorem ok_setv {f : Addr} {fd : FuncData} (D : Def K mg "_set_value" s_set_value f fd) (b : Binds K fd ["table", "cache", "entry", "kinds"] []) (T : CTxt K mg C) (m_drop : C8.Met P w K mg base 1 C "drop" (spDrop C) []) (c_change_kind : Cal P w K mg base 1 "change_kind" spChange []) : Cal P w K mg base 2 "_set_value" (spSetV C K) [] := by
  refine cal0 D b .nil sc_set_value (fun vs H Q E h => ?_) (fun cdv A outer s H vs Q E hr h => ?_)
  · obtain ⟨t, p, en, kl, d, k, v, ks, cap, kd, tab, kept, e, rfl, _⟩ := h
    rfl
  obtain ⟨t, p, en, kl, d, k, v, ks, cap, kd, tab, kept, e, rfl, ht, hc, htd, hen, hk, hv, ot, oe, hkl, q⟩ := h
  refine ⟨_, (pss_cons (ps_asg (pv 2) (pg_tup rfl (pgs_cons (pg_name (i := 4) sc_set_value.nd rfl (.inl rfl)) (pgs_cons (pg_name (i := 5) sc_set_value.nd rfl (.inl rfl)) pgs_nil))))
      (pss_cons (ps_mk (ps_if (pt_cmpR (inQ K rfl) (C8.pe_c c_change_kind hr (by omega) (by rfl) (pa_cons (pe_bm PySem.F.plainAttrs_dict PySem.F.slot_dict_get PySem.F.type_dict_get (get_dd (hu_of hr)) (pv 0) (pa_cons (pv 4) pa_nil)) (pa_cons (pv 5) pa_nil))) (pv 3) (by rfl))
      (pss_one (ps_expr (C8.pe_mt m_drop hr (by omega) (pv 1) (pa_cons (pv 4) pa_nil))))
      pss_nil))
      (pss_one (ps_mk (ps_if (pt_cmpR op_isN (pv 5) pe_non (nomark _))
      (pss_one (ps_expr (pe_bm PySem.F.plainAttrs_dict PySem.F.slot_dict_pop PySem.F.type_dict_pop (pop2_dd (hu_of hr)) (pv 0) (pa_cons (pv 4) (pa_cons pe_non pa_nil)))))
      (pss_one (ps_asg (pv 5) (pg_sub (pv 0) (pv 4) (set_dd (hu_of hr)))))))))), ?_⟩
  walk_at "go"
  have hp0 := hc
  obtain ⟨⟨dx, h1⟩, hd⟩ := id hc
  refine jn (M := fun σ H' => DD H' t kd tab ∧ CacheAt C H' p d cap kd (if memK (kindW tab e) ks then .none else kept) ∧ But H H' d ∧ σ = [sR t, sR p, sR en, sR kl, some k, some v]) ?_ (fun N kk => ?_)
  · rintro σ H1 ⟨ht1, hc1, b1, rfl⟩
    have sq1 := sq_but b1 hd.no
    have hk1 := Dh.sq sq1 _ _ hk
    have hv1 := Dh.sq sq1 _ _ hv
    walk_at "go"
    refine un ?_
    walk_at "go"
    refine ifD (fun z => ?_) (fun z => ?_)
    · have he := hv.non_iff.mp z
      walk_at "go"
      refine ⟨dd_ty ht1, ?_⟩
      walk_at "go"
      refine ⟨t, kd, tab, k, rfl, rfl, ht1, hk1, fun v2 H2 ht2 b2 => ?_⟩
      walk_at "go"
      subst he
      refine q _ ht2 ?_ fun a o n1 n2 z => b2 _ _ n1 (b1 _ _ n2 z)
      have nt := ht1.no
      obtain ⟨⟨dx1, g1⟩, hd1⟩ := hc1
      refine ⟨⟨dx1, b2 _ _ (ne_ins g1 ht1) g1⟩, hd1.sq (sq_but b2 nt) fun o ho => b2 _ _ htd.symm ho⟩
    · have he : isN e = false := by
        cases h : isN e with
        | false => rfl
        | true => exact absurd (hv.non_iff.mpr (isN_iff.mp h)) z
      walk_at "go"
      refine ⟨t, kd, tab, e, rfl, ht1, hk1, hv1, he, fun H2 ht2 b2 => ?_⟩
      walk_at "go"
      refine q _ ht2 ?_ fun a o n1 n2 z => b2 _ _ n1 (b1 _ _ n2 z)
      have nt := ht1.no
      obtain ⟨⟨dx1, g1⟩, hd1⟩ := hc1
      refine ⟨⟨dx1, b2 _ _ (ne_ins g1 ht1) g1⟩, hd1.sq (sq_but b2 nt) fun o ho => b2 _ _ htd.symm ho⟩
  · walk_at "go"
    refine ⟨dd_ty ht, ?_⟩
    walk_at "go"
    refine ⟨t, kd, tab, k, rfl, rfl, ht, hk, fun v0 hv0 => ?_⟩
    walk_at "go"
    refine ⟨v0, v, tab, e, rfl, hv0, hv, ot, oe, fun w1 H1 k1 s1 => ?_⟩
    obtain rfl : w1 = kindW tab e := k1.one (kindW_is tab e)
    have hkl1 := s1 _ _ hkl
    walk_at "go"
    refine ⟨flat_strs ks, ?_⟩
    walk_at "go"
    have hc1 : CacheAt C H1 p d cap kd kept := ⟨⟨dx, s1 _ _ h1⟩, hd.same s1⟩
    cases hm : memK (kindW tab e) ks with
    | false =>
      rw [hm] at kk
      refine ifBF hm ?_
      walk_at "go"
      exact kk _ _ ⟨ht.same s1, hc1, fun a o _ z => s1 _ _ z, rfl⟩
    | true =>
      rw [hm] at kk
      refine ifBT hm ?_
      walk_at "go"
      refine ⟨p, dx, _, rfl, s1 _ _ h1, flds_no _ _ (by decide +kernel) (by decide +kernel), ?_⟩
      walk_at "go"
      refine ⟨p, d, k, cap, kd, kept, rfl, hc1, Dh.mono s1 _ _ hk, fun b2 H2 hc2 bb => ?_⟩
      walk_at "go"
      exact kk _ _ ⟨(ht.same s1).sq (sq_but bb (hd.same s1).no) fun o ho => bb _ _ htd ho, hc2, fun a o n z => bb _ _ n (s1 _ _ z), rfl⟩
theorem ok_touch {f : Addr} {fd : FuncData} (D : Def K mg "touch" s_touch f fd) (b : Binds K fd ["table", "cache", "key"] []) (T : CTxt K mg C) (m_look : C8.Met P w K mg base 1 C "look" (spLook C) []) (m_fill : C8.Met P w K mg base 2 C "fill" (spFill C) []) : Cal P w K mg base 3 "touch" (spTouch C) [] := by
  refine cal0 D b .nil sc_touch (fun vs H Q E h => ?_) (fun cdv A outer s H vs Q E hr h => ?_)
  · obtain ⟨t, p, d, k, cap, kd, tab, kept, rfl, _⟩ := h
    rfl
  obtain ⟨t, p, d, k, cap, kd, tab, kept, rfl, ht, hc, htd, hk, ot, ok, c0, q⟩ := h
  obtain ⟨⟨dx, h1⟩, hd⟩ := id hc
  refine ⟨_, (pss_cons (ps_set (i := 3) sc_touch.nd rfl (.inl rfl) (pe_bm PySem.F.plainAttrs_dict PySem.F.slot_dict_get PySem.F.type_dict_get (get_dd (hu_of hr)) (pv 0) (pa_cons (pv 2) pa_nil)))
      (pss_cons (ps_set (i := 4) sc_touch.nd rfl (.inl rfl) (C8.pe_mt m_look hr (by omega) (pv 1) (pa_cons (pv 2) pa_nil)))
      (pss_cons (ps_mk (ps_if (pt_cmpR op_isN (pv 4) pe_non (nomark _))
      (pss_cons (ps_set (i := 4) sc_touch.nd rfl (.inl rfl) (pv 3))
      (pss_one (ps_mk (ps_if (pt_cmpR op_notN (pv 3) pe_non (nomark _))
      (pss_one (ps_expr (C8.pe_mt m_fill hr (by omega) (pv 1) (pa_cons (pv 2) (pa_cons (pv 3) pa_nil)))))
      pss_nil))))
      pss_nil))
      (pss_one (ps_ret (pe_tup (pa_cons (pv 4) (pa_cons (pv 3) pa_nil)))))))), ?_⟩
  walk_at "go"
  refine ⟨dd_ty ht, ?_⟩
  walk_at "go"
  refine ⟨t, kd, tab, k, rfl, rfl, ht, hk, fun v0 hv0 => ?_⟩
  walk_at "go"
  refine ⟨p, dx, _, rfl, h1, flds_no _ _ (by decide +kernel) (by decide +kernel), ?_⟩
  walk_at "go"
  refine ⟨p, d, k, cap, kd, kept, rfl, hc, hk, fun v1 H1 hv1 hc1 b1 => ?_⟩
  have sq1 := sq_but b1 hd.no
  have hv0' := Dh.sq sq1 _ _ hv0
  have hk1 := Dh.sq sq1 _ _ hk
  have ht1 : DD H1 t kd tab := ht.sq sq1 fun o ho => b1 _ _ htd ho
  walk_at "go"
  refine jn (M := fun σ H' => ∃ v2, Dh H' (seenN tab kept) v2 ∧ Dh H' tab v0 ∧ DD H' t kd tab ∧ CacheAt C H' p d cap kd (keptN [] cap tab kept .touch) ∧ But H H' d ∧ σ = [sR t, sR p, some k, some v0, some v2]) ?_ (fun N kk => ?_)
  · rintro σ H2 ⟨v2, hv2, hv02, ht2, hc2, b2, rfl⟩
    walk_at "go"
    refine ⟨sz, fun r nr => ?_⟩
    have s3 := same_upd (o := HO.tup [v2, v0]) nr
    have nr0 : H r = none := by
      cases e : H r with
      | none => rfl
      | some o =>
        by_cases z : r = d
        · obtain ⟨⟨dx2, g2⟩, vv, _, ⟨_, _, g3⟩ | ⟨_, _, g3⟩⟩ := id hc2
          · rw [← z, nr] at g3
            cases g3
          · rw [← z, nr] at g3
            cases g3
        · rw [b2 _ _ z e] at nr
          cases nr
    obtain ⟨⟨dx2, g2⟩, hd2⟩ := id hc2
    exact q r v2 v0 _ upd_same nr0 (Dh.mono s3 _ _ hv2) (Dh.mono s3 _ _ hv02) (ht2.same s3) ⟨⟨dx2, s3 _ _ g2⟩, hd2.same s3⟩ fun a o n z => s3 _ _ (b2 _ _ n z)
  · walk_at "go"
    refine ifD (fun z => ?_) (fun z => ?_)
    · have hk0 := hv1.non_iff.mp z
      have es : seenN tab kept = tab := by
        unfold seenN
        rw [hk0]
        rfl
      walk_at "go"
      refine jn (M := fun σ H' => Dh H' tab v0 ∧ DD H' t kd tab ∧ CacheAt C H' p d cap kd (keptN [] cap tab kept .touch) ∧ But H H' d ∧ σ = [sR t, sR p, some k, some v0, some v0]) ?_ (fun N2 k2 => ?_)
      · rintro σ H2 ⟨hv02, ht2, hc2, b2, rfl⟩
        exact kk _ _ ⟨v0, by rw [es]; exact hv02, hv02, ht2, hc2, b2, rfl⟩
      · walk_at "go"
        have nn : (v0 = .non) ↔ isN tab = true := by rw [hv0.non_iff, isN_iff]
        by_cases zz : v0 = .non
        · refine ifBF (by rw [decide_eq_true zz]; rfl) ?_
          walk_at "go"
          have e1 : keptN [] cap tab kept .touch = kept := by
            show (if _ then _ else _) = _
            rw [if_neg (by rw [nn.mp zz]; simp)]
          exact k2 _ _ ⟨hv0', ht1, by rw [e1]; exact hc1, b1, rfl⟩
        · have nt : isN tab = false := Bool.eq_false_iff.mpr fun y => zz (nn.mpr y)
          refine ifBT (by rw [decide_eq_false zz]; rfl) ?_
          obtain ⟨⟨dx1, g1⟩, hd1⟩ := id hc1
          walk_at "go"
          refine ⟨p, dx1, _, rfl, g1, flds_no _ _ (by decide +kernel) (by decide +kernel), ?_⟩
          walk_at "go"
          refine ⟨p, d, k, v0, cap, kd, kept, tab, rfl, hc1, hk1, hv0', nt, c0, fun H2 hc2 b2 => ?_⟩
          walk_at "go"
          have sq2 := sq_but b2 hd1.no
          refine k2 _ _ ⟨Dh.sq sq2 _ _ hv0', ht1.sq sq2 (fun o ho => b2 _ _ htd ho), ?_, fun a o n z => b2 _ _ n (b1 _ _ n z), rfl⟩
          have e1 : (if cap = 0 then kept else tab) = keptN [] cap tab kept .touch := by
            show _ = (if _ then _ else _)
            by_cases zc : cap = 0
            · rw [if_pos zc, if_neg (fun y => y.2.2 zc)]
            · rw [if_neg zc, if_pos ⟨by rw [hk0]; rfl, nt, zc⟩]
          rw [← e1]
          exact hc2
    · have hk0 : isN kept = false := Bool.eq_false_iff.mpr fun y => z (hv1.non_iff.mpr (isN_iff.mp y))
      walk_at "go"
      refine kk _ _ ⟨v1, ?_, hv0', ht1, ?_, b1, rfl⟩
      · unfold seenN
        rw [hk0]
        exact hv1
      · have e1 : keptN [] cap tab kept .touch = kept := by
          show (if _ then _ else _) = _
          rw [if_neg (by rw [hk0]; simp)]
        rw [e1]
        exact hc1
theorem ok_play {f : Addr} {fd : FuncData} (D : Def K mg "play_trace" s_play_trace f fd) (b : Binds K fd ["trace", "capacity", "kinds"] []) (T : CTxt K mg C) (c_Cache : C8.Mak P w K mg base 1 "Cache" C (spInit C) []) (m_clear_all : C8.Met P w K mg base 1 C "clear_all" (spClear C) [])
    (c__set_value : Cal P w K mg base 2 "_set_value" (spSetV C K) []) (c_touch : Cal P w K mg base 3 "touch" (spTouch C) []) : Cal P w K mg base 4 "play_trace" (spPlay C K) [] := by
  refine cal0 D b .nil sc_play_trace (fun vs H Q E h => ?_) (fun cdv A outer s H vs Q E hr h => ?_)
  · obtain ⟨tr, kl, as, ks, cap, kd, evs, rfl, _⟩ := h
    rfl
  obtain ⟨tr, kl, as, ks, cap, kd, evs, rfl, th, hT, hkl, c0, q⟩ := h
  refine ⟨_, (pss_cons (ps_set (i := 3) sc_play_trace.nd rfl (.inl rfl) new_dd)
      (pss_cons (ps_set (i := 4) sc_play_trace.nd rfl (.inl rfl) (C8.pe_mk c_Cache hr (by omega) (by rfl) (pa_cons (pv 1) pa_nil)))
      (pss_cons (ps_set (i := 5) sc_play_trace.nd rfl (.inl rfl) (pe_lst pa_nil))
      (pss_cons (ps_mk (ps_for PassesOwn.never rfl (pi_list (pv 0)) (pg_name (i := 6) sc_play_trace.nd rfl (.inl rfl))
      (pss_one (ps_mk (ps_if (pt_cmpR op_eq (pe_ix (ixT K rfl) (pv 6) pe_int (fun _ _ => rfl)) pe_str (nomark _))
      (pss_one (ps_expr (C8.pe_c c__set_value hr (by omega) (by rfl) (pa_cons (pv 3) (pa_cons (pv 4) (pa_cons (pe_slice sl_tup (pv 6) (po_some pe_int) po_none) (pa_cons (pv 2) pa_nil)))))))
      (pss_one (ps_mk (ps_if (pt_cmpR op_eq (pe_ix (ixT K rfl) (pv 6) pe_int (fun _ _ => rfl)) pe_str (nomark _))
      (pss_one (ps_expr (pe_bm PySem.F.plainAttrs_list PySem.F.slot_list_append PySem.F.type_list_append mt_append (pv 5) (pa_cons (C8.pe_c c_touch hr (by omega) (by rfl) (pa_cons (pv 3) (pa_cons (pv 4) (pa_cons (pe_ix (ixT K rfl) (pv 6) pe_int (fun _ _ => rfl)) pa_nil)))) pa_nil))))
      (pss_one (ps_expr (C8.pe_mt0 m_clear_all hr (by omega) (pv 4) )))))))))))
      (pss_one (ps_ret (pv 5))))))), ?_⟩
  refine ⟨kd, th, fun t H1 nt ht s1 => ?_⟩
  walk_at "go"
  intro p dx np ndx npx
  refine ⟨p, dx, cap, kd, rfl, upd_same, th, fun d H2 nd hc b2 => ⟨rfl, ?_⟩⟩
  have sC : Same H1 (upd (upd H1 dx (.own p)) p (.ins C dx [])) := (same_upd ndx).trans (same_upd (by rw [upd_ne npx.symm]; exact np))
  have s2 : Same H1 H2 := fun a o e => b2 _ _ (ne_of_none e np) (sC _ _ e)
  have nd1 : H1 d = none := sC.free nd
  have ht2 := ht.same s2
  have htd : t ≠ d := by
    obtain ⟨v, _, ⟨k, _, g⟩ | ⟨k, _, g⟩⟩ := ht
    · exact ne_of_none g nd1
    · exact ne_of_none g nd1
  have s02 := s1.trans s2
  have nd0 : H d = none := s1.free nd1
  have np0 : ∀ o, H p ≠ some o := fun o e => by
    have z := s1 _ _ e
    rw [np] at z
    cases z
  clear s2 sC nd nd1 b2 ht np ndx npx s1
  walk_at "go"
  refine ⟨sz, fun L nL => ?_⟩
  have s3 := same_upd (o := HO.lst []) nL
  have nL0 : H L = none := s02.free nL
  have hL := upd_same (H := H2) (a := L) (o := HO.lst [])
  have hc3 : CacheAt C (upd H2 L (.lst [])) p d cap kd .none := by
    obtain ⟨⟨dx2, g⟩, hd⟩ := hc
    exact ⟨⟨dx2, s3 _ _ g⟩, hd.same s3⟩
  have ht3 := ht2.same s3
  have hLd : L ≠ d := by
    obtain ⟨_, v, _, ⟨k, _, g⟩ | ⟨k, _, g⟩⟩ := id hc
    · exact (ne_of_none g nL).symm
    · exact (ne_of_none g nL).symm
  have s03 := s02.trans s3
  generalize upd H2 L (HO.lst []) = H3 at *
  clear s02 s3 nL ht2 hc
  walk_at "go"
  refine jn (M := fun σ H' => Same H H' ∧ ∃ vs y6, H' L = some (.lst vs) ∧ PairsAt H' (run ks cap evs).2.2 vs ∧ σ = [sR tr, sI cap, sR kl, sR t, sR p, sR L, y6]) ?_ (fun N kk => ?_)
  · rintro σ H4 ⟨s4, vs, y6, g4, p4, rfl⟩
    walk_at "go"
    exact q L _ s4 nL0 ⟨L, vs, rfl, g4, p4.dh⟩
  walk_at "go"
  refine ⟨⟨_, SqL.of (s03 _ _ hT.l)⟩, for_list (K := K) (a := tr) (xs := as.map V.ref) (fun i σ H' => Ob (Same H H' ∧ ∃ d vs y6, DD H' t kd (run ks cap (evs.take i)).1 ∧ CacheAt C H' p d cap kd (run ks cap (evs.take i)).2.1 ∧ t ≠ d ∧ H d = none ∧ L ≠ d ∧ H' L = some (.lst vs) ∧ PairsAt H' (run ks cap (evs.take i)).2.2 vs ∧ σ = [sR tr, sI cap, sR kl, sR t, sR p, sR L, y6]))
    (ob ⟨s03, d, [], none, ht3, hc3, htd, nd0, hLd, hL, rfl, rfl⟩) (fun i σ H' _ h => SqL.of ((unob h).1 _ _ hT.l)) ?_ ?_⟩
  · intro i x σ H' hi h
    obtain ⟨s4, d, vs, y6, ht, hc, htd, nd0, hLd, hL, hp, rfl⟩ := unob h
    obtain ⟨a, ha, rfl⟩ : ∃ a, as[i]? = some a ∧ x = V.ref a := by
      rw [List.getElem?_map] at hi
      cases e : as[i]? with
      | none =>
        rw [e] at hi
        cases hi
      | some a =>
        rw [e] at hi
        exact ⟨a, rfl, (Option.some.inj hi).symm⟩
    have hil : i < evs.length := by
      rw [← hT.n]
      exact (List.getElem?_eq_some_iff.mp ha).1
    obtain ⟨ev, hev⟩ : ∃ ev, evs[i]? = some ev := ⟨_, List.getElem?_eq_getElem hil⟩
    have hE := EvAt.same s4 (hT.at_ i a ev ha hev)
    have oo := run_opt (ks := ks) (cap := cap) hT.ok i
    have rm := run_more (ks := ks) (cap := cap) hev
    have tl := told_len (ks := ks) (cap := cap) (evs := evs) i
    have few := hT.few
    have hkl4 := s4 _ _ hkl
    clear h ht3 hc3
    generalize run ks cap (evs.take i) = st at *
    obtain ⟨tab, kept, ps⟩ := st
    obtain ⟨o1, o2, o3⟩ := oo
    dsimp only at ht hc hp o1 o2 o3 tl
    rw [rm]
    clear rm
    cases ev with
    | set e =>
      obtain ⟨k, v, gE, hk, hv⟩ := hE
      have oe : Opt e := hT.ok _ (List.mem_of_getElem? hev)
      walk_at "go"
      refine un ?_
      walk_at "go"
      refine ⟨_, _, _, _, rfl, rfl, SqT.of gE, rfl, ?_⟩
      walk_at "go"
      walk_at "go"
      refine ⟨fun z => absurd z.1 (show ¬ HT.sIx 3 0 (some 1) = 0 by decide), fun en nen => ?_⟩
      have ecut : cutV [V.str "set", k, v] (some 1) none = [k, v] := rfl
      rw [ecut]
      have s5 := same_upd (o := HO.tup [k, v]) nen
      have gen := upd_same (H := H') (a := en) (o := HO.tup [k, v])
      generalize upd H' en (HO.tup [k, v]) = H5 at *
      walk_at "go"
      refine ⟨t, p, en, kl, d, k, v, ks, cap, kd, tab, kept, e, rfl, ht.same s5, hc.same s5, htd, gen, Dh.mono s5 _ _ hk, Dh.mono s5 _ _ hv, o1, oe, s5 _ _ hkl4, fun H6 ht6 hc6 b6 => ?_⟩
      walk_at "go"
      have n1 := (ht.same s5).no
      have n2 := (hc.same s5).2.no
      have tq : Tq H' H6 := fun b xs g => b6 b _ (fun z => by rw [z] at g; exact (n1 xs).2 (s5 _ _ g)) (fun z => by rw [z] at g; exact (n2 xs).2 (s5 _ _ g)) (s5 _ _ g)
      refine ob ⟨fun b o e => b6 _ _ (ne_of_none e nt) (ne_of_none e nd0) (s5 _ _ (s4 _ _ e)), d, vs, _, ht6, hc6, htd, nd0, hLd, b6 _ _ (fun z => by rw [z] at hL; exact (n1 vs).1 (s5 _ _ hL)) hLd (s5 _ _ hL), ?_, rfl⟩
      show PairsAt H6 (ps ++ []) vs
      rw [List.append_nil]
      exact PairsAt.tq tq o3 hp
    | touch =>
      obtain ⟨k, gE, hk⟩ := hE
      walk_at "go"
      refine un ?_
      walk_at "go"
      refine ⟨_, _, _, _, rfl, rfl, SqT.of gE, rfl, ?_⟩
      walk_at "go"
      walk_at "go"
      refine un ?_
      walk_at "go"
      refine ⟨_, _, _, _, rfl, rfl, SqT.of gE, rfl, ?_⟩
      walk_at "go"
      walk_at "go"
      refine ⟨_, _, _, _, rfl, rfl, SqT.of gE, rfl, ?_⟩
      walk_at "go"
      refine ⟨t, p, d, k, cap, kd, tab, kept, rfl, ht, hc, htd, hk, o1, o2, c0, fun r x y H5 gr nr h1 h2 ht5 hc5 b5 => ?_⟩
      have hL5 := b5 _ _ hLd hL
      walk_at "go"
      refine ⟨L, vs, _, rfl, rfl, hL5, sz5 (by rw [hp.len]; omega), ?_⟩
      walk_at "go"
      have rL : r ≠ L := (ne_of_none hL nr).symm
      have tq5 : Tq H5 (upd H5 L (.lst (vs ++ [.ref r]))) := fun b xs g => by
        rw [upd_ne (fun z => by rw [z, hL5] at g; cases g)]
        exact g
      have n2 := hc.2.no
      have tq : Tq H' (upd H5 L (.lst (vs ++ [.ref r]))) := fun b xs g => tq5 _ _ (b5 b _ (fun z => by rw [z] at g; exact (n2 xs).2 g) g)
      have on := keptN_opt (ks := []) (cap := cap) o1 o2 .touch
      refine ob ⟨fun b o e => ?_, d, vs ++ [.ref r], _, ht5.tq o1 tq5 (fun o ho => ?_), hc5.tq on tq5 (fun o ho => ?_) (fun o ho => ?_), htd, nd0, hLd, upd_same, ?_, rfl⟩
      · rw [upd_ne (ne_of_none e nL0)]
        exact b5 _ _ (ne_of_none e nd0) (s4 _ _ e)
      · rw [upd_ne (fun z => by
          have n1 := ht5.no
          rw [z] at n1
          exact (n1 vs).1 hL5)]
        exact ho
      · rw [upd_ne (fun z => by
          obtain ⟨⟨dx5, g5⟩, _⟩ := hc5
          rw [z, hL5] at g5
          cases g5)]
        exact ho
      · rw [upd_ne hLd.symm]
        exact ho
      · exact PairsAt.more (q := (seenN tab kept, tab)) (x := x) (y := y) (by rw [upd_ne rL]; exact gr) (Dh.tq (seenN_opt o1 o2) tq5 h1) (Dh.tq o1 tq5 h2) (PairsAt.tq tq o3 hp)
    | flush =>
      have gE : H' a = some (.tup [.str "flush"]) := hE
      walk_at "go"
      refine un ?_
      walk_at "go"
      refine ⟨_, _, _, _, rfl, rfl, SqT.of gE, rfl, ?_⟩
      walk_at "go"
      walk_at "go"
      refine un ?_
      walk_at "go"
      refine ⟨_, _, _, _, rfl, rfl, SqT.of gE, rfl, ?_⟩
      walk_at "go"
      walk_at "go"
      obtain ⟨⟨dx2, g2⟩, hd2⟩ := id hc
      refine ⟨p, dx2, _, rfl, g2, flds_no _ _ (by decide +kernel) (by decide +kernel), ?_⟩
      refine ⟨p, d, cap, kd, kept, rfl, hc, th, fun n d' H5 nd' hc5 b5 => ?_⟩
      walk_at "go"
      have np : NoSq H' p := fun xs => by
        rw [g2]
        exact ⟨fun z => (by cases z), fun z => (by cases z)⟩
      have npt : t ≠ p := (ne_ins g2 ht).symm
      have sq := sq_but b5 np
      refine ob ⟨fun b o e => b5 _ _ (fun z => ?_) (s4 _ _ e), d', vs, _, ht.sq sq (fun o ho => b5 _ _ npt ho), hc5, ?_, s4.free nd', (ne_of_none hL nd'), (sq _ _).1 hL, ?_, rfl⟩
      · rw [z] at e
        exact np0 _ e
      · obtain ⟨vv, _, ⟨_, _, g⟩ | ⟨_, _, g⟩⟩ := ht
        · exact ne_of_none g nd'
        · exact ne_of_none g nd'
      · show PairsAt H5 (ps ++ []) vs
        rw [List.append_nil]
        exact PairsAt.tq (fun b xs g => (sq b xs).2 g) o3 hp
  · intro σ H' h
    obtain ⟨s4, d, vs, y6, ht, hc, htd, nd0, hLd, hL, hp, rfl⟩ := unob h
    rw [List.length_map, hT.n, List.take_length] at hp
    exact kk _ _ ⟨s4, vs, y6, hL, hp, rfl⟩
end

end

section

-- a condition of an operator
local macro_rules | `(tactic| walk_at "cond") => `(tactic| first
  | (show (0 : Int) < _; omega)
  | (show CDiv _ _; constructor <;> (first | decide | omega))
  | (show CMul _ _; first | (refine cmul_l ?_; constructor <;> (first | decide | omega)) | (refine cmul_r ?_; constructor <;> (first | decide | omega)))
  | (show CPow _ _; exact (by refine ⟨by decide, by decide, by decide⟩))
  | (show CDivW _ _; exact ⟨by decide, by decide +kernel⟩))
local macro_rules | `(tactic| walk_at "sq") => `(tactic| first | assumption | exact Dh.mono (same_upd (by assumption)) _ _ (by assumption) | exact .inl (.inl (.inl (by assumption))) | exact .inr (.inl (.inl (by assumption))) | exact SqL.of (by assumption) | exact .inl (by assumption) | exact .inl (SqL.of (by assumption)) | exact SqT.of (by assumption) | exact .inr (SqT.of (by assumption)))
local macro_rules | `(tactic| walk_at "st") => `(tactic| first
  | refine ⟨_, rfl, ?_⟩
  | refine ⟨_, _, rfl, rfl, ?_⟩
  | refine .inl ⟨_, rfl, ?_⟩
  | refine ⟨rfl, ?_⟩
  | refine ⟨_, _, rfl, by walk_at "sq", ?_⟩
  | refine ⟨.inl ⟨rfl, _, SqL.of (by assumption)⟩, ?_⟩
  | refine ⟨by walk_at "cond", ?_⟩
  | (refine' ifBT ?hh ?_; (case hh => first | rfl | assumption))
  | (refine' ifBF ?hh ?_; (case hh => first | rfl | assumption)))
local macro_rules | `(tactic| walk_at "go") => `(tactic| repeat walk_at "st")
local macro_rules | `(tactic| walk_at "yes") => `(tactic| (refine' ifT ?hh ?_; (case hh => first | rfl | decide +kernel)))
local macro_rules | `(tactic| walk_at "no") => `(tactic| (refine' ifF ?hh ?_; (case hh => first | decide +kernel | (intro z; cases z; done))))

/-! ### the law's rows: at most one entry [key, value] -/
abbrev s_kept_find : Stmt := topS 14
theorem sc_kept_find : FnScope ["_law_kept", "_law_key", "_law_k"] ["_law_kept", "_law_key"] (C8.fnScope s_kept_find) := C8.fnScope_by (by decide +kernel)
abbrev s_kept_look : Stmt := topS 15
theorem sc_kept_look : FnScope ["_law_kept", "_law_key", "_law_at", "_law_entry"] ["_law_kept", "_law_key"] (C8.fnScope s_kept_look) := C8.fnScope_by (by decide +kernel)
abbrev s_kept_fill : Stmt := topS 16
theorem sc_kept_fill : FnScope ["_law_kept", "_law_size", "_law_key", "_law_value", "_law_at"] ["_law_kept", "_law_size", "_law_key", "_law_value"] (C8.fnScope s_kept_fill) := C8.fnScope_by (by decide +kernel)
abbrev s_kept_drop : Stmt := topS 17
theorem sc_kept_drop : FnScope ["_law_kept", "_law_key", "_law_at"] ["_law_kept", "_law_key"] (C8.fnScope s_kept_drop) := C8.fnScope_by (by decide +kernel)
abbrev s_table_get : Stmt := topS 18
theorem sc_table_get : FnScope ["_law_table", "_law_key", "_law_at"] ["_law_table", "_law_key"] (C8.fnScope s_table_get) := C8.fnScope_by (by decide +kernel)
abbrev s_table_set : Stmt := topS 19
theorem sc_table_set : FnScope ["_law_table", "_law_key", "_law_value", "_law_at"] ["_law_table", "_law_key", "_law_value"] (C8.fnScope s_table_set) := C8.fnScope_by (by decide +kernel)
def RowE (H : Hp) (l : Addr) (kd e : PyData) : Option Addr → Prop
  | none => H l = some (.lst []) ∧ e = .none
  | some en => H l = some (.lst [.ref en]) ∧ ∃ k v, H en = some (.lst [k, v]) ∧ Dh H kd k ∧ Dh H e v
theorem RowE.same {H H' : Hp} (s : Same H H') {l : Addr} {kd e : PyData} : ∀ {x : Option Addr}, RowE H l kd e x → RowE H' l kd e x
  | none, h => ⟨s _ _ h.1, h.2⟩
  | some en, h => by
    obtain ⟨g, k, v, g2, h1, h2⟩ := h
    exact ⟨s _ _ g, k, v, s _ _ g2, Dh.mono s _ _ h1, Dh.mono s _ _ h2⟩
/-- tuples, the row and its entry stay -/
theorem RowE.tq {H H' : Hp} {l : Addr} {kd e : PyData} (ok : Opt kd) (oe : Opt e) (t : Tq H H') : ∀ {x : Option Addr}, RowE H l kd e x → (∀ o, H l = some o → H' l = some o) → (∀ en o, x = some en → H en = some o → H' en = some o) → RowE H' l kd e x
  | none, h, hl, _ => ⟨hl _ h.1, h.2⟩
  | some en, h, hl, he => by
    obtain ⟨g, k, v, g2, h1, h2⟩ := h
    exact ⟨hl _ g, k, v, he en _ rfl g2, Dh.tq ok t h1, Dh.tq oe t h2⟩
def spFind : Sp := fun vs H Q _ => ∃ (l : Addr) (k : V) (kd e : PyData) (x : Option Addr), vs = [.ref l, k] ∧ RowE H l kd e x ∧ Dh H kd k ∧ Thing kd ∧ Q (.int (if x = none then -1 else 0)) H
def spKLook : Sp := fun vs H Q _ => ∃ (l : Addr) (k : V) (kd e : PyData) (x : Option Addr), vs = [.ref l, k] ∧ RowE H l kd e x ∧ Dh H kd k ∧ Thing kd ∧ Opt e ∧ (∀ en, x = some en → en ≠ l) ∧ ∀ v H', Dh H' e v → RowE H' l kd e x → But H H' l → Tq H H' → Q v H'
def spKDrop : Sp := fun vs H Q _ => ∃ (l : Addr) (k : V) (kd e : PyData) (x : Option Addr), vs = [.ref l, k] ∧ RowE H l kd e x ∧ Dh H kd k ∧ Thing kd ∧ ∀ b H', RowE H' l kd .none none → But H H' l → Tq H H' → Q (.bl b) H'
def spKFill : Sp := fun vs H Q _ => ∃ (l : Addr) (k v : V) (size : Int) (kd e : PyData), vs = [.ref l, .int size, k, v] ∧ RowE H l kd .none none ∧ Dh H kd k ∧ Thing kd ∧ Dh H e v ∧ Opt e ∧ 0 ≤ size ∧ size ≤ 1000 ∧
  ∀ x' H', RowE H' l kd (if size = 0 then .none else e) x' → (size = 0 → x' = none) → (∀ en, x' = some en → H en = none) → But H H' l → Tq H H' → Q .non H'
def spTGet : Sp := fun vs H Q _ => ∃ (l : Addr) (k : V) (kd e : PyData) (x : Option Addr), vs = [.ref l, k] ∧ RowE H l kd e x ∧ Dh H kd k ∧ Thing kd ∧ ∀ v, Dh H e v → Q v H
def spTSet : Sp := fun vs H Q _ => ∃ (l : Addr) (k v : V) (kd e e' : PyData) (x : Option Addr), vs = [.ref l, k, v] ∧ RowE H l kd e x ∧ Dh H kd k ∧ Thing kd ∧ Dh H e' v ∧ Opt e' ∧ (∀ en, x = some en → en ≠ l) ∧
  ∀ x' H', RowE H' l kd e' x' → (x' = x ∨ ∃ en, x' = some en ∧ H en = none) → (∀ b o, b ≠ l → x ≠ some b → H b = some o → H' b = some o) → Tq H H' → Q .non H'
theorem tq_lst {H : Hp} {l : Addr} {xs : List V} {o : HO} (g : H l = some (.lst xs)) : Tq H (upd H l o) := fun b ys h => by
  rw [upd_ne (fun z => by rw [z, g] at h; cases h)]
  exact h
section
variable {P : Program} {w : World} {K : PySem.W.Frag} {mg : Str → Option Value} {base : Heap}
theorem ok_find {f : Addr} {fd : FuncData} (D : Def K mg "_law_kept_find" s_kept_find f fd) (b : Binds K fd ["_law_kept", "_law_key"] []) (T : Txt mg) : Cal P w K mg base 1 "_law_kept_find" spFind [] := by
  refine cal0 D b .nil sc_kept_find (fun vs H Q E h => ?_) (fun cdv A outer s H vs Q E hr h => ?_)
  · obtain ⟨l, k, kd, e, x, rfl, _⟩ := h
    rfl
  obtain ⟨l, k, kd, e, x, rfl, hR, hk, th, q⟩ := h
  refine ⟨_, (pss_cons (ps_mk (ps_for PassesOwn.never rfl (pi_range1 (by rfl) T.range (pa_cons (pe_callB (lenQ K rfl) (by rfl) T.len PySem.boot_len (pa_cons (pv 0) pa_nil)) pa_nil)) (pg_name (i := 2) sc_kept_find.nd rfl (.inl rfl))
      (pss_one (ps_mk (ps_if (pt_cmpR (eqQ K rfl hr.units) (pe_ix (ixL K rfl) (pe_ix (ixL K rfl) (pv 0) (pv 2) (fun _ _ => rfl)) pe_int (fun _ _ => rfl)) (pv 1) (nomark _))
      (pss_one (ps_ret (pv 2)))
      pss_nil)))))
      (pss_one (ps_ret (pe_un un_neg pe_int)))), ?_⟩
  cases x with
  | none =>
    obtain ⟨g, rfl⟩ := hR
    refine jn (M := fun σ H' => H' = H) ?_ (fun N kk => ?_)
    · rintro σ H' rfl
      walk_at "go"
      exact q
    walk_at "go"
    refine ⟨by decide, by decide, for_range (lo := 0) (n := 0) (fun i σ H' => Ob (H' = H)) (ob rfl) (fun i σ H' hi _ => absurd hi (Nat.not_lt_zero _)) (fun σ H' h => kk _ _ (unob h))⟩
  | some en =>
    obtain ⟨g, k1, v1, g2, h1, h2⟩ := hR
    refine jn (M := fun σ H' => False) (fun _ _ z => z.elim) (fun N kk => ?_)
    walk_at "go"
    refine ⟨by simp, by simp, for_range (lo := 0) (n := 1) (fun i σ H' => Ob (i = 0 ∧ H' = H ∧ ∃ y, σ = [sR l, some k, y])) (ob ⟨rfl, rfl, none, rfl⟩) (fun i σ H' hi h => ?_) (fun σ H' h => absurd (unob h).1 (by decide))⟩
    obtain ⟨rfl, rfl, y, rfl⟩ := unob h
    walk_at "go"
    refine un ?_
    walk_at "go"
    refine ⟨_, _, _, _, rfl, rfl, SqL.of g, rfl, ?_⟩
    walk_at "go"
    refine ⟨_, _, _, _, rfl, rfl, SqL.of g2, rfl, ?_⟩
    walk_at "go"
    refine ⟨kd, kd, h1.dp, hk.dp, shaped_opt (.inr th), shaped_opt (.inr th), ?_⟩
    walk_at "go"
    refine ifBT ((eqv_thing (.inr th) (.inr th)).mpr rfl) ?_
    walk_at "go"
    rw [if_neg (by simp)] at q
    exact q
theorem ok_tget {f : Addr} {fd : FuncData} (D : Def K mg "_law_table_get" s_table_get f fd) (b : Binds K fd ["_law_table", "_law_key"] []) (T : Txt mg) (c_kept_find : Cal P w K mg base 1 "_law_kept_find" spFind []) : Cal P w K mg base 2 "_law_table_get" spTGet [] := by
  refine cal0 D b .nil sc_table_get (fun vs H Q E h => ?_) (fun cdv A outer s H vs Q E hr h => ?_)
  · obtain ⟨l, k, kd, e, x, rfl, _⟩ := h
    rfl
  obtain ⟨l, k, kd, e, x, rfl, hR, hk, th, q⟩ := h
  refine ⟨_, (pss_cons (ps_set (i := 2) sc_table_get.nd rfl (.inl rfl) (C8.pe_c c_kept_find hr (by omega) (by rfl) (pa_cons (pv 0) (pa_cons (pv 1) pa_nil))))
      (pss_cons (ps_mk (ps_if (pt_cmpR op_lt (pv 2) pe_int (nomark _))
      (pss_one (ps_ret pe_non))
      pss_nil))
      (pss_one (ps_ret (pe_ix (ixL K rfl) (pe_ix (ixL K rfl) (pv 0) (pv 2) (fun _ _ => rfl)) pe_int (fun _ _ => rfl)))))), ?_⟩
  walk_at "go"
  refine ⟨l, k, kd, e, x, rfl, hR, hk, th, ?_⟩
  walk_at "go"
  refine un ?_
  cases x with
  | none =>
    obtain ⟨g, rfl⟩ := hR
    walk_at "go"
    exact q _ rfl
  | some en =>
    obtain ⟨g, k1, v1, g2, h1, h2⟩ := hR
    walk_at "go"
    refine ⟨_, _, _, _, rfl, rfl, SqL.of g, rfl, ?_⟩
    walk_at "go"
    refine ⟨_, _, _, _, rfl, rfl, SqL.of g2, rfl, ?_⟩
    exact q _ h2
theorem ok_klook {f : Addr} {fd : FuncData} (D : Def K mg "_law_kept_look" s_kept_look f fd) (b : Binds K fd ["_law_kept", "_law_key"] []) (T : Txt mg) (c_kept_find : Cal P w K mg base 1 "_law_kept_find" spFind []) : Cal P w K mg base 2 "_law_kept_look" spKLook [] := by
  refine cal0 D b .nil sc_kept_look (fun vs H Q E h => ?_) (fun cdv A outer s H vs Q E hr h => ?_)
  · obtain ⟨l, k, kd, e, x, rfl, _⟩ := h
    rfl
  obtain ⟨l, k, kd, e, x, rfl, hR, hk, th, oe, nx, q⟩ := h
  refine ⟨_, (pss_cons (ps_set (i := 2) sc_kept_look.nd rfl (.inl rfl) (C8.pe_c c_kept_find hr (by omega) (by rfl) (pa_cons (pv 0) (pa_cons (pv 1) pa_nil))))
      (pss_cons (ps_mk (ps_if (pt_cmpR op_lt (pv 2) pe_int (nomark _))
      (pss_one (ps_ret pe_non))
      pss_nil))
      (pss_cons (ps_set (i := 3) sc_kept_look.nd rfl (.inl rfl) (pe_bm PySem.F.plainAttrs_list PySem.F.slot_list_pop PySem.F.type_list_pop mt_popAt (pv 0) (pa_cons (pv 2) pa_nil)))
      (pss_cons (ps_expr (pe_bm PySem.F.plainAttrs_list PySem.F.slot_list_append PySem.F.type_list_append mt_append (pv 0) (pa_cons (pv 3) pa_nil)))
      (pss_one (ps_ret (pe_ix (ixL K rfl) (pv 3) pe_int (fun _ _ => rfl)))))))), ?_⟩
  walk_at "go"
  refine ⟨l, k, kd, e, x, rfl, hR, hk, th, ?_⟩
  walk_at "go"
  refine un ?_
  cases x with
  | none =>
    have hR2 := hR
    obtain ⟨g, rfl⟩ := hR
    walk_at "go"
    exact q _ _ rfl hR2 (fun _ _ _ z => z) (fun _ _ z => z)
  | some en =>
    obtain ⟨g, k1, v1, g2, h1, h2⟩ := hR
    have ne := nx en rfl
    walk_at "go"
    refine ⟨_, _, _, 0, V.ref en, rfl, rfl, g, by simp, by simp, rfl, rfl, ?_⟩
    have ge : (upd H l (HO.lst ([V.ref en].eraseIdx 0))) l = some (.lst []) := upd_same
    walk_at "go"
    refine ⟨_, _, _, rfl, rfl, ge, small1000 (by decide), ?_⟩
    rw [upd_upd]
    have g2' : (upd H l (HO.lst ([] ++ [V.ref en]))) en = some (.lst [k1, v1]) := by rw [upd_ne ne]; exact g2
    walk_at "go"
    refine ⟨_, _, _, _, rfl, rfl, SqL.of g2', rfl, ?_⟩
    have tq := tq_lst (o := HO.lst ([] ++ [V.ref en])) g
    exact q _ _ (Dh.tq oe tq h2) ⟨upd_same, k1, v1, g2', Dh.tq (.inr th) tq h1, Dh.tq oe tq h2⟩ but_upd tq
theorem ok_kdrop {f : Addr} {fd : FuncData} (D : Def K mg "_law_kept_drop" s_kept_drop f fd) (b : Binds K fd ["_law_kept", "_law_key"] []) (T : Txt mg) (c_kept_find : Cal P w K mg base 1 "_law_kept_find" spFind []) : Cal P w K mg base 2 "_law_kept_drop" spKDrop [] := by
  refine cal0 D b .nil sc_kept_drop (fun vs H Q E h => ?_) (fun cdv A outer s H vs Q E hr h => ?_)
  · obtain ⟨l, k, kd, e, x, rfl, _⟩ := h
    rfl
  obtain ⟨l, k, kd, e, x, rfl, hR, hk, th, q⟩ := h
  refine ⟨_, (pss_cons (ps_set (i := 2) sc_kept_drop.nd rfl (.inl rfl) (C8.pe_c c_kept_find hr (by omega) (by rfl) (pa_cons (pv 0) (pa_cons (pv 1) pa_nil))))
      (pss_cons (ps_mk (ps_if (pt_cmpR op_ge (pv 2) pe_int (nomark _))
      (pss_one (ps_expr (pe_bm PySem.F.plainAttrs_list PySem.F.slot_list_pop PySem.F.type_list_pop mt_popAt (pv 0) (pa_cons (pv 2) pa_nil))))
      pss_nil))
      (pss_one (ps_ret (pe_cmpR op_ge (pv 2) pe_int (nomark _)))))), ?_⟩
  walk_at "go"
  refine ⟨l, k, kd, e, x, rfl, hR, hk, th, ?_⟩
  walk_at "go"
  refine un ?_
  cases x with
  | none =>
    obtain ⟨g, rfl⟩ := hR
    walk_at "go"
    exact q _ _ ⟨g, rfl⟩ (fun _ _ _ z => z) (fun _ _ z => z)
  | some en =>
    obtain ⟨g, k1, v1, g2, h1, h2⟩ := hR
    walk_at "go"
    refine ⟨_, _, _, 0, V.ref en, rfl, rfl, g, by simp, by simp, rfl, rfl, ?_⟩
    walk_at "go"
    exact q _ _ ⟨upd_same, rfl⟩ but_upd (tq_lst g)
theorem ok_kfill {f : Addr} {fd : FuncData} (D : Def K mg "_law_kept_fill" s_kept_fill f fd) (b : Binds K fd ["_law_kept", "_law_size", "_law_key", "_law_value"] []) (T : Txt mg) (c_kept_find : Cal P w K mg base 1 "_law_kept_find" spFind []) : Cal P w K mg base 2 "_law_kept_fill" spKFill [] := by
  refine cal0 D b .nil sc_kept_fill (fun vs H Q E h => ?_) (fun cdv A outer s H vs Q E hr h => ?_)
  · obtain ⟨l, k, v, size, kd, e, rfl, _⟩ := h
    rfl
  obtain ⟨l, k, v, size, kd, e, rfl, hR, hk, th, hv, oe, z0, z1, q⟩ := h
  refine ⟨_, (pss_cons (ps_set (i := 4) sc_kept_fill.nd rfl (.inl rfl) (C8.pe_c c_kept_find hr (by omega) (by rfl) (pa_cons (pv 0) (pa_cons (pv 2) pa_nil))))
      (pss_cons (ps_mk (ps_if (pt_cmpR op_ge (pv 4) pe_int (nomark _))
      (pss_one (ps_expr (pe_bm PySem.F.plainAttrs_list PySem.F.slot_list_pop PySem.F.type_list_pop mt_popAt (pv 0) (pa_cons (pv 4) pa_nil))))
      pss_nil))
      (pss_cons (ps_mk (ps_if (pt_cmpR op_gt (pv 1) pe_int (nomark _))
      (pss_one (ps_expr (pe_bm PySem.F.plainAttrs_list PySem.F.slot_list_append PySem.F.type_list_append mt_append (pv 0) (pa_cons (pe_lst (pa_cons (pv 2) (pa_cons (pv 3) pa_nil))) pa_nil))))
      pss_nil))
      (pss_cons (ps_mk (ps_if (pt_cmpR op_gt (pe_callB (lenQ K rfl) (by rfl) T.len PySem.boot_len (pa_cons (pv 0) pa_nil)) (pv 1) (nomark _))
      (pss_one (ps_ret (pe_ix (ixL K rfl) (pe_bm PySem.F.plainAttrs_list PySem.F.slot_list_pop PySem.F.type_list_pop mt_popAt (pv 0) (pa_cons pe_int pa_nil)) pe_int (fun _ _ => rfl))))
      pss_nil))
      (pss_one (ps_ret pe_non)))))), ?_⟩
  walk_at "go"
  refine ⟨l, k, kd, .none, none, rfl, hR, hk, th, ?_⟩
  walk_at "go"
  refine un ?_
  walk_at "go"
  refine jn (M := fun σ H' => (∃ x', RowE H' l kd (if size = 0 then .none else e) x' ∧ (size = 0 → x' = none) ∧ (∀ en, x' = some en → H en = none)) ∧ But H H' l ∧ Tq H H' ∧ ∃ y, σ = [sR l, sI size, some k, some v, y]) ?_ (fun N kk => ?_)
  · rintro σ H' ⟨⟨x', hx, hz, hn⟩, b', t', y, rfl⟩
    walk_at "go"
    refine un ?_
    by_cases z : size = 0
    · rw [if_pos z] at hx
      cases x' with
      | none =>
        obtain ⟨g, _⟩ := id hx
        walk_at "go"
        refine ifF (by rw [z]; decide) ?_
        walk_at "go"
        exact q none _ (by rw [if_pos z]; exact hx) hz hn b' t'
      | some en => cases hz z
    · rw [if_neg z] at hx
      cases x' with
      | none =>
        obtain ⟨g, _⟩ := id hx
        walk_at "go"
        refine ifF (by show ¬ size < 0; omega) ?_
        walk_at "go"
        exact q none _ (by rw [if_neg z]; exact hx) hz hn b' t'
      | some en =>
        obtain ⟨g, k2, v2, _, _, h2⟩ := id hx
        walk_at "go"
        refine ifF (by show ¬ size < 1; omega) ?_
        walk_at "go"
        exact q (some en) _ (by rw [if_neg z]; exact hx) hz hn b' t'
  · walk_at "go"
    refine ifD (fun c => ?_) (fun c => ?_)
    · have z : size ≠ 0 := by
        have c' : 0 < size := c
        omega
      have gR := hR.1
      walk_at "go"
      refine ⟨sz, fun en ne => ?_⟩
      have s1 := same_upd (o := HO.lst [k, v]) ne
      have g1 := s1 _ _ hR.1
      walk_at "go"
      refine ⟨_, _, _, rfl, rfl, g1, small1000 (by decide), ?_⟩
      walk_at "go"
      have nl : en ≠ l := (ne_of_none hR.1 ne).symm
      have tq2 := tq_lst (o := HO.lst ([] ++ [V.ref en])) g1
      have tq : Tq H (upd (upd H en (HO.lst [k, v])) l (HO.lst ([] ++ [V.ref en]))) := fun a xs h => tq2 _ _ (s1 _ _ h)
      refine kk _ _ ⟨⟨some en, ?_, fun h => absurd h z, fun en' h => by cases h; exact ne⟩, fun a o n h => ?_, tq, _, rfl⟩
      · rw [if_neg z]
        exact ⟨upd_same, k, v, by rw [upd_ne nl]; exact upd_same, Dh.tq (.inr th) tq hk, Dh.tq oe tq hv⟩
      · rw [upd_ne n]
        exact s1 _ _ h
    · have z : size = 0 := by
        have c' : ¬ 0 < size := c
        omega
      walk_at "go"
      refine kk _ _ ⟨⟨none, ?_, fun _ => rfl, fun en' h => by cases h⟩, fun a o n h => h, fun _ _ h => h, _, rfl⟩
      rw [if_pos z]
      exact hR
theorem ok_tset {f : Addr} {fd : FuncData} (D : Def K mg "_law_table_set" s_table_set f fd) (b : Binds K fd ["_law_table", "_law_key", "_law_value"] []) (T : Txt mg) (c_kept_find : Cal P w K mg base 1 "_law_kept_find" spFind []) : Cal P w K mg base 2 "_law_table_set" spTSet [] := by
  refine cal0 D b .nil sc_table_set (fun vs H Q E h => ?_) (fun cdv A outer s H vs Q E hr h => ?_)
  · obtain ⟨l, k, v, kd, e, e', x, rfl, _⟩ := h
    rfl
  obtain ⟨l, k, v, kd, e, e', x, rfl, hR, hk, th, hv, oe, nx, q⟩ := h
  refine ⟨_, (pss_cons (ps_set (i := 3) sc_table_set.nd rfl (.inl rfl) (C8.pe_c c_kept_find hr (by omega) (by rfl) (pa_cons (pv 0) (pa_cons (pv 1) pa_nil))))
      (pss_one (ps_mk (ps_if (pt_cmpR op_lt (pv 3) pe_int (nomark _))
      (pss_one (ps_expr (pe_bm PySem.F.plainAttrs_list PySem.F.slot_list_append PySem.F.type_list_append mt_append (pv 0) (pa_cons (pe_lst (pa_cons (pv 1) (pa_cons (pv 2) pa_nil))) pa_nil))))
      (pss_one (ps_asg (pv 2) (pg_sub (pe_ix (ixL K rfl) (pv 0) (pv 3) (fun _ _ => rfl)) pe_int set_list))))))), ?_⟩
  walk_at "go"
  refine ⟨l, k, kd, e, x, rfl, hR, hk, th, ?_⟩
  walk_at "go"
  refine un ?_
  cases x with
  | none =>
    obtain ⟨g, rfl⟩ := hR
    walk_at "go"
    refine ⟨sz, fun en ne => ?_⟩
    have s1 := same_upd (o := HO.lst [k, v]) ne
    have g1 := s1 _ _ g
    walk_at "go"
    refine ⟨_, _, _, rfl, rfl, g1, small1000 (by decide), ?_⟩
    walk_at "go"
    have nl : en ≠ l := (ne_of_none g ne).symm
    have tq2 := tq_lst (o := HO.lst ([] ++ [V.ref en])) g1
    have tq : Tq H (upd (upd H en (HO.lst [k, v])) l (HO.lst ([] ++ [V.ref en]))) := fun a xs h => tq2 _ _ (s1 _ _ h)
    refine q (some en) _ ⟨upd_same, k, v, by rw [upd_ne nl]; exact upd_same, Dh.tq (.inr th) tq hk, Dh.tq oe tq hv⟩ (.inr ⟨en, rfl, ne⟩) (fun a o n _ h => ?_) tq
    rw [upd_ne n]
    exact s1 _ _ h
  | some en =>
    obtain ⟨g, k1, v1, g2, h1, h2⟩ := hR
    have ne := nx en rfl
    walk_at "go"
    refine ⟨_, _, _, _, rfl, rfl, SqL.of g, rfl, ?_⟩
    walk_at "go"
    refine ⟨en, [k1, v1], 1, 1, rfl, rfl, g2, rfl, ?_⟩
    walk_at "go"
    have tq := tq_lst (o := HO.lst ([k1, v1].set 1 v)) g2
    refine q (some en) _ ⟨by rw [upd_ne ne.symm]; exact g, k1, v, upd_same, Dh.tq (.inr th) tq h1, Dh.tq oe tq hv⟩ (.inl rfl) (fun a o _ n h => ?_) tq
    rw [upd_ne (fun z => n (by rw [z]))]
    exact h
end

end

section

-- a condition of an operator
local macro_rules | `(tactic| walk_at "cond") => `(tactic| first
  | (show (0 : Int) < _; omega)
  | (show CDiv _ _; constructor <;> (first | decide | omega))
  | (show CMul _ _; first | (refine cmul_l ?_; constructor <;> (first | decide | omega)) | (refine cmul_r ?_; constructor <;> (first | decide | omega)))
  | (show CPow _ _; exact (by refine ⟨by decide, by decide, by decide⟩))
  | (show CDivW _ _; exact ⟨by decide, by decide +kernel⟩))
local macro_rules | `(tactic| walk_at "sq") => `(tactic| first | assumption | exact Dh.mono (same_upd (by assumption)) _ _ (by assumption) | exact .inl (.inl (.inl (by assumption))) | exact .inr (.inl (.inl (by assumption))) | exact SqL.of (by assumption) | exact .inl (by assumption) | exact .inl (SqL.of (by assumption)) | exact SqT.of (by assumption) | exact .inr (SqT.of (by assumption)))
local macro_rules | `(tactic| walk_at "st") => `(tactic| first
  | refine ⟨_, rfl, ?_⟩
  | refine ⟨_, _, rfl, rfl, ?_⟩
  | refine .inl ⟨_, rfl, ?_⟩
  | refine ⟨rfl, ?_⟩
  | refine ⟨_, _, rfl, by walk_at "sq", ?_⟩
  | refine ⟨.inl ⟨rfl, _, SqL.of (by assumption)⟩, ?_⟩
  | refine ⟨by walk_at "cond", ?_⟩
  | (refine' ifBT ?hh ?_; (case hh => first | rfl | assumption))
  | (refine' ifBF ?hh ?_; (case hh => first | rfl | assumption)))
local macro_rules | `(tactic| walk_at "go") => `(tactic| repeat walk_at "st")
local macro_rules | `(tactic| walk_at "yes") => `(tactic| (refine' ifT ?hh ?_; (case hh => first | rfl | decide +kernel)))
local macro_rules | `(tactic| walk_at "no") => `(tactic| (refine' ifF ?hh ?_; (case hh => first | decide +kernel | (intro z; cases z; done))))

/-! ### _law_trace_play -/
abbrev s_trace_play : Stmt := topS 22
theorem sc_trace_play : FnScope ["_law_trace", "_law_size", "_law_kinds_here", "_law_moments", "_law_table", "_law_kept", "_law_told", "_law_at", "_law_event", "_law_actual", "_law_seen"] ["_law_trace", "_law_size", "_law_kinds_here", "_law_moments"] (C8.fnScope s_trace_play) := C8.fnScope_by (by decide +kernel)
structure TP (H H' : Hp) (kd tab kept : PyData) (ps : List (PyData × PyData)) (tl kp L : Addr) (xt xk : Option Addr) (vs : List V) : Prop where
  s : Same H H'
  t : RowE H' tl kd tab xt
  k : RowE H' kp kd kept xk
  g : H' L = some (.lst vs)
  p : PairsAt H' ps vs
  nt : H tl = none
  nk : H kp = none
  nL : H L = none
  et : ∀ en, xt = some en → H en = none ∧ en ≠ tl ∧ en ≠ kp ∧ en ≠ L
  ek : ∀ en, xk = some en → H en = none ∧ en ≠ tl ∧ en ≠ kp ∧ en ≠ L ∧ xt ≠ some en ∧ isN kept = false
  d1 : tl ≠ kp
  d2 : tl ≠ L
  d3 : kp ≠ L
theorem RowE.here {H : Hp} {l : Addr} {kd e : PyData} : ∀ {x : Option Addr}, RowE H l kd e x → ∃ xs, H l = some (.lst xs)
  | none, h => ⟨_, h.1⟩
  | some _, h => ⟨_, h.1⟩
theorem RowE.en {H : Hp} {l : Addr} {kd e : PyData} {en : Addr} (h : RowE H l kd e (some en)) : ∃ xs, H en = some (.lst xs) := by
  obtain ⟨_, k, v, g, _⟩ := h
  exact ⟨_, g⟩
theorem TP.same {H H' H'' : Hp} {kd tab kept : PyData} {ps : List (PyData × PyData)} {tl kp L : Addr} {xt xk : Option Addr} {vs : List V} (h : TP H H' kd tab kept ps tl kp L xt xk vs) (s : Same H' H'') (o : ∀ q ∈ ps, OptP q) : TP H H'' kd tab kept ps tl kp L xt xk vs :=
  ⟨h.s.trans s, h.t.same s, h.k.same s, s _ _ h.g, PairsAt.tq (fun b xs g => s _ _ g) o h.p, h.nt, h.nk, h.nL, h.et, h.ek, h.d1, h.d2, h.d3⟩
theorem TP.kept {H H1 H2 : Hp} {kd tab kept kept' : PyData} {ps : List (PyData × PyData)} {tl kp L : Addr} {xt xk xk' : Option Addr} {vs : List V} (h : TP H H1 kd tab kept ps tl kp L xt xk vs) (th : Opt kd) (ot : Opt tab) (op : ∀ q ∈ ps, OptP q)
    (b : But H1 H2 kp) (tq : Tq H1 H2) (r : RowE H2 kp kd kept' xk') (hx : ∀ en, xk' = some en → isN kept' = false ∧ (xk = some en ∨ H1 en = none)) : TP H H2 kd tab kept' ps tl kp L xt xk' vs := by
  refine ⟨fun a o e => b _ _ (ne_of_none e h.nk) (h.s _ _ e), h.t.tq th ot tq (fun o e => b _ _ h.d1 e) (fun en o e g => b _ _ (h.et en e).2.2.1 g), r, b _ _ h.d3.symm h.g, PairsAt.tq tq op h.p, h.nt, h.nk, h.nL, h.et, fun en e => ?_, h.d1, h.d2, h.d3⟩
  obtain ⟨n, z⟩ := hx en e
  rcases z with z | z
  · have q := h.ek en z
    exact ⟨q.1, q.2.1, q.2.2.1, q.2.2.2.1, q.2.2.2.2.1, n⟩
  · obtain ⟨xs1, g1⟩ := h.t.here
    obtain ⟨xs2, g2⟩ := h.k.here
    refine ⟨h.s.free z, (ne_of_none g1 z).symm, (ne_of_none g2 z).symm, (ne_of_none h.g z).symm, fun w => ?_, n⟩
    have ht := h.t
    rw [w] at ht
    obtain ⟨xs3, g3⟩ := ht.en
    rw [z] at g3
    cases g3
theorem TP.fresh {H H1 : Hp} {kd tab kept : PyData} {ps : List (PyData × PyData)} {tl kp kp' L : Addr} {xt xk : Option Addr} {vs : List V} (h : TP H H1 kd tab kept ps tl kp L xt xk vs) (op : ∀ q ∈ ps, OptP q) (n : H1 kp' = none) : TP H (upd H1 kp' (.lst [])) kd tab .none ps tl kp' L xt none vs := by
  have s := same_upd (o := HO.lst []) n
  obtain ⟨xs1, g1⟩ := h.t.here
  refine ⟨h.s.trans s, h.t.same s, ⟨upd_same, rfl⟩, s _ _ h.g, PairsAt.tq (fun b xs g => s _ _ g) op h.p, h.nt, h.s.free n, h.nL, fun en e => ?_, fun en e => (by cases e), ne_of_none g1 n, h.d2, (ne_of_none h.g n).symm⟩
  have q := h.et en e
  have ht := h.t
  rw [e] at ht
  obtain ⟨xs3, g3⟩ := ht.en
  exact ⟨q.1, q.2.1, ne_of_none g3 n, q.2.2.2⟩
theorem TP.table {H H1 H2 : Hp} {kd tab tab' kept : PyData} {ps : List (PyData × PyData)} {tl kp L : Addr} {xt xt' xk : Option Addr} {vs : List V} (h : TP H H1 kd tab kept ps tl kp L xt xk vs) (th : Opt kd) (ok : Opt kept) (op : ∀ q ∈ ps, OptP q)
    (b : ∀ a o, a ≠ tl → xt ≠ some a → H1 a = some o → H2 a = some o) (tq : Tq H1 H2) (r : RowE H2 tl kd tab' xt') (hx : xt' = xt ∨ ∃ en, xt' = some en ∧ H1 en = none) : TP H H2 kd tab' kept ps tl kp L xt' xk vs := by
  have nxt : ∀ a, H a = none ∨ True → (∀ en, xt = some en → en ≠ a) → xt ≠ some a := fun a _ z w => z a w rfl
  have old : ∀ a o, H a = some o → xt ≠ some a := fun a o e w => by
    rw [(h.et a w).1] at e
    cases e
  have fr : ∀ en, xt' = some en → H en = none ∧ en ≠ tl ∧ en ≠ kp ∧ en ≠ L := fun en e => by
    rcases hx with z | ⟨en', z, n⟩
    · exact h.et en (z.symm.trans e)
    · obtain rfl : en' = en := Option.some.inj (z.symm.trans e)
      obtain ⟨xs1, g1⟩ := h.t.here
      obtain ⟨xs2, g2⟩ := h.k.here
      exact ⟨h.s.free n, (ne_of_none g1 n).symm, (ne_of_none g2 n).symm, (ne_of_none h.g n).symm⟩
  refine ⟨fun a o e => b _ _ (ne_of_none e h.nt) (old a o e) (h.s _ _ e), r, h.k.tq th ok tq (fun o e => b _ _ h.d1.symm (fun w => (h.et _ w).2.2.1 rfl) e) (fun en o e g => b _ _ (h.ek en e).2.1 (h.ek en e).2.2.2.2.1 g), b _ _ h.d2.symm (fun w => (h.et _ w).2.2.2 rfl) h.g, PairsAt.tq tq op h.p, h.nt, h.nk, h.nL, fr, fun en e => ?_, h.d1, h.d2, h.d3⟩
  have q := h.ek en e
  refine ⟨q.1, q.2.1, q.2.2.1, q.2.2.2.1, fun w => ?_, q.2.2.2.2.2⟩
  rcases hx with z | ⟨en', z, n⟩
  · exact q.2.2.2.2.1 (z.symm.trans w)
  · obtain rfl : en' = en := Option.some.inj (z.symm.trans w)
    have hk := h.k
    rw [e] at hk
    obtain ⟨xs3, g3⟩ := hk.en
    rw [n] at g3
    cases g3
theorem TP.tell {H H1 : Hp} {kd tab kept : PyData} {ps : List (PyData × PyData)} {tl kp L r : Addr} {xt xk : Option Addr} {vs : List V} {q : PyData × PyData} {x y : V} (h : TP H H1 kd tab kept ps tl kp L xt xk vs) (th : Opt kd) (ot : Opt tab) (ok : Opt kept) (op : ∀ q ∈ ps, OptP q) (oq : OptP q)
    (gr : H1 r = some (.tup [x, y])) (h1 : Dh H1 q.1 x) (h2 : Dh H1 q.2 y) : TP H (upd H1 L (.lst (vs ++ [.ref r]))) kd tab kept (ps ++ [q]) tl kp L xt xk (vs ++ [.ref r]) := by
  have tq := tq_lst (o := HO.lst (vs ++ [.ref r])) h.g
  have b : But H1 (upd H1 L (.lst (vs ++ [.ref r]))) L := but_upd
  refine ⟨fun a o e => b _ _ (ne_of_none e h.nL) (h.s _ _ e), h.t.tq th ot tq (fun o e => b _ _ h.d2 e) (fun en o e g => b _ _ (h.et en e).2.2.2 g), h.k.tq th ok tq (fun o e => b _ _ h.d3 e) (fun en o e g => b _ _ (h.ek en e).2.2.2.1 g), upd_same, ?_, h.nt, h.nk, h.nL, h.et, h.ek, h.d1, h.d2, h.d3⟩
  exact PairsAt.more (tq _ _ gr) (Dh.tq oq.1 tq h1) (Dh.tq oq.2 tq h2) (PairsAt.tq tq op h.p)
def spTPlay (K : PySem.W.Frag) : Sp := fun vs H Q _ => ∃ (tr kl mo : Addr) (as : List Addr) (ks : List Str) (size : Int) (kd : PyData) (evs : List Ev), vs = [.ref tr, .int size, .ref kl, .ref mo] ∧ Thing kd ∧ TraceAt H kd tr evs as ∧ H kl = some (.lst (ks.map V.str)) ∧ H mo = some (.lst []) ∧ 0 ≤ size ∧ size ≤ 1000 ∧
  ∀ r H', Same H H' → H r = none → Dh H' (.list ((run ks size evs).2.2.map pairD)) (.ref r) → Q (.ref r) H'
section
variable {P : Program} {w : World} {K : PySem.W.Frag} {mg : Str → Option Value} {base : Heap}
theorem ok_tplay {f : Addr} {fd : FuncData} (D : Def K mg "_law_trace_play" s_trace_play f fd) (b : Binds K fd ["_law_trace", "_law_size", "_law_kinds_here", "_law_moments"] []) (T : Txt mg) (c_change_of : Cal P w K mg base 4 "_law_change_of" spChange []) (c_table_get : Cal P w K mg base 2 "_law_table_get" spTGet [])
    (c_table_set : Cal P w K mg base 2 "_law_table_set" spTSet []) (c_kept_drop : Cal P w K mg base 2 "_law_kept_drop" spKDrop []) (c_kept_look : Cal P w K mg base 2 "_law_kept_look" spKLook []) (c_kept_fill : Cal P w K mg base 2 "_law_kept_fill" spKFill []) : Cal P w K mg base 5 "_law_trace_play" (spTPlay K) [] := by
  refine cal0 D b .nil sc_trace_play (fun vs H Q E h => ?_) (fun cdv A outer s H vs Q E hr h => ?_)
  · obtain ⟨tr, kl, mo, as, ks, size, kd, evs, rfl, _⟩ := h
    rfl
  obtain ⟨tr, kl, mo, as, ks, size, kd, evs, rfl, th, hT, hkl, hmo, z0, z1, q⟩ := h
  refine ⟨_, (pss_cons (ps_set (i := 4) sc_trace_play.nd rfl (.inl rfl) (pe_lst pa_nil))
      (pss_cons (ps_set (i := 5) sc_trace_play.nd rfl (.inl rfl) (pe_lst pa_nil))
      (pss_cons (ps_set (i := 6) sc_trace_play.nd rfl (.inl rfl) (pe_lst pa_nil))
      (pss_cons (ps_mk (ps_for PassesOwn.never rfl (pi_range1 (by rfl) T.range (pa_cons (pe_callB (lenQ K rfl) (by rfl) T.len PySem.boot_len (pa_cons (pv 0) pa_nil)) pa_nil)) (pg_name (i := 7) sc_trace_play.nd rfl (.inl rfl))
      (pss_cons (ps_set (i := 8) sc_trace_play.nd rfl (.inl rfl) (pe_ix (ixL K rfl) (pv 0) (pv 7) (fun _ _ => rfl)))
      (pss_cons (ps_mk (ps_if (PW.pt (pw_or (pt_cmpR (inQ K rfl) (pv 7) (pv 3) (by rfl)) (pw_or1 (pt_cmpR op_eq (pe_ix (ixT K rfl) (pv 8) pe_int (fun _ _ => rfl)) pe_str (nomark _)))))
      (pss_one (ps_set (i := 5) sc_trace_play.nd rfl (.inl rfl) (pe_lst pa_nil)))
      pss_nil))
      (pss_cons (ps_mk (ps_if (pt_cmpR op_eq (pe_ix (ixT K rfl) (pv 8) pe_int (fun _ _ => rfl)) pe_str (nomark _))
      (pss_cons (ps_mk (ps_if (pt_cmpR (inQ K rfl) (C8.pe_c c_change_of hr (by omega) (by rfl) (pa_cons (C8.pe_c c_table_get hr (by omega) (by rfl) (pa_cons (pv 4) (pa_cons (pe_ix (ixT K rfl) (pv 8) pe_int (fun _ _ => rfl)) pa_nil))) (pa_cons (pe_ix (ixT K rfl) (pv 8) pe_int (fun _ _ => rfl)) pa_nil))) (pv 2) (by rfl))
      (pss_one (ps_expr (C8.pe_c c_kept_drop hr (by omega) (by rfl) (pa_cons (pv 5) (pa_cons (pe_ix (ixT K rfl) (pv 8) pe_int (fun _ _ => rfl)) pa_nil)))))
      pss_nil))
      (pss_one (ps_expr (C8.pe_c c_table_set hr (by omega) (by rfl) (pa_cons (pv 4) (pa_cons (pe_ix (ixT K rfl) (pv 8) pe_int (fun _ _ => rfl)) (pa_cons (pe_ix (ixT K rfl) (pv 8) pe_int (fun _ _ => rfl)) pa_nil)))))))
      pss_nil))
      (pss_one (ps_mk (ps_if (pt_cmpR op_eq (pe_ix (ixT K rfl) (pv 8) pe_int (fun _ _ => rfl)) pe_str (nomark _))
      (pss_cons (ps_set (i := 9) sc_trace_play.nd rfl (.inl rfl) (C8.pe_c c_table_get hr (by omega) (by rfl) (pa_cons (pv 4) (pa_cons (pe_ix (ixT K rfl) (pv 8) pe_int (fun _ _ => rfl)) pa_nil))))
      (pss_cons (ps_set (i := 10) sc_trace_play.nd rfl (.inl rfl) (C8.pe_c c_kept_look hr (by omega) (by rfl) (pa_cons (pv 5) (pa_cons (pe_ix (ixT K rfl) (pv 8) pe_int (fun _ _ => rfl)) pa_nil))))
      (pss_cons (ps_mk (ps_if (PW.pt (pw_and (pt_cmpR op_isN (pv 10) pe_non (nomark _)) (pw_and1 (pt_cmpR op_notN (pv 9) pe_non (nomark _)))))
      (pss_cons (ps_expr (C8.pe_c c_kept_fill hr (by omega) (by rfl) (pa_cons (pv 5) (pa_cons (pv 1) (pa_cons (pe_ix (ixT K rfl) (pv 8) pe_int (fun _ _ => rfl)) (pa_cons (pv 9) pa_nil))))))
      (pss_one (ps_set (i := 10) sc_trace_play.nd rfl (.inl rfl) (pv 9))))
      pss_nil))
      (pss_one (ps_expr (pe_bm PySem.F.plainAttrs_list PySem.F.slot_list_append PySem.F.type_list_append mt_append (pv 6) (pa_cons (pe_tup (pa_cons (pv 10) (pa_cons (pv 9) pa_nil))) pa_nil)))))))
      pss_nil))))))))
      (pss_one (ps_ret (pv 6))))))), ?_⟩
  walk_at "go"
  refine ⟨sz, fun tl n1 => ?_⟩
  walk_at "go"
  refine ⟨sz, fun kp n2 => ?_⟩
  walk_at "go"
  refine ⟨sz, fun L n3 => ?_⟩
  have s1 := same_upd (o := HO.lst []) n1
  have s2 := same_upd (o := HO.lst []) n2
  have s3 := same_upd (o := HO.lst []) n3
  have tp : TP H (upd (upd (upd H tl (.lst [])) kp (.lst [])) L (.lst [])) kd .none .none [] tl kp L none none [] :=
    ⟨s1.trans (s2.trans s3), ⟨s3 _ _ (s2 _ _ upd_same), rfl⟩, ⟨s3 _ _ upd_same, rfl⟩, upd_same, rfl, n1, s1.free n2, s1.free (s2.free n3), fun en e => (by cases e), fun en e => (by cases e),
      ne_of_none (upd_same (H := H) (a := tl) (o := HO.lst [])) n2, ne_of_none (s2 _ _ (upd_same (H := H) (a := tl) (o := HO.lst []))) n3, ne_of_none (upd_same (H := upd H tl (HO.lst [])) (a := kp) (o := HO.lst [])) n3⟩
  generalize upd (upd (upd H tl (HO.lst [])) kp (HO.lst [])) L (HO.lst []) = H1 at *
  clear s1 s2 s3 n1 n2 n3
  have gtr := tp.s _ _ hT.l
  walk_at "go"
  refine jn (M := fun σ H' => ∃ tab kept kp xt xk vs y1 y2 y3 y4, TP H H' kd tab kept (run ks size evs).2.2 tl kp L xt xk vs ∧ σ = [sR tr, sI size, sR kl, sR mo, sR tl, sR kp, sR L, y1, y2, y3, y4]) ?_ (fun N kk => ?_)
  · rintro σ H' ⟨tab, kept, kp, xt, xk, vs, y1, y2, y3, y4, tp, rfl⟩
    walk_at "go"
    exact q L _ tp.s tp.nL ⟨L, vs, rfl, tp.g, tp.p.dh⟩
  walk_at "go"
  have few := hT.few
  have la : (as.map V.ref).length = evs.length := by rw [List.length_map, hT.n]
  rw [la]
  refine ⟨by omega, by omega, for_range (lo := 0) (n := evs.length) (fun i σ H' => Ob (∃ kp xt xk vs y1 y2 y3 y4, TP H H' kd (run ks size (evs.take i)).1 (run ks size (evs.take i)).2.1 (run ks size (evs.take i)).2.2 tl kp L xt xk vs ∧ σ = [sR tr, sI size, sR kl, sR mo, sR tl, sR kp, sR L, y1, y2, y3, y4])) (ob ⟨kp, none, none, [], none, none, none, none, tp, rfl⟩) ?_ ?_⟩
  · clear tp
    intro i σ H' hil h
    obtain ⟨kp, xt, xk, vs, y1, y2, y3, y4, tp, rfl⟩ := unob h
    clear h
    obtain ⟨ev, hev⟩ : ∃ ev, evs[i]? = some ev := ⟨_, List.getElem?_eq_getElem hil⟩
    obtain ⟨a, ha⟩ : ∃ a, as[i]? = some a := ⟨_, List.getElem?_eq_getElem (by rw [hT.n]; exact hil)⟩
    have hE := EvAt.same tp.s (hT.at_ i a ev ha hev)
    have oo := run_opt (ks := ks) (cap := size) hT.ok i
    have rm := run_more (ks := ks) (cap := size) hev
    have tle := told_len (ks := ks) (cap := size) (evs := evs) i
    have gtr' := tp.s _ _ hT.l
    have gmo := tp.s _ _ hmo
    have gkl := tp.s _ _ hkl
    have at0 : atI (as.map V.ref) (0 + i) = some (.ref a) := by
      rw [Int.zero_add]
      exact atI_nat (by rw [List.getElem?_map, ha]; rfl)
    generalize run ks size (evs.take i) = st at *
    obtain ⟨tab, kept, ps⟩ := st
    obtain ⟨o1, o2, o3⟩ := oo
    dsimp only at tp o1 o2 o3 tle
    rw [rm]
    clear rm
    walk_at "go"
    refine ⟨_, _, _, _, rfl, rfl, SqL.of gtr', at0, ?_⟩
    walk_at "go"
    cases ev with
    | set e =>
      obtain ⟨k, v, gE, hk, hv⟩ := hE
      have oe : Opt e := hT.ok _ (List.mem_of_getElem? hev)
      refine un ?_
      walk_at "go"
      refine ⟨_, _, _, _, rfl, rfl, SqT.of gE, rfl, ?_⟩
      walk_at "go"
      refine un ?_
      walk_at "go"
      refine ⟨_, _, _, _, rfl, rfl, SqT.of gE, rfl, ?_⟩
      walk_at "go"
      refine jn (M := fun σ H2 => (∃ xk', TP H H2 kd tab (keptN ks size tab kept (.set e)) ps tl kp L xt xk' vs) ∧ Tq H' H2 ∧ σ = [sR tr, sI size, sR kl, sR mo, sR tl, sR kp, sR L, sI (0 + i), sR a, y3, y4]) ?_ (fun N2 k2 => ?_)
      · rintro σ H2 ⟨⟨xk', tp2⟩, t2, rfl⟩
        have gE2 := t2 _ _ gE
        have hk2 := Dh.tq (.inr th) t2 hk
        have hv2 := Dh.tq oe t2 hv
        walk_at "go"
        refine ⟨_, _, _, _, rfl, rfl, SqT.of gE2, rfl, ?_⟩
        walk_at "go"
        refine ⟨_, _, _, _, rfl, rfl, SqT.of gE2, rfl, ?_⟩
        walk_at "go"
        refine ⟨tl, k, v, kd, tab, e, xt, rfl, tp2.t, hk2, th, hv2, oe, fun en z => (tp2.et en z).2.1, fun x' H3 hR hx b3 t3 => ?_⟩
        have gE3 := t3 _ _ gE2
        have tp3 := tp2.table (.inr th) (keptN_opt (ks := ks) (cap := size) o1 o2 (.set e)) o3 b3 t3 hR hx
        walk_at "go"
        refine un ?_
        walk_at "go"
        refine ⟨_, _, _, _, rfl, rfl, SqT.of gE3, rfl, ?_⟩
        walk_at "go"
        refine ob ⟨kp, x', xk', vs, _, _, _, _, ?_, rfl⟩
        show TP H H3 kd e _ (ps ++ []) tl kp L x' xk' vs
        rw [List.append_nil]
        exact tp3
      · walk_at "go"
        refine ⟨_, _, _, _, rfl, rfl, SqT.of gE, rfl, ?_⟩
        walk_at "go"
        refine ⟨tl, k, kd, tab, xt, rfl, tp.t, hk, th, fun v0 hv0 => ?_⟩
        walk_at "go"
        refine ⟨_, _, _, _, rfl, rfl, SqT.of gE, rfl, ?_⟩
        walk_at "go"
        refine ⟨v0, v, tab, e, rfl, hv0, hv, o1, oe, fun w1 H2 k1 s1 => ?_⟩
        obtain rfl : w1 = kindW tab e := k1.one (kindW_is tab e)
        have tp1 := tp.same s1 o3
        have gkl1 := s1 _ _ gkl
        have gE1 := s1 _ _ gE
        have hk1 := Dh.mono s1 _ _ hk
        walk_at "go"
        refine ⟨flat_strs ks, ?_⟩
        walk_at "go"
        cases hm : memK (kindW tab e) ks with
        | false =>
          have ek : keptN ks size tab kept (.set e) = kept := by
            show (if _ then _ else _) = _
            rw [if_neg (by rw [hm]; decide)]
          rw [ek] at k2
          refine ifBF hm ?_
          walk_at "go"
          exact k2 _ _ ⟨⟨xk, tp1⟩, fun a xs g => s1 _ _ g, rfl⟩
        | true =>
          have ek : keptN ks size tab kept (.set e) = .none := by
            show (if _ then _ else _) = _
            rw [if_pos hm]
          rw [ek] at k2
          refine ifBT hm ?_
          walk_at "go"
          refine ⟨_, _, _, _, rfl, rfl, SqT.of gE1, rfl, ?_⟩
          walk_at "go"
          refine ⟨kp, k, kd, kept, xk, rfl, tp1.k, hk1, th, fun bo H3 hR b3 t3 => ?_⟩
          walk_at "go"
          exact k2 _ _ ⟨⟨none, tp1.kept (.inr th) o1 o3 b3 t3 hR fun en z => (by cases z)⟩, fun a xs g => t3 _ _ (s1 _ _ g), rfl⟩
    | touch =>
      obtain ⟨k, gE, hk⟩ := hE
      refine un ?_
      walk_at "go"
      refine ⟨_, _, _, _, rfl, rfl, SqT.of gE, rfl, ?_⟩
      walk_at "go"
      refine un ?_
      walk_at "go"
      refine ⟨_, _, _, _, rfl, rfl, SqT.of gE, rfl, ?_⟩
      walk_at "go"
      refine un ?_
      walk_at "go"
      refine ⟨_, _, _, _, rfl, rfl, SqT.of gE, rfl, ?_⟩
      walk_at "go"
      refine ⟨_, _, _, _, rfl, rfl, SqT.of gE, rfl, ?_⟩
      walk_at "go"
      refine ⟨tl, k, kd, tab, xt, rfl, tp.t, hk, th, fun v0 hv0 => ?_⟩
      walk_at "go"
      refine ⟨_, _, _, _, rfl, rfl, SqT.of gE, rfl, ?_⟩
      walk_at "go"
      refine ⟨kp, k, kd, kept, xk, rfl, tp.k, hk, th, o2, fun en z => (tp.ek en z).2.2.1, fun v1 H2 hv1 hR b2 t2 => ?_⟩
      have tp2 := tp.kept (.inr th) o1 o3 b2 t2 hR (fun en z => ⟨(tp.ek en z).2.2.2.2.2, .inl z⟩)
      have gE2 := t2 _ _ gE
      have hk2 := Dh.tq (.inr th) t2 hk
      have hv02 := Dh.tq o1 t2 hv0
      walk_at "go"
      refine jn (M := fun σ H3 => ∃ xk' v2, TP H H3 kd tab (keptN ks size tab kept .touch) ps tl kp L xt xk' vs ∧ Dh H3 (seenN tab kept) v2 ∧ Dh H3 tab v0 ∧ σ = [sR tr, sI size, sR kl, sR mo, sR tl, sR kp, sR L, sI (0 + i), sR a, some v0, some v2]) ?_ (fun N2 k2 => ?_)
      · rintro σ H3 ⟨xk', v2, tp3, h2, h0, rfl⟩
        have g3 := tp3.g
        walk_at "go"
        refine ⟨sz, fun r nr => ?_⟩
        have s4 := same_upd (o := HO.tup [v2, v0]) nr
        have tp4 := tp3.same s4 o3
        have gr := upd_same (H := H3) (a := r) (o := HO.tup [v2, v0])
        have h24 := Dh.mono s4 _ _ h2
        have h04 := Dh.mono s4 _ _ h0
        generalize upd H3 r (HO.tup [v2, v0]) = H4 at *
        walk_at "go"
        refine ⟨L, vs, _, rfl, rfl, tp4.g, sz5 (by rw [tp4.p.len]; omega), ?_⟩
        walk_at "go"
        refine ob ⟨kp, xt, xk', vs ++ [V.ref r], _, _, _, _, ?_, rfl⟩
        exact TP.tell (q := (seenN tab kept, tab)) tp4 (.inr th) o1 (keptN_opt (ks := ks) (cap := size) o1 o2 .touch) o3 ⟨seenN_opt o1 o2, o1⟩ gr h24 h04
      · walk_at "go"
        refine ifD (fun z => ?_) (fun z => ?_)
        · have hk0 := hv1.non_iff.mp z
          have xk0 : xk = none := by
            cases xk with
            | none => rfl
            | some en =>
              have w := (tp.ek en rfl).2.2.2.2.2
              rw [hk0] at w
              cases w
          have es : seenN tab kept = tab := by
            unfold seenN
            rw [hk0]
            rfl
          rw [es] at k2
          walk_at "go"
          have nn : (v0 = .non) ↔ isN tab = true := by rw [hv0.non_iff, isN_iff]
          by_cases zz : v0 = .non
          · refine ifBF (by rw [decide_eq_true zz]; rfl) ?_
            walk_at "go"
            have e1 : keptN ks size tab kept .touch = kept := by
              show (if _ then _ else _) = _
              rw [if_neg (by rw [nn.mp zz]; simp)]
            rw [e1] at k2
            refine k2 _ _ ⟨xk, v1, tp2, ?_, hv02, rfl⟩
            rw [z, ← zz]
            exact hv02
          · have nt : isN tab = false := Bool.eq_false_iff.mpr fun y => zz (nn.mpr y)
            refine ifBT (by rw [decide_eq_false zz]; rfl) ?_
            walk_at "go"
            refine ⟨_, _, _, _, rfl, rfl, SqT.of gE2, rfl, ?_⟩
            walk_at "go"
            have hR0 : RowE H2 kp kd .none none := by
              rw [hk0, xk0] at hR
              exact hR
            refine ⟨kp, k, v0, size, kd, tab, rfl, hR0, hk2, th, hv02, o1, z0, z1, fun x' H3 hR3 hz hn b3 t3 => ?_⟩
            walk_at "go"
            have e1 : (if size = 0 then .none else tab) = keptN ks size tab kept .touch := by
              show _ = (if _ then _ else _)
              by_cases zc : size = 0
              · rw [if_pos zc, if_neg (fun y => y.2.2 zc), hk0]
              · rw [if_neg zc, if_pos ⟨by rw [hk0]; rfl, nt, zc⟩]
            rw [← e1] at k2
            have hv03 := Dh.tq o1 t3 hv02
            refine k2 _ _ ⟨x', v0, tp2.kept (.inr th) o1 o3 b3 t3 hR3 (fun en z => ⟨?_, .inr (hn en z)⟩), hv03, hv03, rfl⟩
            by_cases zc : size = 0
            · rw [hz zc] at z
              cases z
            · rw [if_neg zc]
              exact nt
        · have hk0 : isN kept = false := Bool.eq_false_iff.mpr fun y => z (hv1.non_iff.mpr (isN_iff.mp y))
          walk_at "go"
          have e1 : keptN ks size tab kept .touch = kept := by
            show (if _ then _ else _) = _
            rw [if_neg (by rw [hk0]; simp)]
          have es : seenN tab kept = kept := by
            unfold seenN
            rw [hk0]
            rfl
          rw [e1, es] at k2
          exact k2 _ _ ⟨xk, v1, tp2, hv1, hv02, rfl⟩
    | flush =>
      have gE : H' a = some (.tup [.str "flush"]) := hE
      refine un ?_
      walk_at "go"
      refine ⟨_, _, _, _, rfl, rfl, SqT.of gE, rfl, ?_⟩
      walk_at "go"
      refine ⟨sz, fun kp' nkp => ?_⟩
      have tp2 := TP.fresh tp o3 nkp
      have gE2 := same_upd (o := HO.lst []) nkp _ _ gE
      generalize upd H' kp' (HO.lst []) = H2 at *
      walk_at "go"
      refine un ?_
      walk_at "go"
      refine ⟨_, _, _, _, rfl, rfl, SqT.of gE2, rfl, ?_⟩
      walk_at "go"
      refine un ?_
      walk_at "go"
      refine ⟨_, _, _, _, rfl, rfl, SqT.of gE2, rfl, ?_⟩
      walk_at "go"
      refine ob ⟨kp', xt, none, vs, _, _, _, _, ?_, rfl⟩
      show TP H H2 kd tab .none (ps ++ []) tl kp' L xt none vs
      rw [List.append_nil]
      exact tp2
  · intro σ H' h
    obtain ⟨kp, xt, xk, vs, y1, y2, y3, y4, tp, rfl⟩ := unob h
    rw [List.take_length] at tp
    exact kk _ _ ⟨_, _, kp, xt, xk, vs, y1, y2, y3, y4, tp, rfl⟩
end

end

section

-- a condition of an operator
local macro_rules | `(tactic| walk_at "cond") => `(tactic| first
  | (show (0 : Int) < _; omega)
  | (show CDiv _ _; constructor <;> (first | decide | omega))
  | (show CMul _ _; first | (refine cmul_l ?_; constructor <;> (first | decide | omega)) | (refine cmul_r ?_; constructor <;> (first | decide | omega)))
  | (show CPow _ _; exact (by refine ⟨by decide, by decide, by decide⟩))
  | (show CDivW _ _; exact ⟨by decide, by decide +kernel⟩))
local macro_rules | `(tactic| walk_at "sq") => `(tactic| first | assumption | exact Dh.mono (same_upd (by assumption)) _ _ (by assumption) | exact .inl (.inl (.inl (by assumption))) | exact .inr (.inl (.inl (by assumption))) | exact SqL.of (by assumption) | exact .inl (by assumption) | exact .inl (SqL.of (by assumption)) | exact SqT.of (by assumption) | exact .inr (SqT.of (by assumption)))
local macro_rules | `(tactic| walk_at "st") => `(tactic| first
  | refine ⟨_, rfl, ?_⟩
  | refine ⟨_, _, rfl, rfl, ?_⟩
  | refine .inl ⟨_, rfl, ?_⟩
  | refine ⟨rfl, ?_⟩
  | refine ⟨_, _, rfl, by walk_at "sq", ?_⟩
  | refine ⟨.inl ⟨rfl, _, SqL.of (by assumption)⟩, ?_⟩
  | refine ⟨by walk_at "cond", ?_⟩
  | (refine' ifBT ?hh ?_; (case hh => first | rfl | assumption))
  | (refine' ifBF ?hh ?_; (case hh => first | rfl | assumption)))
local macro_rules | `(tactic| walk_at "go") => `(tactic| repeat walk_at "st")
local macro_rules | `(tactic| walk_at "yes") => `(tactic| (refine' ifT ?hh ?_; (case hh => first | rfl | decide +kernel)))
local macro_rules | `(tactic| walk_at "no") => `(tactic| (refine' ifF ?hh ?_; (case hh => first | decide +kernel | (intro z; cases z; done))))

/-! ### unsafe_trace and what the law asks of it -/
abbrev s_unsafe_trace : Stmt := topS 6
theorem sc_unsafe_trace : FnScope ["kinds", "capacity", "later"] ["kinds", "capacity"] (C8.fnScope s_unsafe_trace) := C8.fnScope_by (by decide +kernel)
abbrev s_is_thing : Stmt := topS 23
theorem sc_is_thing : FnScope ["_law_told", "_law_part"] ["_law_told"] (C8.fnScope s_is_thing) := C8.fnScope_by (by decide +kernel)
abbrev s_is_event : Stmt := topS 24
theorem sc_is_event : FnScope ["_law_told"] ["_law_told"] (C8.fnScope s_is_event) := C8.fnScope_by (by decide +kernel)
def EvsAt (H : Hp) (kd : PyData) : List Addr → List Ev → Prop
  | [], [] => True
  | a :: as, e :: es => EvAt H kd a e ∧ e.ok ∧ EvsAt H kd as es
  | _, _ => False
theorem EvsAt.len {H : Hp} {kd : PyData} : ∀ {as : List Addr} {es : List Ev}, EvsAt H kd as es → as.length = es.length
  | [], [], _ => rfl
  | a :: as, e :: es, h => by
    rw [List.length_cons, List.length_cons, EvsAt.len h.2.2]
  | [], _ :: _, h => h.elim
  | _ :: _, [], h => h.elim
theorem EvsAt.at_ {H : Hp} {kd : PyData} : ∀ {as : List Addr} {es : List Ev}, EvsAt H kd as es → ∀ (i : Nat) (a : Addr) (ev : Ev), as[i]? = some a → es[i]? = some ev → EvAt H kd a ev
  | [], [], _, i, a, ev, h1, _ => by simp at h1
  | a' :: as, e' :: es, h, 0, a, ev, h1, h2 => by
    simp at h1 h2
    rw [← h1, ← h2]
    exact h.1
  | a' :: as, e' :: es, h, i + 1, a, ev, h1, h2 => EvsAt.at_ h.2.2 i a ev (by simpa using h1) (by simpa using h2)
  | [], _ :: _, h, _, _, _, _, _ => h.elim
  | _ :: _, [], h, _, _, _, _, _ => h.elim
theorem EvsAt.oks {H : Hp} {kd : PyData} : ∀ {as : List Addr} {es : List Ev}, EvsAt H kd as es → ∀ ev ∈ es, ev.ok
  | [], [], _, ev, h => by cases h
  | a' :: as, e' :: es, h, ev, hm => by
    rcases List.mem_cons.mp hm with rfl | hm
    · exact h.2.1
    · exact EvsAt.oks h.2.2 ev hm
  | [], _ :: _, h, _, _ => h.elim
  | _ :: _, [], h, _, _ => h.elim
theorem EvsAt.tr {H : Hp} {kd : PyData} {tr : Addr} {as : List Addr} {es : List Ev} (h : EvsAt H kd as es) (l : H tr = some (.lst (as.map V.ref))) (f : es.length ≤ 100 := by decide) : TraceAt H kd tr es as :=
  ⟨l, h.len, h.at_, h.oks, f⟩
theorem TraceAt.same {H H' : Hp} {kd : PyData} {tr : Addr} {as : List Addr} {es : List Ev} (h : TraceAt H kd tr es as) (s : Same H H') : TraceAt H' kd tr es as :=
  ⟨s _ _ h.l, h.n, fun i a ev h1 h2 => EvAt.same s (h.at_ i a ev h1 h2), h.ok, h.few⟩
noncomputable def lateD (ks : List Str) : PyData := if memK "loss" ks then .int 2 else .none
noncomputable def unsafeEv (ks : List Str) : List Ev := [.set (.int 1), .touch, .set (lateD ks), .touch]
theorem lateD_opt (ks : List Str) : Opt (lateD ks) := by
  unfold lateD
  split
  · exact .inr trivial
  · exact .inl rfl
def spUnsafe : Sp := fun vs H Q _ => ∃ (kl : Addr) (ks : List Str) (cap : Int), vs = [.ref kl, .int cap] ∧ H kl = some (.lst (ks.map V.str)) ∧
  ∀ x H', Same H H' → ((safeOf ks cap = true ∧ x = .non) ∨ (safeOf ks cap = false ∧ ∃ r as, x = .ref r ∧ H r = none ∧ TraceAt H' (.int 1) r (unsafeEv ks) as)) → Q x H'
def spIsInt : Sp := fun vs H Q _ => ∃ i : Int, vs = [.int i] ∧ Q (.bl true) H
def Easy : Ev → Prop
  | .set (.int _) => True
  | .set .none => True
  | .touch => True
  | _ => False
def spIsEv : Sp := fun vs H Q _ => ∃ (a : Addr) (ev : Ev), vs = [.ref a] ∧ EvAt H (.int 1) a ev ∧ Easy ev ∧ Q (.bl true) H
section
variable {P : Program} {w : World} {K : PySem.W.Frag} {mg : Str → Option Value} {base : Heap}
theorem ok_unsafe {f : Addr} {fd : FuncData} (D : Def K mg "unsafe_trace" s_unsafe_trace f fd) (b : Binds K fd ["kinds", "capacity"] []) (T : Txt mg) (c_is_safe : Cal P w K mg base 1 "is_safe" (spSafe K) []) : Cal P w K mg base 2 "unsafe_trace" spUnsafe [] := by
  refine cal0 D b .nil sc_unsafe_trace (fun vs H Q E h => ?_) (fun cdv A outer s H vs Q E hr h => ?_)
  · obtain ⟨kl, ks, cap, rfl, _⟩ := h
    rfl
  obtain ⟨kl, ks, cap, rfl, hkl, q0⟩ := h
  have q1 : safeOf ks cap = true → Q .non H := fun z => q0 _ _ same_rfl (.inl ⟨z, rfl⟩)
  have q2 : safeOf ks cap = false → ∀ r as H', Same H H' → H r = none → TraceAt H' (.int 1) r (unsafeEv ks) as → Q (.ref r) H' := fun z r as H' s n t => q0 _ _ s (.inr ⟨z, r, as, rfl, n, t⟩)
  clear q0
  refine ⟨_, (pss_cons (ps_mk (ps_if (pt_val (C8.pe_c c_is_safe hr (by omega) (by rfl) (pa_cons (pv 0) (pa_cons (pv 1) pa_nil))))
      (pss_one (ps_ret pe_non))
      pss_nil))
      (pss_cons (ps_set (i := 2) sc_unsafe_trace.nd rfl (.inl rfl) (pe_ifExp (pt_cmpR (inQ K rfl) pe_str (pv 0) (by rfl)) pe_int pe_non))
      (pss_one (ps_ret (pe_lst (pa_cons (pe_tup (pa_cons pe_str (pa_cons pe_int (pa_cons pe_int pa_nil)))) (pa_cons (pe_tup (pa_cons pe_str (pa_cons pe_int pa_nil))) (pa_cons (pe_tup (pa_cons pe_str (pa_cons pe_int (pa_cons (pv 2) pa_nil)))) (pa_cons (pe_tup (pa_cons pe_str (pa_cons pe_int pa_nil))) pa_nil))))))))), ?_⟩
  refine un ?_
  walk_at "go"
  refine ⟨kl, ks, cap, rfl, hkl, ?_⟩
  cases hs : safeOf ks cap with
  | true =>
    walk_at "go"
    exact q1 hs
  | false =>
    walk_at "go"
    refine ⟨flat_strs ks, ?_⟩
    walk_at "go"
    cases hm : inV (V.str (Str.ofString "loss")) (List.map V.str ks) with
    | true =>
      walk_at "go"
      refine ⟨sz, fun p1 n1 => ?_⟩
      have e1 := same_upd (o := HO.tup [V.str "set", V.int 1, V.int 1]) n1
      walk_at "go"
      refine ⟨sz, fun p2 n2 => ?_⟩
      have e2 := same_upd (o := HO.tup [V.str "touch", V.int 1]) n2
      walk_at "go"
      refine ⟨sz, fun p3 n3 => ?_⟩
      have e3 := same_upd (o := HO.tup [V.str "set", V.int 1, (V.int 2)]) n3
      walk_at "go"
      refine ⟨sz, fun p4 n4 => ?_⟩
      have e4 := same_upd (o := HO.tup [V.str "touch", V.int 1]) n4
      walk_at "go"
      refine ⟨sz, fun r nr => ?_⟩
      have e5 := same_upd (o := HO.lst [V.ref p1, V.ref p2, V.ref p3, V.ref p4]) nr
      have eL : Dh H (lateD ks) (V.int 2) := by
        unfold lateD memK
        rw [hm]
        rfl
      have s3 := e1.trans (e2.trans e3)
      have e35 := e4.trans e5
      refine q2 hs r [p1, p2, p3, p4] _ (s3.trans e35) ((e1.trans (e2.trans (e3.trans e4))).free nr) (EvsAt.tr ⟨?_, .inr trivial, ?_, trivial, ?_, lateD_opt ks, ?_, trivial, trivial⟩ upd_same (by show (4 : Nat) ≤ 100; decide))
      · exact ⟨_, _, e35 _ _ (e3 _ _ (e2 _ _ upd_same)), rfl, rfl⟩
      · exact ⟨_, e35 _ _ (e3 _ _ upd_same), rfl⟩
      · exact ⟨_, _, e35 _ _ upd_same, rfl, Dh.mono (s3.trans e35) _ _ eL⟩
      · exact ⟨_, e5 _ _ upd_same, rfl⟩
    | false =>
      walk_at "go"
      refine ⟨sz, fun p1 n1 => ?_⟩
      have e1 := same_upd (o := HO.tup [V.str "set", V.int 1, V.int 1]) n1
      walk_at "go"
      refine ⟨sz, fun p2 n2 => ?_⟩
      have e2 := same_upd (o := HO.tup [V.str "touch", V.int 1]) n2
      walk_at "go"
      refine ⟨sz, fun p3 n3 => ?_⟩
      have e3 := same_upd (o := HO.tup [V.str "set", V.int 1, V.non]) n3
      walk_at "go"
      refine ⟨sz, fun p4 n4 => ?_⟩
      have e4 := same_upd (o := HO.tup [V.str "touch", V.int 1]) n4
      walk_at "go"
      refine ⟨sz, fun r nr => ?_⟩
      have e5 := same_upd (o := HO.lst [V.ref p1, V.ref p2, V.ref p3, V.ref p4]) nr
      have eL : Dh H (lateD ks) V.non := by
        unfold lateD memK
        rw [hm]
        rfl
      have s3 := e1.trans (e2.trans e3)
      have e35 := e4.trans e5
      refine q2 hs r [p1, p2, p3, p4] _ (s3.trans e35) ((e1.trans (e2.trans (e3.trans e4))).free nr) (EvsAt.tr ⟨?_, .inr trivial, ?_, trivial, ?_, lateD_opt ks, ?_, trivial, trivial⟩ upd_same (by show (4 : Nat) ≤ 100; decide))
      · exact ⟨_, _, e35 _ _ (e3 _ _ (e2 _ _ upd_same)), rfl, rfl⟩
      · exact ⟨_, e35 _ _ (e3 _ _ upd_same), rfl⟩
      · exact ⟨_, _, e35 _ _ upd_same, rfl, Dh.mono (s3.trans e35) _ _ eL⟩
      · exact ⟨_, e5 _ _ upd_same, rfl⟩
theorem ok_is_thing {f : Addr} {fd : FuncData} (D : Def K mg "_law_is_thing" s_is_thing f fd) (b : Binds K fd ["_law_told"] []) (T : Txt mg) (c_is_whole : Cal P w K mg base 1 "_law_is_whole" spWhole []) : Cal P w K mg base 2 "_law_is_thing" spIsInt [] := by
  refine cal0 D b .nil sc_is_thing (fun vs H Q E h => ?_) (fun cdv A outer s H vs Q E hr h => ?_)
  · obtain ⟨i, rfl, _⟩ := h
    rfl
  obtain ⟨i, rfl, q⟩ := h
  refine ⟨_, (pss_cons (ps_mk (ps_if (pt_val (pe_callB is_tuple (by rfl) T.isinstance (by decide +kernel) (pa_cons (pv 0) (pa_cons (pe_bltn (v := .ty "tuple") (by rfl) T.tuple (by decide +kernel) rfl) pa_nil))))
      (pss_one (ps_ret (pe_cmpR op_eq (pe_callB (lenQ K rfl) (by rfl) T.len PySem.boot_len (pa_cons (pe_lc (own := [("_law_part", 1)]) (g := gName 1) rfl sc_is_thing.nd (pi_list (pv 0)) (blkOk_by (own := [("_law_part", 1)]) (N := ["_law_told", "_law_part"]) (sc := C8.fnScope s_is_thing) (by decide +kernel)) (fun _ _ _ _ _ => (pg_name (i := 1) sc_is_thing.nd rfl (.inl rfl))) (fun _ _ _ _ _ => (pts_one (PW.pt (pw_and (pt_not (pt_val (C8.pe_c c_is_whole hr (by omega) (by rfl) (pa_cons (pv 1) pa_nil)))) (pw_and1 (pt_not (pt_val (pe_callB is_str (by rfl) T.isinstance (by decide +kernel) (pa_cons (pv 1) (pa_cons (pe_bltn (v := .ty "str") (by rfl) T.str (by decide +kernel) rfl) pa_nil)))))))))) (fun _ _ _ _ _ => (pv 1))) pa_nil)) pe_int (nomark _))))
      pss_nil))
      (pss_one (ps_ret (pe_or (C8.pe_c c_is_whole hr (by omega) (by rfl) (pa_cons (pv 0) pa_nil)) (pe_one (pe_callB is_str (by rfl) T.isinstance (by decide +kernel) (pa_cons (pv 0) (pa_cons (pe_bltn (v := .ty "str") (by rfl) T.str (by decide +kernel) rfl) pa_nil)))))))), ?_⟩
  refine un ?_
  walk_at "go"
  refine ⟨_, .int i, rfl, rfl, ?_⟩
  walk_at "go"
  refine ⟨_, .int i, rfl, rfl, ?_⟩
  walk_at "go"
  exact q
theorem ok_is_event {f : Addr} {fd : FuncData} (D : Def K mg "_law_is_event" s_is_event f fd) (b : Binds K fd ["_law_told"] []) (T : Txt mg) (c_is_thing : Cal P w K mg base 2 "_law_is_thing" spIsInt []) : Cal P w K mg base 3 "_law_is_event" spIsEv [] := by
  refine cal0 D b .nil sc_is_event (fun vs H Q E h => ?_) (fun cdv A outer s H vs Q E hr h => ?_)
  · obtain ⟨a, ev, rfl, _⟩ := h
    rfl
  obtain ⟨a, ev, rfl, hE, he, q⟩ := h
  refine ⟨_, (pss_cons (ps_mk (ps_if (PW.pt (pw_or (pt_not (pt_val (pe_callB is_tuple (by rfl) T.isinstance (by decide +kernel) (pa_cons (pv 0) (pa_cons (pe_bltn (v := .ty "tuple") (by rfl) T.tuple (by decide +kernel) rfl) pa_nil))))) (pw_or (pt_cmpR op_lt (pe_callB (lenQ K rfl) (by rfl) T.len PySem.boot_len (pa_cons (pv 0) pa_nil)) pe_int (nomark _)) (pw_or (pt_not (pt_val (pe_callB is_str (by rfl) T.isinstance (by decide +kernel) (pa_cons (pe_ix (ixT K rfl) (pv 0) pe_int (fun _ _ => rfl)) (pa_cons (pe_bltn (v := .ty "str") (by rfl) T.str (by decide +kernel) rfl) pa_nil))))) (pw_or1 (pt_not (pt_val (C8.pe_c c_is_thing hr (by omega) (by rfl) (pa_cons (pe_ix (ixT K rfl) (pv 0) pe_int (fun _ _ => rfl)) pa_nil)))))))))
      (pss_one (ps_ret pe_bl))
      pss_nil))
      (pss_cons (ps_mk (ps_if (pt_cmpR op_eq (pe_ix (ixT K rfl) (pv 0) pe_int (fun _ _ => rfl)) pe_str (nomark _))
      (pss_one (ps_ret (pe_cmpR op_eq (pe_callB (lenQ K rfl) (by rfl) T.len PySem.boot_len (pa_cons (pv 0) pa_nil)) pe_int (nomark _))))
      pss_nil))
      (pss_one (ps_ret (pe_and (pe_cmpR op_eq (pe_ix (ixT K rfl) (pv 0) pe_int (fun _ _ => rfl)) pe_str (nomark _)) (pe_and (pe_cmpR op_eq (pe_callB (lenQ K rfl) (by rfl) T.len PySem.boot_len (pa_cons (pv 0) pa_nil)) pe_int (nomark _)) (pe_one (pe_or (pe_cmpR op_isN (pe_ix (ixT K rfl) (pv 0) pe_int (fun _ _ => rfl)) pe_non (nomark _)) (pe_one (C8.pe_c c_is_thing hr (by omega) (by rfl) (pa_cons (pe_ix (ixT K rfl) (pv 0) pe_int (fun _ _ => rfl)) pa_nil))))))))))), ?_⟩
  cases ev with
  | flush => exact he.elim
  | touch =>
    obtain ⟨k, gE, hk⟩ := hE
    have d0 : Dh H (.tuple [.str "touch", .int 1]) (.ref a) := ⟨a, _, rfl, gE, _, _, rfl, rfl, _, _, rfl, hk, rfl⟩
    obtain rfl : k = .int 1 := hk
    refine un ?_
    walk_at "go"
    refine ⟨_, _, _, _, rfl, rfl, SqT.of gE, rfl, ?_⟩
    walk_at "go"
    refine ⟨_, .str "touch", rfl, rfl, ?_⟩
    walk_at "go"
    refine ⟨_, _, _, _, rfl, rfl, SqT.of gE, rfl, ?_⟩
    walk_at "go"
    refine un ?_
    walk_at "go"
    refine ⟨_, _, _, _, rfl, rfl, SqT.of gE, rfl, ?_⟩
    walk_at "go"
    exact q
  | set e =>
    obtain ⟨k, v, gE, hk, hv⟩ := hE
    have d0 : Dh H (.tuple [.str "set", .int 1, e]) (.ref a) := ⟨a, _, rfl, gE, _, _, rfl, rfl, _, _, rfl, hk, _, _, rfl, hv, rfl⟩
    obtain rfl : k = .int 1 := hk
    refine un ?_
    walk_at "go"
    refine ⟨_, _, _, _, rfl, rfl, SqT.of gE, rfl, ?_⟩
    walk_at "go"
    refine ⟨_, .str "set", rfl, rfl, ?_⟩
    walk_at "go"
    refine ⟨_, _, _, _, rfl, rfl, SqT.of gE, rfl, ?_⟩
    walk_at "go"
    refine un ?_
    walk_at "go"
    refine ⟨_, _, _, _, rfl, rfl, SqT.of gE, rfl, ?_⟩
    walk_at "go"
    refine ⟨_, _, _, _, rfl, rfl, SqT.of gE, rfl, ?_⟩
    walk_at "go"
    refine ⟨_, _, _, _, rfl, rfl, SqT.of gE, rfl, ?_⟩
    walk_at "go"
    cases e with
    | int i =>
      obtain rfl : v = .int i := hv
      refine ifF (by simp) ?_
      walk_at "go"
      refine ⟨_, _, _, _, rfl, rfl, SqT.of gE, rfl, ?_⟩
      walk_at "go"
      exact q
    | none =>
      obtain rfl : v = .non := hv
      walk_at "go"
      exact q
    | _ => exact he.elim
end

end

section

-- a condition of an operator
local macro_rules | `(tactic| walk_at "cond") => `(tactic| first
  | (show (0 : Int) < _; omega)
  | (show CDiv _ _; constructor <;> (first | decide | omega))
  | (show CMul _ _; first | (refine cmul_l ?_; constructor <;> (first | decide | omega)) | (refine cmul_r ?_; constructor <;> (first | decide | omega)))
  | (show CPow _ _; exact (by refine ⟨by decide, by decide, by decide⟩))
  | (show CDivW _ _; exact ⟨by decide, by decide +kernel⟩))
local macro_rules | `(tactic| walk_at "sq") => `(tactic| first | assumption | exact Dh.mono (same_upd (by assumption)) _ _ (by assumption) | exact .inl (.inl (.inl (by assumption))) | exact .inr (.inl (.inl (by assumption))) | exact SqL.of (by assumption) | exact .inl (by assumption) | exact .inl (SqL.of (by assumption)) | exact SqT.of (by assumption) | exact .inr (SqT.of (by assumption)))
local macro_rules | `(tactic| walk_at "st") => `(tactic| first
  | refine ⟨_, rfl, ?_⟩
  | refine ⟨_, _, rfl, rfl, ?_⟩
  | refine .inl ⟨_, rfl, ?_⟩
  | refine ⟨rfl, ?_⟩
  | refine ⟨_, _, rfl, by walk_at "sq", ?_⟩
  | refine ⟨.inl ⟨rfl, _, SqL.of (by assumption)⟩, ?_⟩
  | refine ⟨by walk_at "cond", ?_⟩
  | (refine' ifBT ?hh ?_; (case hh => first | rfl | assumption))
  | (refine' ifBF ?hh ?_; (case hh => first | rfl | assumption)))
local macro_rules | `(tactic| walk_at "go") => `(tactic| repeat walk_at "st")
local macro_rules | `(tactic| walk_at "yes") => `(tactic| (refine' ifT ?hh ?_; (case hh => first | rfl | decide +kernel)))
local macro_rules | `(tactic| walk_at "no") => `(tactic| (refine' ifF ?hh ?_; (case hh => first | decide +kernel | (intro z; cases z; done))))

/-! ### _law_shows, _law_short_right -/
abbrev s_shows : Stmt := topS 25
theorem sc_shows : FnScope ["_law_told", "_law_size", "_law_kinds_here", "_law_event", "_law_pairs"] ["_law_told", "_law_size", "_law_kinds_here"] (C8.fnScope s_shows) := C8.fnScope_by (by decide +kernel)
abbrev s_short_right : Stmt := topS 26
theorem sc_short_right : FnScope ["_law_events", "_law_size", "_law_kinds_here", "_law_first", "_law_second", "_law_third", "_law_due", "_law_pair"] ["_law_events", "_law_size", "_law_kinds_here"] (C8.fnScope s_short_right) := C8.fnScope_by (by decide +kernel)
theorem safe_iff {ks : List Str} {n : Int} : safeOf ks n = true ↔ n = 0 ∨ (memK "loss" ks = true ∧ memK "move" ks = true) := by
  unfold safeOf memK
  rw [Bool.or_eq_true, Bool.and_eq_true, decide_eq_true_iff]
theorem kindW_gain : kindW .none (.int 1) = "gain" := (kindW_is _ _).2.1 (by simp) rfl
theorem kindW_loss : kindW (.int 1) .none = "loss" := (kindW_is _ _).2.2.1 (by simp) (by simp) rfl
theorem kindW_move : kindW (.int 1) (.int 2) = "move" := (kindW_is _ _).2.2.2 (by simp) (by simp) (by simp)
theorem run_unsafe {ks : List Str} {n : Int} (h : safeOf ks n = false) : (run ks n (unsafeEv ks)).2.2 = [(.int 1, .int 1), (.int 1, lateD ks)] := by
  have h1 : ¬ (n = 0 ∨ (memK "loss" ks = true ∧ memK "move" ks = true)) := fun z => by
    rw [safe_iff.mpr z] at h
    cases h
  have n0 : n ≠ 0 := fun z => h1 (.inl z)
  have k1 : keptN ks n .none .none (.set (.int 1)) = .none := by
    show (if _ then _ else _) = _
    split <;> rfl
  have k2 : keptN ks n (.int 1) .none .touch = .int 1 := by
    show (if _ then _ else _) = _
    rw [if_pos ⟨rfl, rfl, n0⟩]
  have k3 : keptN ks n (.int 1) (.int 1) (.set (lateD ks)) = .int 1 := by
    show (if memK (kindW (.int 1) (lateD ks)) ks = true then _ else _) = _
    rw [if_neg]
    unfold lateD
    cases hm : memK "loss" ks with
    | true =>
      rw [if_pos rfl, kindW_move]
      exact fun z => h1 (.inr ⟨hm, z⟩)
    | false =>
      rw [if_neg (by simp), kindW_loss, hm]
      simp
  show ([] ++ toldN _ _ (.set (.int 1)) ++ toldN (.int 1) (keptN ks n .none .none (.set (.int 1))) .touch ++ toldN _ _ (.set (lateD ks)) ++ toldN (lateD ks) (keptN ks n (.int 1) (keptN ks n (.int 1) (keptN ks n .none .none (.set (.int 1))) .touch) (.set (lateD ks))) .touch) = _
  rw [k1, k2, k3]
  rfl
theorem seen_tab {tab kept : PyData} (h : kept = .none ∨ kept = tab) : seenN tab kept = tab := by
  unfold seenN
  rcases h with rfl | rfl
  · rfl
  · split <;> rfl
theorem told_eq {tab kept : PyData} {ev : Ev} (h : kept = .none ∨ kept = tab) : ∀ q ∈ toldN tab kept ev, q.1 = q.2 := by
  intro q hq
  cases ev with
  | set e => cases hq
  | flush => cases hq
  | touch =>
    obtain rfl := List.mem_singleton.mp hq
    exact seen_tab h
theorem run3_eq {ks : List Str} {n : Int} {e1 e2 e3 : Ev} : ∀ q ∈ (run ks n [e1, e2, e3]).2.2, q.1 = q.2 := by
  have k1 : keptN ks n .none .none e1 = .none := by
    cases e1 with
    | set e =>
      show (if _ then _ else _) = _
      split <;> rfl
    | touch =>
      by_cases c : isN (PyData.none) = true ∧ isN (PyData.none) = false ∧ n ≠ 0
      · cases c.2.1
      · exact (show (if isN (PyData.none) = true ∧ isN (PyData.none) = false ∧ n ≠ 0 then PyData.none else PyData.none) = .none from if_neg c)
    | flush => rfl
  have k2 : keptN ks n (tabN .none e1) .none e2 = .none ∨ keptN ks n (tabN .none e1) .none e2 = tabN (tabN .none e1) e2 := by
    generalize tabN .none e1 = t
    cases e2 with
    | set e =>
      refine .inl ?_
      show (if _ then _ else _) = _
      split <;> rfl
    | touch =>
      by_cases c : isN (PyData.none) = true ∧ isN t = false ∧ n ≠ 0
      · exact .inr (show (if isN (PyData.none) = true ∧ isN t = false ∧ n ≠ 0 then t else PyData.none) = t from if_pos c)
      · exact .inl (show (if isN (PyData.none) = true ∧ isN t = false ∧ n ≠ 0 then t else PyData.none) = .none from if_neg c)
    | flush => exact .inl rfl
  intro q hq
  have e : (run ks n [e1, e2, e3]).2.2 = [] ++ toldN .none .none e1 ++ toldN (tabN .none e1) (keptN ks n .none .none e1) e2 ++ toldN (tabN (tabN .none e1) e2) (keptN ks n (tabN .none e1) (keptN ks n .none .none e1) e2) e3 := rfl
  rw [e, k1] at hq
  rcases List.mem_append.mp hq with hq | hq
  · rcases List.mem_append.mp hq with hq | hq
    · exact told_eq (.inl rfl) q (by simpa using hq)
    · exact told_eq (.inl rfl) q hq
  · exact told_eq k2 q hq
theorem dle4_pairs {ps : List (PyData × PyData)} (h : ∀ q ∈ ps, OptP q) (hl : ps.length ≤ 1000) : Dle 4 (.list (ps.map pairD)) := by
  refine ⟨by rw [List.length_map]; omega, fun e he => ?_⟩
  obtain ⟨q, hq, rfl⟩ := List.mem_map.mp he
  have o := h q hq
  refine ⟨show (2 : Nat) ≤ 100000 by decide, fun e he => ?_⟩
  rcases List.mem_cons.mp he with rfl | he
  · exact dle_opt o.1
  · obtain rfl := List.mem_singleton.mp he
    exact dle_opt o.2
theorem dle4_opt {d : PyData} (h : Opt d) : Dle 4 d := by
  cases d with
  | none => trivial
  | bool _ => trivial
  | list _ => exact (h.resolve_left (by simp)).elim
  | dict _ => exact (h.resolve_left (by simp)).elim
  | int i => trivial
  | str x => trivial
  | tuple ds =>
    have h3 := h.resolve_left (by simp)
    refine ⟨Nat.le_trans h3.1 (by decide), fun e he => ?_⟩
    have h4 := h3.2 e he
    cases e with
    | int i => trivial
    | str i => trivial
    | _ => exact h4.elim
theorem TraceAt.evs {H : Hp} {kd : PyData} {tr : Addr} {as : List Addr} {es : List Ev} (h : TraceAt H kd tr es as) {i : Nat} {a : Addr} (ha : as[i]? = some a) : ∃ ev, es[i]? = some ev ∧ EvAt H kd a ev ∧ ev.ok := by
  have hi : i < es.length := by
    rw [← h.n]
    exact (List.getElem?_eq_some_iff.mp ha).1
  exact ⟨es[i], List.getElem?_eq_getElem hi, h.at_ i a _ ha (List.getElem?_eq_getElem hi), h.ok _ (List.getElem_mem hi)⟩
theorem EvsAt.same {H H' : Hp} (s : Same H H') {kd : PyData} : ∀ {as : List Addr} {es : List Ev}, EvsAt H kd as es → EvsAt H' kd as es
  | [], [], _ => trivial
  | a :: as, e :: es, h => ⟨EvAt.same s h.1, h.2.1, EvsAt.same s h.2.2⟩
  | [], _ :: _, h => h.elim
  | _ :: _, [], h => h.elim
def evD (kd : PyData) : Ev → PyData
  | .set e => .tuple [.str "set", kd, e]
  | .touch => .tuple [.str "touch", kd]
  | .flush => .tuple [.str "flush"]
theorem EvAt.dh {H : Hp} {kd : PyData} {a : Addr} : ∀ {ev : Ev}, EvAt H kd a ev → Dh H (evD kd ev) (.ref a)
  | .set e, h => by
    obtain ⟨k, v, g, h1, h2⟩ := h
    exact ⟨a, _, rfl, g, _, _, rfl, rfl, _, _, rfl, h1, _, _, rfl, h2, rfl⟩
  | .touch, h => by
    obtain ⟨k, g, h1⟩ := h
    exact ⟨a, _, rfl, g, _, _, rfl, rfl, _, _, rfl, h1, rfl⟩
  | .flush, h => ⟨a, _, rfl, h, _, _, rfl, rfl, rfl⟩
theorem evs_dh {H : Hp} {kd : PyData} : ∀ {as : List Addr} {es : List Ev}, as.length = es.length → (∀ (i : Nat) (a : Addr) (ev : Ev), as[i]? = some a → es[i]? = some ev → EvAt H kd a ev) → DhAll H (es.map (evD kd)) (as.map V.ref)
  | [], [], _, _ => rfl
  | a :: as, e :: es, n, h => ⟨_, _, rfl, EvAt.dh (h 0 a e rfl rfl), evs_dh (by simpa using n) fun i a' ev h1 h2 => h (i + 1) a' ev (by simpa using h1) (by simpa using h2)⟩
  | [], _ :: _, n, _ => by simp at n
  | _ :: _, [], n, _ => by simp at n
theorem TraceAt.dh {H : Hp} {kd : PyData} {tr : Addr} {as : List Addr} {es : List Ev} (h : TraceAt H kd tr es as) : Dh H (.list (es.map (evD kd))) (.ref tr) :=
  ⟨tr, _, rfl, h.l, evs_dh h.n h.at_⟩
theorem unsafe_easy {ks : List Str} : ∀ ev ∈ unsafeEv ks, Easy ev := by
  intro ev h
  have hl : Easy (.set (lateD ks)) := by
    unfold lateD
    split <;> trivial
  rcases List.mem_cons.mp h with rfl | h
  · trivial
  rcases List.mem_cons.mp h with rfl | h
  · trivial
  rcases List.mem_cons.mp h with rfl | h
  · exact hl
  · obtain rfl := List.mem_singleton.mp h
    trivial
def spShows : Sp := fun vs H Q _ => ∃ (x : V) (kl : Addr) (ks : List Str) (size : Int), vs = [x, .int size, .ref kl] ∧ H kl = some (.lst (ks.map V.str)) ∧ 0 ≤ size ∧ size ≤ 1000 ∧
  ((safeOf ks size = true ∧ x = .non) ∨ (safeOf ks size = false ∧ ∃ r as, x = .ref r ∧ TraceAt H (.int 1) r (unsafeEv ks) as)) ∧ ∀ H', Same H H' → Q (.bl true) H'
def spShort : Sp := fun vs H Q _ => ∃ (el kl : Addr) (as : List Addr) (ks : List Str) (size : Int) (kd : PyData) (evs : List Ev), vs = [.ref el, .int size, .ref kl] ∧ Thing kd ∧ TraceAt H kd el evs as ∧ H kl = some (.lst (ks.map V.str)) ∧
  0 ≤ size ∧ size ≤ 1000 ∧ ∀ H', Same H H' → Q (.bl true) H'
section
variable {P : Program} {w : World} {K : PySem.W.Frag} {mg : Str → Option Value} {base : Heap}
theorem ok_shows {f : Addr} {fd : FuncData} (D : Def K mg "_law_shows" s_shows f fd) (b : Binds K fd ["_law_told", "_law_size", "_law_kinds_here"] []) (T : Txt mg) (c_is_event : Cal P w K mg base 3 "_law_is_event" spIsEv [])
    (c_trace_play : Cal P w K mg base 5 "_law_trace_play" (spTPlay K) []) (c_same : Cal P w K mg base 5 "_law_same" (spSame 4) []) : Cal P w K mg base 6 "_law_shows" spShows [] := by
  refine cal0 D b .nil sc_shows (fun vs H Q E h => ?_) (fun cdv A outer s H vs Q E hr h => ?_)
  · obtain ⟨x, kl, ks, size, rfl, _⟩ := h
    rfl
  obtain ⟨x, kl, ks, size, rfl, hkl, z0, z1, hx, q⟩ := h
  refine ⟨_, (pss_cons (ps_mk (ps_if (PW.pt (pw_or (pt_cmpR op_eq (pv 1) pe_int (nomark _)) (pw_or1 (PW.pt (pw_and (pt_cmpR (inQ K rfl) pe_str (pv 2) (by rfl)) (pw_and1 (pt_cmpR (inQ K rfl) pe_str (pv 2) (by rfl))))))))
      (pss_one (ps_ret (pe_cmpR op_isN (pv 0) pe_non (nomark _))))
      pss_nil))
      (pss_cons (ps_mk (ps_if (PW.pt (pw_or (pt_not (pt_val (pe_callB is_list (by rfl) T.isinstance (by decide +kernel) (pa_cons (pv 0) (pa_cons (pe_bltn (v := .ty "list") (by rfl) T.list (by decide +kernel) rfl) pa_nil))))) (pw_or1 (pt_cmpR op_ne (pe_callB (lenQ K rfl) (by rfl) T.len PySem.boot_len (pa_cons (pv 0) pa_nil)) pe_int (nomark _)))))
      (pss_one (ps_ret pe_bl))
      pss_nil))
      (pss_cons (ps_mk (ps_if (PW.pt (pw_or (pt_cmpR op_gt (pe_callB (lenQ K rfl) (by rfl) T.len PySem.boot_len (pa_cons (pe_lc (own := [("_law_event", 3)]) (g := gName 3) rfl sc_shows.nd (pi_list (pv 0)) (blkOk_by (own := [("_law_event", 3)]) (N := ["_law_told", "_law_size", "_law_kinds_here", "_law_event", "_law_pairs"]) (sc := C8.fnScope s_shows) (by decide +kernel)) (fun _ _ _ _ _ => (pg_name (i := 3) sc_shows.nd rfl (.inl rfl))) (fun _ _ _ _ _ => (pts_one (pt_not (pt_val (C8.pe_c c_is_event hr (by omega) (by rfl) (pa_cons (pv 3) pa_nil)))))) (fun _ _ _ _ _ => (pv 3))) pa_nil)) pe_int (nomark _)) (pw_or1 (pt_cmpR op_ne (pe_ix (ixT K rfl) (pe_ix (ixL K rfl) (pv 0) pe_int (fun _ _ => rfl)) pe_int (fun _ _ => rfl)) pe_str (nomark _)))))
      (pss_one (ps_ret pe_bl))
      pss_nil))
      (pss_cons (ps_set (i := 4) sc_shows.nd rfl (.inl rfl) (C8.pe_c c_trace_play hr (by omega) (by rfl) (pa_cons (pv 0) (pa_cons (pv 1) (pa_cons (pv 2) (pa_cons (pe_lst pa_nil) pa_nil))))))
      (pss_one (ps_ret (pe_not (C8.pe_c c_same hr (by omega) (by rfl) (pa_cons (pe_ix (ixT K rfl) (pe_ix (ixL K rfl) (pv 4) (pe_un un_neg pe_int) (fun _ _ => rfl)) pe_int (fun _ _ => rfl)) (pa_cons (pe_ix (ixT K rfl) (pe_ix (ixL K rfl) (pv 4) (pe_un un_neg pe_int) (fun _ _ => rfl)) pe_int (fun _ _ => rfl)) pa_nil)))))))))), ?_⟩
  refine jn (M := fun σ H' => H' = H ∧ safeOf ks size = false ∧ ∃ r as, x = .ref r ∧ TraceAt H (.int 1) r (unsafeEv ks) as ∧ σ = [sR r, sI size, sR kl, none, none]) ?_ (fun N kk => ?_)
  rotate_left
  · have sf : safeOf ks size = true → Q (.bl (decide (x = .non))) H := fun z => by
      rcases hx with ⟨_, rfl⟩ | ⟨h1, _⟩
      · exact q _ same_rfl
      · rw [h1] at z
        cases z
    have us : ¬ (size = 0 ∨ (memK "loss" ks = true ∧ memK "move" ks = true)) → N [some x, sI size, sR kl, none, none] H := fun z => by
      have hs : safeOf ks size = false := Bool.eq_false_iff.mpr fun y => z (safe_iff.mp y)
      rcases hx with ⟨h1, _⟩ | ⟨_, r, as, rfl, hT⟩
      · rw [hs] at h1
        cases h1
      · exact kk _ _ ⟨rfl, hs, r, as, rfl, hT, rfl⟩
    walk_at "go"
    refine ifEq (fun z => ?_) (fun z => ?_)
    · walk_at "go"
      exact sf (safe_iff.mpr (.inl z))
    · walk_at "go"
      refine ⟨flat_strs ks, ?_⟩
      walk_at "go"
      cases hm : memK "loss" ks with
      | false =>
        refine ifBF hm ?_
        walk_at "go"
        exact us fun y => y.elim z (fun y => by rw [hm] at y; cases y.1)
      | true =>
        refine ifBT hm ?_
        walk_at "go"
        refine ⟨flat_strs ks, ?_⟩
        walk_at "go"
        cases hm2 : memK "move" ks with
        | false =>
          refine ifBF hm2 ?_
          walk_at "go"
          exact us fun y => y.elim z (fun y => by rw [hm2] at y; cases y.2)
        | true =>
          refine ifBT hm2 ?_
          walk_at "go"
          exact sf (safe_iff.mpr (.inr ⟨hm, hm2⟩))
  rintro σ H' ⟨rfl, hs, r, as, rfl, hT, rfl⟩
  have hn : as.length = 4 := hT.n
  obtain ⟨a1, a2, a3, a4, rfl⟩ : ∃ a1 a2 a3 a4, as = [a1, a2, a3, a4] := by
    rcases as with _ | ⟨a1, _ | ⟨a2, _ | ⟨a3, _ | ⟨a4, _ | ⟨a5, t⟩⟩⟩⟩⟩
    · cases hn
    · cases hn
    · cases hn
    · cases hn
    · exact ⟨_, _, _, _, rfl⟩
    · simp at hn
  have gl : H' r = some (.lst [.ref a1, .ref a2, .ref a3, .ref a4]) := hT.l
  have dT := hT.dh
  walk_at "go"
  refine un ?_
  walk_at "go"
  refine un ?_
  walk_at "go"
  refine ⟨⟨_, SqL.of gl⟩, fun L nL => lc_list (K := K) (a := r) (xs := [.ref a1, .ref a2, .ref a3, .ref a4]) (fun i H2 => Ob (Same H' H2 ∧ H2 L = some (.lst []))) (ob ⟨same_upd nL, upd_same⟩) (fun i H2 _ h => SqL.of ((unob h).1 _ _ gl)) ?_ ?_⟩
  · intro i x H2 hi h
    obtain ⟨s2, g2⟩ := unob h
    obtain ⟨a, ha, rfl⟩ : ∃ a, [a1, a2, a3, a4][i]? = some a ∧ x = V.ref a := by
      have hi2 : (([a1, a2, a3, a4] : List Addr).map V.ref)[i]? = some x := hi
      rw [List.getElem?_map] at hi2
      cases e : ([a1, a2, a3, a4] : List Addr)[i]? with
      | none =>
        rw [e] at hi2
        cases hi2
      | some a =>
        rw [e] at hi2
        exact ⟨a, rfl, (Option.some.inj hi2).symm⟩
    obtain ⟨ev, hev, hE, _⟩ := hT.evs ha
    have easy := unsafe_easy ev (List.mem_of_getElem? hev)
    refine ⟨rfl, ?_⟩
    walk_at "go"
    refine ⟨a, ev, rfl, EvAt.same s2 hE, easy, ?_⟩
    walk_at "go"
    exact ob ⟨s2, g2⟩
  · intro H2 h
    obtain ⟨s2, gL⟩ := unob h
    have gl2 := s2 _ _ gl
    have hT2 := hT.same s2
    have hkl2 := s2 _ _ hkl
    have hg4 : ∃ k, H2 a4 = some (.tup [.str "touch", k]) := by
      obtain ⟨k, g, _⟩ : EvAt H2 (.int 1) a4 .touch := hT2.at_ 3 a4 .touch rfl rfl
      exact ⟨k, g⟩
    obtain ⟨k4, g4⟩ := hg4
    walk_at "go"
    refine ⟨_, _, _, _, rfl, rfl, SqL.of gl2, rfl, ?_⟩
    walk_at "go"
    refine ⟨_, _, _, _, rfl, rfl, SqT.of g4, rfl, ?_⟩
    walk_at "go"
    refine ⟨sz, fun mo nmo => ?_⟩
    have s3 := same_upd (o := HO.lst []) nmo
    have gmo := upd_same (H := H2) (a := mo) (o := HO.lst [])
    walk_at "go"
    refine ⟨r, kl, mo, _, ks, size, .int 1, unsafeEv ks, rfl, trivial, hT2.same s3, s3 _ _ hkl2, gmo, z0, z1, fun r2 H4 s4 nr2 hd => ?_⟩
    rw [run_unsafe hs] at hd
    obtain ⟨_, xs, e, g, v1, vs1, rfl, h1, v2, vs2, rfl, h2, rfl⟩ := hd
    cases e
    obtain ⟨p, ys, rfl, g5, x, xs2, rfl, hx, y, xs3, rfl, hy, rfl⟩ := h2
    walk_at "go"
    refine ⟨_, _, _, _, rfl, rfl, SqL.of g, rfl, ?_⟩
    walk_at "go"
    refine ⟨_, _, _, _, rfl, rfl, SqT.of g5, rfl, ?_⟩
    walk_at "go"
    refine ⟨_, _, _, _, rfl, rfl, SqL.of g, rfl, ?_⟩
    walk_at "go"
    refine ⟨_, _, _, _, rfl, rfl, SqT.of g5, rfl, ?_⟩
    walk_at "go"
    refine ⟨x, y, .int 1, lateD ks, rfl, hx, hy, dle4_opt (lateD_opt ks), fun bo H5 hb s5 => ?_⟩
    have bf : bo = false := Bool.eq_false_iff.mpr fun z => by
      have w := hb.mp z
      unfold lateD at w
      split at w
      · cases w
      · cases w
    rw [bf]
    walk_at "go"
    exact q _ (s2.trans (s3.trans (s4.trans s5)))
theorem ok_short {f : Addr} {fd : FuncData} (D : Def K mg "_law_short_right" s_short_right f fd) (b : Binds K fd ["_law_events", "_law_size", "_law_kinds_here"] []) (T : Txt mg) (c_trace_play : Cal P w K mg base 5 "_law_trace_play" (spTPlay K) []) {C : Addr}
    (c_play_trace : Cal P w K mg base 4 "play_trace" (spPlay C K) []) (c_same : Cal P w K mg base 5 "_law_same" (spSame 4) []) : Cal P w K mg base 6 "_law_short_right" spShort [] := by
  refine cal0 D b .nil sc_short_right (fun vs H Q E h => ?_) (fun cdv A outer s H vs Q E hr h => ?_)
  · obtain ⟨el, kl, as, ks, size, kd, evs, rfl, _⟩ := h
    rfl
  obtain ⟨el, kl, as, ks, size, kd, evs, rfl, th, hT, hkl, z0, z1, q⟩ := h
  refine ⟨_, (pss_cons (ps_mk (ps_for PassesOwn.never rfl (pi_list (pv 0)) (pg_name (i := 3) sc_short_right.nd rfl (.inl rfl))
      (pss_one (ps_mk (ps_for PassesOwn.never rfl (pi_list (pv 0)) (pg_name (i := 4) sc_short_right.nd rfl (.inl rfl))
      (pss_one (ps_mk (ps_for PassesOwn.never rfl (pi_list (pv 0)) (pg_name (i := 5) sc_short_right.nd rfl (.inl rfl))
      (pss_cons (ps_set (i := 6) sc_short_right.nd rfl (.inl rfl) (C8.pe_c c_trace_play hr (by omega) (by rfl) (pa_cons (pe_lst (pa_cons (pv 3) (pa_cons (pv 4) (pa_cons (pv 5) pa_nil)))) (pa_cons (pv 1) (pa_cons (pv 2) (pa_cons (pe_lst pa_nil) pa_nil))))))
      (pss_cons (ps_mk (ps_if (pt_cmpR op_gt (pe_callB (lenQ K rfl) (by rfl) T.len PySem.boot_len (pa_cons (pe_lc (own := [("_law_pair", 7)]) (g := gName 7) rfl sc_short_right.nd (pi_list (pv 6)) (blkOk_by (own := [("_law_pair", 7)]) (N := ["_law_events", "_law_size", "_law_kinds_here", "_law_first", "_law_second", "_law_third", "_law_due", "_law_pair"]) (sc := C8.fnScope s_short_right) (by decide +kernel)) (fun _ _ _ _ _ => (pg_name (i := 7) sc_short_right.nd rfl (.inl rfl))) (fun _ _ _ _ _ => (pts_one (pt_not (pt_val (C8.pe_c c_same hr (by omega) (by rfl) (pa_cons (pe_ix (ixT K rfl) (pv 7) pe_int (fun _ _ => rfl)) (pa_cons (pe_ix (ixT K rfl) (pv 7) pe_int (fun _ _ => rfl)) pa_nil))))))) (fun _ _ _ _ _ => (pv 7))) pa_nil)) pe_int (nomark _))
      (pss_one (ps_ret pe_bl))
      pss_nil))
      (pss_one (ps_mk (ps_if (pt_not (pt_val (C8.pe_c c_same hr (by omega) (by rfl) (pa_cons (C8.pe_c c_play_trace hr (by omega) (by rfl) (pa_cons (pe_lst (pa_cons (pv 3) (pa_cons (pv 4) (pa_cons (pv 5) pa_nil)))) (pa_cons (pv 1) (pa_cons (pe_callTy (listQ K rfl) (by rfl) T.list (by decide +kernel) (pa_cons (pv 2) pa_nil)) pa_nil)))) (pa_cons (pv 6) pa_nil)))))
      (pss_one (ps_ret pe_bl))
      pss_nil)))))))))))))
      (pss_one (ps_ret pe_bl))), ?_⟩
  have pick : ∀ {i : Nat} {x : V}, (as.map V.ref)[i]? = some x → ∃ a ev, x = V.ref a ∧ EvAt H kd a ev ∧ ev.ok := by
    intro i x hi
    rw [List.getElem?_map] at hi
    cases e : as[i]? with
    | none =>
      rw [e] at hi
      cases hi
    | some a =>
      rw [e] at hi
      obtain ⟨ev, _, hE, ok⟩ := hT.evs e
      exact ⟨a, ev, (Option.some.inj hi).symm, hE, ok⟩
  refine jn (M := fun σ H' => Same H H') ?_ (fun N kk => ?_)
  · intro σ H' s1
    walk_at "go"
    exact q _ s1
  have l0 := SqL.of (K := K) hT.l
  walk_at "go"
  refine ⟨⟨_, l0⟩, for_list (K := K) (a := el) (xs := as.map V.ref) (fun i σ H' => Ob (Same H H' ∧ ∃ y1 y2 y3 y4 y5, σ = [sR el, sI size, sR kl, y1, y2, y3, y4, y5])) (ob ⟨same_rfl, none, none, none, none, none, rfl⟩) (fun i σ H' _ h => SqL.of ((unob h).1 _ _ hT.l)) ?_ (fun σ H' h => kk _ _ (unob h).1)⟩
  intro i1 x1 σ H1 hi1 h
  obtain ⟨s1, y1, y2, y3, y4, y5, rfl⟩ := unob h
  clear h kk l0
  obtain ⟨a1, ev1, rfl, hE1, ok1⟩ := pick hi1
  have l1 := SqL.of (K := K) (s1 _ _ hT.l)
  walk_at "go"
  refine jn (M := fun σ H' => Same H H' ∧ ∃ y2 y3 y4 y5, σ = [sR el, sI size, sR kl, sR a1, y2, y3, y4, y5]) ?_ (fun N kk => ?_)
  · rintro σ H' ⟨s2, y2, y3, y4, y5, rfl⟩
    exact ob ⟨s2, _, _, _, _, _, rfl⟩
  walk_at "go"
  refine ⟨⟨_, l1⟩, for_list (K := K) (a := el) (xs := as.map V.ref) (fun i σ H' => Ob (Same H H' ∧ ∃ y2 y3 y4 y5, σ = [sR el, sI size, sR kl, sR a1, y2, y3, y4, y5])) (ob ⟨s1, _, _, _, _, rfl⟩) (fun i σ H' _ h => SqL.of ((unob h).1 _ _ hT.l)) ?_ (fun σ H' h => kk _ _ (unob h))⟩
  clear y2 y3 y4 y5 l1 s1
  intro i2 x2 σ H1 hi2 h
  obtain ⟨s1, y2, y3, y4, y5, rfl⟩ := unob h
  clear h kk
  obtain ⟨a2, ev2, rfl, hE2, ok2⟩ := pick hi2
  have l1 := SqL.of (K := K) (s1 _ _ hT.l)
  walk_at "go"
  refine jn (M := fun σ H' => Same H H' ∧ ∃ y3 y4 y5, σ = [sR el, sI size, sR kl, sR a1, sR a2, y3, y4, y5]) ?_ (fun N kk => ?_)
  · rintro σ H' ⟨s2, y3, y4, y5, rfl⟩
    exact ob ⟨s2, _, _, _, _, rfl⟩
  walk_at "go"
  refine ⟨⟨_, l1⟩, for_list (K := K) (a := el) (xs := as.map V.ref) (fun i σ H' => Ob (Same H H' ∧ ∃ y3 y4 y5, σ = [sR el, sI size, sR kl, sR a1, sR a2, y3, y4, y5])) (ob ⟨s1, _, _, _, rfl⟩) (fun i σ H' _ h => SqL.of ((unob h).1 _ _ hT.l)) ?_ (fun σ H' h => kk _ _ (unob h))⟩
  clear y3 y4 y5 l1 s1
  intro i3 x3 σ H1 hi3 h
  obtain ⟨s1, y3, y4, y5, rfl⟩ := unob h
  clear h kk
  obtain ⟨a3, ev3, rfl, hE3, ok3⟩ := pick hi3
  clear hi1 hi2 hi3 pick
  have hE : EvsAt H kd [a1, a2, a3] [ev1, ev2, ev3] := ⟨hE1, ok1, hE2, ok2, hE3, ok3, trivial⟩
  walk_at "go"
  refine ⟨sz, fun t1 nt1 => ?_⟩
  walk_at "go"
  refine ⟨sz, fun mo nmo => ?_⟩
  have s2 := same_upd (o := HO.lst [V.ref a1, V.ref a2, V.ref a3]) nt1
  have g1 := upd_same (H := H1) (a := t1) (o := HO.lst [V.ref a1, V.ref a2, V.ref a3])
  have s3 := same_upd (o := HO.lst []) nmo
  have gmo := upd_same (H := upd H1 t1 (HO.lst [V.ref a1, V.ref a2, V.ref a3])) (a := mo) (o := HO.lst [])
  have s13 := s1.trans (s2.trans s3)
  have g1' := s3 _ _ g1
  generalize upd (upd H1 t1 (HO.lst [V.ref a1, V.ref a2, V.ref a3])) mo (HO.lst []) = H3 at *
  clear s1 s2 s3 g1 nt1 nmo
  walk_at "go"
  refine ⟨t1, kl, mo, [a1, a2, a3], ks, size, kd, [ev1, ev2, ev3], rfl, th, (hE.same s13).tr g1' (by show (3 : Nat) ≤ 100; decide), s13 _ _ hkl, gmo, z0, z1, fun r1 H4 s4 nr1 hd => ?_⟩
  have op := (run_opt (ks := ks) (cap := size) hE.oks 3).2.2
  have ol := told_len (ks := ks) (cap := size) (evs := [ev1, ev2, ev3]) 3
  have oeq := run3_eq (ks := ks) (n := size) (e1 := ev1) (e2 := ev2) (e3 := ev3)
  have et : ([ev1, ev2, ev3] : List Ev).take 3 = [ev1, ev2, ev3] := rfl
  rw [et] at op ol
  generalize hps : (run ks size [ev1, ev2, ev3]).2.2 = ps at *
  have s04 := s13.trans s4
  obtain ⟨_, vs, e, g, hv⟩ := id hd
  cases e
  walk_at "go"
  refine un ?_
  walk_at "go"
  refine ⟨⟨_, SqL.of g⟩, fun L nL => lc_list (K := K) (a := r1) (xs := vs) (fun i H2 => Ob (Same H4 H2 ∧ H2 L = some (.lst []))) (ob ⟨same_upd nL, upd_same⟩) (fun i H2 _ h => SqL.of ((unob h).1 _ _ g)) ?_ ?_⟩
  · intro i x H2 hi h
    obtain ⟨s2, g2⟩ := unob h
    have hil : i < ps.length := by
      have hn := hv.len
      rw [List.length_map] at hn
      rw [← hn]
      exact (List.getElem?_eq_some_iff.mp hi).1
    obtain ⟨x', hx', dx⟩ := hv.get (i := i) (d := pairD ps[i]) (by rw [List.getElem?_map, List.getElem?_eq_getElem hil]; rfl)
    obtain rfl : x' = x := Option.some.inj (hx'.symm.trans hi)
    have hm := List.getElem_mem hil
    generalize ps[i] = pr at *
    obtain ⟨p, ys, rfl, g5, x, xs2, rfl, hx, y, xs3, rfl, hy, rfl⟩ := dx
    refine ⟨rfl, ?_⟩
    walk_at "go"
    refine ⟨_, _, _, _, rfl, rfl, SqT.of (s2 _ _ g5), rfl, ?_⟩
    walk_at "go"
    refine ⟨_, _, _, _, rfl, rfl, SqT.of (s2 _ _ g5), rfl, ?_⟩
    walk_at "go"
    refine ⟨x, y, pr.1, pr.2, rfl, Dh.mono s2 _ _ hx, Dh.mono s2 _ _ hy, dle4_opt (op _ hm).2, fun bo H5 hb s5 => ?_⟩
    obtain rfl : bo = true := hb.mpr (oeq _ hm)
    walk_at "go"
    exact ob ⟨s2.trans s5, s5 _ _ g2⟩
  · intro H5 h
    obtain ⟨s5, gL⟩ := unob h
    have hd5 := Dh.mono s5 _ _ hd
    have s05 := s04.trans s5
    have gk5 := s05 _ _ hkl
    clear h hv g hd
    walk_at "go"
    refine un ?_
    walk_at "go"
    refine ⟨sz, fun t2 nt2 => ?_⟩
    have s6 := same_upd (o := HO.lst [V.ref a1, V.ref a2, V.ref a3]) nt2
    have g6 := upd_same (H := H5) (a := t2) (o := HO.lst [V.ref a1, V.ref a2, V.ref a3])
    have gk6 := s6 _ _ gk5
    generalize upd H5 t2 (HO.lst [V.ref a1, V.ref a2, V.ref a3]) = H6 at *
    walk_at "go"
    intro kl2 nkl2
    have s7 := same_upd (o := HO.lst (ks.map V.str)) nkl2
    have g7 := upd_same (H := H6) (a := kl2) (o := HO.lst (ks.map V.str))
    have g67 := s7 _ _ g6
    have s57 := s6.trans s7
    generalize upd H6 kl2 (HO.lst (ks.map V.str)) = H7 at *
    walk_at "go"
    have s07 := s05.trans s57
    refine ⟨t2, kl2, [a1, a2, a3], ks, size, kd, [ev1, ev2, ev3], rfl, th, (hE.same s07).tr g67 (by show (3 : Nat) ≤ 100; decide), g7, z0, fun r2 H8 s8 nr2 hd2 => ?_⟩
    rw [hps] at hd2
    walk_at "go"
    refine ⟨.ref r2, .ref r1, _, _, rfl, hd2, Dh.mono (s57.trans s8) _ _ hd5, dle4_pairs op (by omega), fun bo H9 hb s9 => ?_⟩
    obtain rfl : bo = true := hb.mpr rfl
    walk_at "go"
    exact ob ⟨s07.trans (s8.trans s9), _, _, _, rfl⟩
end

end

section

-- a condition of an operator
local macro_rules | `(tactic| walk_at "cond") => `(tactic| first
  | (show (0 : Int) < _; omega)
  | (show CDiv _ _; constructor <;> (first | decide | omega))
  | (show CMul _ _; first | (refine cmul_l ?_; constructor <;> (first | decide | omega)) | (refine cmul_r ?_; constructor <;> (first | decide | omega)))
  | (show CPow _ _; exact (by refine ⟨by decide, by decide, by decide⟩))
  | (show CDivW _ _; exact ⟨by decide, by decide +kernel⟩))
local macro_rules | `(tactic| walk_at "sq") => `(tactic| first | assumption | exact Dh.mono (same_upd (by assumption)) _ _ (by assumption) | exact .inl (.inl (.inl (by assumption))) | exact .inr (.inl (.inl (by assumption))) | exact SqL.of (by assumption) | exact .inl (by assumption) | exact .inl (SqL.of (by assumption)) | exact SqT.of (by assumption) | exact .inr (SqT.of (by assumption)))
local macro_rules | `(tactic| walk_at "st") => `(tactic| first
  | refine ⟨_, rfl, ?_⟩
  | refine ⟨_, _, rfl, rfl, ?_⟩
  | refine .inl ⟨_, rfl, ?_⟩
  | refine ⟨rfl, ?_⟩
  | refine ⟨_, _, rfl, by walk_at "sq", ?_⟩
  | refine ⟨.inl ⟨rfl, _, SqL.of (by assumption)⟩, ?_⟩
  | refine ⟨by walk_at "cond", ?_⟩
  | (refine' ifBT ?hh ?_; (case hh => first | rfl | assumption))
  | (refine' ifBF ?hh ?_; (case hh => first | rfl | assumption)))
local macro_rules | `(tactic| walk_at "go") => `(tactic| repeat walk_at "st")
local macro_rules | `(tactic| walk_at "yes") => `(tactic| (refine' ifT ?hh ?_; (case hh => first | rfl | decide +kernel)))
local macro_rules | `(tactic| walk_at "no") => `(tactic| (refine' ifF ?hh ?_; (case hh => first | decide +kernel | (intro z; cases z; done))))

local macro_rules | `(tactic| walk_at "st") => `(tactic| refine ⟨_, _, _, _, _, rfl, by assumption, by assumption, by omega, by omega, by omega, by omega, by omega, ?_⟩)
local macro_rules | `(tactic| walk_at "st") => `(tactic| refine ⟨_, _, _, _, _, rfl, Same.seq (by assumption) (by assumption), by assumption, by omega, by omega, by omega, by omega, by omega, ?_⟩)

/-! ### the law -/
abbrev s_law : Stmt := topS 27
theorem sc_law : FnScope ["_law_script", "_law_kinds_here", "_law_size", "_law_key", "_law_low", "_law_high", "_law_given", "_law_told", "_law_word"] ["_law_script"] (C8.fnScope s_law) := C8.fnScope_by (by decide +kernel)
def spLaw (K : PySem.W.Frag) : Sp := fun vs H Q _ => ∃ (a : Addr) (ns : List Int), vs = [.ref a] ∧ SqL K H a (ns.map V.int) ∧ ns.length ≤ 63 ∧ ∀ H', Q (.bl true) H'
theorem okk_ab : strOkk "ab" := by
  show PyData.canLay0 (.str "ab") = true
  decide +kernel
theorem dle4_strs {ss : List Str} (h : ss.length ≤ 1000) : Dle 4 (.list (ss.map PyData.str)) := by
  refine ⟨by rw [List.length_map]; omega, fun e he => ?_⟩
  obtain ⟨x, _, rfl⟩ := List.mem_map.mp he
  trivial
theorem size7 (j : Int) (j0 : 0 ≤ j) (j1 : j < 7) : ∃ z, atI [V.int 1, V.int 2, V.int 3, V.int 2, V.int 1, V.int 4, V.int 0] j = some (.int z) ∧ 0 ≤ z ∧ z ≤ 4 := by
  have h : j = 0 ∨ j = 1 ∨ j = 2 ∨ j = 3 ∨ j = 4 ∨ j = 5 ∨ j = 6 := by omega
  rcases h with rfl | rfl | rfl | rfl | rfl | rfl | rfl
  · exact ⟨1, rfl, by decide, by decide⟩
  · exact ⟨2, rfl, by decide, by decide⟩
  · exact ⟨3, rfl, by decide, by decide⟩
  · exact ⟨2, rfl, by decide, by decide⟩
  · exact ⟨1, rfl, by decide, by decide⟩
  · exact ⟨4, rfl, by decide, by decide⟩
  · exact ⟨0, rfl, by decide, by decide⟩
section
variable {P : Program} {w : World} {K : PySem.W.Frag} {mg : Str → Option Value} {base : Heap}
theorem ok_law {f : Addr} {fd : FuncData} (D : Def K mg "law" s_law f fd) (T : Txt mg) (c_number : Cal P w K mg base 1 "_law_number" (spNum K) []) (c_same : Cal P w K mg base 5 "_law_same" (spSame 4) []) (c_thing : Cal P w K mg base 2 "_law_thing" (spThing K) [])
    (c_kinds : Cal P w K mg base 2 "_law_kinds" (spKinds K) []) (c_short_right : Cal P w K mg base 6 "_law_short_right" spShort []) (c_unsafe_trace : Cal P w K mg base 2 "unsafe_trace" spUnsafe []) (c_shows : Cal P w K mg base 6 "_law_shows" spShows []) : FnOk P w K mg base C8.CX0 7 f fd ["_law_script"] (spLaw K) := by
  refine C8.fn0 D.fn sc_law (fun vs H Q E h => ?_) (fun cdv A outer s H vs Q E hr h => ?_)
  · obtain ⟨a, ns, rfl, _⟩ := h
    rfl
  obtain ⟨a, ns, rfl, hS, hl, q⟩ := h
  refine ⟨_, (pss_cons (ps_set (i := 1) sc_law.nd rfl (.inl rfl) (C8.pe_c c_kinds hr (by omega) (by rfl) (pa_cons (pv 0) (pa_cons pe_int (pa_cons pe_int pa_nil)))))
      (pss_cons (ps_set (i := 2) sc_law.nd rfl (.inl rfl) (pe_ix (ixL K rfl) (pe_lst (pa_cons pe_int (pa_cons pe_int (pa_cons pe_int (pa_cons pe_int (pa_cons pe_int (pa_cons pe_int (pa_cons pe_int pa_nil)))))))) (C8.pe_c c_number hr (by omega) (by rfl) (pa_cons (pv 0) (pa_cons pe_int (pa_cons pe_int (pa_cons pe_int pa_nil))))) (fun _ _ => rfl)))
      (pss_cons (ps_mk (ps_if (pt_cmpR op_eq (C8.pe_c c_number hr (by omega) (by rfl) (pa_cons (pv 0) (pa_cons pe_int (pa_cons pe_int (pa_cons pe_int pa_nil))))) pe_int (nomark _))
      (pss_one (ps_set (i := 2) sc_law.nd rfl (.inl rfl) (pe_op op_add pe_int (C8.pe_c c_number hr (by omega) (by rfl) (pa_cons (pv 0) (pa_cons pe_int (pa_cons pe_int (pa_cons pe_int pa_nil))))))))
      pss_nil))
      (pss_cons (ps_set (i := 3) sc_law.nd rfl (.inl rfl) (C8.pe_c c_thing hr (by omega) (by rfl) (pa_cons (pv 0) (pa_cons pe_int (pa_cons pe_int pa_nil)))))
      (pss_cons (ps_set (i := 4) sc_law.nd rfl (.inl rfl) (C8.pe_c c_thing hr (by omega) (by rfl) (pa_cons (pv 0) (pa_cons pe_int (pa_cons pe_int pa_nil)))))
      (pss_cons (ps_set (i := 5) sc_law.nd rfl (.inl rfl) (C8.pe_c c_thing hr (by omega) (by rfl) (pa_cons (pv 0) (pa_cons pe_int (pa_cons pe_int pa_nil)))))
      (pss_cons (ps_mk (ps_if (pt_val (C8.pe_c c_same hr (by omega) (by rfl) (pa_cons (pv 4) (pa_cons (pv 5) pa_nil))))
      (pss_one (ps_set (i := 5) sc_law.nd rfl (.inl rfl) (pe_tup (pa_cons pe_int (pa_cons pe_str (pa_cons pe_int pa_nil))))))
      pss_nil))
      (pss_cons (ps_mk (ps_if (pt_not (pt_val (C8.pe_c c_short_right hr (by omega) (by rfl) (pa_cons (pe_lst (pa_cons (pe_tup (pa_cons pe_str (pa_cons (pv 3) (pa_cons (pv 4) pa_nil)))) (pa_cons (pe_tup (pa_cons pe_str (pa_cons (pv 3) (pa_cons (pv 5) pa_nil)))) (pa_cons (pe_tup (pa_cons pe_str (pa_cons (pv 3) (pa_cons pe_non pa_nil)))) (pa_cons (pe_tup (pa_cons pe_str (pa_cons (pv 3) pa_nil))) (pa_cons (pe_tup (pa_cons pe_str pa_nil)) pa_nil)))))) (pa_cons (pv 2) (pa_cons (pv 1) pa_nil))))))
      (pss_one (ps_ret pe_bl))
      pss_nil))
      (pss_cons (ps_set (i := 6) sc_law.nd rfl (.inl rfl) (pe_callTy (listQ K rfl) (by rfl) T.list (by decide +kernel) (pa_cons (pv 1) pa_nil)))
      (pss_cons (ps_set (i := 7) sc_law.nd rfl (.inl rfl) (C8.pe_c c_unsafe_trace hr (by omega) (by rfl) (pa_cons (pv 6) (pa_cons (pv 2) pa_nil))))
      (pss_cons (ps_mk (ps_if (PW.pt (pw_or (pt_not (pt_val (C8.pe_c c_shows hr (by omega) (by rfl) (pa_cons (pv 7) (pa_cons (pv 2) (pa_cons (pv 1) pa_nil)))))) (pw_or1 (pt_not (pt_val (C8.pe_c c_same hr (by omega) (by rfl) (pa_cons (pv 6) (pa_cons (pv 1) pa_nil))))))))
      (pss_one (ps_ret pe_bl))
      pss_nil))
      (pss_cons (ps_mk (ps_if (pt_cmpR op_notN (pv 7) pe_non (nomark _))
      (pss_cons (ps_expr (pe_bm PySem.F.plainAttrs_list PySem.F.slot_list_append PySem.F.type_list_append mt_append (pv 7) (pa_cons (pe_tup (pa_cons pe_str pa_nil)) pa_nil)))
      (pss_one (ps_asg (pe_tup (pa_cons pe_str (pa_cons (pv 3) pa_nil))) (pg_sub (pv 7) pe_int set_list))))
      pss_nil))
      (pss_cons (ps_mk (ps_for PassesOwn.never rfl (pi_list (pe_ix (ixL K rfl) (pe_lst (pa_cons (pe_lst (pa_cons pe_str (pa_cons pe_str (pa_cons pe_str pa_nil)))) (pa_cons (pe_lst (pa_cons pe_str (pa_cons pe_str (pa_cons pe_str pa_nil)))) pa_nil))) (C8.pe_c c_number hr (by omega) (by rfl) (pa_cons (pv 0) (pa_cons pe_int (pa_cons pe_int (pa_cons pe_int pa_nil))))) (fun _ _ => rfl))) (pg_name (i := 8) sc_law.nd rfl (.inl rfl))
      (pss_cons (ps_mk (ps_if (PW.pt (pw_or (pt_not (pt_val (C8.pe_c c_shows hr (by omega) (by rfl) (pa_cons (C8.pe_c c_unsafe_trace hr (by omega) (by rfl) (pa_cons (pv 6) (pa_cons (pv 2) pa_nil))) (pa_cons (pv 2) (pa_cons (pv 1) pa_nil)))))) (pw_or1 (pt_not (pt_val (C8.pe_c c_same hr (by omega) (by rfl) (pa_cons (pv 6) (pa_cons (pv 1) pa_nil))))))))
      (pss_one (ps_ret pe_bl))
      pss_nil))
      (pss_cons (ps_expr (pe_bm PySem.F.plainAttrs_list PySem.F.slot_list_append PySem.F.type_list_append mt_append (pv 6) (pa_cons (pv 8) pa_nil)))
      (pss_one (ps_expr (pe_bm PySem.F.plainAttrs_list PySem.F.slot_list_append PySem.F.type_list_append mt_append (pv 1) (pa_cons (pv 8) pa_nil))))))))
      (pss_one (ps_ret (pe_and (C8.pe_c c_shows hr (by omega) (by rfl) (pa_cons (C8.pe_c c_unsafe_trace hr (by omega) (by rfl) (pa_cons (pv 6) (pa_cons (pv 2) pa_nil))) (pa_cons (pv 2) (pa_cons (pv 1) pa_nil)))) (pe_one (C8.pe_c c_same hr (by omega) (by rfl) (pa_cons (pv 6) (pa_cons (pv 1) pa_nil)))))))))))))))))))), ?_⟩
  walk_at "go"
  refine ⟨_, _, _, _, rfl, hS, hl, by omega, by omega, by omega, by omega, fun L ss H1 s1 n1 g1 l1 => ?_⟩
  have hS1 := s1.seq hS
  walk_at "go"
  refine ⟨sz, fun p0 np0 => ?_⟩
  have s2 := s1.trans (same_upd (o := HO.lst [V.int 1, V.int 2, V.int 3, V.int 2, V.int 1, V.int 4, V.int 0]) np0)
  have g2 := same_upd (o := HO.lst [V.int 1, V.int 2, V.int 3, V.int 2, V.int 1, V.int 4, V.int 0]) np0 _ _ g1
  have gp := SqL.of (K := K) (upd_same (H := H1) (a := p0) (o := HO.lst [V.int 1, V.int 2, V.int 3, V.int 2, V.int 1, V.int 4, V.int 0]))
  generalize upd H1 p0 (HO.lst [V.int 1, V.int 2, V.int 3, V.int 2, V.int 1, V.int 4, V.int 0]) = H2 at *
  have hS2 := s2.seq hS
  clear hS1
  have y0 : 0 ≤ num ns 0 11 7 := num_nn (by decide)
  have y1 : num ns 0 11 7 < 7 := num_lt (by decide)
  obtain ⟨z, hz, z0, z1⟩ := size7 (num ns 0 11 7) y0 y1
  walk_at "go"
  refine ⟨_, _, _, _, rfl, rfl, gp, hz, ?_⟩
  walk_at "go"
  refine jn (M := fun σ H' => ∃ z, 0 ≤ z ∧ z ≤ 1000 ∧ H' = H2 ∧ σ = [sR a, sR L, sI z, none, none, none, none, none, none]) ?_ (fun N kk => ?_)
  rotate_left
  · walk_at "go"
    refine ifEq (fun c => ?_) (fun c => ?_)
    · have u0 : 0 ≤ num ns 0 1 60 := num_nn (by decide)
      have u1 : num ns 0 1 60 < 60 := num_lt (by decide)
      walk_at "go"
      exact kk _ _ ⟨_, by omega, by omega, rfl, rfl⟩
    · walk_at "go"
      exact kk _ _ ⟨_, z0, by omega, rfl, rfl⟩
  clear gp hz z0 z1 y0 y1 z np0
  rintro σ H3 ⟨z, z0, z1, rfl, rfl⟩
  walk_at "go"
  refine ⟨_, _, _, _, rfl, hS2, hl, by omega, by omega, by omega, by omega, fun v1 d1 H4 s4 h1 o1 => ?_⟩
  have s3 := s2.trans s4
  have hS3 := s3.seq hS
  have g3 := s4 _ _ g2
  clear hS2 g2 s4
  walk_at "go"
  refine ⟨_, _, _, _, rfl, hS3, hl, by omega, by omega, by omega, by omega, fun v2 d2 H5 s5 h2 o2 => ?_⟩
  have h1 := Dh.mono s5 _ _ h1
  have s3 := s3.trans s5
  have hS3 := s3.seq hS
  have g3 := s5 _ _ g3
  clear s5
  walk_at "go"
  refine ⟨_, _, _, _, rfl, hS3, hl, by omega, by omega, by omega, by omega, fun v3 d3 H6 s6 h3 o3 => ?_⟩
  have h1 := Dh.mono s6 _ _ h1
  have h2 := Dh.mono s6 _ _ h2
  have s3 := s3.trans s6
  have hS3 := s3.seq hS
  have g3 := s6 _ _ g3
  clear s6
  walk_at "go"
  refine jn (M := fun σ H' => ∃ v3 d3, Same H6 H' ∧ Dh H' d3 v3 ∧ Thing d3 ∧ σ = [sR a, sR L, sI z, some v1, some v2, some v3, none, none, none]) ?_ (fun N kk => ?_)
  rotate_left
  · walk_at "go"
    refine ⟨v2, v3, d2, d3, rfl, h2, h3, dle4_opt (.inr o3), fun bo H7 hb s7 => ?_⟩
    have h3 := Dh.mono s7 _ _ h3
    cases bo with
    | true =>
      walk_at "go"
      refine ⟨sz, fun p np => ?_⟩
      exact kk _ _ ⟨.ref p, .tuple [.int 3, .str "ab", .int 4], s7.trans (same_upd np), ⟨p, _, rfl, upd_same, _, _, rfl, rfl, _, _, rfl, rfl, _, _, rfl, rfl, rfl⟩, ⟨by simp, by simp [Flat1, okk_ab]⟩, rfl⟩
    | false =>
      walk_at "go"
      exact kk _ _ ⟨v3, d3, s7, h3, o3, rfl⟩
  clear h3 o3 d3 v3
  rintro σ H7 ⟨v3, d3, s7, h3, o3, rfl⟩
  have h1 := Dh.mono s7 _ _ h1
  have h2 := Dh.mono s7 _ _ h2
  have s3 := s3.trans s7
  have hS3 := s3.seq hS
  have g3 := s7 _ _ g3
  clear s7
  walk_at "go"
  -- the short traces
  refine jn (M := fun σ H' => Same H7 H' ∧ σ = [sR a, sR L, sI z, some v1, some v2, some v3, none, none, none]) ?_ (fun N kk => ?_)
  rotate_left
  · walk_at "go"
    refine ⟨sz, fun p1 n1 => ?_⟩
    have e1 := same_upd (o := HO.tup [V.str "set", v1, v2]) n1
    walk_at "go"
    refine ⟨sz, fun p2 n2 => ?_⟩
    have e2 := same_upd (o := HO.tup [V.str "set", v1, v3]) n2
    walk_at "go"
    refine ⟨sz, fun p3 n3 => ?_⟩
    have e3 := same_upd (o := HO.tup [V.str "set", v1, V.non]) n3
    walk_at "go"
    refine ⟨sz, fun p4 n4 => ?_⟩
    have e4 := same_upd (o := HO.tup [V.str "touch", v1]) n4
    walk_at "go"
    refine ⟨sz, fun p5 n5 => ?_⟩
    have e5 := same_upd (o := HO.tup [V.str "flush"]) n5
    walk_at "go"
    refine ⟨sz, fun el ne => ?_⟩
    have e6 := same_upd (o := HO.lst [V.ref p1, V.ref p2, V.ref p3, V.ref p4, V.ref p5]) ne
    have e56 := e5.trans e6
    have e46 := e4.trans e56
    have e36 := e3.trans e46
    have e16 := e1.trans (e2.trans e36)
    walk_at "go"
    refine ⟨el, L, [p1, p2, p3, p4, p5], ss, z, d1, [.set d2, .set d3, .set .none, .touch, .flush], rfl, o1, EvsAt.tr ⟨?_, .inr o2, ?_, .inr o3, ?_, .inl rfl, ?_, trivial, ?_, trivial, trivial⟩ upd_same (by show (5 : Nat) ≤ 100; decide), e16 _ _ g3, z0, z1, fun H8 s8 => ?_⟩
    · exact ⟨_, _, e6 _ _ (e5 _ _ (e4 _ _ (e3 _ _ (e2 _ _ upd_same)))), Dh.mono e16 _ _ h1, Dh.mono e16 _ _ h2⟩
    · exact ⟨_, _, e36 _ _ upd_same, Dh.mono e16 _ _ h1, Dh.mono e16 _ _ h3⟩
    · exact ⟨_, _, e46 _ _ upd_same, Dh.mono e16 _ _ h1, rfl⟩
    · exact ⟨_, e56 _ _ upd_same, Dh.mono e16 _ _ h1⟩
    · exact e6 _ _ upd_same
    · walk_at "go"
      exact kk _ _ ⟨e16.trans s8, rfl⟩
  rintro σ H8 ⟨s8, rfl⟩
  have h1 := Dh.mono s8 _ _ h1
  have s3 := s3.trans s8
  have hS3 := s3.seq hS
  have g3 := s8 _ _ g3
  clear s8 h2 h3
  walk_at "go"
  intro G nG
  have nL : H L = none := n1
  have nG0 : H G = none := s3.free nG
  have gL := same_upd (o := HO.lst (ss.map V.str)) nG _ _ g3
  have gG := upd_same (H := H8) (a := G) (o := HO.lst (ss.map V.str))
  have hLG : L ≠ G := ne_of_none g3 nG
  have h1 := Dh.mono (same_upd (o := HO.lst (ss.map V.str)) nG) _ _ h1
  have s3 := s3.trans (same_upd (o := HO.lst (ss.map V.str)) nG)
  have hS3 := s3.seq hS
  generalize upd H8 G (HO.lst (ss.map V.str)) = H9 at *
  clear g3 nG
  walk_at "go"
  refine ⟨G, ss, z, rfl, gG, fun x H10 s10 hx => ?_⟩
  have gG' := s10 _ _ gG
  have gL' := s10 _ _ gL
  have h1' := Dh.mono s10 _ _ h1
  have s310 := s3.trans s10
  walk_at "go"
  refine jn (M := fun σ H' => Same H10 H' ∧ σ = [sR a, sR L, sI z, some v1, some v2, some v3, sR G, some x, none]) ?_ (fun N kk => ?_)
  rotate_left
  · walk_at "go"
    refine ⟨x, L, ss, z, rfl, gL', z0, z1, hx.imp id (fun y => ⟨y.1, y.2.choose, y.2.choose_spec.choose, y.2.choose_spec.choose_spec.1, y.2.choose_spec.choose_spec.2.2⟩), fun H11 s11 => ?_⟩
    walk_at "go"
    refine ⟨_, _, .list (ss.map PyData.str), .list (ss.map PyData.str), rfl, ⟨G, _, rfl, s11 _ _ gG', dh_strs ss⟩, ⟨L, _, rfl, s11 _ _ gL', dh_strs ss⟩, dle4_strs (by omega), fun bo H12 hb s12 => ?_⟩
    obtain rfl : bo = true := hb.mpr rfl
    walk_at "go"
    exact kk _ _ ⟨s11.trans s12, rfl⟩
  rintro σ H11 ⟨s11, rfl⟩
  walk_at "go"
  have s911 := s10.trans s11
  refine jn (M := fun σ H' => Same H9 H' ∧ ∃ y7, σ = [sR a, sR L, sI z, some v1, some v2, some v3, sR G, y7, none]) ?_ (fun N kk => ?_)
  rotate_left
  · rcases hx with ⟨_, rfl⟩ | ⟨_, r, as, rfl, nr, hT⟩
    · walk_at "go"
      exact kk _ _ ⟨s911, _, rfl⟩
    · have hn : as.length = 4 := hT.n
      obtain ⟨a1, a2, a3, a4, rfl⟩ : ∃ a1 a2 a3 a4, as = [a1, a2, a3, a4] := by
        rcases as with _ | ⟨a1, _ | ⟨a2, _ | ⟨a3, _ | ⟨a4, _ | ⟨a5, t⟩⟩⟩⟩⟩
        · cases hn
        · cases hn
        · cases hn
        · cases hn
        · exact ⟨_, _, _, _, rfl⟩
        · simp at hn
      have gr : H11 r = some (.lst [.ref a1, .ref a2, .ref a3, .ref a4]) := s11 _ _ hT.l
      walk_at "go"
      refine ⟨sz, fun p np => ?_⟩
      have e1 := same_upd (o := HO.tup [V.str "flush"]) np
      have gr1 := e1 _ _ gr
      walk_at "go"
      refine ⟨_, _, _, rfl, rfl, gr1, sz5 (by show (4 : Nat) ≤ 1000000; decide), ?_⟩
      have e2 := same_put (o := HO.lst ([V.ref a1, V.ref a2, V.ref a3, V.ref a4] ++ [V.ref p])) (s911.trans e1) nr
      have gr2 := upd_same (H := upd H11 p (HO.tup [V.str "flush"])) (a := r) (o := HO.lst ([V.ref a1, V.ref a2, V.ref a3, V.ref a4] ++ [V.ref p]))
      walk_at "go"
      refine ⟨sz, fun p2 np2 => ?_⟩
      have e3 := same_upd (o := HO.tup [V.str "touch", v1]) np2
      have gr3 := e3 _ _ gr2
      walk_at "go"
      refine ⟨r, _, 0, 0, rfl, rfl, gr3, rfl, ?_⟩
      walk_at "go"
      exact kk _ _ ⟨same_put (e2.trans e3) nr, _, rfl⟩
  clear hx gG' gL' h1' s310 s11 s911 s10
  rintro σ H12 ⟨s12, y7, rfl⟩
  have gG := s12 _ _ gG
  have gL := s12 _ _ gL
  have s3 := s3.trans s12
  have hS3 := s3.seq hS
  clear s12 h1
  walk_at "go"
  refine jn (M := fun σ H' => Same H H' ∧ ∃ (ss : List Str) (y7 y8 : Option V), ss.length ≤ 8 ∧ H' G = some (.lst (ss.map V.str)) ∧ H' L = some (.lst (ss.map V.str)) ∧ σ = [sR a, sR L, sI z, some v1, some v2, some v3, sR G, y7, y8]) ?_ (fun N kk => ?_)
  · clear gG gL l1 s3 hS3
    rintro σ H13 ⟨s13, ss, y7, y8, l1, gG, gL, rfl⟩
    walk_at "go"
    refine ⟨G, ss, z, rfl, gG, fun x H14 s14 hx => ?_⟩
    have gG := s14 _ _ gG
    have gL := s14 _ _ gL
    walk_at "go"
    refine ⟨x, L, ss, z, rfl, gL, z0, z1, hx.imp id (fun y => ⟨y.1, y.2.choose, y.2.choose_spec.choose, y.2.choose_spec.choose_spec.1, y.2.choose_spec.choose_spec.2.2⟩), fun H15 s15 => ?_⟩
    walk_at "go"
    refine ⟨_, _, .list (ss.map PyData.str), .list (ss.map PyData.str), rfl, ⟨G, _, rfl, s15 _ _ gG, dh_strs ss⟩, ⟨L, _, rfl, s15 _ _ gL, dh_strs ss⟩, dle4_strs (by omega), fun bo H16 hb s16 => ?_⟩
    obtain rfl : bo = true := hb.mpr rfl
    walk_at "go"
    exact q _
  walk_at "go"
  refine ⟨sz, fun W0 n0 => ?_⟩
  walk_at "go"
  refine ⟨sz, fun W1 n1 => ?_⟩
  walk_at "go"
  refine ⟨sz, fun W2 n2 => ?_⟩
  have e0 := same_upd (o := HO.lst [V.str "loss", V.str "gain", V.str "move"]) n0
  have e1 := same_upd (o := HO.lst [V.str "move", V.str "gain", V.str "loss"]) n1
  have e2 := same_upd (o := HO.lst [V.ref W0, V.ref W1]) n2
  have l2 := SqL.of (K := K) (H := upd (upd (upd H12 W0 (HO.lst [V.str "loss", V.str "gain", V.str "move"])) W1 (HO.lst [V.str "move", V.str "gain", V.str "loss"])) W2 (HO.lst [V.ref W0, V.ref W1])) upd_same
  have k0 : 0 ≤ num ns 0 0 2 := num_nn (by decide)
  have k1 : num ns 0 0 2 < 2 := num_lt (by decide)
  obtain ⟨Wd, ws, hat, gW, lW, hWG, hWL⟩ : ∃ (Wd : Addr) (ws : List Str), atI [V.ref W0, V.ref W1] (num ns 0 0 2) = some (.ref Wd) ∧ (upd (upd (upd H12 W0 (HO.lst [V.str "loss", V.str "gain", V.str "move"])) W1 (HO.lst [V.str "move", V.str "gain", V.str "loss"])) W2 (HO.lst [V.ref W0, V.ref W1])) Wd = some (.lst (ws.map V.str)) ∧ ws.length = 3 ∧ G ≠ Wd ∧ L ≠ Wd := by
    have h : num ns 0 0 2 = 0 ∨ num ns 0 0 2 = 1 := by omega
    rcases h with e | e
    · exact ⟨W0, ["loss", "gain", "move"], by rw [e]; rfl, e2 _ _ (e1 _ _ upd_same), rfl, ne_of_none gG n0, ne_of_none gL n0⟩
    · exact ⟨W1, ["move", "gain", "loss"], by rw [e]; rfl, e2 _ _ upd_same, rfl, ne_of_none (e0 _ _ gG) n1, ne_of_none (e0 _ _ gL) n1⟩
  have s3 := s3.trans (e0.trans (e1.trans e2))
  have hS3 := s3.seq hS
  have gG := e2 _ _ (e1 _ _ (e0 _ _ gG))
  have gL := e2 _ _ (e1 _ _ (e0 _ _ gL))
  generalize upd (upd (upd H12 W0 (HO.lst [V.str "loss", V.str "gain", V.str "move"])) W1 (HO.lst [V.str "move", V.str "gain", V.str "loss"])) W2 (HO.lst [V.ref W0, V.ref W1]) = H13 at *
  clear e0 e1 e2 n0 n1 n2
  walk_at "go"
  refine ⟨_, _, _, _, rfl, rfl, l2, hat, ?_⟩
  refine ⟨Wd, rfl, ⟨_, SqL.of gW⟩, for_list (K := K) (a := Wd) (xs := ws.map V.str) (fun i σ H' => Ob (Same H H' ∧ H' Wd = some (.lst (ws.map V.str)) ∧ ∃ (ss : List Str) (y7 y8 : Option V), ss.length ≤ 5 + i ∧ H' G = some (.lst (ss.map V.str)) ∧ H' L = some (.lst (ss.map V.str)) ∧ σ = [sR a, sR L, sI z, some v1, some v2, some v3, sR G, y7, y8])) (ob ⟨s3, gW, ss, y7, none, l1, gG, gL, rfl⟩) ?_ ?_ ?_⟩
  · intro i σ H' hi h
    exact SqL.of (unob h).2.1
  · clear gG gL l1 s3 hS3 gW l2
    intro i x σ H' hi h
    obtain ⟨s12, gW, ss, y7, y8, lss, gG, gL, rfl⟩ := unob h
    clear kk h
    have hi3 : i < (ws.map V.str).length := (List.getElem?_eq_some_iff.mp hi).1
    rw [List.length_map, lW] at hi3
    obtain ⟨u, rfl⟩ : ∃ u, x = V.str u := by
      rw [List.getElem?_map] at hi
      cases e : ws[i]? with
      | none =>
        rw [e] at hi
        cases hi
      | some u =>
        rw [e] at hi
        exact ⟨u, (Option.some.inj hi).symm⟩
    walk_at "go"
    refine jn (M := fun σ H2 => Same H' H2 ∧ σ = [sR a, sR L, sI z, some v1, some v2, some v3, sR G, y7, sS u]) ?_ (fun N kk => ?_)
    rotate_left
    · walk_at "go"
      refine ⟨G, ss, z, rfl, gG, fun x H14 s14 hx => ?_⟩
      have gG := s14 _ _ gG
      have gL := s14 _ _ gL
      walk_at "go"
      refine ⟨x, L, ss, z, rfl, gL, z0, z1, hx.imp id (fun y => ⟨y.1, y.2.choose, y.2.choose_spec.choose, y.2.choose_spec.choose_spec.1, y.2.choose_spec.choose_spec.2.2⟩), fun H15 s15 => ?_⟩
      walk_at "go"
      refine ⟨_, _, .list (ss.map PyData.str), .list (ss.map PyData.str), rfl, ⟨G, _, rfl, s15 _ _ gG, dh_strs ss⟩, ⟨L, _, rfl, s15 _ _ gL, dh_strs ss⟩, dle4_strs (by omega), fun bo H16 hb s16 => ?_⟩
      obtain rfl : bo = true := hb.mpr rfl
      walk_at "go"
      exact kk _ _ ⟨s14.trans (s15.trans s16), rfl⟩
    rintro σ H2 ⟨s2, rfl⟩
    have s12 := s12.trans s2
    have gW := s2 _ _ gW
    have gG := s2 _ _ gG
    have gL := s2 _ _ gL
    clear s2
    walk_at "go"
    refine ⟨_, _, _, rfl, rfl, gG, sz5 (by rw [List.length_map]; omega), ?_⟩
    have gL2 : (upd H2 G (HO.lst (ss.map V.str ++ [V.str u]))) L = some (.lst (ss.map V.str)) := by rw [upd_ne hLG]; exact gL
    walk_at "go"
    refine ⟨_, _, _, rfl, rfl, gL2, sz5 (by rw [List.length_map]; omega), ?_⟩
    have em : ss.map V.str ++ [V.str u] = (ss ++ [u]).map V.str := by rw [List.map_append]; rfl
    have gL3 := upd_same (H := upd H2 G (HO.lst (ss.map V.str ++ [V.str u]))) (a := L) (o := HO.lst (ss.map V.str ++ [V.str u]))
    have gG3 : (upd (upd H2 G (HO.lst (ss.map V.str ++ [V.str u]))) L (HO.lst (ss.map V.str ++ [V.str u]))) G = some (.lst (ss.map V.str ++ [V.str u])) := by
      rw [upd_ne hLG.symm]
      exact upd_same
    have gW3 : (upd (upd H2 G (HO.lst (ss.map V.str ++ [V.str u]))) L (HO.lst (ss.map V.str ++ [V.str u]))) Wd = some (.lst (ws.map V.str)) := by
      rw [upd_ne hWL.symm, upd_ne hWG.symm]
      exact gW
    have s13 := same_put (o := HO.lst (ss.map V.str ++ [V.str u])) (same_put (o := HO.lst (ss.map V.str ++ [V.str u])) s12 nG0) nL
    generalize upd (upd H2 G (HO.lst (ss.map V.str ++ [V.str u]))) L (HO.lst (ss.map V.str ++ [V.str u])) = H14 at *
    rw [em] at gL3 gG3
    have lss2 : (ss ++ [u]).length ≤ 5 + (i + 1) := by
      rw [List.length_append]
      show ss.length + 1 ≤ _
      omega
    walk_at "go"
    exact ob ⟨s13, gW3, ss ++ [u], _, _, lss2, gG3, gL3, rfl⟩
  · intro σ H' h
    obtain ⟨s12, gW, ss, y7, y8, lss, gG, gL, rfl⟩ := unob h
    rw [List.length_map, lW] at lss
    exact kk _ _ ⟨s12, ss, y7, y8, lss, gG, gL, rfl⟩
end

end

theorem all_mk {l : PySem.W.OpenLaw} {w : World} {K : PySem.W.Frag} {h : Heap} {mg : Str → Option Value} {fa : Addr} (X : K.In h) (G : h.Ns mainGlobals mg) (hfa : mg "law" = some (.ref fa))
    {C : Addr} (aC : PySem.W.nsIn K mainGlobals "Cache" = some (some (.ref C)))
    {od_m_init an_m_init : Option Addr} {sl_m_init : Array (Option Value)} {f_m_init : Addr} {oc_m_init kV_m_init dc_m_init pm_m_init cd_m_init ct_m_init : Value}
    (a_m_init : PySem.W.findIn K (.ref C) "__init__" = some (some (.ref f_m_init))) (i_m_init : PySem.W.isFn K (.ref f_m_init) = true)
    (l_m_init : K.lookup f_m_init = some ⟨oc_m_init, od_m_init, .func (PySem.W.fnOf "__init__" "Cache.__init__" (C8.fnArgs s_Cache___init__) (C8.fnBody s_Cache___init__) (C8.fnScope s_Cache___init__) .none kV_m_init dc_m_init pm_m_init an_m_init cd_m_init ct_m_init), sl_m_init⟩)
    (c_m_init : PySem.W.codeIn K cd_m_init "Cache.__init__" = true) (k_m_init : PySem.W.keepIn K (.ref f_m_init) = true)
    {od_m_look an_m_look : Option Addr} {sl_m_look : Array (Option Value)} {f_m_look : Addr} {oc_m_look kV_m_look dc_m_look pm_m_look cd_m_look ct_m_look : Value}
    (a_m_look : PySem.W.findIn K (.ref C) "look" = some (some (.ref f_m_look))) (i_m_look : PySem.W.isFn K (.ref f_m_look) = true)
    (l_m_look : K.lookup f_m_look = some ⟨oc_m_look, od_m_look, .func (PySem.W.fnOf "look" "Cache.look" (C8.fnArgs s_Cache_look) (C8.fnBody s_Cache_look) (C8.fnScope s_Cache_look) .none kV_m_look dc_m_look pm_m_look an_m_look cd_m_look ct_m_look), sl_m_look⟩)
    (c_m_look : PySem.W.codeIn K cd_m_look "Cache.look" = true) (k_m_look : PySem.W.keepIn K (.ref f_m_look) = true)
    {od_m_fill an_m_fill : Option Addr} {sl_m_fill : Array (Option Value)} {f_m_fill : Addr} {oc_m_fill kV_m_fill dc_m_fill pm_m_fill cd_m_fill ct_m_fill : Value}
    (a_m_fill : PySem.W.findIn K (.ref C) "fill" = some (some (.ref f_m_fill))) (i_m_fill : PySem.W.isFn K (.ref f_m_fill) = true)
    (l_m_fill : K.lookup f_m_fill = some ⟨oc_m_fill, od_m_fill, .func (PySem.W.fnOf "fill" "Cache.fill" (C8.fnArgs s_Cache_fill) (C8.fnBody s_Cache_fill) (C8.fnScope s_Cache_fill) .none kV_m_fill dc_m_fill pm_m_fill an_m_fill cd_m_fill ct_m_fill), sl_m_fill⟩)
    (c_m_fill : PySem.W.codeIn K cd_m_fill "Cache.fill" = true) (k_m_fill : PySem.W.keepIn K (.ref f_m_fill) = true)
    {od_m_drop an_m_drop : Option Addr} {sl_m_drop : Array (Option Value)} {f_m_drop : Addr} {oc_m_drop kV_m_drop dc_m_drop pm_m_drop cd_m_drop ct_m_drop : Value}
    (a_m_drop : PySem.W.findIn K (.ref C) "drop" = some (some (.ref f_m_drop))) (i_m_drop : PySem.W.isFn K (.ref f_m_drop) = true)
    (l_m_drop : K.lookup f_m_drop = some ⟨oc_m_drop, od_m_drop, .func (PySem.W.fnOf "drop" "Cache.drop" (C8.fnArgs s_Cache_drop) (C8.fnBody s_Cache_drop) (C8.fnScope s_Cache_drop) .none kV_m_drop dc_m_drop pm_m_drop an_m_drop cd_m_drop ct_m_drop), sl_m_drop⟩)
    (c_m_drop : PySem.W.codeIn K cd_m_drop "Cache.drop" = true) (k_m_drop : PySem.W.keepIn K (.ref f_m_drop) = true)
    {od_m_clear_all an_m_clear_all : Option Addr} {sl_m_clear_all : Array (Option Value)} {f_m_clear_all : Addr} {oc_m_clear_all kV_m_clear_all dc_m_clear_all pm_m_clear_all cd_m_clear_all ct_m_clear_all : Value}
    (a_m_clear_all : PySem.W.findIn K (.ref C) "clear_all" = some (some (.ref f_m_clear_all))) (i_m_clear_all : PySem.W.isFn K (.ref f_m_clear_all) = true)
    (l_m_clear_all : K.lookup f_m_clear_all = some ⟨oc_m_clear_all, od_m_clear_all, .func (PySem.W.fnOf "clear_all" "Cache.clear_all" (C8.fnArgs s_Cache_clear_all) (C8.fnBody s_Cache_clear_all) (C8.fnScope s_Cache_clear_all) .none kV_m_clear_all dc_m_clear_all pm_m_clear_all an_m_clear_all cd_m_clear_all ct_m_clear_all), sl_m_clear_all⟩)
    (c_m_clear_all : PySem.W.codeIn K cd_m_clear_all "Cache.clear_all" = true) (k_m_clear_all : PySem.W.keepIn K (.ref f_m_clear_all) = true)
    (pg : PySem.W.plainGet K C Str.empty = true) (hd : PySem.W.hasDictIn K C = true) (po : PySem.W.plainOver K C = true) (sa : PySem.W.findIn K (.ref C) "__setattr__" = some (some (.builtin "object.__setattr__"))) (mk : PySem.W.makesIn K C = true) (kc : PySem.W.keepIn K (.ref C) = true)
    (nC : PySem.W.findIn K (.ref C) "_capacity" = some none) (nE : PySem.W.findIn K (.ref C) "_entries" = some none)
    {od_change_kind an_change_kind : Option Addr} {sl_change_kind : Array (Option Value)} {f_change_kind : Addr} {oc_change_kind kV_change_kind dc_change_kind pm_change_kind cd_change_kind ct_change_kind : Value}
    (a_change_kind : PySem.W.nsIn K mainGlobals "change_kind" = some (some (.ref f_change_kind)))
    (l_change_kind : K.lookup f_change_kind = some ⟨oc_change_kind, od_change_kind, .func (PySem.W.fnOf "change_kind" "change_kind" (C8.fnArgs s_change_kind) (C8.fnBody s_change_kind) (C8.fnScope s_change_kind) .none kV_change_kind dc_change_kind pm_change_kind an_change_kind cd_change_kind ct_change_kind), sl_change_kind⟩)
    (c_change_kind : PySem.W.codeIn K cd_change_kind "change_kind" = true) (k_change_kind : PySem.W.keepIn K (.ref f_change_kind) = true)
    {od_play_trace an_play_trace : Option Addr} {sl_play_trace : Array (Option Value)} {f_play_trace : Addr} {oc_play_trace kV_play_trace dc_play_trace pm_play_trace cd_play_trace ct_play_trace : Value}
    (a_play_trace : PySem.W.nsIn K mainGlobals "play_trace" = some (some (.ref f_play_trace)))
    (l_play_trace : K.lookup f_play_trace = some ⟨oc_play_trace, od_play_trace, .func (PySem.W.fnOf "play_trace" "play_trace" (C8.fnArgs s_play_trace) (C8.fnBody s_play_trace) (C8.fnScope s_play_trace) .none kV_play_trace dc_play_trace pm_play_trace an_play_trace cd_play_trace ct_play_trace), sl_play_trace⟩)
    (c_play_trace : PySem.W.codeIn K cd_play_trace "play_trace" = true) (k_play_trace : PySem.W.keepIn K (.ref f_play_trace) = true)
    {od_is_safe an_is_safe : Option Addr} {sl_is_safe : Array (Option Value)} {f_is_safe : Addr} {oc_is_safe kV_is_safe dc_is_safe pm_is_safe cd_is_safe ct_is_safe : Value}
    (a_is_safe : PySem.W.nsIn K mainGlobals "is_safe" = some (some (.ref f_is_safe)))
    (l_is_safe : K.lookup f_is_safe = some ⟨oc_is_safe, od_is_safe, .func (PySem.W.fnOf "is_safe" "is_safe" (C8.fnArgs s_is_safe) (C8.fnBody s_is_safe) (C8.fnScope s_is_safe) .none kV_is_safe dc_is_safe pm_is_safe an_is_safe cd_is_safe ct_is_safe), sl_is_safe⟩)
    (c_is_safe : PySem.W.codeIn K cd_is_safe "is_safe" = true) (k_is_safe : PySem.W.keepIn K (.ref f_is_safe) = true)
    {od_unsafe_trace an_unsafe_trace : Option Addr} {sl_unsafe_trace : Array (Option Value)} {f_unsafe_trace : Addr} {oc_unsafe_trace kV_unsafe_trace dc_unsafe_trace pm_unsafe_trace cd_unsafe_trace ct_unsafe_trace : Value}
    (a_unsafe_trace : PySem.W.nsIn K mainGlobals "unsafe_trace" = some (some (.ref f_unsafe_trace)))
    (l_unsafe_trace : K.lookup f_unsafe_trace = some ⟨oc_unsafe_trace, od_unsafe_trace, .func (PySem.W.fnOf "unsafe_trace" "unsafe_trace" (C8.fnArgs s_unsafe_trace) (C8.fnBody s_unsafe_trace) (C8.fnScope s_unsafe_trace) .none kV_unsafe_trace dc_unsafe_trace pm_unsafe_trace an_unsafe_trace cd_unsafe_trace ct_unsafe_trace), sl_unsafe_trace⟩)
    (c_unsafe_trace : PySem.W.codeIn K cd_unsafe_trace "unsafe_trace" = true) (k_unsafe_trace : PySem.W.keepIn K (.ref f_unsafe_trace) = true)
    {od_set_value an_set_value : Option Addr} {sl_set_value : Array (Option Value)} {f_set_value : Addr} {oc_set_value kV_set_value dc_set_value pm_set_value cd_set_value ct_set_value : Value}
    (a_set_value : PySem.W.nsIn K mainGlobals "_set_value" = some (some (.ref f_set_value)))
    (l_set_value : K.lookup f_set_value = some ⟨oc_set_value, od_set_value, .func (PySem.W.fnOf "_set_value" "_set_value" (C8.fnArgs s_set_value) (C8.fnBody s_set_value) (C8.fnScope s_set_value) .none kV_set_value dc_set_value pm_set_value an_set_value cd_set_value ct_set_value), sl_set_value⟩)
    (c_set_value : PySem.W.codeIn K cd_set_value "_set_value" = true) (k_set_value : PySem.W.keepIn K (.ref f_set_value) = true)
    {od_touch an_touch : Option Addr} {sl_touch : Array (Option Value)} {f_touch : Addr} {oc_touch kV_touch dc_touch pm_touch cd_touch ct_touch : Value}
    (a_touch : PySem.W.nsIn K mainGlobals "touch" = some (some (.ref f_touch)))
    (l_touch : K.lookup f_touch = some ⟨oc_touch, od_touch, .func (PySem.W.fnOf "touch" "touch" (C8.fnArgs s_touch) (C8.fnBody s_touch) (C8.fnScope s_touch) .none kV_touch dc_touch pm_touch an_touch cd_touch ct_touch), sl_touch⟩)
    (c_touch : PySem.W.codeIn K cd_touch "touch" = true) (k_touch : PySem.W.keepIn K (.ref f_touch) = true)
    {od_number an_number : Option Addr} {sl_number : Array (Option Value)} {f_number : Addr} {oc_number kV_number dc_number pm_number cd_number ct_number : Value}
    (a_number : PySem.W.nsIn K mainGlobals "_law_number" = some (some (.ref f_number)))
    (l_number : K.lookup f_number = some ⟨oc_number, od_number, .func (PySem.W.fnOf "_law_number" "_law_number" (C8.fnArgs s_number) (C8.fnBody s_number) (C8.fnScope s_number) .none kV_number dc_number pm_number an_number cd_number ct_number), sl_number⟩)
    (c_number : PySem.W.codeIn K cd_number "_law_number" = true) (k_number : PySem.W.keepIn K (.ref f_number) = true)
    {od_is_whole an_is_whole : Option Addr} {sl_is_whole : Array (Option Value)} {f_is_whole : Addr} {oc_is_whole kV_is_whole dc_is_whole pm_is_whole cd_is_whole ct_is_whole : Value}
    (a_is_whole : PySem.W.nsIn K mainGlobals "_law_is_whole" = some (some (.ref f_is_whole)))
    (l_is_whole : K.lookup f_is_whole = some ⟨oc_is_whole, od_is_whole, .func (PySem.W.fnOf "_law_is_whole" "_law_is_whole" (C8.fnArgs s_is_whole) (C8.fnBody s_is_whole) (C8.fnScope s_is_whole) .none kV_is_whole dc_is_whole pm_is_whole an_is_whole cd_is_whole ct_is_whole), sl_is_whole⟩)
    (c_is_whole : PySem.W.codeIn K cd_is_whole "_law_is_whole" = true) (k_is_whole : PySem.W.keepIn K (.ref f_is_whole) = true)
    {od_same an_same : Option Addr} {sl_same : Array (Option Value)} {f_same : Addr} {oc_same kV_same dc_same pm_same cd_same ct_same : Value}
    (a_same : PySem.W.nsIn K mainGlobals "_law_same" = some (some (.ref f_same)))
    (l_same : K.lookup f_same = some ⟨oc_same, od_same, .func (PySem.W.fnOf "_law_same" "_law_same" (C8.fnArgs s_same) (C8.fnBody s_same) (C8.fnScope s_same) .none kV_same dc_same pm_same an_same cd_same ct_same), sl_same⟩)
    (c_same : PySem.W.codeIn K cd_same "_law_same" = true) (k_same : PySem.W.keepIn K (.ref f_same) = true)
    {od_thing an_thing : Option Addr} {sl_thing : Array (Option Value)} {f_thing : Addr} {oc_thing kV_thing dc_thing pm_thing cd_thing ct_thing : Value}
    (a_thing : PySem.W.nsIn K mainGlobals "_law_thing" = some (some (.ref f_thing)))
    (l_thing : K.lookup f_thing = some ⟨oc_thing, od_thing, .func (PySem.W.fnOf "_law_thing" "_law_thing" (C8.fnArgs s_thing) (C8.fnBody s_thing) (C8.fnScope s_thing) .none kV_thing dc_thing pm_thing an_thing cd_thing ct_thing), sl_thing⟩)
    (c_thing : PySem.W.codeIn K cd_thing "_law_thing" = true) (k_thing : PySem.W.keepIn K (.ref f_thing) = true)
    {od_kept_find an_kept_find : Option Addr} {sl_kept_find : Array (Option Value)} {f_kept_find : Addr} {oc_kept_find kV_kept_find dc_kept_find pm_kept_find cd_kept_find ct_kept_find : Value}
    (a_kept_find : PySem.W.nsIn K mainGlobals "_law_kept_find" = some (some (.ref f_kept_find)))
    (l_kept_find : K.lookup f_kept_find = some ⟨oc_kept_find, od_kept_find, .func (PySem.W.fnOf "_law_kept_find" "_law_kept_find" (C8.fnArgs s_kept_find) (C8.fnBody s_kept_find) (C8.fnScope s_kept_find) .none kV_kept_find dc_kept_find pm_kept_find an_kept_find cd_kept_find ct_kept_find), sl_kept_find⟩)
    (c_kept_find : PySem.W.codeIn K cd_kept_find "_law_kept_find" = true) (k_kept_find : PySem.W.keepIn K (.ref f_kept_find) = true)
    {od_kept_look an_kept_look : Option Addr} {sl_kept_look : Array (Option Value)} {f_kept_look : Addr} {oc_kept_look kV_kept_look dc_kept_look pm_kept_look cd_kept_look ct_kept_look : Value}
    (a_kept_look : PySem.W.nsIn K mainGlobals "_law_kept_look" = some (some (.ref f_kept_look)))
    (l_kept_look : K.lookup f_kept_look = some ⟨oc_kept_look, od_kept_look, .func (PySem.W.fnOf "_law_kept_look" "_law_kept_look" (C8.fnArgs s_kept_look) (C8.fnBody s_kept_look) (C8.fnScope s_kept_look) .none kV_kept_look dc_kept_look pm_kept_look an_kept_look cd_kept_look ct_kept_look), sl_kept_look⟩)
    (c_kept_look : PySem.W.codeIn K cd_kept_look "_law_kept_look" = true) (k_kept_look : PySem.W.keepIn K (.ref f_kept_look) = true)
    {od_kept_fill an_kept_fill : Option Addr} {sl_kept_fill : Array (Option Value)} {f_kept_fill : Addr} {oc_kept_fill kV_kept_fill dc_kept_fill pm_kept_fill cd_kept_fill ct_kept_fill : Value}
    (a_kept_fill : PySem.W.nsIn K mainGlobals "_law_kept_fill" = some (some (.ref f_kept_fill)))
    (l_kept_fill : K.lookup f_kept_fill = some ⟨oc_kept_fill, od_kept_fill, .func (PySem.W.fnOf "_law_kept_fill" "_law_kept_fill" (C8.fnArgs s_kept_fill) (C8.fnBody s_kept_fill) (C8.fnScope s_kept_fill) .none kV_kept_fill dc_kept_fill pm_kept_fill an_kept_fill cd_kept_fill ct_kept_fill), sl_kept_fill⟩)
    (c_kept_fill : PySem.W.codeIn K cd_kept_fill "_law_kept_fill" = true) (k_kept_fill : PySem.W.keepIn K (.ref f_kept_fill) = true)
    {od_kept_drop an_kept_drop : Option Addr} {sl_kept_drop : Array (Option Value)} {f_kept_drop : Addr} {oc_kept_drop kV_kept_drop dc_kept_drop pm_kept_drop cd_kept_drop ct_kept_drop : Value}
    (a_kept_drop : PySem.W.nsIn K mainGlobals "_law_kept_drop" = some (some (.ref f_kept_drop)))
    (l_kept_drop : K.lookup f_kept_drop = some ⟨oc_kept_drop, od_kept_drop, .func (PySem.W.fnOf "_law_kept_drop" "_law_kept_drop" (C8.fnArgs s_kept_drop) (C8.fnBody s_kept_drop) (C8.fnScope s_kept_drop) .none kV_kept_drop dc_kept_drop pm_kept_drop an_kept_drop cd_kept_drop ct_kept_drop), sl_kept_drop⟩)
    (c_kept_drop : PySem.W.codeIn K cd_kept_drop "_law_kept_drop" = true) (k_kept_drop : PySem.W.keepIn K (.ref f_kept_drop) = true)
    {od_table_get an_table_get : Option Addr} {sl_table_get : Array (Option Value)} {f_table_get : Addr} {oc_table_get kV_table_get dc_table_get pm_table_get cd_table_get ct_table_get : Value}
    (a_table_get : PySem.W.nsIn K mainGlobals "_law_table_get" = some (some (.ref f_table_get)))
    (l_table_get : K.lookup f_table_get = some ⟨oc_table_get, od_table_get, .func (PySem.W.fnOf "_law_table_get" "_law_table_get" (C8.fnArgs s_table_get) (C8.fnBody s_table_get) (C8.fnScope s_table_get) .none kV_table_get dc_table_get pm_table_get an_table_get cd_table_get ct_table_get), sl_table_get⟩)
    (c_table_get : PySem.W.codeIn K cd_table_get "_law_table_get" = true) (k_table_get : PySem.W.keepIn K (.ref f_table_get) = true)
    {od_table_set an_table_set : Option Addr} {sl_table_set : Array (Option Value)} {f_table_set : Addr} {oc_table_set kV_table_set dc_table_set pm_table_set cd_table_set ct_table_set : Value}
    (a_table_set : PySem.W.nsIn K mainGlobals "_law_table_set" = some (some (.ref f_table_set)))
    (l_table_set : K.lookup f_table_set = some ⟨oc_table_set, od_table_set, .func (PySem.W.fnOf "_law_table_set" "_law_table_set" (C8.fnArgs s_table_set) (C8.fnBody s_table_set) (C8.fnScope s_table_set) .none kV_table_set dc_table_set pm_table_set an_table_set cd_table_set ct_table_set), sl_table_set⟩)
    (c_table_set : PySem.W.codeIn K cd_table_set "_law_table_set" = true) (k_table_set : PySem.W.keepIn K (.ref f_table_set) = true)
    {od_change_of an_change_of : Option Addr} {sl_change_of : Array (Option Value)} {f_change_of : Addr} {oc_change_of kV_change_of dc_change_of pm_change_of cd_change_of ct_change_of : Value}
    (a_change_of : PySem.W.nsIn K mainGlobals "_law_change_of" = some (some (.ref f_change_of)))
    (l_change_of : K.lookup f_change_of = some ⟨oc_change_of, od_change_of, .func (PySem.W.fnOf "_law_change_of" "_law_change_of" (C8.fnArgs s_change_of) (C8.fnBody s_change_of) (C8.fnScope s_change_of) .none kV_change_of dc_change_of pm_change_of an_change_of cd_change_of ct_change_of), sl_change_of⟩)
    (c_change_of : PySem.W.codeIn K cd_change_of "_law_change_of" = true) (k_change_of : PySem.W.keepIn K (.ref f_change_of) = true)
    {od_kinds an_kinds : Option Addr} {sl_kinds : Array (Option Value)} {f_kinds : Addr} {oc_kinds kV_kinds dc_kinds pm_kinds cd_kinds ct_kinds : Value}
    (a_kinds : PySem.W.nsIn K mainGlobals "_law_kinds" = some (some (.ref f_kinds)))
    (l_kinds : K.lookup f_kinds = some ⟨oc_kinds, od_kinds, .func (PySem.W.fnOf "_law_kinds" "_law_kinds" (C8.fnArgs s_kinds) (C8.fnBody s_kinds) (C8.fnScope s_kinds) .none kV_kinds dc_kinds pm_kinds an_kinds cd_kinds ct_kinds), sl_kinds⟩)
    (c_kinds : PySem.W.codeIn K cd_kinds "_law_kinds" = true) (k_kinds : PySem.W.keepIn K (.ref f_kinds) = true)
    {od_trace_play an_trace_play : Option Addr} {sl_trace_play : Array (Option Value)} {f_trace_play : Addr} {oc_trace_play kV_trace_play dc_trace_play pm_trace_play cd_trace_play ct_trace_play : Value}
    (a_trace_play : PySem.W.nsIn K mainGlobals "_law_trace_play" = some (some (.ref f_trace_play)))
    (l_trace_play : K.lookup f_trace_play = some ⟨oc_trace_play, od_trace_play, .func (PySem.W.fnOf "_law_trace_play" "_law_trace_play" (C8.fnArgs s_trace_play) (C8.fnBody s_trace_play) (C8.fnScope s_trace_play) .none kV_trace_play dc_trace_play pm_trace_play an_trace_play cd_trace_play ct_trace_play), sl_trace_play⟩)
    (c_trace_play : PySem.W.codeIn K cd_trace_play "_law_trace_play" = true) (k_trace_play : PySem.W.keepIn K (.ref f_trace_play) = true)
    {od_is_thing an_is_thing : Option Addr} {sl_is_thing : Array (Option Value)} {f_is_thing : Addr} {oc_is_thing kV_is_thing dc_is_thing pm_is_thing cd_is_thing ct_is_thing : Value}
    (a_is_thing : PySem.W.nsIn K mainGlobals "_law_is_thing" = some (some (.ref f_is_thing)))
    (l_is_thing : K.lookup f_is_thing = some ⟨oc_is_thing, od_is_thing, .func (PySem.W.fnOf "_law_is_thing" "_law_is_thing" (C8.fnArgs s_is_thing) (C8.fnBody s_is_thing) (C8.fnScope s_is_thing) .none kV_is_thing dc_is_thing pm_is_thing an_is_thing cd_is_thing ct_is_thing), sl_is_thing⟩)
    (c_is_thing : PySem.W.codeIn K cd_is_thing "_law_is_thing" = true) (k_is_thing : PySem.W.keepIn K (.ref f_is_thing) = true)
    {od_is_event an_is_event : Option Addr} {sl_is_event : Array (Option Value)} {f_is_event : Addr} {oc_is_event kV_is_event dc_is_event pm_is_event cd_is_event ct_is_event : Value}
    (a_is_event : PySem.W.nsIn K mainGlobals "_law_is_event" = some (some (.ref f_is_event)))
    (l_is_event : K.lookup f_is_event = some ⟨oc_is_event, od_is_event, .func (PySem.W.fnOf "_law_is_event" "_law_is_event" (C8.fnArgs s_is_event) (C8.fnBody s_is_event) (C8.fnScope s_is_event) .none kV_is_event dc_is_event pm_is_event an_is_event cd_is_event ct_is_event), sl_is_event⟩)
    (c_is_event : PySem.W.codeIn K cd_is_event "_law_is_event" = true) (k_is_event : PySem.W.keepIn K (.ref f_is_event) = true)
    {od_shows an_shows : Option Addr} {sl_shows : Array (Option Value)} {f_shows : Addr} {oc_shows kV_shows dc_shows pm_shows cd_shows ct_shows : Value}
    (a_shows : PySem.W.nsIn K mainGlobals "_law_shows" = some (some (.ref f_shows)))
    (l_shows : K.lookup f_shows = some ⟨oc_shows, od_shows, .func (PySem.W.fnOf "_law_shows" "_law_shows" (C8.fnArgs s_shows) (C8.fnBody s_shows) (C8.fnScope s_shows) .none kV_shows dc_shows pm_shows an_shows cd_shows ct_shows), sl_shows⟩)
    (c_shows : PySem.W.codeIn K cd_shows "_law_shows" = true) (k_shows : PySem.W.keepIn K (.ref f_shows) = true)
    {od_short_right an_short_right : Option Addr} {sl_short_right : Array (Option Value)} {f_short_right : Addr} {oc_short_right kV_short_right dc_short_right pm_short_right cd_short_right ct_short_right : Value}
    (a_short_right : PySem.W.nsIn K mainGlobals "_law_short_right" = some (some (.ref f_short_right)))
    (l_short_right : K.lookup f_short_right = some ⟨oc_short_right, od_short_right, .func (PySem.W.fnOf "_law_short_right" "_law_short_right" (C8.fnArgs s_short_right) (C8.fnBody s_short_right) (C8.fnScope s_short_right) .none kV_short_right dc_short_right pm_short_right an_short_right cd_short_right ct_short_right), sl_short_right⟩)
    (c_short_right : PySem.W.codeIn K cd_short_right "_law_short_right" = true) (k_short_right : PySem.W.keepIn K (.ref f_short_right) = true)
    {od_law an_law : Option Addr} {sl_law : Array (Option Value)} {f_law : Addr} {oc_law kV_law dc_law pm_law cd_law ct_law : Value}
    (a_law : PySem.W.nsIn K mainGlobals "law" = some (some (.ref f_law)))
    (l_law : K.lookup f_law = some ⟨oc_law, od_law, .func (PySem.W.fnOf "law" "law" (C8.fnArgs s_law) (C8.fnBody s_law) (C8.fnScope s_law) .none kV_law dc_law pm_law an_law cd_law ct_law), sl_law⟩)
    (c_law : PySem.W.codeIn K cd_law "law" = true) (k_law : PySem.W.keepIn K (.ref f_law) = true)
    (z_len : PySem.W.nsIn K mainGlobals "len" = some none)
    (z_abs : PySem.W.nsIn K mainGlobals "abs" = some none)
    (z_int : PySem.W.nsIn K mainGlobals "int" = some none)
    (z_range : PySem.W.nsIn K mainGlobals "range" = some none)
    (z_isinstance : PySem.W.nsIn K mainGlobals "isinstance" = some none)
    (z_bool : PySem.W.nsIn K mainGlobals "bool" = some none)
    (z_str : PySem.W.nsIn K mainGlobals "str" = some none)
    (z_list : PySem.W.nsIn K mainGlobals "list" = some none)
    (z_tuple : PySem.W.nsIn K mainGlobals "tuple" = some none) :
    ∃ fd : FuncData, (∀ (s : Shared) (v : Value), BindsTo s fd ⟨[v], []⟩ [("_law_script", v)]) ∧ ∀ base : Heap, K.In base → base.Ns mainGlobals mg → FnOk l.prog w K mg base C8.CX0 7 fa fd ["_law_script"] (spLaw K) := by
  have e := hfa.symm.trans (PySem.W.mg_of X G a_law)
  cases e
  have T : Txt mg := ⟨PySem.W.mg_none_of X G z_len, PySem.W.mg_none_of X G z_abs, PySem.W.mg_none_of X G z_int, PySem.W.mg_none_of X G z_range, PySem.W.mg_none_of X G z_isinstance, PySem.W.mg_none_of X G z_bool, PySem.W.mg_none_of X G z_str, PySem.W.mg_none_of X G z_list, PySem.W.mg_none_of X G z_tuple⟩
  have F_m_init : C8.Fun K "__init__" "Cache.__init__" s_Cache___init__ f_m_init _ := ⟨oc_m_init, od_m_init, .none, kV_m_init, dc_m_init, pm_m_init, an_m_init, cd_m_init, ct_m_init, sl_m_init, rfl, l_m_init, c_m_init⟩
  have b_m_init := F_m_init.binds (ps := ["self", "capacity"]) rfl fun _ _ _ _ _ _ us hl => match us, hl with | [_, _], _ => rfl
  have F_m_look : C8.Fun K "look" "Cache.look" s_Cache_look f_m_look _ := ⟨oc_m_look, od_m_look, .none, kV_m_look, dc_m_look, pm_m_look, an_m_look, cd_m_look, ct_m_look, sl_m_look, rfl, l_m_look, c_m_look⟩
  have b_m_look := F_m_look.binds (ps := ["self", "key"]) rfl fun _ _ _ _ _ _ us hl => match us, hl with | [_, _], _ => rfl
  have F_m_fill : C8.Fun K "fill" "Cache.fill" s_Cache_fill f_m_fill _ := ⟨oc_m_fill, od_m_fill, .none, kV_m_fill, dc_m_fill, pm_m_fill, an_m_fill, cd_m_fill, ct_m_fill, sl_m_fill, rfl, l_m_fill, c_m_fill⟩
  have b_m_fill := F_m_fill.binds (ps := ["self", "key", "value"]) rfl fun _ _ _ _ _ _ us hl => match us, hl with | [_, _, _], _ => rfl
  have F_m_drop : C8.Fun K "drop" "Cache.drop" s_Cache_drop f_m_drop _ := ⟨oc_m_drop, od_m_drop, .none, kV_m_drop, dc_m_drop, pm_m_drop, an_m_drop, cd_m_drop, ct_m_drop, sl_m_drop, rfl, l_m_drop, c_m_drop⟩
  have b_m_drop := F_m_drop.binds (ps := ["self", "key"]) rfl fun _ _ _ _ _ _ us hl => match us, hl with | [_, _], _ => rfl
  have F_m_clear_all : C8.Fun K "clear_all" "Cache.clear_all" s_Cache_clear_all f_m_clear_all _ := ⟨oc_m_clear_all, od_m_clear_all, .none, kV_m_clear_all, dc_m_clear_all, pm_m_clear_all, an_m_clear_all, cd_m_clear_all, ct_m_clear_all, sl_m_clear_all, rfl, l_m_clear_all, c_m_clear_all⟩
  have b_m_clear_all := F_m_clear_all.binds (ps := ["self"]) rfl fun _ _ _ _ _ _ us hl => match us, hl with | [_], _ => rfl
  have TC : CTxt K mg C := ⟨⟨pg, hd, po, sa⟩, nC, nE, PySem.W.mg_of X G aC, PySem.W.mg_none_of X G z_len⟩
  have D_change_kind : Def K mg "change_kind" s_change_kind f_change_kind _ := ⟨⟨oc_change_kind, od_change_kind, .none, kV_change_kind, dc_change_kind, pm_change_kind, an_change_kind, cd_change_kind, ct_change_kind, sl_change_kind, rfl, l_change_kind, c_change_kind⟩, PySem.W.mg_of X G a_change_kind, k_change_kind⟩
  have b_change_kind := D_change_kind.fn.binds (ps := ["old", "new"]) rfl fun _ _ _ _ _ _ us hl => match us, hl with | [_, _], _ => rfl
  have D_play_trace : Def K mg "play_trace" s_play_trace f_play_trace _ := ⟨⟨oc_play_trace, od_play_trace, .none, kV_play_trace, dc_play_trace, pm_play_trace, an_play_trace, cd_play_trace, ct_play_trace, sl_play_trace, rfl, l_play_trace, c_play_trace⟩, PySem.W.mg_of X G a_play_trace, k_play_trace⟩
  have b_play_trace := D_play_trace.fn.binds (ps := ["trace", "capacity", "kinds"]) rfl fun _ _ _ _ _ _ us hl => match us, hl with | [_, _, _], _ => rfl
  have D_is_safe : Def K mg "is_safe" s_is_safe f_is_safe _ := ⟨⟨oc_is_safe, od_is_safe, .none, kV_is_safe, dc_is_safe, pm_is_safe, an_is_safe, cd_is_safe, ct_is_safe, sl_is_safe, rfl, l_is_safe, c_is_safe⟩, PySem.W.mg_of X G a_is_safe, k_is_safe⟩
  have b_is_safe := D_is_safe.fn.binds (ps := ["kinds", "capacity"]) rfl fun _ _ _ _ _ _ us hl => match us, hl with | [_, _], _ => rfl
  have D_unsafe_trace : Def K mg "unsafe_trace" s_unsafe_trace f_unsafe_trace _ := ⟨⟨oc_unsafe_trace, od_unsafe_trace, .none, kV_unsafe_trace, dc_unsafe_trace, pm_unsafe_trace, an_unsafe_trace, cd_unsafe_trace, ct_unsafe_trace, sl_unsafe_trace, rfl, l_unsafe_trace, c_unsafe_trace⟩, PySem.W.mg_of X G a_unsafe_trace, k_unsafe_trace⟩
  have b_unsafe_trace := D_unsafe_trace.fn.binds (ps := ["kinds", "capacity"]) rfl fun _ _ _ _ _ _ us hl => match us, hl with | [_, _], _ => rfl
  have D_set_value : Def K mg "_set_value" s_set_value f_set_value _ := ⟨⟨oc_set_value, od_set_value, .none, kV_set_value, dc_set_value, pm_set_value, an_set_value, cd_set_value, ct_set_value, sl_set_value, rfl, l_set_value, c_set_value⟩, PySem.W.mg_of X G a_set_value, k_set_value⟩
  have b_set_value := D_set_value.fn.binds (ps := ["table", "cache", "entry", "kinds"]) rfl fun _ _ _ _ _ _ us hl => match us, hl with | [_, _, _, _], _ => rfl
  have D_touch : Def K mg "touch" s_touch f_touch _ := ⟨⟨oc_touch, od_touch, .none, kV_touch, dc_touch, pm_touch, an_touch, cd_touch, ct_touch, sl_touch, rfl, l_touch, c_touch⟩, PySem.W.mg_of X G a_touch, k_touch⟩
  have b_touch := D_touch.fn.binds (ps := ["table", "cache", "key"]) rfl fun _ _ _ _ _ _ us hl => match us, hl with | [_, _, _], _ => rfl
  have D_number : Def K mg "_law_number" s_number f_number _ := ⟨⟨oc_number, od_number, .none, kV_number, dc_number, pm_number, an_number, cd_number, ct_number, sl_number, rfl, l_number, c_number⟩, PySem.W.mg_of X G a_number, k_number⟩
  have b_number := D_number.fn.binds (ps := ["_law_script", "_law_at", "_law_k", "_law_size"]) rfl fun _ _ _ _ _ _ us hl => match us, hl with | [_, _, _, _], _ => rfl
  have D_is_whole : Def K mg "_law_is_whole" s_is_whole f_is_whole _ := ⟨⟨oc_is_whole, od_is_whole, .none, kV_is_whole, dc_is_whole, pm_is_whole, an_is_whole, cd_is_whole, ct_is_whole, sl_is_whole, rfl, l_is_whole, c_is_whole⟩, PySem.W.mg_of X G a_is_whole, k_is_whole⟩
  have b_is_whole := D_is_whole.fn.binds (ps := ["_law_told"]) rfl fun _ _ _ _ _ _ us hl => match us, hl with | [_], _ => rfl
  have D_same : Def K mg "_law_same" s_same f_same _ := ⟨⟨oc_same, od_same, .none, kV_same, dc_same, pm_same, an_same, cd_same, ct_same, sl_same, rfl, l_same, c_same⟩, PySem.W.mg_of X G a_same, k_same⟩
  have b_same := D_same.fn.binds (ps := ["_law_told", "_law_due"]) rfl fun _ _ _ _ _ _ us hl => match us, hl with | [_, _], _ => rfl
  have D_thing : Def K mg "_law_thing" s_thing f_thing _ := ⟨⟨oc_thing, od_thing, .none, kV_thing, dc_thing, pm_thing, an_thing, cd_thing, ct_thing, sl_thing, rfl, l_thing, c_thing⟩, PySem.W.mg_of X G a_thing, k_thing⟩
  have b_thing := D_thing.fn.binds (ps := ["_law_script", "_law_at", "_law_k"]) rfl fun _ _ _ _ _ _ us hl => match us, hl with | [_, _, _], _ => rfl
  have D_kept_find : Def K mg "_law_kept_find" s_kept_find f_kept_find _ := ⟨⟨oc_kept_find, od_kept_find, .none, kV_kept_find, dc_kept_find, pm_kept_find, an_kept_find, cd_kept_find, ct_kept_find, sl_kept_find, rfl, l_kept_find, c_kept_find⟩, PySem.W.mg_of X G a_kept_find, k_kept_find⟩
  have b_kept_find := D_kept_find.fn.binds (ps := ["_law_kept", "_law_key"]) rfl fun _ _ _ _ _ _ us hl => match us, hl with | [_, _], _ => rfl
  have D_kept_look : Def K mg "_law_kept_look" s_kept_look f_kept_look _ := ⟨⟨oc_kept_look, od_kept_look, .none, kV_kept_look, dc_kept_look, pm_kept_look, an_kept_look, cd_kept_look, ct_kept_look, sl_kept_look, rfl, l_kept_look, c_kept_look⟩, PySem.W.mg_of X G a_kept_look, k_kept_look⟩
  have b_kept_look := D_kept_look.fn.binds (ps := ["_law_kept", "_law_key"]) rfl fun _ _ _ _ _ _ us hl => match us, hl with | [_, _], _ => rfl
  have D_kept_fill : Def K mg "_law_kept_fill" s_kept_fill f_kept_fill _ := ⟨⟨oc_kept_fill, od_kept_fill, .none, kV_kept_fill, dc_kept_fill, pm_kept_fill, an_kept_fill, cd_kept_fill, ct_kept_fill, sl_kept_fill, rfl, l_kept_fill, c_kept_fill⟩, PySem.W.mg_of X G a_kept_fill, k_kept_fill⟩
  have b_kept_fill := D_kept_fill.fn.binds (ps := ["_law_kept", "_law_size", "_law_key", "_law_value"]) rfl fun _ _ _ _ _ _ us hl => match us, hl with | [_, _, _, _], _ => rfl
  have D_kept_drop : Def K mg "_law_kept_drop" s_kept_drop f_kept_drop _ := ⟨⟨oc_kept_drop, od_kept_drop, .none, kV_kept_drop, dc_kept_drop, pm_kept_drop, an_kept_drop, cd_kept_drop, ct_kept_drop, sl_kept_drop, rfl, l_kept_drop, c_kept_drop⟩, PySem.W.mg_of X G a_kept_drop, k_kept_drop⟩
  have b_kept_drop := D_kept_drop.fn.binds (ps := ["_law_kept", "_law_key"]) rfl fun _ _ _ _ _ _ us hl => match us, hl with | [_, _], _ => rfl
  have D_table_get : Def K mg "_law_table_get" s_table_get f_table_get _ := ⟨⟨oc_table_get, od_table_get, .none, kV_table_get, dc_table_get, pm_table_get, an_table_get, cd_table_get, ct_table_get, sl_table_get, rfl, l_table_get, c_table_get⟩, PySem.W.mg_of X G a_table_get, k_table_get⟩
  have b_table_get := D_table_get.fn.binds (ps := ["_law_table", "_law_key"]) rfl fun _ _ _ _ _ _ us hl => match us, hl with | [_, _], _ => rfl
  have D_table_set : Def K mg "_law_table_set" s_table_set f_table_set _ := ⟨⟨oc_table_set, od_table_set, .none, kV_table_set, dc_table_set, pm_table_set, an_table_set, cd_table_set, ct_table_set, sl_table_set, rfl, l_table_set, c_table_set⟩, PySem.W.mg_of X G a_table_set, k_table_set⟩
  have b_table_set := D_table_set.fn.binds (ps := ["_law_table", "_law_key", "_law_value"]) rfl fun _ _ _ _ _ _ us hl => match us, hl with | [_, _, _], _ => rfl
  have D_change_of : Def K mg "_law_change_of" s_change_of f_change_of _ := ⟨⟨oc_change_of, od_change_of, .none, kV_change_of, dc_change_of, pm_change_of, an_change_of, cd_change_of, ct_change_of, sl_change_of, rfl, l_change_of, c_change_of⟩, PySem.W.mg_of X G a_change_of, k_change_of⟩
  have b_change_of := D_change_of.fn.binds (ps := ["_law_old", "_law_new"]) rfl fun _ _ _ _ _ _ us hl => match us, hl with | [_, _], _ => rfl
  have D_kinds : Def K mg "_law_kinds" s_kinds f_kinds _ := ⟨⟨oc_kinds, od_kinds, .none, kV_kinds, dc_kinds, pm_kinds, an_kinds, cd_kinds, ct_kinds, sl_kinds, rfl, l_kinds, c_kinds⟩, PySem.W.mg_of X G a_kinds, k_kinds⟩
  have b_kinds := D_kinds.fn.binds (ps := ["_law_script", "_law_at", "_law_k"]) rfl fun _ _ _ _ _ _ us hl => match us, hl with | [_, _, _], _ => rfl
  have D_trace_play : Def K mg "_law_trace_play" s_trace_play f_trace_play _ := ⟨⟨oc_trace_play, od_trace_play, .none, kV_trace_play, dc_trace_play, pm_trace_play, an_trace_play, cd_trace_play, ct_trace_play, sl_trace_play, rfl, l_trace_play, c_trace_play⟩, PySem.W.mg_of X G a_trace_play, k_trace_play⟩
  have b_trace_play := D_trace_play.fn.binds (ps := ["_law_trace", "_law_size", "_law_kinds_here", "_law_moments"]) rfl fun _ _ _ _ _ _ us hl => match us, hl with | [_, _, _, _], _ => rfl
  have D_is_thing : Def K mg "_law_is_thing" s_is_thing f_is_thing _ := ⟨⟨oc_is_thing, od_is_thing, .none, kV_is_thing, dc_is_thing, pm_is_thing, an_is_thing, cd_is_thing, ct_is_thing, sl_is_thing, rfl, l_is_thing, c_is_thing⟩, PySem.W.mg_of X G a_is_thing, k_is_thing⟩
  have b_is_thing := D_is_thing.fn.binds (ps := ["_law_told"]) rfl fun _ _ _ _ _ _ us hl => match us, hl with | [_], _ => rfl
  have D_is_event : Def K mg "_law_is_event" s_is_event f_is_event _ := ⟨⟨oc_is_event, od_is_event, .none, kV_is_event, dc_is_event, pm_is_event, an_is_event, cd_is_event, ct_is_event, sl_is_event, rfl, l_is_event, c_is_event⟩, PySem.W.mg_of X G a_is_event, k_is_event⟩
  have b_is_event := D_is_event.fn.binds (ps := ["_law_told"]) rfl fun _ _ _ _ _ _ us hl => match us, hl with | [_], _ => rfl
  have D_shows : Def K mg "_law_shows" s_shows f_shows _ := ⟨⟨oc_shows, od_shows, .none, kV_shows, dc_shows, pm_shows, an_shows, cd_shows, ct_shows, sl_shows, rfl, l_shows, c_shows⟩, PySem.W.mg_of X G a_shows, k_shows⟩
  have b_shows := D_shows.fn.binds (ps := ["_law_told", "_law_size", "_law_kinds_here"]) rfl fun _ _ _ _ _ _ us hl => match us, hl with | [_, _, _], _ => rfl
  have D_short_right : Def K mg "_law_short_right" s_short_right f_short_right _ := ⟨⟨oc_short_right, od_short_right, .none, kV_short_right, dc_short_right, pm_short_right, an_short_right, cd_short_right, ct_short_right, sl_short_right, rfl, l_short_right, c_short_right⟩, PySem.W.mg_of X G a_short_right, k_short_right⟩
  have b_short_right := D_short_right.fn.binds (ps := ["_law_events", "_law_size", "_law_kinds_here"]) rfl fun _ _ _ _ _ _ us hl => match us, hl with | [_, _, _], _ => rfl
  have D_law : Def K mg "law" s_law fa _ := ⟨⟨oc_law, od_law, .none, kV_law, dc_law, pm_law, an_law, cd_law, ct_law, sl_law, rfl, l_law, c_law⟩, PySem.W.mg_of X G a_law, k_law⟩
  refine ⟨PySem.W.fnOf "law" "law" (C8.fnArgs s_law) (C8.fnBody s_law) (C8.fnScope s_law) .none kV_law dc_law pm_law an_law cd_law ct_law, fun s v => .of_eq rfl, fun base _ _ => ?_⟩
  have c_number := ok_number (P := l.prog) (w := w) (base := base) D_number b_number T
  have c_whole := ok_whole (P := l.prog) (w := w) (base := base) D_is_whole b_is_whole T
  have c_same := ok_same D_same b_same T c_whole 4
  have c_same2 := ok_same D_same b_same T c_whole 2
  have c_thing := ok_thing D_thing b_thing T c_number
  have c_kinds := ok_kinds D_kinds b_kinds T c_number
  have c_ck := ok_change (P := l.prog) (w := w) (base := base) D_change_kind b_change_kind T
  have c_co := ok_change_of D_change_of b_change_of T c_same2
  have c_safe := ok_is_safe (P := l.prog) (w := w) (base := base) D_is_safe b_is_safe T
  have c_Cache := ok_init (P := l.prog) (w := w) (base := base) F_m_init ⟨mk, a_m_init, i_m_init, kc⟩ b_m_init TC
  have m_drop := ok_drop (P := l.prog) (w := w) (base := base) F_m_drop ⟨a_m_drop, i_m_drop, k_m_drop⟩ b_m_drop TC
  have m_look := ok_look (P := l.prog) (w := w) (base := base) F_m_look ⟨a_m_look, i_m_look, k_m_look⟩ b_m_look TC
  have m_clear := ok_clear (P := l.prog) (w := w) (base := base) F_m_clear_all ⟨a_m_clear_all, i_m_clear_all, k_m_clear_all⟩ b_m_clear_all TC
  have m_fill := ok_fill F_m_fill ⟨a_m_fill, i_m_fill, k_m_fill⟩ b_m_fill TC m_drop
  have c_setv := ok_setv D_set_value b_set_value TC m_drop c_ck
  have c_touch := ok_touch D_touch b_touch TC m_look m_fill
  have c_play := ok_play D_play_trace b_play_trace TC c_Cache m_clear c_setv c_touch
  have c_find := ok_find (P := l.prog) (w := w) (base := base) D_kept_find b_kept_find T
  have c_tget := ok_tget D_table_get b_table_get T c_find
  have c_tset := ok_tset D_table_set b_table_set T c_find
  have c_klook := ok_klook D_kept_look b_kept_look T c_find
  have c_kdrop := ok_kdrop D_kept_drop b_kept_drop T c_find
  have c_kfill := ok_kfill D_kept_fill b_kept_fill T c_find
  have c_tplay := ok_tplay D_trace_play b_trace_play T c_co c_tget c_tset c_kdrop c_klook c_kfill
  have c_unsafe := ok_unsafe D_unsafe_trace b_unsafe_trace T c_safe
  have c_is_thing := ok_is_thing D_is_thing b_is_thing T c_whole
  have c_is_event := ok_is_event D_is_event b_is_event T c_is_thing
  have c_shows := ok_shows D_shows b_shows T c_is_event c_tplay c_same
  have c_short := ok_short D_short_right b_short_right T c_tplay c_play c_same
  exact ok_law D_law T c_number c_same c_thing c_kinds c_short c_unsafe c_shows

end Lw
open PySem PySem.W PyProof.Rows
set_option maxRecDepth 100000 in
set_option maxHeartbeats 0 in
theorem PySem.Challenge.cw_lentpages_k12_unsafe_trace_holds : PySem.Challenge.rw_lentpages_k12_unsafe_trace.Holds := by
  w_on; o_law; k_head; (case hw => w_witness2)
  k_fill
  refine L2.walk_of (l := PySem.Challenge.rw_lentpages_k12_unsafe_trace) (n := 63) (k := 7) (x := "_law_script") (CX := fun _ => C8.CX0) (sp := fun w => Lw.spLaw _) rfl (by decide) rfl ⟨rfl, by decide, by decide⟩ (fun w h Y => by first | exact PySem.W.kIn_of Y | exact PySem.W.km_in_of Y) ?F (fun _ _ a ns hl _ hS => ⟨a, ns, rfl, hS, hl, fun _ => rfl⟩) (fun _ _ _ _ _ h => h)
  case F =>
    intro w mg fa h KX G hmg
    refine' Lw.all_mk KX G hmg ?aC ?a_m_init ?i_m_init ?l_m_init ?c_m_init ?k_m_init ?a_m_look ?i_m_look ?l_m_look ?c_m_look ?k_m_look ?a_m_fill ?i_m_fill ?l_m_fill ?c_m_fill ?k_m_fill ?a_m_drop ?i_m_drop ?l_m_drop ?c_m_drop ?k_m_drop ?a_m_clear_all ?i_m_clear_all ?l_m_clear_all ?c_m_clear_all ?k_m_clear_all ?pg ?hd ?po ?sa ?mk ?kc ?nC ?nE ?a_change_kind ?l_change_kind ?c_change_kind ?k_change_kind ?a_play_trace ?l_play_trace ?c_play_trace ?k_play_trace ?a_is_safe ?l_is_safe ?c_is_safe ?k_is_safe ?a_unsafe_trace ?l_unsafe_trace ?c_unsafe_trace ?k_unsafe_trace ?a_set_value ?l_set_value ?c_set_value ?k_set_value ?a_touch ?l_touch ?c_touch ?k_touch ?a_number ?l_number ?c_number ?k_number ?a_is_whole ?l_is_whole ?c_is_whole ?k_is_whole ?a_same ?l_same ?c_same ?k_same ?a_thing ?l_thing ?c_thing ?k_thing ?a_kept_find ?l_kept_find ?c_kept_find ?k_kept_find ?a_kept_look ?l_kept_look ?c_kept_look ?k_kept_look ?a_kept_fill ?l_kept_fill ?c_kept_fill ?k_kept_fill ?a_kept_drop ?l_kept_drop ?c_kept_drop ?k_kept_drop ?a_table_get ?l_table_get ?c_table_get ?k_table_get ?a_table_set ?l_table_set ?c_table_set ?k_table_set ?a_change_of ?l_change_of ?c_change_of ?k_change_of ?a_kinds ?l_kinds ?c_kinds ?k_kinds ?a_trace_play ?l_trace_play ?c_trace_play ?k_trace_play ?a_is_thing ?l_is_thing ?c_is_thing ?k_is_thing ?a_is_event ?l_is_event ?c_is_event ?k_is_event ?a_shows ?l_shows ?c_shows ?k_shows ?a_short_right ?l_short_right ?c_short_right ?k_short_right ?a_law ?l_law ?c_law ?k_law ?z_len ?z_abs ?z_int ?z_range ?z_isinstance ?z_bool ?z_str ?z_list ?z_tuple
    (case aC => k_is)
    (case a_m_init => k_is)
    (case i_m_init => k_is)
    (case l_m_init => k_is)
    (case c_m_init => k_is)
    (case k_m_init => k_is)
    (case a_m_look => k_is)
    (case i_m_look => k_is)
    (case l_m_look => k_is)
    (case c_m_look => k_is)
    (case k_m_look => k_is)
    (case a_m_fill => k_is)
    (case i_m_fill => k_is)
    (case l_m_fill => k_is)
    (case c_m_fill => k_is)
    (case k_m_fill => k_is)
    (case a_m_drop => k_is)
    (case i_m_drop => k_is)
    (case l_m_drop => k_is)
    (case c_m_drop => k_is)
    (case k_m_drop => k_is)
    (case a_m_clear_all => k_is)
    (case i_m_clear_all => k_is)
    (case l_m_clear_all => k_is)
    (case c_m_clear_all => k_is)
    (case k_m_clear_all => k_is)
    (case pg => k_is)
    (case hd => k_is)
    (case po => k_is)
    (case sa => k_is)
    (case mk => k_is)
    (case kc => k_is)
    (case nC => k_is)
    (case nE => k_is)
    (case a_change_kind => k_is)
    (case l_change_kind => k_is)
    (case c_change_kind => k_is)
    (case k_change_kind => k_is)
    (case a_play_trace => k_is)
    (case l_play_trace => k_is)
    (case c_play_trace => k_is)
    (case k_play_trace => k_is)
    (case a_is_safe => k_is)
    (case l_is_safe => k_is)
    (case c_is_safe => k_is)
    (case k_is_safe => k_is)
    (case a_unsafe_trace => k_is)
    (case l_unsafe_trace => k_is)
    (case c_unsafe_trace => k_is)
    (case k_unsafe_trace => k_is)
    (case a_set_value => k_is)
    (case l_set_value => k_is)
    (case c_set_value => k_is)
    (case k_set_value => k_is)
    (case a_touch => k_is)
    (case l_touch => k_is)
    (case c_touch => k_is)
    (case k_touch => k_is)
    (case a_number => k_is)
    (case l_number => k_is)
    (case c_number => k_is)
    (case k_number => k_is)
    (case a_is_whole => k_is)
    (case l_is_whole => k_is)
    (case c_is_whole => k_is)
    (case k_is_whole => k_is)
    (case a_same => k_is)
    (case l_same => k_is)
    (case c_same => k_is)
    (case k_same => k_is)
    (case a_thing => k_is)
    (case l_thing => k_is)
    (case c_thing => k_is)
    (case k_thing => k_is)
    (case a_kept_find => k_is)
    (case l_kept_find => k_is)
    (case c_kept_find => k_is)
    (case k_kept_find => k_is)
    (case a_kept_look => k_is)
    (case l_kept_look => k_is)
    (case c_kept_look => k_is)
    (case k_kept_look => k_is)
    (case a_kept_fill => k_is)
    (case l_kept_fill => k_is)
    (case c_kept_fill => k_is)
    (case k_kept_fill => k_is)
    (case a_kept_drop => k_is)
    (case l_kept_drop => k_is)
    (case c_kept_drop => k_is)
    (case k_kept_drop => k_is)
    (case a_table_get => k_is)
    (case l_table_get => k_is)
    (case c_table_get => k_is)
    (case k_table_get => k_is)
    (case a_table_set => k_is)
    (case l_table_set => k_is)
    (case c_table_set => k_is)
    (case k_table_set => k_is)
    (case a_change_of => k_is)
    (case l_change_of => k_is)
    (case c_change_of => k_is)
    (case k_change_of => k_is)
    (case a_kinds => k_is)
    (case l_kinds => k_is)
    (case c_kinds => k_is)
    (case k_kinds => k_is)
    (case a_trace_play => k_is)
    (case l_trace_play => k_is)
    (case c_trace_play => k_is)
    (case k_trace_play => k_is)
    (case a_is_thing => k_is)
    (case l_is_thing => k_is)
    (case c_is_thing => k_is)
    (case k_is_thing => k_is)
    (case a_is_event => k_is)
    (case l_is_event => k_is)
    (case c_is_event => k_is)
    (case k_is_event => k_is)
    (case a_shows => k_is)
    (case l_shows => k_is)
    (case c_shows => k_is)
    (case k_shows => k_is)
    (case a_short_right => k_is)
    (case l_short_right => k_is)
    (case c_short_right => k_is)
    (case k_short_right => k_is)
    (case a_law => k_is)
    (case l_law => k_is)
    (case c_law => k_is)
    (case k_law => k_is)
    (case z_len => k_is)
    (case z_abs => k_is)
    (case z_int => k_is)
    (case z_range => k_is)
    (case z_isinstance => k_is)
    (case z_bool => k_is)
    (case z_str => k_is)
    (case z_list => k_is)
    (case z_tuple => k_is)
