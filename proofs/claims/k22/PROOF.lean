import PyProof.Rows.All
import Wide.All
import OpenK.AllK
import Wide.FinOn
import HandS.ForMost
import HandS.Codes
import HandS.IsInst
import HandS.Wide
import HandS.DictTup
import PyProof.DictMoreH
import HandS.TupLen
import HandS.Zip
import HandS.Walk
import HandS.Style
import HandS.Rev
import PySem.Challenge.RW_lentpages_k22_chooser_clock
set_option Elab.async false
set_option linter.all false
set_option maxRecDepth 100000
set_option maxHeartbeats 4000000
namespace Lw
open PySem PySem.Spec PyProof.Rows L2
open C8 (Def Cal cal0 pe_c)
def topS (i : Nat) : Stmt := PySem.Challenge.pw_lentpages_k22_chooser_clock.main.body.getD i (.Pass ⟨0, 0, 0, 0⟩)

/-! ### data in the heap, tracked -/
mutual
def Dh (H : Hp) : PyData → V → Prop
  | .none, x => x = .non
  | .bool b, x => x = .bl b
  | .int i, x => x = .int i
  | .str s, x => x = .str s
  | .list ds, x => ∃ a xs, x = .ref a ∧ H a = some (.lst xs) ∧ DhAll H ds xs
  | .tuple ds, x => ∃ a xs, x = .ref a ∧ H a = some (.tup xs) ∧ DhAll H ds xs
  | .dict _, _ => False
def DhAll (H : Hp) : List PyData → List V → Prop
  | [], xs => xs = []
  | d :: ds, xs => ∃ v vs, xs = v :: vs ∧ Dh H d v ∧ DhAll H ds vs
end
mutual
theorem Dh.mono {H H' : Hp} (s : Same H H') : ∀ (d : PyData) (x : V), Dh H d x → Dh H' d x
  | .none, x, h => h
  | .bool b, x, h => h
  | .int i, x, h => h
  | .str i, x, h => h
  | .list ds, x, h => by
    obtain ⟨a, xs, e, g, r⟩ := h
    exact ⟨a, xs, e, s _ _ g, DhAll.mono s ds xs r⟩
  | .tuple ds, x, h => by
    obtain ⟨a, xs, e, g, r⟩ := h
    exact ⟨a, xs, e, s _ _ g, DhAll.mono s ds xs r⟩
  | .dict _, x, h => False.elim h
theorem DhAll.mono {H H' : Hp} (s : Same H H') : ∀ (ds : List PyData) (xs : List V), DhAll H ds xs → DhAll H' ds xs
  | [], xs, h => h
  | d :: ds, xs, h => by
    obtain ⟨v, vs, e, g, r⟩ := h
    exact ⟨v, vs, e, Dh.mono s d v g, DhAll.mono s ds vs r⟩
end
theorem DhAll.len {H : Hp} : ∀ {ds : List PyData} {xs : List V}, DhAll H ds xs → xs.length = ds.length
  | [], xs, h => by
    cases (show xs = [] from h)
    rfl
  | d :: ds, xs, h => by
    obtain ⟨v, vs, e, g, r⟩ := h
    rw [e, List.length_cons, List.length_cons, DhAll.len r]
theorem DhAll.get {H : Hp} : ∀ {ds : List PyData} {xs : List V} {i : Nat} {d : PyData}, DhAll H ds xs → ds[i]? = some d → ∃ x, xs[i]? = some x ∧ Dh H d x
  | [], xs, i, d, h, e => by simp at e
  | d' :: ds, xs, 0, d, h, e => by
    obtain ⟨v, vs, e', g, r⟩ := h
    simp at e
    subst e
    exact ⟨v, by rw [e']; rfl, g⟩
  | d' :: ds, xs, i + 1, d, h, e => by
    obtain ⟨v, vs, e', g, r⟩ := h
    obtain ⟨x, h1, h2⟩ := DhAll.get (i := i) (d := d) r (by simpa using e)
    exact ⟨x, by rw [e']; simpa using h1, h2⟩
mutual
theorem Dh.dp {K : PySem.W.Frag} {H : Hp} : ∀ (d : PyData) (x : V), Dh H d x → Dp K H x d
  | .none, x, h => by
    cases (show x = .non from h)
    exact .non
  | .bool b, x, h => by
    cases (show x = .bl b from h)
    exact .bl b
  | .int i, x, h => by
    cases (show x = .int i from h)
    exact .int i
  | .str i, x, h => by
    cases (show x = .str i from h)
    exact .str i
  | .list ds, x, h => by
    obtain ⟨a, xs, e, g, r⟩ := h
    rw [e]
    exact .lst (SqL.of g) (DhAll.dp ds xs r)
  | .tuple ds, x, h => by
    obtain ⟨a, xs, e, g, r⟩ := h
    rw [e]
    exact .tup (SqT.of g) (DhAll.dp ds xs r)
  | .dict _, x, h => False.elim h
theorem DhAll.dp {K : PySem.W.Frag} {H : Hp} : ∀ (ds : List PyData) (xs : List V), DhAll H ds xs → DpAll K H xs ds
  | [], xs, h => by
    cases (show xs = [] from h)
    exact .nil
  | d :: ds, xs, h => by
    obtain ⟨v, vs, e, g, r⟩ := h
    rw [e]
    exact .cons (Dh.dp d v g) (DhAll.dp ds vs r)
end
/-- a datum's type -/
def tyN : PyData → String
  | .none => "NoneType"
  | .bool _ => "bool"
  | .int _ => "int"
  | .str _ => "str"
  | .list _ => "list"
  | .tuple _ => "tuple"
  | .dict _ => "dict"
theorem Dh.ty {K : PySem.W.Frag} {H : Hp} : ∀ {d : PyData} {x : V}, Dh H d x → TyX K H x (.type (tyN d))
  | .none, x, h => by
    cases (show x = .non from h)
    exact .base .non
  | .bool b, x, h => by
    cases (show x = .bl b from h)
    exact .base (.bl b)
  | .int i, x, h => by
    cases (show x = .int i from h)
    exact .base (.int i)
  | .str i, x, h => by
    cases (show x = .str i from h)
    exact .base (.str i)
  | .list ds, x, h => by
    obtain ⟨a, xs, e, g, r⟩ := h
    rw [e]
    exact .base (.lst g)
  | .tuple ds, x, h => by
    obtain ⟨a, xs, e, g, r⟩ := h
    rw [e]
    exact .base (.tup g)
  | .dict _, x, h => False.elim h
/-- at most n lists and tuples in one another, none of them long -/
def Dle : Nat → PyData → Prop
  | 0, _ => False
  | n + 1, .list ds => ds.length ≤ 100000 ∧ ∀ d ∈ ds, Dle n d
  | n + 1, .tuple ds => ds.length ≤ 100000 ∧ ∀ d ∈ ds, Dle n d
  | _, .dict _ => False
  | _, _ => True
theorem same_upd {H : Hp} {p : Addr} {o : HO} (h : H p = none) : Same H (upd H p o) := fun b x e => by
  rw [upd_ne (ne_of_none e h)]
  exact e
theorem same_rfl {H : Hp} : Same H H := fun _ _ e => e
/-- what is asked of the top's names -/
structure Txt (mg : Str → Option Value) : Prop where
  len : mg "len" = none
  abs : mg "abs" = none
  int : mg "int" = none
  range : mg "range" = none
  isinstance : mg "isinstance" = none
  bool : mg "bool" = none
  str : mg "str" = none
  list : mg "list" = none
  tuple : mg "tuple" = none
abbrev sI (i : Int) : Option V := some (.int i)
abbrev sR (a : Addr) : Option V := some (.ref a)
abbrev sS (x : Str) : Option V := some (.str x)
abbrev sB (b : Bool) : Option V := some (.bl b)

/-! ### steps of a reading -/
theorem ifD {p : Prop} [Decidable p] {A B : Prop} (a : p → A) (b : ¬ p → B) : if decide p = true then A else B := by
  by_cases h : p
  · rw [if_pos (decide_eq_true h)]
    exact a h
  · rw [if_neg (fun z => h (of_decide_eq_true z))]
    exact b h
theorem ifEq {x y : Int} {A B : Prop} (a : x = y → A) (b : x ≠ y → B) : if decide (V.int x = V.int y) = true then A else B :=
  ifD (fun h => a (V.int.inj h)) (fun h => b (fun z => h (congrArg V.int z)))
theorem ifT {p : Prop} [Decidable p] {A B : Prop} (h : p) (a : A) : if decide p = true then A else B := by
  rw [if_pos (decide_eq_true h)]
  exact a
theorem ifF {p : Prop} [Decidable p] {A B : Prop} (h : ¬ p) (b : B) : if decide p = true then A else B := by
  rw [if_neg (fun z => h (of_decide_eq_true z))]
  exact b
theorem ifEqT {x y : Int} {A B : Prop} (h : x = y) (a : A) : if decide (V.int x = V.int y) = true then A else B := ifT (congrArg V.int h) a
theorem ifEqF {x y : Int} {A B : Prop} (h : x ≠ y) (b : B) : if decide (V.int x = V.int y) = true then A else B := ifF (fun z => h (V.int.inj z)) b
theorem cmul_l {i j : Int} (h : -(2 ^ 64) < i ∧ i < 2 ^ 64) : CMul i j := .inl h
theorem cmul_r {i j : Int} (h : -(2 ^ 64) < j ∧ j < 2 ^ 64) : CMul i j := .inr h
/-- a statement that the steps stop at -/
@[irreducible] def tMk (t : TS) : TS := t
theorem tMk_eq (t : TS) : tMk t = t := by
  unfold tMk
  rfl
theorem ps_mk {X : Cx} {s : Stmt} {t : TS} (h : PS X s t) : PS X s (tMk t) := by
  rw [tMk_eq]
  exact h
theorem un {t : TS} {D : Ends} {σ : L2.St} {H : Hp} (h : t D σ H) : tMk t D σ H := by
  rw [tMk_eq]
  exact h
/-- what follows, said once -/
theorem jn {t : TS} {D : Ends} {σ : L2.St} {H : Hp} (M : L2.St → Hp → Prop) (h2 : ∀ σ H, M σ H → D.nx σ H) (h1 : ∀ N : L2.St → Hp → Prop, (∀ σ H, M σ H → N σ H) → t { D with nx := N } σ H) : tMk t D σ H := by
  rw [tMk_eq]
  exact h1 D.nx h2
/-- a wish that the steps stop at -/
@[irreducible] def Ob (p : Prop) : Prop := p
theorem ob {p : Prop} (h : p) : Ob p := by
  unfold Ob
  exact h
theorem unob {p : Prop} (h : Ob p) : p := by
  unfold Ob at h
  exact h
theorem atI_getD {ns : List Int} {j : Int} (h0 : 0 ≤ j) (h1 : j < (ns.length : Int)) : atI (ns.map V.int) j = some (.int (ns.getD j.toNat 0)) := by
  have e : j = ((j.toNat : Nat) : Int) := by omega
  have hj : j.toNat < ns.length := by omega
  have q : atI (ns.map V.int) ((j.toNat : Nat) : Int) = some (.int (ns.getD j.toNat 0)) := atI_nat (by
    rw [List.getElem?_map, List.getElem?_eq_getElem hj, List.getD_eq_getElem?_getD, List.getElem?_eq_getElem hj]
    rfl)
  rw [← e] at q
  exact q
theorem sz {n : Nat} (h : n ≤ 1000 := by first | decide | simp) : n ≤ sizeLine := Nat.le_of_lt (small1000 h)
theorem sz5 {n : Nat} (h : n ≤ 1000000) : n < sizeLine := by
  rw [sizeLine_eq]
  omega
theorem take_succ_eq {α : Type} {xs ys : List α} {i : Nat} {x y : α} (hx : xs[i]? = some x) (hy : ys[i]? = some y) : xs.take (i + 1) = ys.take (i + 1) ↔ xs.take i = ys.take i ∧ x = y := by
  rw [List.take_add_one, List.take_add_one, hx, hy]
  constructor
  · intro h
    have h1 := List.append_inj' h rfl
    refine ⟨h1.1, ?_⟩
    have h2 := h1.2
    simpa using h2
  · rintro ⟨h1, rfl⟩
    rw [h1]
-- size2
theorem ifN {b : Bool} {A B : Prop} (h : if b = true then B else A) : if (!b) = true then A else B := by
  cases b
  · exact h
  · exact h
theorem ifNe {x y : Int} {A B : Prop} (a : x ≠ y → A) (b : x = y → B) : if (!decide (V.int x = V.int y)) = true then A else B := ifN (ifEq b a)
theorem ixAny {K : PySem.W.Frag} {H : Hp} {a : Addr} {xs : List V} {i : Int} {v : V} {Q : VK} (h : SqL K H a xs ∨ SqT K H a xs) (e : atI xs i = some v) (q : Q v H) : rIx K (.ref a) (.int i) H Q := by
  rcases h with h | h
  · exact .inl ⟨a, xs, i, v, rfl, rfl, h, e, q⟩
  · exact .inr (.inl ⟨a, xs, i, v, rfl, rfl, h, e, q⟩)
theorem sameT {K : PySem.W.Frag} {H H' : Hp} {a : Addr} {xs : List V} (s : Same H H') (h : SqT K H a xs) : SqT K H' a xs := by
  rcases h with (g | ⟨o, g⟩) | g
  · exact .inl (.inl (s _ _ g))
  · exact .inl (.inr ⟨o, s _ _ g⟩)
  · exact .inr g
theorem sqAny {K : PySem.W.Frag} {H H' : Hp} {a : Addr} {xs : List V} (s : Same H H') (h : SqL K H a xs ∨ SqT K H a xs) : SqL K H' a xs ∨ SqT K H' a xs := h.imp (fun z => s.seq z) (fun z => sameT s z)
theorem same_put {H H1 : Hp} {D : Addr} {o : HO} (s : Same H H1) (h : H D = none) : Same H (upd H1 D o) := fun b x e => by
  rw [upd_ne (ne_of_none e h)]
  exact s b x e

/-! ### rules that say the written part by a letter -/
theorem ixL {X : Cx} (K : PySem.W.Frag) (h : X.K = K) : IxR X (rIxL K) := by
  subst h
  exact ix_list
theorem ixT {X : Cx} (K : PySem.W.Frag) (h : X.K = K) : IxR X (rIxT K) := by
  subst h
  exact ix_tup
theorem ixA {X : Cx} (K : PySem.W.Frag) (h : X.K = K) : IxR X (rIx K) := by
  subst h
  exact ix_seq
def rLen (K : PySem.W.Frag) : List V → Hp → VK → Prop := fun xs H Q => ∃ p ys, xs = [.ref p] ∧ (SqL K H p ys ∨ SqT K H p ys) ∧ Q (.int ys.length) H
theorem lenQ {X : Cx} (K : PySem.W.Frag) (h : X.K = K) : CallR X (.builtin "len") (rLen K) := by
  subst h
  exact call_len_seq
def isB : PyData → Bool
  | .bool _ => true
  | _ => false
def isI : PyData → Bool
  | .int _ => true
  | _ => false
def isS : PyData → Bool
  | .str _ => true
  | _ => false
def isL : PyData → Bool
  | .list _ => true
  | _ => false
def isT : PyData → Bool
  | .tuple _ => true
  | _ => false
theorem kit_B {K : PySem.W.Frag} : ∀ (d : PyData), PySem.W.kitOne K (.type (tyN d)) (.type "bool") = some (isB d)
  | .none => kit_ty (show kitB "NoneType" "bool" = some false by decide +kernel)
  | .bool _ => kit_ty (show kitB "bool" "bool" = some true by decide +kernel)
  | .int _ => kit_ty (show kitB "int" "bool" = some false by decide +kernel)
  | .str _ => kit_ty (show kitB "str" "bool" = some false by decide +kernel)
  | .list _ => kit_ty (show kitB "list" "bool" = some false by decide +kernel)
  | .tuple _ => kit_ty (show kitB "tuple" "bool" = some false by decide +kernel)
  | .dict _ => kit_ty (show kitB "dict" "bool" = some false by decide +kernel)
theorem kit_I {K : PySem.W.Frag} : ∀ (d : PyData), PySem.W.kitOne K (.type (tyN d)) (.type "int") = some (isI d || isB d)
  | .none => kit_ty (show kitB "NoneType" "int" = some false by decide +kernel)
  | .bool _ => kit_ty (show kitB "bool" "int" = some true by decide +kernel)
  | .int _ => kit_ty (show kitB "int" "int" = some true by decide +kernel)
  | .str _ => kit_ty (show kitB "str" "int" = some false by decide +kernel)
  | .list _ => kit_ty (show kitB "list" "int" = some false by decide +kernel)
  | .tuple _ => kit_ty (show kitB "tuple" "int" = some false by decide +kernel)
  | .dict _ => kit_ty (show kitB "dict" "int" = some false by decide +kernel)
theorem kit_S {K : PySem.W.Frag} : ∀ (d : PyData), PySem.W.kitOne K (.type (tyN d)) (.type "str") = some (isS d)
  | .none => kit_ty (show kitB "NoneType" "str" = some false by decide +kernel)
  | .bool _ => kit_ty (show kitB "bool" "str" = some false by decide +kernel)
  | .int _ => kit_ty (show kitB "int" "str" = some false by decide +kernel)
  | .str _ => kit_ty (show kitB "str" "str" = some true by decide +kernel)
  | .list _ => kit_ty (show kitB "list" "str" = some false by decide +kernel)
  | .tuple _ => kit_ty (show kitB "tuple" "str" = some false by decide +kernel)
  | .dict _ => kit_ty (show kitB "dict" "str" = some false by decide +kernel)
theorem kit_L {K : PySem.W.Frag} : ∀ (d : PyData), PySem.W.kitOne K (.type (tyN d)) (.type "list") = some (isL d)
  | .none => kit_ty (show kitB "NoneType" "list" = some false by decide +kernel)
  | .bool _ => kit_ty (show kitB "bool" "list" = some false by decide +kernel)
  | .int _ => kit_ty (show kitB "int" "list" = some false by decide +kernel)
  | .str _ => kit_ty (show kitB "str" "list" = some false by decide +kernel)
  | .list _ => kit_ty (show kitB "list" "list" = some true by decide +kernel)
  | .tuple _ => kit_ty (show kitB "tuple" "list" = some false by decide +kernel)
  | .dict _ => kit_ty (show kitB "dict" "list" = some false by decide +kernel)
theorem kit_T {K : PySem.W.Frag} : ∀ (d : PyData), PySem.W.kitOne K (.type (tyN d)) (.type "tuple") = some (isT d)
  | .none => kit_ty (show kitB "NoneType" "tuple" = some false by decide +kernel)
  | .bool _ => kit_ty (show kitB "bool" "tuple" = some false by decide +kernel)
  | .int _ => kit_ty (show kitB "int" "tuple" = some false by decide +kernel)
  | .str _ => kit_ty (show kitB "str" "tuple" = some false by decide +kernel)
  | .list _ => kit_ty (show kitB "list" "tuple" = some false by decide +kernel)
  | .tuple _ => kit_ty (show kitB "tuple" "tuple" = some true by decide +kernel)
  | .dict _ => kit_ty (show kitB "dict" "tuple" = some false by decide +kernel)
theorem kit_LT {K : PySem.W.Frag} (d : PyData) : PySem.W.kitAny K (.type (tyN d)) [.type "list", .type "tuple"] = some (isL d || isT d) := by
  refine kitAny_cons (kit_L d) (fun h => ?_) (fun h => by rw [h]; rfl)
  rw [h]
  refine kitAny_cons (kit_T d) (fun h => by rw [h]; rfl) (fun h => by rw [h]; rfl)
/-- isinstance of a datum -/
def rIsD (T : String) (g : PyData → Bool) : List V → Hp → VK → Prop := fun xs H Q => ∃ x d, xs = [x, .ty T] ∧ Dh H d x ∧ Q (.bl (g d)) H
theorem isOf {X : Cx} {T : String} {g : PyData → Bool} (h : ∀ d, PySem.W.kitOne X.K (.type (tyN d)) (.type T) = some (g d)) : CallR X (.builtin "isinstance") (rIsD T g) := by
  intro pins s σ H xs us Q I r z
  obtain ⟨x, d, rfl, hx, q⟩ := z
  exact call_isi pins s σ H _ us Q I r ⟨_, _, _, _, _, rfl, .ty T, hx.ty, h d, q⟩
theorem is_bool {X : Cx} : CallR X (.builtin "isinstance") (rIsD "bool" isB) := isOf kit_B
theorem is_int {X : Cx} : CallR X (.builtin "isinstance") (rIsD "int" fun d => isI d || isB d) := isOf kit_I
theorem is_str {X : Cx} : CallR X (.builtin "isinstance") (rIsD "str" isS) := isOf kit_S
theorem is_list {X : Cx} : CallR X (.builtin "isinstance") (rIsD "list" isL) := isOf kit_L
theorem is_tuple {X : Cx} : CallR X (.builtin "isinstance") (rIsD "tuple" isT) := isOf kit_T
/-- isinstance(x, (list, tuple)) of a datum -/
def rIsLT : List V → Hp → VK → Prop := fun xs H Q => ∃ x d p, xs = [x, .ref p] ∧ H p = some (.tup [.ty "list", .ty "tuple"]) ∧ Dh H d x ∧ Q (.bl (isL d || isT d)) H
theorem is_lt {X : Cx} : CallR X (.builtin "isinstance") rIsLT := by
  intro pins s σ H xs us Q I r z
  obtain ⟨x, d, p, rfl, hp, hx, q⟩ := z
  exact call_isiT pins s σ H _ us Q I r ⟨_, _, _, _, _, _, rfl, hp, .cons (.ty "list") (.cons (.ty "tuple") .nil), hx.ty, kit_LT d, q⟩
theorem ifBT {b : Bool} {A B : Prop} (h : b = true) (a : A) : if b = true then A else B := by
  rw [if_pos h]
  exact a
theorem ifBF {b : Bool} {A B : Prop} (h : b = false) (q : B) : if b = true then A else B := by
  rw [h, if_neg Bool.false_ne_true]
  exact q
theorem inQ {X : Cx} (K : PySem.W.Frag) (h : X.K = K) : OpR X (compareOp .In) (rIn K false) := by
  subst h
  exact op_in_seq
theorem notInQ {X : Cx} (K : PySem.W.Frag) (h : X.K = K) : OpR X (compareOp .NotIn) (rIn K true) := by
  subst h
  exact op_notIn_seq
theorem eqQ {X : Cx} (K : PySem.W.Frag) (h : X.K = K) (hu : X.A.units + 64 < cLine) : OpR X (compareOp .Eq) (rEqD K) := by
  subst h
  exact op_eqD hu
theorem neQ {X : Cx} (K : PySem.W.Frag) (h : X.K = K) (hu : X.A.units + 64 < cLine) : OpR X (compareOp .NotEq) (rNeD K) := by
  subst h
  exact op_neD hu
def rLst (K : PySem.W.Frag) : List V → Hp → VK → Prop := fun xs H Q => ∃ p ys, xs = [.ref p] ∧ (SqL K H p ys ∨ SqT K H p ys) ∧ ∀ l, H l = none → Q (.ref l) (upd H l (.lst ys))
theorem listQ {X : Cx} (K : PySem.W.Frag) (h : X.K = K) : CallR X (.type "list") (rLst K) := by
  subst h
  exact call_list_of

/-- what follows a wrapped statement, said once -/
theorem jnS {a b : TS} {D : Ends} {σ : L2.St} {H : Hp} (M : L2.St → Hp → Prop) (h2 : ∀ σ H, M σ H → b D σ H) (h1 : ∀ N : L2.St → Hp → Prop, (∀ σ H, M σ H → N σ H) → a { D with nx := N } σ H) : tSeq (tMk a) b D σ H := by
  rw [tMk_eq]
  exact h1 (b D) h2

section

-- a condition of an operator
local macro_rules | `(tactic| walk_at "cond") => `(tactic| first
  | (show (0 : Int) < _; omega)
  | (show CDiv _ _; constructor <;> (first | decide | omega))
  | (show CMul _ _; first | (refine cmul_l ?_; constructor <;> (first | decide | omega)) | (refine cmul_r ?_; constructor <;> (first | decide | omega)))
  | (show CPow _ _; exact (by refine ⟨by decide, by decide, by decide⟩))
  | (show CDivW _ _; exact ⟨by decide, by decide +kernel⟩))
local macro_rules | `(tactic| walk_at "sq") => `(tactic| first | assumption | exact Dh.mono (same_upd (by assumption)) _ _ (by assumption) | exact .inl (.inl (.inl (by assumption))) | exact .inr (.inl (.inl (by assumption))) | exact SqL.of (by assumption) | exact .inl (by assumption) | exact .inl (SqL.of (by assumption)) | exact SqT.of (by assumption) | exact .inr (SqT.of (by assumption)))
local macro_rules | `(tactic| walk_at "st") => `(tactic| first
  | refine ⟨_, rfl, ?_⟩
  | refine ⟨_, _, rfl, rfl, ?_⟩
  | refine .inl ⟨_, rfl, ?_⟩
  | refine ⟨rfl, ?_⟩
  | refine ⟨_, _, rfl, by walk_at "sq", ?_⟩
  | refine ⟨.inl ⟨rfl, _, SqL.of (by assumption)⟩, ?_⟩
  | refine ⟨by walk_at "cond", ?_⟩
  | (refine' ifBT ?hh ?_; (case hh => first | rfl | assumption))
  | (refine' ifBF ?hh ?_; (case hh => first | rfl | assumption)))
local macro_rules | `(tactic| walk_at "go") => `(tactic| repeat walk_at "st")
local macro_rules | `(tactic| walk_at "yes") => `(tactic| (refine' ifT ?hh ?_; (case hh => first | rfl | decide +kernel)))
local macro_rules | `(tactic| walk_at "no") => `(tactic| (refine' ifF ?hh ?_; (case hh => first | decide +kernel | (intro z; cases z; done))))

/-! ### _law_number -/
/-- n times // 1000 -/
def itd : Nat → Int → Int
  | 0, r => r
  | n + 1, r => itd n r / 1000
theorem itd_zero : ∀ n, itd n 0 = 0
  | 0 => rfl
  | n + 1 => by
    show itd n 0 / 1000 = 0
    rw [itd_zero n]
    rfl
theorem itd_add (r : Int) (h : itd n r = 0) : ∀ m, itd (n + m) r = 0
  | 0 => h
  | m + 1 => by
    show itd (n + m) r / 1000 = 0
    rw [itd_add r h m]
    rfl
theorem itd_nn {r : Int} (h : 0 ≤ r) : ∀ n, 0 ≤ itd n r
  | 0 => h
  | n + 1 => Int.ediv_nonneg (itd_nn h n) (by decide)
def nCell (ns : List Int) (i : Int) : Int := if ns.length = 0 then 0 else (ns.getD (i % (ns.length : Int)).toNat 0).natAbs
def nTurn (ns : List Int) (i : Int) : Int := if ns.length = 0 then i else i / (ns.length : Int)
def nPick (ns : List Int) (i k : Int) : Int := k + 16 * nTurn ns i
def nMix (c p : Int) : Int :=
  let a := (c + 7919 * p + 13) % 2147483647
  let b := (a * (a + 48271)) % 2147483629
  (b * (b + 69621) + 31 * p) % 2147483647
def num (ns : List Int) (i k size : Int) : Int :=
  let c := nCell ns i
  let p := nPick ns i k
  if c ≥ 10 ^ 18 then
    if itd p.toNat (c / 10 ^ 18) > 0 then itd p.toNat (c / 10 ^ 18) % 1000 % size else nMix c p / 9 % size
  else nMix c p / 9 % size
theorem num_nn {ns : List Int} {i k size : Int} (h : 0 < size) : 0 ≤ num ns i k size := by
  unfold num
  dsimp only
  split
  · split
    · exact Int.emod_nonneg _ (by omega)
    · exact Int.emod_nonneg _ (by omega)
  · exact Int.emod_nonneg _ (by omega)
theorem num_lt {ns : List Int} {i k size : Int} (h : 0 < size) : num ns i k size < size := by
  unfold num
  dsimp only
  split
  · split
    · exact Int.emod_lt_of_pos _ h
    · exact Int.emod_lt_of_pos _ h
  · exact Int.emod_lt_of_pos _ h
def spNum (K : PySem.W.Frag) : Sp := fun vs H Q _ => ∃ (a : Addr) (ns : List Int) (i k size : Int), vs = [.ref a, .int i, .int k, .int size] ∧ SqL K H a (ns.map V.int) ∧ ns.length ≤ 63 ∧
  0 ≤ i ∧ i ≤ 1000000000 ∧ 0 ≤ k ∧ k ≤ 1000000000 ∧ 0 < size ∧ Q (.int (num ns i k size)) H

abbrev s_number : Stmt := topS 3
theorem sc_number : FnScope ["_law_script", "_law_at", "_law_k", "_law_size", "_law_cell", "_law_turn", "_law_pick", "_law_rest", "_law_step", "_law_mixed"] ["_law_script", "_law_at", "_law_k", "_law_size"] (C8.fnScope s_number) := C8.fnScope_by (by decide +kernel)
section
variable {P : Program} {w : World} {K : PySem.W.Frag} {mg : Str → Option Value} {base : Heap}
theorem ok_number {f : Addr} {fd : FuncData} (D : Def K mg "_law_number" s_number f fd) (b : Binds K fd ["_law_script", "_law_at", "_law_k", "_law_size"] []) (T : Txt mg) : Cal P w K mg base 1 "_law_number" (spNum K) [] := by
  refine cal0 D b .nil sc_number (fun vs H Q E h => ?_) (fun cdv A outer s H vs Q E hr h => ?_)
  · obtain ⟨a, ns, i, k, size, rfl, _⟩ := h
    rfl
  obtain ⟨a, ns, i, k, size, rfl, hS, hl, i0, i1, k0, k1, hz, q⟩ := h
  refine ⟨_, (pss_cons (ps_set (i := 4) sc_number.nd rfl (.inl rfl) pe_int)
      (pss_cons (ps_set (i := 5) sc_number.nd rfl (.inl rfl) (pv 1))
      (pss_cons (ps_mk (ps_if (pt_cmpR op_gt (pe_callB (lenQ K rfl) (by rfl) T.len PySem.boot_len (pa_cons (pv 0) pa_nil)) pe_int (nomark _))
      (pss_cons (ps_set (i := 4) sc_number.nd rfl (.inl rfl) (pe_callB call_abs (by rfl) T.abs (by decide +kernel) (pa_cons (pe_ix (ixL K rfl) (pv 0) (pe_op op_mod (pe_callTy call_int1 (by rfl) T.int (by decide +kernel) (pa_cons (pv 1) pa_nil)) (pe_callB (lenQ K rfl) (by rfl) T.len PySem.boot_len (pa_cons (pv 0) pa_nil))) (fun _ _ => rfl)) pa_nil)))
      (pss_one (ps_set (i := 5) sc_number.nd rfl (.inl rfl) (pe_op op_fdiv (pv 1) (pe_callB (lenQ K rfl) (by rfl) T.len PySem.boot_len (pa_cons (pv 0) pa_nil))))))
      pss_nil))
      (pss_cons (ps_set (i := 6) sc_number.nd rfl (.inl rfl) (pe_op op_add (pv 2) (pe_op op_mul pe_int (pv 5))))
      (pss_cons (ps_mk (ps_if (pt_cmpR op_ge (pv 4) (pe_op op_pow pe_int pe_int) (nomark _))
      (pss_cons (ps_set (i := 7) sc_number.nd rfl (.inl rfl) (pe_op op_fdivW (pv 4) (pe_op op_pow pe_int pe_int)))
      (pss_cons (ps_mk (ps_for PassesOwn.never rfl (pi_range1 (by rfl) T.range (pa_cons (pv 6) pa_nil)) (pg_name (i := 8) sc_number.nd rfl (.inl rfl))
      (pss_cons (ps_mk (ps_if (pt_cmpR op_eq (pv 7) pe_int (nomark _))
      (pss_one ps_break)
      pss_nil))
      (pss_one (ps_set (i := 7) sc_number.nd rfl (.inl rfl) (pe_op op_fdiv (pv 7) pe_int))))))
      (pss_one (ps_mk (ps_if (pt_cmpR op_gt (pv 7) pe_int (nomark _))
      (pss_one (ps_ret (pe_op op_mod (pe_callTy call_int1 (by rfl) T.int (by decide +kernel) (pa_cons (pe_op op_mod (pe_callTy call_int1 (by rfl) T.int (by decide +kernel) (pa_cons (pv 7) pa_nil)) pe_int) pa_nil)) (pv 3))))
      pss_nil)))))
      pss_nil))
      (pss_cons (ps_set (i := 9) sc_number.nd rfl (.inl rfl) (pe_op op_mod (pe_callTy call_int1 (by rfl) T.int (by decide +kernel) (pa_cons (pe_op op_add (pe_op op_add (pv 4) (pe_op op_mul pe_int (pv 6))) pe_int) pa_nil)) pe_int))
      (pss_cons (ps_set (i := 9) sc_number.nd rfl (.inl rfl) (pe_op op_mod (pe_callTy call_int1 (by rfl) T.int (by decide +kernel) (pa_cons (pe_op op_mul (pv 9) (pe_op op_add (pv 9) pe_int)) pa_nil)) pe_int))
      (pss_cons (ps_set (i := 9) sc_number.nd rfl (.inl rfl) (pe_op op_mod (pe_callTy call_int1 (by rfl) T.int (by decide +kernel) (pa_cons (pe_op op_add (pe_op op_mul (pv 9) (pe_op op_add (pv 9) pe_int)) (pe_op op_mul pe_int (pv 6))) pa_nil)) pe_int))
      (pss_one (ps_ret (pe_op op_mod (pe_callTy call_int1 (by rfl) T.int (by decide +kernel) (pa_cons (pe_op op_fdiv (pv 9) pe_int) pa_nil)) (pv 3)))))))))))), ?_⟩
  have hml : (ns.map V.int).length = ns.length := List.length_map _
  have t0 : 0 ≤ nTurn ns i ∧ nTurn ns i ≤ 1000000000 := by
    unfold nTurn
    split
    · exact ⟨i0, i1⟩
    · exact ⟨Int.ediv_nonneg i0 (by omega), Int.le_trans (Int.ediv_le_self _ i0) i1⟩
  have p0 : 0 ≤ nPick ns i k ∧ nPick ns i k ≤ 17000000000 := by
    unfold nPick
    omega
  walk_at "go"
  refine jn (M := fun σ H' => ∃ c t : Int, c = nCell ns i ∧ t = nTurn ns i ∧ H' = H ∧ σ = [sR a, sI i, sI k, sI size, sI c, sI t, none, none, none, none]) ?_ (fun N kk => ?_)
  · rintro σ H' ⟨c, t, ec, et, rfl, rfl⟩
    walk_at "go"
    -- behind the pick
    have ep : k + 16 * t = nPick ns i k := by
      rw [et]
      rfl
    have c0 : 0 ≤ c := by
      rw [ec]
      unfold nCell
      split <;> omega
    have en : c < 10 ^ 18 ∨ ¬ itd (nPick ns i k).toNat (c / 10 ^ 18) > 0 → num ns i k size = nMix c (nPick ns i k) / 9 % size := fun h => by
      unfold num
      dsimp only
      rw [← ec]
      rcases h with h | h
      · rw [if_neg (by omega)]
      · split
        · rfl
        · rfl
    refine jn (M := fun σ H2 => H2 = H' ∧ (c < 10 ^ 18 ∨ ¬ itd (nPick ns i k).toNat (c / 10 ^ 18) > 0) ∧ ∃ y8 y9, σ = [sR a, sI i, sI k, sI size, sI c, sI t, sI (nPick ns i k), y8, y9, none]) ?_ (fun N kk => ?_)
    · rintro σ H2 ⟨rfl, hc, y8, y9, rfl⟩
      walk_at "go"
      have e := en hc
      unfold nMix at e
      dsimp only at e
      rw [e] at q
      exact q
    · walk_at "go"
      refine ifD (fun g => ?_) (fun g => ?_)
      · have g' : c ≥ 10 ^ 18 := g
        walk_at "go"
        have r0 : 0 ≤ c / 10 ^ 18 := Int.ediv_nonneg c0 (by decide)
        refine jn (M := fun σ H2 => H2 = H' ∧ ∃ y9, σ = [sR a, sI i, sI k, sI size, sI c, sI t, sI (nPick ns i k), sI (itd (nPick ns i k).toNat (c / 10 ^ 18)), y9, none]) ?_ (fun N2 k2 => ?_)
        · rintro σ H2 ⟨rfl, y9, rfl⟩
          refine un ?_
          walk_at "go"
          refine ifD (fun g2 => ?_) (fun g2 => ?_)
          · walk_at "go"
            have e : num ns i k size = itd (nPick ns i k).toNat (c / 10 ^ 18) % 1000 % size := by
              unfold num
              dsimp only
              rw [← ec, if_pos g', if_pos g2]
            rw [e] at q
            exact q
          · walk_at "go"
            exact kk _ _ ⟨rfl, .inr g2, _, _, rfl⟩
        · walk_at "go"
          refine ⟨(show -(2 ^ 62) ≤ k + 16 * t by omega), (show k + 16 * t < 2 ^ 62 by omega), for_range (lo := 0) (n := (k + 16 * t).toNat) (fun j σ H2 => Ob (H2 = H' ∧ ∃ y9, σ = [sR a, sI i, sI k, sI size, sI c, sI t, sI (nPick ns i k), sI (itd j (c / 10 ^ 18)), y9, none])) (ob ⟨rfl, none, ?_⟩) ?_ ?_⟩
          · rw [← ep]
            rfl
          · rintro j σ H2 hj h
            obtain ⟨rfl, y9, rfl⟩ := unob h
            refine un ?_
            walk_at "go"
            refine ifEq (fun z => ?_) (fun z => ?_)
            · walk_at "go"
              refine k2 _ _ ⟨rfl, sI (0 + (j : Int)), ?_⟩
              have z2 : itd (nPick ns i k).toNat (c / 10 ^ 18) = 0 := by
                have z3 := itd_add _ z ((nPick ns i k).toNat - j)
                rw [show j + ((nPick ns i k).toNat - j) = (nPick ns i k).toNat by omega] at z3
                exact z3
              rw [z2, ← z]
              rfl
            · walk_at "go"
              exact ob ⟨rfl, _, rfl⟩
          · rintro σ H2 h
            obtain ⟨rfl, y9, rfl⟩ := unob h
            refine k2 _ _ ⟨rfl, y9, ?_⟩
            rw [ep]
      · walk_at "go"
        have g' : ¬ c ≥ 10 ^ 18 := g
        refine kk _ _ ⟨rfl, .inl (by omega), none, none, ?_⟩
        rw [← ep]
        rfl
  · walk_at "go"
    refine ifD (fun c => ?_) (fun c => ?_)
    · walk_at "go"
      rw [hml] at c
      refine ⟨_, _, _, _, rfl, rfl, hS, atI_getD (Int.emod_nonneg _ (by omega)) (by rw [hml]; exact Int.emod_lt_of_pos _ (by omega)), ?_⟩
      walk_at "go"
      refine kk _ _ ⟨_, _, ?_, ?_, rfl, rfl⟩
      · unfold nCell
        rw [if_neg (show ¬ ns.length = 0 by omega)]
        simp only [hml]
        split
        · omega
        · omega
      · unfold nTurn
        rw [if_neg (by omega), hml]
    · walk_at "go"
      rw [hml] at c
      refine kk _ _ ⟨_, _, ?_, ?_, rfl, rfl⟩
      · unfold nCell
        rw [if_pos (by omega)]
      · unfold nTurn
        rw [if_pos (by omega)]
end

/-! ### _law_is_whole, _law_same -/
abbrev s_is_whole : Stmt := topS 4
theorem sc_is_whole : FnScope ["_law_told"] ["_law_told"] (C8.fnScope s_is_whole) := C8.fnScope_by (by decide +kernel)
abbrev s_same : Stmt := topS 5
theorem sc_same : FnScope ["_law_told", "_law_due", "_law_k"] ["_law_told", "_law_due"] (C8.fnScope s_same) := C8.fnScope_by (by decide +kernel)
def spWhole : Sp := fun vs H Q _ => ∃ (x : V) (d : PyData), vs = [x] ∧ Dh H d x ∧ Q (.bl (isI d)) H
def spSame (n : Nat) : Sp := fun vs H Q _ => ∃ (x y : V) (d e : PyData), vs = [x, y] ∧ Dh H d x ∧ Dh H e y ∧ Dle n e ∧ ∀ (b : Bool) (H' : Hp), (b = true ↔ d = e) → Same H H' → Q (.bl b) H'
section
variable {P : Program} {w : World} {K : PySem.W.Frag} {mg : Str → Option Value} {base : Heap}
theorem ok_whole {f : Addr} {fd : FuncData} (D : Def K mg "_law_is_whole" s_is_whole f fd) (b : Binds K fd ["_law_told"] []) (T : Txt mg) : Cal P w K mg base 1 "_law_is_whole" spWhole [] := by
  refine cal0 D b .nil sc_is_whole (fun vs H Q E h => ?_) (fun cdv A outer s H vs Q E hr h => ?_)
  · obtain ⟨x, d, rfl, _⟩ := h
    rfl
  obtain ⟨x, d, rfl, hx, q⟩ := h
  refine ⟨_, (pss_one (ps_ret (pe_and (pe_callB is_int (by rfl) T.isinstance (by decide +kernel) (pa_cons (pv 0) (pa_cons (pe_bltn (v := .ty "int") (by rfl) T.int (by decide +kernel) rfl) pa_nil))) (pe_one (pe_not (pe_callB is_bool (by rfl) T.isinstance (by decide +kernel) (pa_cons (pv 0) (pa_cons (pe_bltn (v := .ty "bool") (by rfl) T.bool (by decide +kernel) rfl) pa_nil)))))))), ?_⟩
  cases d <;> (walk_at "go"; exact q)
theorem ok_same_step {f : Addr} {fd : FuncData} (D : Def K mg "_law_same" s_same f fd) (b : Binds K fd ["_law_told", "_law_due"] []) (T : Txt mg) (c_is_whole : Cal P w K mg base 1 "_law_is_whole" spWhole []) {n : Nat}
    (c_same : Cal P w K mg base (n + 1) "_law_same" (spSame n) []) : Cal P w K mg base (n + 2) "_law_same" (spSame (n + 1)) [] := by
  refine cal0 D b .nil sc_same (fun vs H Q E h => ?_) (fun cdv A outer s H vs Q E hr h => ?_)
  · obtain ⟨x, y, d, e, rfl, _⟩ := h
    rfl
  obtain ⟨x, y, d, e, rfl, hx, hy, he, q⟩ := h
  refine ⟨_, (pss_cons (ps_mk (ps_if (pt_val (pe_callB is_lt (by rfl) T.isinstance (by decide +kernel) (pa_cons (pv 1) (pa_cons (pe_tup (pa_cons (pe_bltn (v := .ty "list") (by rfl) T.list (by decide +kernel) rfl) (pa_cons (pe_bltn (v := .ty "tuple") (by rfl) T.tuple (by decide +kernel) rfl) pa_nil))) pa_nil))))
      (pss_cons (ps_mk (ps_if (PW.pt (pw_or (pt_not (pt_val (pe_callB is_lt (by rfl) T.isinstance (by decide +kernel) (pa_cons (pv 0) (pa_cons (pe_tup (pa_cons (pe_bltn (v := .ty "list") (by rfl) T.list (by decide +kernel) rfl) (pa_cons (pe_bltn (v := .ty "tuple") (by rfl) T.tuple (by decide +kernel) rfl) pa_nil))) pa_nil))))) (pw_or1 (pt_cmpR op_ne (pe_callB is_list (by rfl) T.isinstance (by decide +kernel) (pa_cons (pv 0) (pa_cons (pe_bltn (v := .ty "list") (by rfl) T.list (by decide +kernel) rfl) pa_nil))) (pe_callB is_list (by rfl) T.isinstance (by decide +kernel) (pa_cons (pv 1) (pa_cons (pe_bltn (v := .ty "list") (by rfl) T.list (by decide +kernel) rfl) pa_nil))) (nomark _)))))
      (pss_one (ps_ret pe_bl))
      pss_nil))
      (pss_cons (ps_mk (ps_if (pt_cmpR op_ne (pe_callB (lenQ K rfl) (by rfl) T.len PySem.boot_len (pa_cons (pv 0) pa_nil)) (pe_callB (lenQ K rfl) (by rfl) T.len PySem.boot_len (pa_cons (pv 1) pa_nil)) (nomark _))
      (pss_one (ps_ret pe_bl))
      pss_nil))
      (pss_one (ps_ret (pe_cmpR op_eq (pe_callB (lenQ K rfl) (by rfl) T.len PySem.boot_len (pa_cons (pe_lc (own := [("_law_k", 2)]) (g := gName 2) rfl sc_same.nd (pi_range1 (by rfl) T.range (pa_cons (pe_callB (lenQ K rfl) (by rfl) T.len PySem.boot_len (pa_cons (pv 1) pa_nil)) pa_nil)) (blkOk_by (own := [("_law_k", 2)]) (N := ["_law_told", "_law_due", "_law_k"]) (sc := C8.fnScope s_same) (by decide +kernel)) (fun _ _ _ _ _ => (pg_name (i := 2) sc_same.nd rfl (.inl rfl))) (fun _ _ _ _ _ => (pts_one (pt_not (pt_val (C8.pe_c c_same hr (by omega) (by rfl) (pa_cons (pe_ix (ixA K rfl) (pv 0) (pv 2) (fun _ _ => rfl)) (pa_cons (pe_ix (ixA K rfl) (pv 1) (pv 2) (fun _ _ => rfl)) pa_nil))))))) (fun _ _ _ _ _ => (pv 2))) pa_nil)) pe_int (nomark _))))))
      pss_nil))
      (pss_cons (ps_mk (ps_if (pt_val (pe_callB is_bool (by rfl) T.isinstance (by decide +kernel) (pa_cons (pv 1) (pa_cons (pe_bltn (v := .ty "bool") (by rfl) T.bool (by decide +kernel) rfl) pa_nil))))
      (pss_one (ps_ret (pe_and (pe_callB is_bool (by rfl) T.isinstance (by decide +kernel) (pa_cons (pv 0) (pa_cons (pe_bltn (v := .ty "bool") (by rfl) T.bool (by decide +kernel) rfl) pa_nil))) (pe_one (pe_cmpR op_eq (pv 0) (pv 1) (nomark _))))))
      pss_nil))
      (pss_cons (ps_mk (ps_if (pt_val (pe_callB is_int (by rfl) T.isinstance (by decide +kernel) (pa_cons (pv 1) (pa_cons (pe_bltn (v := .ty "int") (by rfl) T.int (by decide +kernel) rfl) pa_nil))))
      (pss_one (ps_ret (pe_and (C8.pe_c c_is_whole hr (by omega) (by rfl) (pa_cons (pv 0) pa_nil)) (pe_one (pe_cmpR op_eq (pv 0) (pv 1) (nomark _))))))
      pss_nil))
      (pss_cons (ps_mk (ps_if (pt_val (pe_callB is_str (by rfl) T.isinstance (by decide +kernel) (pa_cons (pv 1) (pa_cons (pe_bltn (v := .ty "str") (by rfl) T.str (by decide +kernel) rfl) pa_nil))))
      (pss_one (ps_ret (pe_and (pe_callB is_str (by rfl) T.isinstance (by decide +kernel) (pa_cons (pv 0) (pa_cons (pe_bltn (v := .ty "str") (by rfl) T.str (by decide +kernel) rfl) pa_nil))) (pe_one (pe_cmpR op_eq (pv 0) (pv 1) (nomark _))))))
      pss_nil))
      (pss_one (ps_ret (pe_and (pe_cmpR op_isN (pv 0) pe_non (nomark _)) (pe_one (pe_cmpR op_isN (pv 1) pe_non (nomark _)))))))))), ?_⟩
  refine jn (M := fun σ H' => Same H H' ∧ σ = [some x, some y, none] ∧ (isL e || isT e) = false) ?_ (fun N kk => ?_)
  · rintro σ H1 ⟨s1, rfl, hf⟩
    have hx1 := Dh.mono s1 _ _ hx
    have hy1 := Dh.mono s1 _ _ hy
    clear hx hy he
    cases e with
    | list es => cases hf
    | tuple es => cases hf
    | dict kvs => exact False.elim hy1
    | none =>
      cases (show y = V.non from hy1)
      cases d
      case dict => exact False.elim hx1
      all_goals first | (obtain ⟨_, _, e1, _, _⟩ := id hx1; cases e1) | (cases (show x = _ from hx1))
      all_goals repeat (first | refine un ?_ | walk_at "st")
      all_goals exact q _ _ (by simp) s1
    | bool c =>
      cases (show y = V.bl c from hy1)
      cases d
      case dict => exact False.elim hx1
      all_goals first | (obtain ⟨_, _, e1, _, _⟩ := id hx1; cases e1) | (cases (show x = _ from hx1))
      all_goals repeat (first | refine un ?_ | walk_at "st")
      all_goals exact q _ _ (by simp) s1
    | int c =>
      cases (show y = V.int c from hy1)
      cases d
      case dict => exact False.elim hx1
      all_goals first | (obtain ⟨_, _, e1, _, _⟩ := id hx1; cases e1) | (cases (show x = _ from hx1))
      all_goals repeat (first | refine un ?_ | walk_at "st")
      all_goals first | exact q _ _ (by simp) s1 | skip
      all_goals refine ⟨_, _, rfl, hx1, ?_⟩
      all_goals repeat (first | refine un ?_ | walk_at "st")
      all_goals exact q _ _ (by simp) s1
    | str c =>
      cases (show y = V.str c from hy1)
      cases d
      case dict => exact False.elim hx1
      all_goals first | (obtain ⟨_, _, e1, _, _⟩ := id hx1; cases e1) | (cases (show x = _ from hx1))
      all_goals repeat (first | refine un ?_ | walk_at "st")
      all_goals exact q _ _ (by simp) s1
  · walk_at "go"
    refine ⟨sz, fun p hp => ?_⟩
    refine ⟨_, _, _, rfl, upd_same, Dh.mono (same_upd hp) _ _ hy, ?_⟩
    walk_at "go"
    have s1 : Same H (upd H p (.tup [.ty "list", .ty "tuple"])) := same_upd hp
    have hx1 := Dh.mono s1 _ _ hx
    have hy1 := Dh.mono s1 _ _ hy
    cases hf : (isL e || isT e) with
    | false =>
      refine ifBF rfl ?_
      exact kk _ _ ⟨s1, rfl, hf⟩
    | true =>
      refine ifBT rfl ?_
      generalize upd H p (HO.tup [V.ty "list", V.ty "tuple"]) = H1 at *
      clear hx hy kk hp
      walk_at "go"
      refine jn (M := fun σ H2 => Same H1 H2 ∧ ∃ a c xs ys ds es, σ = [sR a, sR c, none] ∧ (SqL K H2 a xs ∨ SqT K H2 a xs) ∧ (SqL K H2 c ys ∨ SqT K H2 c ys) ∧ DhAll H2 ds xs ∧ DhAll H2 es ys ∧ es.length ≤ 100000 ∧ (∀ e' ∈ es, Dle n e') ∧ (d = e ↔ ds = es)) ?_ (fun N2 k2 => ?_)
      · rintro σ H2 ⟨s2, a, c, xs, ys, ds, es, rfl, hA, hC, hds, hes, hlen, hle, hiff⟩
        have lx := hds.len
        have ly := hes.len
        walk_at "go"
        refine jn (M := fun σ H3 => H3 = H2 ∧ σ = [sR a, sR c, none] ∧ ds.length = es.length) ?_ (fun N3 k3 => ?_)
        · rintro σ H3 ⟨rfl, rfl, el⟩
          walk_at "go"
          refine ⟨by omega, by omega, fun L hL => lc_range (lo := 0) (n := ((ys.length : Nat) : Int).toNat)
            (fun i H' => Ob (Same H3 H' ∧ ∃ acc, H' L = some (.lst acc) ∧ acc.length ≤ i ∧ (acc = [] ↔ ds.take i = es.take i))) (ob ⟨same_upd hL, [], upd_same, Nat.le_refl _, by simp⟩) ?_ ?_⟩
          · intro i H4 hi h4
            obtain ⟨s4, acc, g4, l4, e4⟩ := unob h4
            have hi2 : i < es.length := by omega
            have hi3 : i < ds.length := by omega
            obtain ⟨xv, ex, dx⟩ := hds.get (List.getElem?_eq_getElem hi3)
            obtain ⟨yv, ey, dy⟩ := hes.get (List.getElem?_eq_getElem hi2)
            have tk := take_succ_eq (List.getElem?_eq_getElem hi3) (List.getElem?_eq_getElem hi2)
            have ax : atI xs (0 + (i : Int)) = some xv := by
              rw [Int.zero_add]
              exact atI_nat ex
            have ay : atI ys (0 + (i : Int)) = some yv := by
              rw [Int.zero_add]
              exact atI_nat ey
            refine ⟨rfl, ?_⟩
            walk_at "go"
            refine ixAny (sqAny s4 hA) ax ?_
            walk_at "go"
            refine ixAny (sqAny s4 hC) ay ?_
            walk_at "go"
            refine ⟨_, _, _, _, rfl, Dh.mono s4 _ _ dx, Dh.mono s4 _ _ dy, hle _ (List.getElem_mem hi2), fun b5 H5 hb s5 => ?_⟩
            walk_at "go"
            refine ifN ?_
            cases b5 with
            | true =>
              refine ifBT rfl (ob ⟨s4.trans s5, acc, s5 _ _ g4, Nat.le_succ_of_le l4, ?_⟩)
              rw [e4, tk]
              exact ⟨fun z => ⟨z, hb.mp rfl⟩, fun z => z.1⟩
            | false =>
              refine ifBF rfl ?_
              walk_at "go"
              refine ⟨acc, s5 _ _ g4, sz5 (by omega), ob ⟨same_put (s4.trans s5) hL, _, upd_same, ?_, ?_⟩⟩
              · rw [List.length_append]
                exact Nat.add_le_add_right l4 1
              · constructor
                · intro z
                  exact absurd (congrArg List.length z) (by rw [List.length_append]; simp)
                · intro z
                  exact absurd (hb.mpr (tk.mp z).2) Bool.false_ne_true
          · intro H4 h4
            obtain ⟨s4, acc, g4, l4, e4⟩ := unob h4
            walk_at "go"
            refine q _ _ ?_ ((s1.trans s2).trans s4)
            rw [hiff]
            have et : ((ys.length : Nat) : Int).toNat = es.length := by omega
            rw [et, List.take_of_length_le (by omega), List.take_of_length_le (Nat.le_refl _)] at e4
            rw [← e4, decide_eq_true_iff]
            constructor
            · intro z
              have z2 := V.int.inj z
              exact List.eq_nil_of_length_eq_zero (by omega)
            · intro z
              rw [z]
              rfl
        · walk_at "go"
          refine ifNe (fun z => ?_) (fun z => ?_)
          · walk_at "go"
            refine q _ _ ?_ (s1.trans s2)
            rw [hiff]
            constructor
            · intro h
              cases h
            · intro h
              rw [h] at lx
              omega
          · walk_at "go"
            exact k3 _ _ ⟨rfl, rfl, by omega⟩
      · walk_at "go"
        refine ⟨sz, fun p2 hp2 => ?_⟩
        have s2 : Same H1 (upd H1 p2 (HO.tup [V.ty "list", V.ty "tuple"])) := same_upd hp2
        refine ⟨_, _, _, rfl, upd_same, Dh.mono s2 _ _ hx1, ?_⟩
        have hx2 := Dh.mono s2 _ _ hx1
        have hy2 := Dh.mono s2 _ _ hy1
        walk_at "go"
        generalize upd H1 p2 (HO.tup [V.ty "list", V.ty "tuple"]) = H2 at *
        clear hp2
        cases e with
        | none => cases hf
        | bool _ => cases hf
        | int _ => cases hf
        | str _ => cases hf
        | dict kvs => cases hf
        | list es =>
          obtain ⟨c, ys, rfl, gy, hes⟩ := id hy2
          cases d
          case dict => exact False.elim hx2
          case list ds =>
            obtain ⟨a, xs, rfl, gx, hds⟩ := id hx2
            walk_at "go"
            exact k2 _ _ ⟨s2, _, _, _, _, ds, es, rfl, .inl (.inl (.inl gx)), .inl (.inl (.inl gy)), hds, hes, he.1, he.2, by simp⟩
          all_goals walk_at "go"
          all_goals exact q _ _ (by simp) (s1.trans s2)
        | tuple es =>
          obtain ⟨c, ys, rfl, gy, hes⟩ := id hy2
          cases d
          case dict => exact False.elim hx2
          case tuple ds =>
            obtain ⟨a, xs, rfl, gx, hds⟩ := id hx2
            walk_at "go"
            exact k2 _ _ ⟨s2, _, _, _, _, ds, es, rfl, .inr (.inl (.inl gx)), .inr (.inl (.inl gy)), hds, hes, he.1, he.2, by simp⟩
          all_goals walk_at "go"
          all_goals exact q _ _ (by simp) (s1.trans s2)
theorem ok_same {f : Addr} {fd : FuncData} (D : Def K mg "_law_same" s_same f fd) (b : Binds K fd ["_law_told", "_law_due"] []) (T : Txt mg) (c_is_whole : Cal P w K mg base 1 "_law_is_whole" spWhole []) :
    ∀ n, Cal P w K mg base (n + 1) "_law_same" (spSame n) []
  | 0 => by
    have no : ∀ vs H Q E, ¬ spSame 0 vs H Q E := fun vs H Q E h => by
      obtain ⟨x, y, d, e, _, _, _, h1, _⟩ := h
      exact h1
    exact ⟨f, fd, _, _, ⟨fun vs H Q E h => absurd h (no vs H Q E), fun A outer s H args us vs Q E _ _ _ _ h => absurd h (no vs H Q E)⟩, D.mgf, D.kp, b, .nil⟩
  | n + 1 => ok_same_step D b T c_is_whole (ok_same D b T c_is_whole n)
end

end

/-! ### the chooser's fields, the plain table -/
def chF (kd : Str) (n calls : Int) (fa ua ba : Addr) (hand : Int) : List (Str × V) := [("_kind", .str kd), ("_frames", .int n), ("_calls", .int calls), ("_fill_calls", .ref fa), ("_use_calls", .ref ua), ("_bits", .ref ba), ("_hand", .int hand)]
section
variable {kd : Str} {n calls hand v : Int} {fa ua ba : Addr}
theorem ch_kind : (chF kd n calls fa ua ba hand).lookup ("_kind" : Str) = some (.str kd) := by kernel_rfl
theorem ch_frames : (chF kd n calls fa ua ba hand).lookup ("_frames" : Str) = some (.int n) := by kernel_rfl
theorem ch_calls : (chF kd n calls fa ua ba hand).lookup ("_calls" : Str) = some (.int calls) := by kernel_rfl
theorem ch_fills : (chF kd n calls fa ua ba hand).lookup ("_fill_calls" : Str) = some (.ref fa) := by kernel_rfl
theorem ch_uses : (chF kd n calls fa ua ba hand).lookup ("_use_calls" : Str) = some (.ref ua) := by kernel_rfl
theorem ch_bits : (chF kd n calls fa ua ba hand).lookup ("_bits" : Str) = some (.ref ba) := by kernel_rfl
theorem ch_hand : (chF kd n calls fa ua ba hand).lookup ("_hand" : Str) = some (.int hand) := by kernel_rfl
theorem ch_no1 : (chF kd n calls fa ua ba hand).lookup ("touched" : Str) = none := by kernel_rfl
theorem ch_no2 : (chF kd n calls fa ua ba hand).lookup ("filled" : Str) = none := by kernel_rfl
theorem ch_no3 : (chF kd n calls fa ua ba hand).lookup ("emptied" : Str) = none := by kernel_rfl
theorem ch_no4 : (chF kd n calls fa ua ba hand).lookup ("choose" : Str) = none := by kernel_rfl
theorem ch_no5 : (chF kd n calls fa ua ba hand).lookup ("_choose_by_hand" : Str) = none := by kernel_rfl
theorem ch_pcalls : putF "_calls" (.int v) (chF kd n calls fa ua ba hand) = chF kd n v fa ua ba hand := by kernel_rfl
theorem ch_phand : putF "_hand" (.int v) (chF kd n calls fa ua ba hand) = chF kd n calls fa ua ba v := by kernel_rfl
theorem ch_make : putF "_hand" (.int hand) (putF "_bits" (.ref ba) (putF "_use_calls" (.ref ua) (putF "_fill_calls" (.ref fa) (putF "_calls" (.int calls) (putF "_frames" (.int n) (putF "_kind" (.str kd) [])))))) = chF kd n calls fa ua ba hand := by kernel_rfl
end
def pK (kd : Str) (t u : Int) (fi us bi fu : Addr) : List (Key × V) := [(.inr "kind", .str kd), (.inr "time", .int t), (.inr "under", .int u), (.inr "filled", .ref fi), (.inr "used", .ref us), (.inr "bits", .ref bi), (.inr "full", .ref fu)]
section
variable {kd : Str} {t u v : Int} {fi us bi fu : Addr}
theorem p_kind : valV (pK kd t u fi us bi fu) (.inr "kind") = some (.str kd) := by kernel_rfl
theorem p_time : valV (pK kd t u fi us bi fu) (.inr "time") = some (.int t) := by kernel_rfl
theorem p_under : valV (pK kd t u fi us bi fu) (.inr "under") = some (.int u) := by kernel_rfl
theorem p_filled : valV (pK kd t u fi us bi fu) (.inr "filled") = some (.ref fi) := by kernel_rfl
theorem p_used : valV (pK kd t u fi us bi fu) (.inr "used") = some (.ref us) := by kernel_rfl
theorem p_bits : valV (pK kd t u fi us bi fu) (.inr "bits") = some (.ref bi) := by kernel_rfl
theorem p_full : valV (pK kd t u fi us bi fu) (.inr "full") = some (.ref fu) := by kernel_rfl
theorem p_ptime : putK (pK kd t u fi us bi fu) (.inr "time") (.int v) = pK kd v u fi us bi fu := by kernel_rfl
theorem p_punder : putK (pK kd t u fi us bi fu) (.inr "under") (.int v) = pK kd t v fi us bi fu := by kernel_rfl
theorem p_merge : mergeK [] (pK kd t u fi us bi fu) = pK kd t u fi us bi fu := by kernel_rfl
end

/-! ### the hand's hunt -/
def hunt (al : List Int) (n : Nat) : Nat → List Int → Int → Option (Int × List Int × Int)
  | 0, _, _ => none
  | k + 1, bits, hand => if hand ∈ al then (if bits.getD hand.toNat 0 = 0 then some (hand, bits, (hand + 1) % n) else hunt al n k (bits.set hand.toNat 0) ((hand + 1) % n)) else hunt al n k bits ((hand + 1) % n)
theorem set_get {bits : List Int} {i j : Nat} (h : bits.getD j 0 = 0) : (bits.set i 0).getD j 0 = 0 := by
  rw [List.getD_eq_getElem?_getD] at *
  rw [List.getElem?_set]
  split
  · split <;> rfl
  · exact h
theorem hand_ok {n : Nat} {hand : Int} (hn : 1 ≤ n) : 0 ≤ (hand + 1) % (n : Int) ∧ (hand + 1) % (n : Int) < n := ⟨Int.emod_nonneg _ (by omega), Int.emod_lt_of_pos _ (by omega)⟩
theorem hunt1 {al : List Int} {n : Nat} (hn : 1 ≤ n) {a : Int} (ha : a ∈ al) : ∀ (d k : Nat) (bits : List Int) (hand : Int), 0 ≤ hand → hand < n → (hand + d) % n = a → bits.getD a.toNat 0 = 0 → d + 1 ≤ k → (hunt al n k bits hand).isSome = true
  | d, 0, _, _, _, _, _, _, h => absurd h (by omega)
  | 0, k + 1, bits, hand, h0, h1, e, z, _ => by
    have : a = hand := by
      rw [← e]
      show (hand + 0) % (n : Int) = hand
      rw [Int.add_zero]
      exact Int.emod_eq_of_lt h0 h1
    subst this
    unfold hunt
    rw [if_pos ha, if_pos z]
    rfl
  | d + 1, k + 1, bits, hand, h0, h1, e, z, h => by
    have hh := hand_ok (hand := hand) hn
    have e2 : ((hand + 1) % (n : Int) + (d : Nat)) % (n : Int) = a := by
      rw [Int.emod_add_emod, ← e]
      congr 1
      omega
    unfold hunt
    split
    · split
      · rfl
      · exact hunt1 hn ha d k _ _ hh.1 hh.2 e2 (set_get z) (by omega)
    · exact hunt1 hn ha d k _ _ hh.1 hh.2 e2 z (by omega)
theorem hunt2 {al : List Int} {n : Nat} (hn : 1 ≤ n) {a : Int} (ha : a ∈ al) : ∀ (d k : Nat) (bits : List Int) (hand : Int), bits.length = n → 0 ≤ hand → hand < n → (hand + d) % n = a → d + 1 + n ≤ k → (hunt al n k bits hand).isSome = true
  | d, 0, _, _, _, _, _, _, h => absurd h (by omega)
  | 0, k + 1, bits, hand, hl, h0, h1, e, h => by
    have : a = hand := by
      rw [← e]
      show (hand + 0) % (n : Int) = hand
      rw [Int.add_zero]
      exact Int.emod_eq_of_lt h0 h1
    subst this
    have hh := hand_ok (hand := a) hn
    unfold hunt
    rw [if_pos ha]
    split
    · rfl
    · refine hunt1 hn ha (n - 1) k _ _ hh.1 hh.2 ?_ ?_ (by omega)
      · rw [Int.emod_add_emod, show a + 1 + ((n - 1 : Nat) : Int) = a + (n : Int) by omega, Int.add_emod_right]
        exact Int.emod_eq_of_lt h0 h1
      · rw [List.getD_eq_getElem?_getD, List.getElem?_set_self (by omega)]
        rfl
  | d + 1, k + 1, bits, hand, hl, h0, h1, e, h => by
    have hh := hand_ok (hand := hand) hn
    have e2 : ((hand + 1) % (n : Int) + (d : Nat)) % (n : Int) = a := by
      rw [Int.emod_add_emod, ← e]
      congr 1
      omega
    unfold hunt
    split
    · split
      · rfl
      · exact hunt2 hn ha d k _ _ (by rw [List.length_set]; exact hl) hh.1 hh.2 e2 (by omega)
    · exact hunt2 hn ha d k _ _ hl hh.1 hh.2 e2 (by omega)
theorem hunt_all {al : List Int} {n : Nat} (hn : 1 ≤ n) {a : Int} (ha : a ∈ al) (a0 : 0 ≤ a) (a1 : a < n) {bits : List Int} {hand : Int} (hl : bits.length = n) (h0 : 0 ≤ hand) (h1 : hand < n) : ∃ r, hunt al n (2 * n) bits hand = some r := by
  have m0 := Int.emod_nonneg (a - hand) (show (n : Int) ≠ 0 by omega)
  have m1 := Int.emod_lt_of_pos (a - hand) (show (0 : Int) < n by omega)
  refine Option.isSome_iff_exists.mp (hunt2 hn ha ((a - hand) % (n : Int)).toNat (2 * n) bits hand hl h0 h1 ?_ (by omega))
  rw [Int.toNat_of_nonneg m0, Int.add_emod_emod, show hand + (a - hand) = a by omega]
  exact Int.emod_eq_of_lt a0 a1
theorem hunt_res {al : List Int} {n : Nat} (hn : 1 ≤ n) : ∀ (k : Nat) (bits : List Int) (hand : Int) (r : Int × List Int × Int), hunt al n k bits hand = some r → bits.length = n → 0 ≤ hand → hand < n → r.1 ∈ al ∧ r.2.1.length = n ∧ 0 ≤ r.2.2 ∧ r.2.2 < n
  | 0, _, _, _, h, _, _, _ => by cases h
  | k + 1, bits, hand, r, h, hl, h0, h1 => by
    have hh := hand_ok (hand := hand) hn
    unfold hunt at h
    split at h
    · rename_i hm
      split at h
      · cases h
        exact ⟨hm, hl, hh.1, hh.2⟩
      · exact hunt_res hn k _ _ r h (by rw [List.length_set]; exact hl) hh.1 hh.2
    · exact hunt_res hn k _ _ r h hl hh.1 hh.2

section

-- a condition of an operator
local macro_rules | `(tactic| walk_at "cond") => `(tactic| first
  | (show (0 : Int) < _; omega)
  | (show CDiv _ _; constructor <;> (first | decide | omega))
  | (show CMul _ _; first | (refine cmul_l ?_; constructor <;> (first | decide | omega)) | (refine cmul_r ?_; constructor <;> (first | decide | omega)))
  | (show CPow _ _; exact (by refine ⟨by decide, by decide, by decide⟩))
  | (show CDivW _ _; exact ⟨by decide, by decide +kernel⟩))
local macro_rules | `(tactic| walk_at "sq") => `(tactic| first | assumption | exact Dh.mono (same_upd (by assumption)) _ _ (by assumption) | exact .inl (.inl (.inl (by assumption))) | exact .inr (.inl (.inl (by assumption))) | exact SqL.of (by assumption) | exact .inl (by assumption) | exact .inl (SqL.of (by assumption)) | exact SqT.of (by assumption) | exact .inr (SqT.of (by assumption)))
local macro_rules | `(tactic| walk_at "st") => `(tactic| first
  | refine ⟨_, rfl, ?_⟩
  | refine ⟨_, _, rfl, rfl, ?_⟩
  | refine .inl ⟨_, rfl, ?_⟩
  | refine ⟨rfl, ?_⟩
  | refine ⟨_, _, rfl, by walk_at "sq", ?_⟩
  | refine ⟨.inl ⟨rfl, _, SqL.of (by assumption)⟩, ?_⟩
  | refine ⟨by walk_at "cond", ?_⟩
  | (refine' ifBT ?hh ?_; (case hh => first | rfl | assumption))
  | (refine' ifBF ?hh ?_; (case hh => first | rfl | assumption)))
local macro_rules | `(tactic| walk_at "go") => `(tactic| repeat walk_at "st")
local macro_rules | `(tactic| walk_at "yes") => `(tactic| (refine' ifT ?hh ?_; (case hh => first | rfl | decide +kernel)))
local macro_rules | `(tactic| walk_at "no") => `(tactic| (refine' ifF ?hh ?_; (case hh => first | decide +kernel | (intro z; cases z; done))))

/-! ### Chooser (as far as the kind "clock" goes) -/
abbrev s_Chooser___init__ : Stmt := inClass (topS 1) 0
theorem sc_Chooser___init__ : FnScope ["self", "kind", "frames"] ["self", "kind", "frames"] (C8.fnScope s_Chooser___init__) := C8.fnScope_by (by decide +kernel)
abbrev s_Chooser_filled : Stmt := inClass (topS 1) 1
theorem sc_Chooser_filled : FnScope ["self", "frame"] ["self", "frame"] (C8.fnScope s_Chooser_filled) := C8.fnScope_by (by decide +kernel)
abbrev s_Chooser_touched : Stmt := inClass (topS 1) 2
theorem sc_Chooser_touched : FnScope ["self", "frame"] ["self", "frame"] (C8.fnScope s_Chooser_touched) := C8.fnScope_by (by decide +kernel)
abbrev s_Chooser_emptied : Stmt := inClass (topS 1) 3
theorem sc_Chooser_emptied : FnScope ["self", "frame"] ["self", "frame"] (C8.fnScope s_Chooser_emptied) := C8.fnScope_by (by decide +kernel)
abbrev s_Chooser_choose : Stmt := inClass (topS 1) 4
theorem sc_Chooser_choose : FnScope ["self", "allowed"] ["self", "allowed"] (C8.fnScope s_Chooser_choose) := C8.fnScope_by (by decide +kernel)
abbrev s_Chooser__choose_by_hand : Stmt := inClass (topS 1) 5
theorem sc_Chooser__choose_by_hand : FnScope ["self", "allowed", "frame"] ["self", "allowed"] (C8.fnScope s_Chooser__choose_by_hand) := C8.fnScope_by (by decide +kernel)
structure STxt (K : PySem.W.Frag) (mg : Str → Option Value) (C : Addr) : Prop where
  cl : Cls K C
  n1 : NoAttr K C "_kind"
  n2 : NoAttr K C "_frames"
  n3 : NoAttr K C "_calls"
  n4 : NoAttr K C "_fill_calls"
  n5 : NoAttr K C "_use_calls"
  n6 : NoAttr K C "_bits"
  n7 : NoAttr K C "_hand"
  mgC : mg "Chooser" = some (.ref C)
structure ChAt (C : Addr) (H : Hp) (p fa ua ba dx : Addr) (kd : Str) (n : Nat) (calls hand : Int) (fl us bits : List Int) : Prop where
  g : H p = some (.ins C dx (chF kd n calls fa ua ba hand))
  f : H fa = some (.lst (fl.map V.int))
  u : H ua = some (.lst (us.map V.int))
  b : H ba = some (.lst (bits.map V.int))
  nd : fa ≠ ua ∧ fa ≠ ba ∧ ua ≠ ba
  lf : fl.length = n
  lu : us.length = n
  lb : bits.length = n
def But (H H' : Hp) (p : Addr) : Prop := ∀ b o, b ≠ p → H b = some o → H' b = some o
def ButL (l : List Addr) (H H' : Hp) : Prop := ∀ b o, b ∉ l → H b = some o → H' b = some o
theorem ButL.refl {l : List Addr} {H : Hp} : ButL l H H := fun _ _ _ e => e
theorem ButL.trans {l : List Addr} {H H1 H2 : Hp} (a : ButL l H H1) (b : ButL l H1 H2) : ButL l H H2 := fun c o n e => b c o n (a c o n e)
theorem ButL.mono {l l' : List Addr} {H H1 : Hp} (a : ButL l H H1) (h : ∀ x ∈ l, x ∈ l') : ButL l' H H1 := fun c o n e => a c o (fun z => n (h c z)) e
theorem ButL.put {l : List Addr} {H : Hp} {p : Addr} {o : HO} (h : p ∈ l) : ButL l H (upd H p o) := fun c o n e => by
  rw [upd_ne (fun z => n (by rw [z]; exact h))]
  exact e
theorem Same.but {l : List Addr} {H H1 : Hp} (s : Same H H1) : ButL l H H1 := fun c o _ e => s c o e
theorem ins_lst {H : Hp} {p q C dx : Addr} {fs : List (Str × V)} {xs : List V} (h : H p = some (.ins C dx fs)) (h2 : H q = some (.lst xs)) : p ≠ q := fun e => by
  rw [e, h2] at h
  cases h
theorem set_ints (ns : List Int) (i : Nat) (v : Int) : (ns.map V.int).set i (.int v) = (ns.set i v).map V.int := by rw [List.map_set]
theorem ix_ok {n : Nat} {i : Int} (h0 : 0 ≤ i) (h1 : i < n) : ixN n i = some i.toNat := by
  unfold ixN
  rw [if_pos h0, if_pos h1]
def spChI (C : Addr) : Sp := fun vs H Q _ => ∃ (p dx : Addr) (kd : Str) (n : Nat), vs = [.ref p, .str kd, .int n] ∧ H p = some (.ins C dx []) ∧ n ≤ 1000 ∧ ∀ fa ua ba H', ChAt C H' p fa ua ba dx kd n 0 0 (List.replicate n 0) (List.replicate n 0) (List.replicate n 0) → H fa = none → H ua = none → H ba = none → But H H' p → Q .non H'
def spTch (C : Addr) : Sp := fun vs H Q _ => ∃ (p fa ua ba dx : Addr) (kd : Str) (n : Nat) (calls hand fr : Int) (fl us bits : List Int), vs = [.ref p, .int fr] ∧ ChAt C H p fa ua ba dx kd n calls hand fl us bits ∧ 0 ≤ fr ∧ fr < n ∧
  ∀ H', ChAt C H' p fa ua ba dx kd n (calls + 1) hand fl (us.set fr.toNat (calls + 1)) (bits.set fr.toNat 1) → ButL [p, ua, ba] H H' → Q .non H'
def spFil (C : Addr) : Sp := fun vs H Q _ => ∃ (p fa ua ba dx : Addr) (kd : Str) (n : Nat) (calls hand fr : Int) (fl us bits : List Int), vs = [.ref p, .int fr] ∧ ChAt C H p fa ua ba dx kd n calls hand fl us bits ∧ 0 ≤ fr ∧ fr < n ∧
  ∀ H', ChAt C H' p fa ua ba dx kd n (calls + 1) hand (fl.set fr.toNat (calls + 1)) (us.set fr.toNat (calls + 1)) (bits.set fr.toNat 1) → ButL [p, fa, ua, ba] H H' → Q .non H'
def spEmp (C : Addr) : Sp := fun vs H Q _ => ∃ (p fa ua ba dx : Addr) (kd : Str) (n : Nat) (calls hand fr : Int) (fl us bits : List Int), vs = [.ref p, .int fr] ∧ ChAt C H p fa ua ba dx kd n calls hand fl us bits ∧ 0 ≤ fr ∧ fr < n ∧
  ∀ H', ChAt C H' p fa ua ba dx kd n calls hand fl us (bits.set fr.toNat 0) → ButL [ba] H H' → Q .non H'
def spHunt (C : Addr) (al? : Bool) : Sp := fun vs H Q _ => ∃ (p fa ua ba dx al : Addr) (kd : Str) (n k : Nat) (calls hand fr hand2 : Int) (fl us bits bits2 als : List Int), vs = [.ref p, .ref al] ∧ ChAt C H p fa ua ba dx kd n calls hand fl us bits ∧ (al? = true → kd = "clock") ∧
  H al = some (.lst (als.map V.int)) ∧ al ≠ ba ∧ 1 ≤ n ∧ n ≤ 1000 ∧ (∀ x ∈ als, 0 ≤ x ∧ x < n) ∧ 0 ≤ hand ∧ hand < n ∧ hunt als n k bits hand = some (fr, bits2, hand2) ∧
  ∀ H', ChAt C H' p fa ua ba dx kd n calls hand2 fl us bits2 → ButL [p, ba] H H' → Q (.int fr) H'
section
variable {P : Program} {w : World} {K : PySem.W.Frag} {mg : Str → Option Value} {base : Heap} {C : Addr}
theorem ok_emptied {f : Addr} {fd : FuncData} (F : C8.Fun K "emptied" "Chooser.emptied" s_Chooser_emptied f fd) (M : Meth K C "emptied" f) (b : Binds K fd ["self", "frame"] []) (S : STxt K mg C) : C8.Met P w K mg base 1 C "emptied" (spEmp C) [] := by
  refine C8.met0 S.cl M F b sc_Chooser_emptied (fun vs H Q E h => ?_) (fun cdv A outer s H vs Q E hr h => ?_)
  · obtain ⟨p, fa, ua, ba, dx, kd, n, calls, hand, fr, fl, us, bits, rfl, _⟩ := h
    rfl
  obtain ⟨p, fa, ua, ba, dx, kd, n, calls, hand, fr, fl, us, bits, rfl, hc, f0, f1, q⟩ := h
  refine ⟨_, (pss_one (ps_asg pe_int (pg_sub (pe_fld (pv 0) rfl) (pv 1) set_list))), ?_⟩
  have npb := ins_lst hc.g hc.b
  walk_at "go"
  refine ⟨_, _, _, _, _, rfl, hc.g, S.cl, S.n6, ch_bits, ?_⟩
  walk_at "go"
  refine ⟨ba, _, fr, _, rfl, rfl, hc.b, ix_ok f0 (by rw [List.length_map, hc.lb]; exact f1), ?_⟩
  rw [set_ints]
  exact q _ ⟨by rw [upd_ne npb]; exact hc.g, by rw [upd_ne hc.nd.2.1]; exact hc.f, by rw [upd_ne hc.nd.2.2]; exact hc.u, upd_same, hc.nd, hc.lf, hc.lu, by rw [List.length_set]; exact hc.lb⟩ (ButL.put List.mem_cons_self)
theorem ok_touched {f : Addr} {fd : FuncData} (F : C8.Fun K "touched" "Chooser.touched" s_Chooser_touched f fd) (M : Meth K C "touched" f) (b : Binds K fd ["self", "frame"] []) (S : STxt K mg C) : C8.Met P w K mg base 1 C "touched" (spTch C) [] := by
  refine C8.met0 S.cl M F b sc_Chooser_touched (fun vs H Q E h => ?_) (fun cdv A outer s H vs Q E hr h => ?_)
  · obtain ⟨p, fa, ua, ba, dx, kd, n, calls, hand, fr, fl, us, bits, rfl, _⟩ := h
    rfl
  obtain ⟨p, fa, ua, ba, dx, kd, n, calls, hand, fr, fl, us, bits, rfl, hc, f0, f1, q⟩ := h
  refine ⟨_, (pss_cons (ps_fldaug (pv 0) pe_int in_add)
      (pss_cons (ps_asg (pe_fld (pv 0) rfl) (pg_sub (pe_fld (pv 0) rfl) (pv 1) set_list))
      (pss_one (ps_asg pe_int (pg_sub (pe_fld (pv 0) rfl) (pv 1) set_list))))), ?_⟩
  have npb := ins_lst hc.g hc.b
  have npu := ins_lst hc.g hc.u
  have npf := ins_lst hc.g hc.f
  walk_at "go"
  refine ⟨p, C, dx, _, _, rfl, hc.g, S.cl, S.n3, ch_calls, ?_⟩
  walk_at "go"
  refine ⟨dx, _, hc.g, (by show 7 < 1000; decide), ?_⟩
  rw [ch_pcalls]
  have h1 : ChAt C (upd H p (HO.ins C dx (chF kd n (calls + 1) fa ua ba hand))) p fa ua ba dx kd n (calls + 1) hand fl us bits := ⟨upd_same, by rw [upd_ne npf.symm]; exact hc.f, by rw [upd_ne npu.symm]; exact hc.u, by rw [upd_ne npb.symm]; exact hc.b, hc.nd, hc.lf, hc.lu, hc.lb⟩
  have b1 := ButL.put (l := [p, ua, ba]) (H := H) (p := p) (o := HO.ins C dx (chF kd n (calls + 1) fa ua ba hand)) List.mem_cons_self
  show _
  generalize upd H p (HO.ins C dx (chF kd n (calls + 1) fa ua ba hand)) = H1 at *
  clear hc
  walk_at "go"
  refine ⟨_, _, _, _, _, rfl, h1.g, S.cl, S.n3, ch_calls, ?_⟩
  walk_at "go"
  refine ⟨_, _, _, _, _, rfl, h1.g, S.cl, S.n5, ch_uses, ?_⟩
  walk_at "go"
  refine ⟨ua, _, fr, _, rfl, rfl, h1.u, ix_ok f0 (by rw [List.length_map, h1.lu]; exact f1), ?_⟩
  rw [set_ints]
  have h2 : ChAt C (upd H1 ua (HO.lst ((us.set fr.toNat (calls + 1)).map V.int))) p fa ua ba dx kd n (calls + 1) hand fl (us.set fr.toNat (calls + 1)) bits := ⟨by rw [upd_ne npu]; exact h1.g, by rw [upd_ne h1.nd.1]; exact h1.f, upd_same, by rw [upd_ne h1.nd.2.2.symm]; exact h1.b, h1.nd, h1.lf, by rw [List.length_set]; exact h1.lu, h1.lb⟩
  have b2 := b1.trans (ButL.put (l := [p, ua, ba]) (H := H1) (p := ua) (o := HO.lst ((us.set fr.toNat (calls + 1)).map V.int)) (by simp))
  show _
  generalize upd H1 ua (HO.lst ((us.set fr.toNat (calls + 1)).map V.int)) = H2 at *
  clear h1
  walk_at "go"
  refine ⟨_, _, _, _, _, rfl, h2.g, S.cl, S.n6, ch_bits, ?_⟩
  walk_at "go"
  refine ⟨ba, _, fr, _, rfl, rfl, h2.b, ix_ok f0 (by rw [List.length_map, h2.lb]; exact f1), ?_⟩
  rw [set_ints]
  exact q _ ⟨by rw [upd_ne npb]; exact h2.g, by rw [upd_ne h2.nd.2.1]; exact h2.f, by rw [upd_ne h2.nd.2.2]; exact h2.u, upd_same, h2.nd, h2.lf, h2.lu, by rw [List.length_set]; exact h2.lb⟩ (b2.trans (ButL.put (by simp)))
theorem ok_filled {f : Addr} {fd : FuncData} (F : C8.Fun K "filled" "Chooser.filled" s_Chooser_filled f fd) (M : Meth K C "filled" f) (b : Binds K fd ["self", "frame"] []) (S : STxt K mg C) (m_touched : C8.Met P w K mg base 1 C "touched" (spTch C) []) : C8.Met P w K mg base 2 C "filled" (spFil C) [] := by
  refine C8.met0 S.cl M F b sc_Chooser_filled (fun vs H Q E h => ?_) (fun cdv A outer s H vs Q E hr h => ?_)
  · obtain ⟨p, fa, ua, ba, dx, kd, n, calls, hand, fr, fl, us, bits, rfl, _⟩ := h
    rfl
  obtain ⟨p, fa, ua, ba, dx, kd, n, calls, hand, fr, fl, us, bits, rfl, hc, f0, f1, q⟩ := h
  refine ⟨_, (pss_cons (ps_expr (C8.pe_mt m_touched hr (by omega) (pv 0) (pa_cons (pv 1) pa_nil)))
      (pss_one (ps_asg (pe_fld (pv 0) rfl) (pg_sub (pe_fld (pv 0) rfl) (pv 1) set_list)))), ?_⟩
  walk_at "go"
  refine ⟨p, dx, _, rfl, hc.g, ch_no1, ?_⟩
  walk_at "go"
  refine ⟨p, fa, ua, ba, dx, kd, n, calls, hand, fr, fl, us, bits, rfl, hc, f0, f1, fun H1 h1 b1 => ?_⟩
  have npf := ins_lst h1.g h1.f
  walk_at "go"
  refine ⟨_, _, _, _, _, rfl, h1.g, S.cl, S.n3, ch_calls, ?_⟩
  walk_at "go"
  refine ⟨_, _, _, _, _, rfl, h1.g, S.cl, S.n4, ch_fills, ?_⟩
  walk_at "go"
  refine ⟨fa, _, fr, _, rfl, rfl, h1.f, ix_ok f0 (by rw [List.length_map, h1.lf]; exact f1), ?_⟩
  rw [set_ints]
  exact q _ ⟨by rw [upd_ne npf]; exact h1.g, upd_same, by rw [upd_ne h1.nd.1.symm]; exact h1.u, by rw [upd_ne h1.nd.2.1.symm]; exact h1.b, h1.nd, by rw [List.length_set]; exact h1.lf, h1.lu, h1.lb⟩ ((b1.mono (by simp)).trans (ButL.put (by simp)))
end

end

/-! ### ints in lists -/
theorem inV_ints (x : Int) (ns : List Int) : inV (.int x) (ns.map V.int) = decide (x ∈ ns) := by
  unfold inV
  induction ns with
  | nil => simp
  | cons n ns ih =>
    rw [List.map_cons, List.any_cons, ih]
    show ((n == x) || decide (x ∈ ns)) = _
    by_cases h : n = x
    · subst h
      simp
    · have h2 : (n == x) = false := by simpa using h
      rw [h2, Bool.false_or]
      have h3 : ¬ x = n := fun e => h e.symm
      simp [h3]
theorem flat_ints : ∀ ns : List Int, (ns.map V.int).all flatV = true
  | [] => rfl
  | _ :: ns => by
    rw [List.map_cons, List.all_cons, flat_ints ns]
    rfl

section

-- a condition of an operator
local macro_rules | `(tactic| walk_at "cond") => `(tactic| first
  | (show (0 : Int) < _; omega)
  | (show CDiv _ _; constructor <;> (first | decide | omega))
  | (show CMul _ _; first | (refine cmul_l ?_; constructor <;> (first | decide | omega)) | (refine cmul_r ?_; constructor <;> (first | decide | omega)))
  | (show CPow _ _; exact (by refine ⟨by decide, by decide, by decide⟩))
  | (show CDivW _ _; exact ⟨by decide, by decide +kernel⟩))
local macro_rules | `(tactic| walk_at "sq") => `(tactic| first | assumption | exact Dh.mono (same_upd (by assumption)) _ _ (by assumption) | exact .inl (.inl (.inl (by assumption))) | exact .inr (.inl (.inl (by assumption))) | exact SqL.of (by assumption) | exact .inl (by assumption) | exact .inl (SqL.of (by assumption)) | exact SqT.of (by assumption) | exact .inr (SqT.of (by assumption)))
local macro_rules | `(tactic| walk_at "st") => `(tactic| first
  | refine ⟨_, rfl, ?_⟩
  | refine ⟨_, _, rfl, rfl, ?_⟩
  | refine .inl ⟨_, rfl, ?_⟩
  | refine ⟨rfl, ?_⟩
  | refine ⟨_, _, rfl, by walk_at "sq", ?_⟩
  | refine ⟨.inl ⟨rfl, _, SqL.of (by assumption)⟩, ?_⟩
  | refine ⟨by walk_at "cond", ?_⟩
  | (refine' ifBT ?hh ?_; (case hh => first | rfl | assumption))
  | (refine' ifBF ?hh ?_; (case hh => first | rfl | assumption)))
local macro_rules | `(tactic| walk_at "go") => `(tactic| repeat walk_at "st")
local macro_rules | `(tactic| walk_at "yes") => `(tactic| (refine' ifT ?hh ?_; (case hh => first | rfl | decide +kernel)))
local macro_rules | `(tactic| walk_at "no") => `(tactic| (refine' ifF ?hh ?_; (case hh => first | decide +kernel | (intro z; cases z; done))))

/-! ### Chooser: __init__, _choose_by_hand, choose -/
theorem rep_ints : ∀ n : Nat, (List.replicate n [V.int 0]).flatten = (List.replicate n (0 : Int)).map V.int
  | 0 => rfl
  | n + 1 => by
    rw [List.replicate_succ, List.flatten_cons, rep_ints n, List.replicate_succ]
    rfl
theorem But.trans {H H1 H2 : Hp} {p : Addr} (a : But H H1 p) (b : But H1 H2 p) : But H H2 p := fun c o n e => b c o n (a c o n e)
theorem But.put {H : Hp} {p : Addr} {o : HO} : But H (upd H p o) p := fun c _ n e => by
  rw [upd_ne n]
  exact e
theorem Same.one {H H1 : Hp} {p : Addr} (s : Same H H1) : But H H1 p := fun c o _ e => s c o e
section
variable {P : Program} {w : World} {K : PySem.W.Frag} {mg : Str → Option Value} {base : Heap} {C : Addr}
theorem ok_init {f : Addr} {fd : FuncData} (F : C8.Fun K "__init__" "Chooser.__init__" s_Chooser___init__ f fd) (M : Mk K C f) (b : Binds K fd ["self", "kind", "frames"] []) (S : STxt K mg C) : C8.Mak P w K mg base 1 "Chooser" C (spChI C) [] := by
  refine C8.mak0 M S.mgC F b .nil sc_Chooser___init__ (fun vs H Q E h => ?_) (fun cdv A outer s H vs Q E hr h => ?_)
  · obtain ⟨p, dx, kd, n, rfl, _⟩ := h
    rfl
  obtain ⟨p, dx, kd, n, rfl, hp, hn, q⟩ := h
  refine ⟨_, (pss_cons (ps_fld (pv 0) (pv 1) rfl)
      (pss_cons (ps_fld (pv 0) (pv 2) rfl)
      (pss_cons (ps_fld (pv 0) pe_int rfl)
      (pss_cons (ps_fld (pv 0) (pe_op op_rep (pe_lst (pa_cons pe_int pa_nil)) (pv 2)) rfl)
      (pss_cons (ps_fld (pv 0) (pe_op op_rep (pe_lst (pa_cons pe_int pa_nil)) (pv 2)) rfl)
      (pss_cons (ps_fld (pv 0) (pe_op op_rep (pe_lst (pa_cons pe_int pa_nil)) (pv 2)) rfl)
      (pss_one (ps_fld (pv 0) pe_int rfl)))))))), ?_⟩
  walk_at "go"
  refine ⟨p, C, dx, _, rfl, hp, S.cl, S.n1, (by show 0 < 1000; decide), ?_⟩
  have g1 := upd_same (H := H) (a := p) (o := HO.ins C dx (putF "_kind" (V.str kd) []))
  have b1 := But.put (H := H) (p := p) (o := HO.ins C dx (putF "_kind" (V.str kd) []))
  show _
  generalize upd H p (HO.ins C dx (putF "_kind" (V.str kd) [])) = H1 at *
  walk_at "go"
  refine ⟨p, C, dx, _, rfl, g1, S.cl, S.n2, (by show 1 < 1000; decide), ?_⟩
  have g2 := upd_same (H := H1) (a := p) (o := HO.ins C dx (putF "_frames" (V.int n) (putF "_kind" (V.str kd) [])))
  have b2 := b1.trans (But.put (H := H1) (p := p) (o := HO.ins C dx (putF "_frames" (V.int n) (putF "_kind" (V.str kd) []))))
  show _
  generalize upd H1 p (HO.ins C dx (putF "_frames" (V.int n) (putF "_kind" (V.str kd) []))) = H2 at *
  walk_at "go"
  refine ⟨p, C, dx, _, rfl, g2, S.cl, S.n3, (by show 2 < 1000; decide), ?_⟩
  have g3 := upd_same (H := H2) (a := p) (o := HO.ins C dx (putF "_calls" (V.int 0) (putF "_frames" (V.int n) (putF "_kind" (V.str kd) []))))
  have b3 := b2.trans (But.put (H := H2) (p := p) (o := HO.ins C dx (putF "_calls" (V.int 0) (putF "_frames" (V.int n) (putF "_kind" (V.str kd) [])))))
  show _
  generalize upd H2 p (HO.ins C dx (putF "_calls" (V.int 0) (putF "_frames" (V.int n) (putF "_kind" (V.str kd) [])))) = H3 at *
  generalize hf3 : (putF "_calls" (V.int 0) (putF "_frames" (V.int n) (putF "_kind" (V.str kd) []))) = f3 at *
  have l3 : f3.length = 3 := by
    rw [← hf3]
    kernel_rfl
  clear g1 g2 b1 b2
  walk_at "go"
  refine ⟨sz, fun l1 nl1 => ?_⟩
  have s4 := same_upd (o := HO.lst [V.int 0]) nl1
  have gl1 := upd_same (H := H3) (a := l1) (o := HO.lst [V.int 0])
  generalize upd H3 l1 (HO.lst [V.int 0]) = H4 at *
  walk_at "go"
  refine ⟨l1, n, [V.int 0], rfl, rfl, gl1, by omega, by omega, (by rw [Int.toNat_natCast, List.length_singleton, sizeLine_eq]; omega), fun fa nfa => ?_⟩
  rw [Int.toNat_natCast, rep_ints]
  have s5 := s4.trans (same_upd (o := HO.lst ((List.replicate n (0 : Int)).map V.int)) nfa)
  have nfa3 := s4.free nfa
  have gfa := upd_same (H := H4) (a := fa) (o := HO.lst ((List.replicate n (0 : Int)).map V.int))
  generalize upd H4 fa (HO.lst ((List.replicate n (0 : Int)).map V.int)) = H5 at *
  have g5 := s5 _ _ g3
  have b5 := b3.trans (Same.one (p := p) s5)
  have npf := ins_lst g5 gfa
  have nfa0 : H fa = none := by
    cases e : H fa with
    | none => rfl
    | some o =>
      have := b3 fa o npf.symm e
      rw [nfa3] at this
      cases this
  clear s4 gl1 nfa nfa3 nl1
  walk_at "go"
  refine ⟨p, C, dx, _, rfl, g5, S.cl, S.n4, (by rw [l3]; decide), ?_⟩
  have g6 := upd_same (H := H5) (a := p) (o := HO.ins C dx (putF "_fill_calls" (V.ref fa) f3))
  have b6 := b5.trans (But.put (H := H5) (p := p) (o := HO.ins C dx (putF "_fill_calls" (V.ref fa) f3)))
  have gfa6 : (upd H5 p (HO.ins C dx (putF "_fill_calls" (V.ref fa) f3))) fa = some (.lst ((List.replicate n (0 : Int)).map V.int)) := by
    rw [upd_ne npf.symm]
    exact gfa
  show _
  generalize upd H5 p (HO.ins C dx (putF "_fill_calls" (V.ref fa) f3)) = H6 at *
  generalize hf4 : putF "_fill_calls" (V.ref fa) f3 = f4 at *
  have l4 : f4.length = 4 := by
    rw [← hf4, ← hf3]
    kernel_rfl
  clear g3 g5 gfa b3 b5
  walk_at "go"
  refine ⟨sz, fun l2 nl2 => ?_⟩
  have s7 := same_upd (o := HO.lst [V.int 0]) nl2
  have gl2 := upd_same (H := H6) (a := l2) (o := HO.lst [V.int 0])
  generalize upd H6 l2 (HO.lst [V.int 0]) = H7 at *
  walk_at "go"
  refine ⟨l2, n, [V.int 0], rfl, rfl, gl2, by omega, by omega, (by rw [Int.toNat_natCast, List.length_singleton, sizeLine_eq]; omega), fun ua nua => ?_⟩
  rw [Int.toNat_natCast, rep_ints]
  have s8 := s7.trans (same_upd (o := HO.lst ((List.replicate n (0 : Int)).map V.int)) nua)
  have nua6 := s7.free nua
  have gua := upd_same (H := H7) (a := ua) (o := HO.lst ((List.replicate n (0 : Int)).map V.int))
  generalize upd H7 ua (HO.lst ((List.replicate n (0 : Int)).map V.int)) = H8 at *
  have g8 := s8 _ _ g6
  have gfa8 := s8 _ _ gfa6
  have nfu : fa ≠ ua := ne_of_none gfa6 nua6
  have b8 := b6.trans (Same.one (p := p) s8)
  have npu := ins_lst g8 gua
  have nua0 : H ua = none := by
    cases e : H ua with
    | none => rfl
    | some o =>
      have := b6 ua o npu.symm e
      rw [nua6] at this
      cases this
  clear s7 gl2 nua nua6 nl2
  walk_at "go"
  refine ⟨p, C, dx, _, rfl, g8, S.cl, S.n5, (by rw [l4]; decide), ?_⟩
  have g9 := upd_same (H := H8) (a := p) (o := HO.ins C dx (putF "_use_calls" (V.ref ua) f4))
  have b9 := b8.trans (But.put (H := H8) (p := p) (o := HO.ins C dx (putF "_use_calls" (V.ref ua) f4)))
  have gfa9 : (upd H8 p (HO.ins C dx (putF "_use_calls" (V.ref ua) f4))) fa = some (.lst ((List.replicate n (0 : Int)).map V.int)) := by
    rw [upd_ne npf.symm]
    exact gfa8
  have gua9 : (upd H8 p (HO.ins C dx (putF "_use_calls" (V.ref ua) f4))) ua = some (.lst ((List.replicate n (0 : Int)).map V.int)) := by
    rw [upd_ne npu.symm]
    exact gua
  show _
  generalize upd H8 p (HO.ins C dx (putF "_use_calls" (V.ref ua) f4)) = H9 at *
  generalize hf5 : putF "_use_calls" (V.ref ua) f4 = f5 at *
  have l5 : f5.length = 5 := by
    rw [← hf5, ← hf4, ← hf3]
    kernel_rfl
  clear g6 g8 gfa8 gfa6 gua b6 b8
  walk_at "go"
  refine ⟨sz, fun l2 nl2 => ?_⟩
  have s10 := same_upd (o := HO.lst [V.int 0]) nl2
  have gl2 := upd_same (H := H9) (a := l2) (o := HO.lst [V.int 0])
  generalize upd H9 l2 (HO.lst [V.int 0]) = H10 at *
  walk_at "go"
  refine ⟨l2, n, [V.int 0], rfl, rfl, gl2, by omega, by omega, (by rw [Int.toNat_natCast, List.length_singleton, sizeLine_eq]; omega), fun ba nba => ?_⟩
  rw [Int.toNat_natCast, rep_ints]
  have s11 := s10.trans (same_upd (o := HO.lst ((List.replicate n (0 : Int)).map V.int)) nba)
  have nba9 := s10.free nba
  have gba := upd_same (H := H10) (a := ba) (o := HO.lst ((List.replicate n (0 : Int)).map V.int))
  generalize upd H10 ba (HO.lst ((List.replicate n (0 : Int)).map V.int)) = H11 at *
  have g11 := s11 _ _ g9
  have gfa11 := s11 _ _ gfa9
  have gua11 := s11 _ _ gua9
  have nfb : fa ≠ ba := ne_of_none gfa9 nba9
  have nub : ua ≠ ba := ne_of_none gua9 nba9
  have b11 := b9.trans (Same.one (p := p) s11)
  have npb := ins_lst g11 gba
  have nba0 : H ba = none := by
    cases e : H ba with
    | none => rfl
    | some o =>
      have := b9 ba o npb.symm e
      rw [nba9] at this
      cases this
  clear s10 gl2 nba nba9 nl2
  walk_at "go"
  refine ⟨p, C, dx, _, rfl, g11, S.cl, S.n6, (by rw [l5]; decide), ?_⟩
  have g12 := upd_same (H := H11) (a := p) (o := HO.ins C dx (putF "_bits" (V.ref ba) f5))
  have b12 := b11.trans (But.put (H := H11) (p := p) (o := HO.ins C dx (putF "_bits" (V.ref ba) f5)))
  have gfa12 : (upd H11 p (HO.ins C dx (putF "_bits" (V.ref ba) f5))) fa = some (.lst ((List.replicate n (0 : Int)).map V.int)) := by
    rw [upd_ne npf.symm]
    exact gfa11
  have gua12 : (upd H11 p (HO.ins C dx (putF "_bits" (V.ref ba) f5))) ua = some (.lst ((List.replicate n (0 : Int)).map V.int)) := by
    rw [upd_ne npu.symm]
    exact gua11
  have gba12 : (upd H11 p (HO.ins C dx (putF "_bits" (V.ref ba) f5))) ba = some (.lst ((List.replicate n (0 : Int)).map V.int)) := by
    rw [upd_ne npb.symm]
    exact gba
  show _
  generalize upd H11 p (HO.ins C dx (putF "_bits" (V.ref ba) f5)) = H12 at *
  generalize hf6 : putF "_bits" (V.ref ba) f5 = f6 at *
  have l6 : f6.length = 6 := by
    rw [← hf6, ← hf5, ← hf4, ← hf3]
    kernel_rfl
  walk_at "go"
  refine ⟨p, C, dx, _, rfl, g12, S.cl, S.n7, (by rw [l6]; decide), ?_⟩
  have ef : putF "_hand" (V.int 0) f6 = chF kd n 0 fa ua ba 0 := by
    rw [← hf6, ← hf5, ← hf4, ← hf3]
    exact ch_make
  rw [ef]
  have rl : (List.replicate n (0 : Int)).length = n := List.length_replicate
  exact q fa ua ba _ ⟨upd_same, by rw [upd_ne npf.symm]; exact gfa12, by rw [upd_ne npu.symm]; exact gua12, by rw [upd_ne npb.symm]; exact gba12, ⟨nfu, nfb, nub⟩, rl, rl, rl⟩ nfa0 nua0 nba0 (b12.trans But.put)
theorem ok_hand {f : Addr} {fd : FuncData} (F : C8.Fun K "_choose_by_hand" "Chooser._choose_by_hand" s_Chooser__choose_by_hand f fd) (M : Meth K C "_choose_by_hand" f) (b : Binds K fd ["self", "allowed"] []) (S : STxt K mg C) : C8.Met P w K mg base 1 C "_choose_by_hand" (spHunt C false) [] := by
  refine C8.met0 S.cl M F b sc_Chooser__choose_by_hand (fun vs H Q E h => ?_) (fun cdv A outer s H vs Q E hr h => ?_)
  · obtain ⟨p, fa, ua, ba, dx, al, kd, n, k, calls, hand, fr, hand2, fl, us, bits, bits2, als, rfl, _⟩ := h
    rfl
  obtain ⟨p, fa, ua, ba, dx, al, kd, n, k, calls, hand, fr, hand2, fl, us, bits, bits2, als, rfl, hc, _, ga, nab, n1, n2, hal, h0, h1, hh, q⟩ := h
  refine ⟨_, (pss_one (ps_mk (ps_while PassesOwn.never (pt_val pe_bl)
      (pss_cons (ps_set (i := 2) sc_Chooser__choose_by_hand.nd rfl (.inl rfl) (pe_fld (pv 0) rfl))
      (pss_cons (ps_fld (pv 0) (pe_op op_mod (pe_op op_add (pv 2) pe_int) (pe_fld (pv 0) rfl)) rfl)
      (pss_one (ps_mk (ps_if (pt_cmpR (inQ K rfl) (pv 2) (pv 1) (by rfl))
      (pss_cons (ps_mk (ps_if (pt_cmpR op_eq (pe_ix (ixL K rfl) (pe_fld (pv 0) rfl) (pv 2) (fun _ _ => rfl)) pe_int (nomark _))
      (pss_one (ps_ret (pv 2)))
      pss_nil))
      (pss_one (ps_asg pe_int (pg_sub (pe_fld (pv 0) rfl) (pv 2) set_list))))
      pss_nil)))))))), ?_⟩
  have nal : al ∉ [p, ba] := by
    intro z
    rcases List.mem_cons.mp z with e | z
    · exact ins_lst hc.g ga e.symm
    · exact nab (List.mem_singleton.mp z)
  refine un ?_
  refine ⟨fun m σ H' => Ob (ButL [p, ba] H H' ∧ ∃ (hand : Int) (bits : List Int) (y2 : Option V), ChAt C H' p fa ua ba dx kd n calls hand fl us bits ∧ 0 ≤ hand ∧ hand < n ∧ hunt als n m bits hand = some (fr, bits2, hand2) ∧ σ = [sR p, sR al, y2]), ⟨k, ob ⟨ButL.refl, hand, bits, none, hc, h0, h1, hh, rfl⟩⟩, ?_⟩
  clear hc h0 h1 hh hand bits
  intro m σ H1 h
  obtain ⟨b1, hand, bits, y2, hc, h0, h1, hh, rfl⟩ := unob h
  clear h
  obtain ⟨m, rfl⟩ : ∃ m', m = m' + 1 := by
    cases m with
    | zero => cases hh
    | succ m => exact ⟨m, rfl⟩
  have npb := ins_lst hc.g hc.b
  have npf := ins_lst hc.g hc.f
  have npu := ins_lst hc.g hc.u
  have hn := hand_ok (hand := hand) n1
  walk_at "go"
  refine ⟨_, fun _ _ z => z, ?_⟩
  walk_at "go"
  refine ⟨_, _, _, _, _, rfl, hc.g, S.cl, S.n7, ch_hand, ?_⟩
  walk_at "go"
  refine ⟨_, _, _, _, _, rfl, hc.g, S.cl, S.n2, ch_frames, ?_⟩
  have n0 : (0 : Int) < n := by omega
  walk_at "go"
  refine ⟨p, C, dx, _, rfl, hc.g, S.cl, S.n7, (by show 7 < 1000; decide), ?_⟩
  rw [ch_phand]
  have h1' : ChAt C (upd H1 p (HO.ins C dx (chF kd n calls fa ua ba ((hand + 1) % n)))) p fa ua ba dx kd n calls ((hand + 1) % n) fl us bits := ⟨upd_same, by rw [upd_ne npf.symm]; exact hc.f, by rw [upd_ne npu.symm]; exact hc.u, by rw [upd_ne npb.symm]; exact hc.b, hc.nd, hc.lf, hc.lu, hc.lb⟩
  have b2 := b1.trans (ButL.put (l := [p, ba]) (H := H1) (p := p) (o := HO.ins C dx (chF kd n calls fa ua ba ((hand + 1) % n))) List.mem_cons_self)
  show _
  generalize upd H1 p (HO.ins C dx (chF kd n calls fa ua ba ((hand + 1) % n))) = H2 at *
  clear hc b1
  have ga2 := b2 _ _ nal ga
  unfold hunt at hh
  refine un ?_
  walk_at "go"
  refine ⟨flat_ints _, ?_⟩
  rw [inV_ints]
  walk_at "go"
  refine ifD (fun c => ?_) (fun c => ?_)
  · rw [if_pos c] at hh
    have hb := hal hand c
    have ab : atI (bits.map V.int) hand = some (.int (bits.getD hand.toNat 0)) := atI_getD h0 (by rw [h1'.lb]; exact h1)
    walk_at "go"
    refine jnS (M := fun σ H' => bits.getD hand.toNat 0 ≠ 0 ∧ H' = H2 ∧ σ = [sR p, sR al, sI hand]) ?_ (fun N2 k2 => ?_)
    rotate_left
    · walk_at "go"
      refine ⟨_, _, _, _, _, rfl, h1'.g, S.cl, S.n6, ch_bits, ?_⟩
      walk_at "go"
      refine ⟨_, _, _, _, rfl, rfl, SqL.of h1'.b, ab, ?_⟩
      walk_at "go"
      refine ifEq (fun c2 => ?_) (fun c2 => ?_)
      · rw [if_pos c2] at hh
        cases hh
        walk_at "go"
        exact q _ h1' b2
      · exact k2 _ _ ⟨c2, rfl, rfl⟩
    rintro σ H3 ⟨c2, e3, rfl⟩
    subst e3
    rw [if_neg c2] at hh
    walk_at "go"
    refine ⟨_, _, _, _, _, rfl, h1'.g, S.cl, S.n6, ch_bits, ?_⟩
    walk_at "go"
    refine ⟨ba, _, hand, _, rfl, rfl, h1'.b, ix_ok h0 (by rw [List.length_map, h1'.lb]; exact h1), ?_⟩
    rw [set_ints]
    refine ⟨m, Nat.lt_succ_self _, ob ⟨b2.trans (ButL.put (by simp)), _, bits.set hand.toNat 0, _, ⟨by rw [upd_ne npb]; exact h1'.g, by rw [upd_ne h1'.nd.2.1]; exact h1'.f, by rw [upd_ne h1'.nd.2.2]; exact h1'.u, upd_same, h1'.nd, h1'.lf, h1'.lu, by rw [List.length_set]; exact h1'.lb⟩, hn.1, hn.2, hh, rfl⟩⟩
  · rw [if_neg c] at hh
    exact ⟨m, Nat.lt_succ_self _, ob ⟨b2, _, bits, _, h1', hn.1, hn.2, hh, rfl⟩⟩
theorem ok_choose {f : Addr} {fd : FuncData} (F : C8.Fun K "choose" "Chooser.choose" s_Chooser_choose f fd) (M : Meth K C "choose" f) (b : Binds K fd ["self", "allowed"] []) (S : STxt K mg C) (m_hand : C8.Met P w K mg base 1 C "_choose_by_hand" (spHunt C false) []) : C8.Met P w K mg base 2 C "choose" (spHunt C true) [] := by
  refine C8.met0 S.cl M F b sc_Chooser_choose (fun vs H Q E h => ?_) (fun cdv A outer s H vs Q E hr h => ?_)
  · obtain ⟨p, fa, ua, ba, dx, al, kd, n, k, calls, hand, fr, hand2, fl, us, bits, bits2, als, rfl, _⟩ := h
    rfl
  obtain ⟨p, fa, ua, ba, dx, al, kd, n, k, calls, hand, fr, hand2, fl, us, bits, bits2, als, rfl, hc, ek, ga, nab, n1, n2, hal, h0, h1, hh, q⟩ := h
  obtain rfl := ek rfl
  refine ⟨_, (pss_cons (ps_mk (ps_if (pt_cmpR op_eq (pe_fld (pv 0) rfl) pe_str (nomark _))
      (pss_one (ps_ret (C8.pe_mt m_hand hr (by omega) (pv 0) (pa_cons (pv 1) pa_nil))))
      pss_nil))
      (pss_cons (ps_never)
      (pss_cons (ps_never)
      (pss_one (ps_never))))), ?_⟩
  refine jnS (M := fun _ _ => False) (fun _ _ z => z.elim) (fun N kk => ?_)
  walk_at "go"
  refine ⟨_, _, _, _, _, rfl, hc.g, S.cl, S.n1, ch_kind, ?_⟩
  walk_at "go"
  refine ⟨p, dx, _, rfl, hc.g, ch_no5, ?_⟩
  walk_at "go"
  exact ⟨p, fa, ua, ba, dx, al, "clock", n, k, calls, hand, fr, hand2, fl, us, bits, bits2, als, rfl, hc, fun _ => rfl, ga, nab, n1, n2, hal, h0, h1, hh, q⟩
end

end

section

-- a condition of an operator
local macro_rules | `(tactic| walk_at "cond") => `(tactic| first
  | (show (0 : Int) < _; omega)
  | (show CDiv _ _; constructor <;> (first | decide | omega))
  | (show CMul _ _; first | (refine cmul_l ?_; constructor <;> (first | decide | omega)) | (refine cmul_r ?_; constructor <;> (first | decide | omega)))
  | (show CPow _ _; exact (by refine ⟨by decide, by decide, by decide⟩))
  | (show CDivW _ _; exact ⟨by decide, by decide +kernel⟩))
local macro_rules | `(tactic| walk_at "sq") => `(tactic| first | assumption | exact Dh.mono (same_upd (by assumption)) _ _ (by assumption) | exact .inl (.inl (.inl (by assumption))) | exact .inr (.inl (.inl (by assumption))) | exact SqL.of (by assumption) | exact .inl (by assumption) | exact .inl (SqL.of (by assumption)) | exact SqT.of (by assumption) | exact .inr (SqT.of (by assumption)))
local macro_rules | `(tactic| walk_at "st") => `(tactic| first
  | refine ⟨_, rfl, ?_⟩
  | refine ⟨_, _, rfl, rfl, ?_⟩
  | refine .inl ⟨_, rfl, ?_⟩
  | refine ⟨rfl, ?_⟩
  | refine ⟨_, _, rfl, by walk_at "sq", ?_⟩
  | refine ⟨.inl ⟨rfl, _, SqL.of (by assumption)⟩, ?_⟩
  | refine ⟨by walk_at "cond", ?_⟩
  | (refine' ifBT ?hh ?_; (case hh => first | rfl | assumption))
  | (refine' ifBF ?hh ?_; (case hh => first | rfl | assumption)))
local macro_rules | `(tactic| walk_at "go") => `(tactic| repeat walk_at "st")
local macro_rules | `(tactic| walk_at "yes") => `(tactic| (refine' ifT ?hh ?_; (case hh => first | rfl | decide +kernel)))
local macro_rules | `(tactic| walk_at "no") => `(tactic| (refine' ifF ?hh ?_; (case hh => first | decide +kernel | (intro z; cases z; done))))

/-! ### the plain chooser: tell -/
abbrev s_chooser_tell : Stmt := topS 7
theorem sc_chooser_tell : FnScope ["_law_plain", "_law_what", "_law_frame"] ["_law_plain", "_law_what", "_law_frame"] (C8.fnScope s_chooser_tell) := C8.fnScope_by (by decide +kernel)
structure PlAt (H : Hp) (d fi us bi fu : Addr) (kd : Str) (n : Nat) (t u : Int) (fis uss bits : List Int) (full : List Bool) : Prop where
  g : H d = some (.dK (pK kd t u fi us bi fu))
  f : H fi = some (.lst (fis.map V.int))
  u : H us = some (.lst (uss.map V.int))
  b : H bi = some (.lst (bits.map V.int))
  l : H fu = some (.lst (full.map V.bl))
  nd : fi ≠ us ∧ fi ≠ bi ∧ fi ≠ fu ∧ us ≠ bi ∧ us ≠ fu ∧ bi ≠ fu
  lf : fis.length = n
  lu : uss.length = n
  lb : bits.length = n
  ll : full.length = n
theorem dk_lst {H : Hp} {p q : Addr} {kvs : List (Key × V)} {xs : List V} (h : H p = some (.dK kvs)) (h2 : H q = some (.lst xs)) : p ≠ q := fun e => by
  rw [e, h2] at h
  cases h
theorem set_bls (ns : List Bool) (i : Nat) (v : Bool) : (ns.map V.bl).set i (.bl v) = (ns.set i v).map V.bl := by rw [List.map_set]
section
variable {H : Hp} {d fi us bi fu : Addr} {kd : Str} {n : Nat} {t u : Int} {fis uss bits : List Int} {full : List Bool}
theorem PlAt.putD (h : PlAt H d fi us bi fu kd n t u fis uss bits full) (t2 u2 : Int) : PlAt (upd H d (.dK (pK kd t2 u2 fi us bi fu))) d fi us bi fu kd n t2 u2 fis uss bits full :=
  ⟨upd_same, by rw [upd_ne (dk_lst h.g h.f).symm]; exact h.f, by rw [upd_ne (dk_lst h.g h.u).symm]; exact h.u, by rw [upd_ne (dk_lst h.g h.b).symm]; exact h.b, by rw [upd_ne (dk_lst h.g h.l).symm]; exact h.l, h.nd, h.lf, h.lu, h.lb, h.ll⟩
theorem PlAt.putF (h : PlAt H d fi us bi fu kd n t u fis uss bits full) {xs : List Int} (l : xs.length = n) : PlAt (upd H fi (.lst (xs.map V.int))) d fi us bi fu kd n t u xs uss bits full :=
  ⟨by rw [upd_ne (dk_lst h.g h.f)]; exact h.g, upd_same, by rw [upd_ne h.nd.1.symm]; exact h.u, by rw [upd_ne h.nd.2.1.symm]; exact h.b, by rw [upd_ne h.nd.2.2.1.symm]; exact h.l, h.nd, l, h.lu, h.lb, h.ll⟩
theorem PlAt.putU (h : PlAt H d fi us bi fu kd n t u fis uss bits full) {xs : List Int} (l : xs.length = n) : PlAt (upd H us (.lst (xs.map V.int))) d fi us bi fu kd n t u fis xs bits full :=
  ⟨by rw [upd_ne (dk_lst h.g h.u)]; exact h.g, by rw [upd_ne h.nd.1]; exact h.f, upd_same, by rw [upd_ne h.nd.2.2.2.1.symm]; exact h.b, by rw [upd_ne h.nd.2.2.2.2.1.symm]; exact h.l, h.nd, h.lf, l, h.lb, h.ll⟩
theorem PlAt.putB (h : PlAt H d fi us bi fu kd n t u fis uss bits full) {xs : List Int} (l : xs.length = n) : PlAt (upd H bi (.lst (xs.map V.int))) d fi us bi fu kd n t u fis uss xs full :=
  ⟨by rw [upd_ne (dk_lst h.g h.b)]; exact h.g, by rw [upd_ne h.nd.2.1]; exact h.f, by rw [upd_ne h.nd.2.2.2.1]; exact h.u, upd_same, by rw [upd_ne h.nd.2.2.2.2.2.symm]; exact h.l, h.nd, h.lf, h.lu, l, h.ll⟩
theorem PlAt.putL (h : PlAt H d fi us bi fu kd n t u fis uss bits full) {xs : List Bool} (l : xs.length = n) : PlAt (upd H fu (.lst (xs.map V.bl))) d fi us bi fu kd n t u fis uss bits xs :=
  ⟨by rw [upd_ne (dk_lst h.g h.l)]; exact h.g, by rw [upd_ne h.nd.2.2.1]; exact h.f, by rw [upd_ne h.nd.2.2.2.2.1]; exact h.u, by rw [upd_ne h.nd.2.2.2.2.2]; exact h.b, upd_same, h.nd, h.lf, h.lu, h.lb, l⟩
theorem PlAt.but {l : List Addr} {H' : Hp} (h : PlAt H d fi us bi fu kd n t u fis uss bits full) (s : ButL l H H') (hd : d ∉ l) (h1 : fi ∉ l) (h2 : us ∉ l) (h3 : bi ∉ l) (h4 : fu ∉ l) : PlAt H' d fi us bi fu kd n t u fis uss bits full :=
  ⟨s _ _ hd h.g, s _ _ h1 h.f, s _ _ h2 h.u, s _ _ h3 h.b, s _ _ h4 h.l, h.nd, h.lf, h.lu, h.lb, h.ll⟩
end
/-- what is told: emptied or not -/
def onB (wh : Str) : Bool := !decide (V.str wh = V.str ("emptied" : Str))
def spTell : Sp := fun vs H Q _ => ∃ (d fi us bi fu : Addr) (kd wh : Str) (n : Nat) (t u fr : Int) (fis uss bits : List Int) (full : List Bool), vs = [.ref d, .str wh, .int fr] ∧ PlAt H d fi us bi fu kd n t u fis uss bits full ∧ 0 ≤ fr ∧ fr < n ∧
  ∀ H', PlAt H' d fi us bi fu kd n (t + 1) u (if wh = ("filled" : Str) then fis.set fr.toNat (t + 1) else fis) (if onB wh = true then uss.set fr.toNat (t + 1) else uss) (bits.set fr.toNat (if onB wh = true then 1 else 0)) (full.set fr.toNat (onB wh)) → ButL [d, fi, us, bi, fu] H H' → Q .non H'
section
variable {P : Program} {w : World} {K : PySem.W.Frag} {mg : Str → Option Value} {base : Heap}
theorem ok_tell {f : Addr} {fd : FuncData} (D : Def K mg "_law_chooser_tell" s_chooser_tell f fd) (b : Binds K fd ["_law_plain", "_law_what", "_law_frame"] []) (T : Txt mg) : Cal P w K mg base 1 "_law_chooser_tell" spTell [] := by
  refine cal0 D b .nil sc_chooser_tell (fun vs H Q E h => ?_) (fun cdv A outer s H vs Q E hr h => ?_)
  · obtain ⟨d, fi, us, bi, fu, kd, wh, n, t, u, fr, fis, uss, bits, full, rfl, _⟩ := h
    rfl
  obtain ⟨d, fi, us, bi, fu, kd, wh, n, t, u, fr, fis, uss, bits, full, rfl, hp, f0, f1, q⟩ := h
  refine ⟨_, (pss_cons (ps_dput (hu_of hr) (pv 0) pe_str (pe_op op_add (pe_dget (hu_of hr) (pv 0) pe_str (fun _ _ => rfl)) pe_int) rfl)
      (pss_cons (ps_asg (pe_cmpR op_ne (pv 1) pe_str (nomark _)) (pg_sub (pe_dget (hu_of hr) (pv 0) pe_str (fun _ _ => rfl)) (pv 2) set_list))
      (pss_cons (ps_asg (pe_callTy call_int1 (by rfl) T.int (by decide +kernel) (pa_cons (pe_cmpR op_ne (pv 1) pe_str (nomark _)) pa_nil)) (pg_sub (pe_dget (hu_of hr) (pv 0) pe_str (fun _ _ => rfl)) (pv 2) set_list))
      (pss_cons (ps_mk (ps_if (pt_cmpR op_ne (pv 1) pe_str (nomark _))
      (pss_one (ps_asg (pe_dget (hu_of hr) (pv 0) pe_str (fun _ _ => rfl)) (pg_sub (pe_dget (hu_of hr) (pv 0) pe_str (fun _ _ => rfl)) (pv 2) set_list)))
      pss_nil))
      (pss_one (ps_mk (ps_if (pt_cmpR op_eq (pv 1) pe_str (nomark _))
      (pss_one (ps_asg (pe_dget (hu_of hr) (pv 0) pe_str (fun _ _ => rfl)) (pg_sub (pe_dget (hu_of hr) (pv 0) pe_str (fun _ _ => rfl)) (pv 2) set_list)))
      pss_nil))))))), ?_⟩
  walk_at "go"
  refine ⟨d, _, rfl, p_time ▸ DGet.k (k := Sum.inr "time") hp.g, ?_⟩
  walk_at "go"
  refine ⟨d, _, rfl, DPut.k (k := Sum.inr "time") hp.g (by show 7 < sizeLine; rw [sizeLine_eq]; decide), ?_⟩
  rw [p_ptime]
  have h1 := hp.putD (t + 1) u
  have b1 := ButL.put (l := [d, fi, us, bi, fu]) (H := H) (p := d) (o := HO.dK (pK kd (t + 1) u fi us bi fu)) (by simp)
  show _
  generalize upd H d (HO.dK (pK kd (t + 1) u fi us bi fu)) = H1 at *
  clear hp
  have eo : (!decide (V.str wh = V.str ("emptied" : Str))) = onB wh := rfl
  walk_at "go"
  refine ⟨d, _, rfl, p_full ▸ DGet.k (k := Sum.inr "full") h1.g, ?_⟩
  walk_at "go"
  rw [eo]
  refine ⟨fu, _, fr, _, rfl, rfl, h1.l, ix_ok f0 (by rw [List.length_map, h1.ll]; exact f1), ?_⟩
  rw [set_bls]
  have h2 := h1.putL (xs := full.set fr.toNat (onB wh)) (by rw [List.length_set]; exact h1.ll)
  have b2 := b1.trans (ButL.put (l := [d, fi, us, bi, fu]) (H := H1) (p := fu) (o := HO.lst ((full.set fr.toNat (onB wh)).map V.bl)) (by simp))
  show _
  generalize upd H1 fu (HO.lst ((full.set fr.toNat (onB wh)).map V.bl)) = H2 at *
  clear h1
  walk_at "go"
  refine .inr ⟨_, rfl, ?_⟩
  walk_at "go"
  refine ⟨d, _, rfl, p_bits ▸ DGet.k (k := Sum.inr "bits") h2.g, ?_⟩
  walk_at "go"
  rw [eo]
  refine ⟨bi, _, fr, _, rfl, rfl, h2.b, ix_ok f0 (by rw [List.length_map, h2.lb]; exact f1), ?_⟩
  rw [set_ints]
  have h3 := h2.putB (xs := bits.set fr.toNat (if onB wh = true then 1 else 0)) (by rw [List.length_set]; exact h2.lb)
  have b3 := b2.trans (ButL.put (l := [d, fi, us, bi, fu]) (H := H2) (p := bi) (o := HO.lst ((bits.set fr.toNat (if onB wh = true then 1 else 0)).map V.int)) (by simp))
  show _
  generalize upd H2 bi (HO.lst ((bits.set fr.toNat (if onB wh = true then 1 else 0)).map V.int)) = H3 at *
  clear h2 b1 b2
  refine jnS (M := fun σ H' => PlAt H' d fi us bi fu kd n (t + 1) u fis (if onB wh = true then uss.set fr.toNat (t + 1) else uss) (bits.set fr.toNat (if onB wh = true then 1 else 0)) (full.set fr.toNat (onB wh)) ∧ ButL [d, fi, us, bi, fu] H H' ∧ σ = [sR d, sS wh, sI fr]) ?_ (fun N kk => ?_)
  rotate_left
  · walk_at "go"
    rw [eo]
    cases ho : onB wh with
    | false =>
      refine ifBF rfl ?_
      rw [ho, if_neg Bool.false_ne_true, if_neg Bool.false_ne_true] at kk
      rw [ho, if_neg Bool.false_ne_true] at h3
      exact kk _ _ ⟨h3, b3, rfl⟩
    | true =>
      refine ifBT rfl ?_
      rw [ho, if_pos rfl, if_pos rfl] at kk
      rw [ho, if_pos rfl] at h3
      walk_at "go"
      refine ⟨d, _, rfl, p_time ▸ DGet.k (k := Sum.inr "time") h3.g, ?_⟩
      walk_at "go"
      refine ⟨d, _, rfl, p_used ▸ DGet.k (k := Sum.inr "used") h3.g, ?_⟩
      walk_at "go"
      refine ⟨us, _, fr, _, rfl, rfl, h3.u, ix_ok f0 (by rw [List.length_map, h3.lu]; exact f1), ?_⟩
      rw [set_ints]
      exact kk _ _ ⟨h3.putU (by rw [List.length_set]; exact h3.lu), b3.trans (ButL.put (by simp)), rfl⟩
  rintro σ H4 ⟨h4, b4, rfl⟩
  clear h3 b3
  refine un ?_
  walk_at "go"
  refine ifD (fun c => ?_) (fun c => ?_)
  · rw [if_pos (V.str.inj c)] at q
    walk_at "go"
    refine ⟨d, _, rfl, p_time ▸ DGet.k (k := Sum.inr "time") h4.g, ?_⟩
    walk_at "go"
    refine ⟨d, _, rfl, p_filled ▸ DGet.k (k := Sum.inr "filled") h4.g, ?_⟩
    walk_at "go"
    refine ⟨fi, _, fr, _, rfl, rfl, h4.f, ix_ok f0 (by rw [List.length_map, h4.lf]; exact f1), ?_⟩
    rw [set_ints]
    exact q _ (h4.putF (by rw [List.length_set]; exact h4.lf)) (b4.trans (ButL.put (by simp)))
  · rw [if_neg (fun z => c (congrArg V.str z))] at q
    exact q _ h4 b4
end

end

section

-- a condition of an operator
local macro_rules | `(tactic| walk_at "cond") => `(tactic| first
  | (show (0 : Int) < _; omega)
  | (show CDiv _ _; constructor <;> (first | decide | omega))
  | (show CMul _ _; first | (refine cmul_l ?_; constructor <;> (first | decide | omega)) | (refine cmul_r ?_; constructor <;> (first | decide | omega)))
  | (show CPow _ _; exact (by refine ⟨by decide, by decide, by decide⟩))
  | (show CDivW _ _; exact ⟨by decide, by decide +kernel⟩))
local macro_rules | `(tactic| walk_at "sq") => `(tactic| first | assumption | exact Dh.mono (same_upd (by assumption)) _ _ (by assumption) | exact .inl (.inl (.inl (by assumption))) | exact .inr (.inl (.inl (by assumption))) | exact SqL.of (by assumption) | exact .inl (by assumption) | exact .inl (SqL.of (by assumption)) | exact SqT.of (by assumption) | exact .inr (SqT.of (by assumption)))
local macro_rules | `(tactic| walk_at "st") => `(tactic| first
  | refine ⟨_, rfl, ?_⟩
  | refine ⟨_, _, rfl, rfl, ?_⟩
  | refine .inl ⟨_, rfl, ?_⟩
  | refine ⟨rfl, ?_⟩
  | refine ⟨_, _, rfl, by walk_at "sq", ?_⟩
  | refine ⟨.inl ⟨rfl, _, SqL.of (by assumption)⟩, ?_⟩
  | refine ⟨by walk_at "cond", ?_⟩
  | (refine' ifBT ?hh ?_; (case hh => first | rfl | assumption))
  | (refine' ifBF ?hh ?_; (case hh => first | rfl | assumption)))
local macro_rules | `(tactic| walk_at "go") => `(tactic| repeat walk_at "st")
local macro_rules | `(tactic| walk_at "yes") => `(tactic| (refine' ifT ?hh ?_; (case hh => first | rfl | decide +kernel)))
local macro_rules | `(tactic| walk_at "no") => `(tactic| (refine' ifF ?hh ?_; (case hh => first | decide +kernel | (intro z; cases z; done))))

/-! ### the plain chooser: new, pick -/
abbrev s_chooser_new : Stmt := topS 6
theorem sc_chooser_new : FnScope ["_law_kind", "_law_many", "_law_k"] ["_law_kind", "_law_many"] (C8.fnScope s_chooser_new) := C8.fnScope_by (by decide +kernel)
abbrev s_chooser_pick : Stmt := topS 8
theorem sc_chooser_pick : FnScope ["_law_plain", "_law_allowed", "_law_step", "_law_frame", "_law_ages", "_law_best"] ["_law_plain", "_law_allowed"] (C8.fnScope s_chooser_pick) := C8.fnScope_by (by decide +kernel)
def spNew : Sp := fun vs H Q _ => ∃ (kd : Str) (n : Nat), vs = [.str kd, .int n] ∧ n ≤ 1000 ∧
  ∀ d fi us bi fu H', Same H H' → (∀ x ∈ [d, fi, us, bi, fu], H x = none) → PlAt H' d fi us bi fu kd n 0 0 (List.replicate n 0) (List.replicate n 0) (List.replicate n 0) (List.replicate n false) → Q (.ref d) H'
def spPick : Sp := fun vs H Q _ => ∃ (d fi us bi fu al : Addr) (n : Nat) (t hand fr hand2 : Int) (fis uss bits bits2 als : List Int) (full : List Bool), vs = [.ref d, .ref al] ∧ PlAt H d fi us bi fu "clock" n t hand fis uss bits full ∧
  H al = some (.lst (als.map V.int)) ∧ al ∉ [d, bi] ∧ 1 ≤ n ∧ n ≤ 1000 ∧ (∀ x ∈ als, 0 ≤ x ∧ x < n) ∧ 0 ≤ hand ∧ hand < n ∧ hunt als n (2 * n) bits hand = some (fr, bits2, hand2) ∧
  ∀ H', PlAt H' d fi us bi fu "clock" n t hand2 fis uss bits2 full → ButL [d, bi] H H' → Q (.int fr) H'
section
variable {P : Program} {w : World} {K : PySem.W.Frag} {mg : Str → Option Value} {base : Heap}
theorem ok_new {f : Addr} {fd : FuncData} (D : Def K mg "_law_chooser_new" s_chooser_new f fd) (b : Binds K fd ["_law_kind", "_law_many"] []) (T : Txt mg) : Cal P w K mg base 1 "_law_chooser_new" spNew [] := by
  refine cal0 D b .nil sc_chooser_new (fun vs H Q E h => ?_) (fun cdv A outer s H vs Q E hr h => ?_)
  · obtain ⟨kd, n, rfl, _⟩ := h
    rfl
  obtain ⟨kd, n, rfl, hn, q⟩ := h
  refine ⟨_, (pss_one (ps_ret (pe_disp (pps_cons pe_str (pv 0) (pps_cons pe_str pe_int (pps_cons pe_str pe_int (pps_cons pe_str (pe_lc (own := [("_law_k", 2)]) (g := gName 2) (tt := tYes) rfl sc_chooser_new.nd (pi_range1 (by rfl) T.range (pa_cons (pv 1) pa_nil)) (blkOk_by (own := [("_law_k", 2)]) (N := ["_law_kind", "_law_many", "_law_k"]) (sc := C8.fnScope s_chooser_new) (by decide +kernel)) (fun _ _ _ _ _ => (pg_name (i := 2) sc_chooser_new.nd rfl (.inl rfl))) (fun _ _ _ _ _ => pts_nil) (fun _ _ _ _ _ => pe_int)) (pps_cons pe_str (pe_lc (own := [("_law_k", 2)]) (g := gName 2) (tt := tYes) rfl sc_chooser_new.nd (pi_range1 (by rfl) T.range (pa_cons (pv 1) pa_nil)) (blkOk_by (own := [("_law_k", 2)]) (N := ["_law_kind", "_law_many", "_law_k"]) (sc := C8.fnScope s_chooser_new) (by decide +kernel)) (fun _ _ _ _ _ => (pg_name (i := 2) sc_chooser_new.nd rfl (.inl rfl))) (fun _ _ _ _ _ => pts_nil) (fun _ _ _ _ _ => pe_int)) (pps_cons pe_str (pe_lc (own := [("_law_k", 2)]) (g := gName 2) (tt := tYes) rfl sc_chooser_new.nd (pi_range1 (by rfl) T.range (pa_cons (pv 1) pa_nil)) (blkOk_by (own := [("_law_k", 2)]) (N := ["_law_kind", "_law_many", "_law_k"]) (sc := C8.fnScope s_chooser_new) (by decide +kernel)) (fun _ _ _ _ _ => (pg_name (i := 2) sc_chooser_new.nd rfl (.inl rfl))) (fun _ _ _ _ _ => pts_nil) (fun _ _ _ _ _ => pe_int)) (pps_cons pe_str (pe_lc (own := [("_law_k", 2)]) (g := gName 2) (tt := tYes) rfl sc_chooser_new.nd (pi_range1 (by rfl) T.range (pa_cons (pv 1) pa_nil)) (blkOk_by (own := [("_law_k", 2)]) (N := ["_law_kind", "_law_many", "_law_k"]) (sc := C8.fnScope s_chooser_new) (by decide +kernel)) (fun _ _ _ _ _ => (pg_name (i := 2) sc_chooser_new.nd rfl (.inl rfl))) (fun _ _ _ _ _ => pts_nil) (fun _ _ _ _ _ => pe_bl)) pps_nil))))))) (by rfl) (by rfl) (fun z => by cases z) (by decide)))), ?_⟩
  intro d nd
  have t0 := same_upd (o := HO.dK []) nd
  have gd := upd_same (H := H) (a := d) (o := HO.dK [])
  generalize upd H d (HO.dK []) = G0 at *
  walk_at "go"
  rw [show ((n : Int)).toNat = n by omega]
  refine ⟨by omega, by omega, fun fi nfi => lc_range (lo := 0) (n := n) (fun j H' => Ob (Same G0 H' ∧ H' fi = some (.lst (List.replicate j (V.int 0))))) (ob ⟨same_upd nfi, upd_same⟩) ?_ ?_⟩
  · intro j H2 hj h
    obtain ⟨s2, g2⟩ := unob h
    refine ⟨rfl, ?_⟩
    walk_at "go"
    refine ⟨_, g2, sz5 (by rw [List.length_replicate]; omega), ob ⟨same_put s2 nfi, ?_⟩⟩
    rw [upd_same, List.replicate_succ']
  intro G1 h
  obtain ⟨tfi, gfi⟩ := unob h
  clear h
  have gd := tfi _ _ gd
  walk_at "go"
  rw [show ((n : Int)).toNat = n by omega]
  refine ⟨by omega, by omega, fun us nus => lc_range (lo := 0) (n := n) (fun j H' => Ob (Same G1 H' ∧ H' us = some (.lst (List.replicate j (V.int 0))))) (ob ⟨same_upd nus, upd_same⟩) ?_ ?_⟩
  · intro j H2 hj h
    obtain ⟨s2, g2⟩ := unob h
    refine ⟨rfl, ?_⟩
    walk_at "go"
    refine ⟨_, g2, sz5 (by rw [List.length_replicate]; omega), ob ⟨same_put s2 nus, ?_⟩⟩
    rw [upd_same, List.replicate_succ']
  intro G2 h
  obtain ⟨tus, gus⟩ := unob h
  clear h
  have ne_fi_us := ne_of_none gfi nus
  have gfi := tus _ _ gfi
  have gd := tus _ _ gd
  walk_at "go"
  rw [show ((n : Int)).toNat = n by omega]
  refine ⟨by omega, by omega, fun bi nbi => lc_range (lo := 0) (n := n) (fun j H' => Ob (Same G2 H' ∧ H' bi = some (.lst (List.replicate j (V.int 0))))) (ob ⟨same_upd nbi, upd_same⟩) ?_ ?_⟩
  · intro j H2 hj h
    obtain ⟨s2, g2⟩ := unob h
    refine ⟨rfl, ?_⟩
    walk_at "go"
    refine ⟨_, g2, sz5 (by rw [List.length_replicate]; omega), ob ⟨same_put s2 nbi, ?_⟩⟩
    rw [upd_same, List.replicate_succ']
  intro G3 h
  obtain ⟨tbi, gbi⟩ := unob h
  clear h
  have ne_fi_bi := ne_of_none gfi nbi
  have gfi := tbi _ _ gfi
  have ne_us_bi := ne_of_none gus nbi
  have gus := tbi _ _ gus
  have gd := tbi _ _ gd
  walk_at "go"
  rw [show ((n : Int)).toNat = n by omega]
  refine ⟨by omega, by omega, fun fu nfu => lc_range (lo := 0) (n := n) (fun j H' => Ob (Same G3 H' ∧ H' fu = some (.lst (List.replicate j (V.bl false))))) (ob ⟨same_upd nfu, upd_same⟩) ?_ ?_⟩
  · intro j H2 hj h
    obtain ⟨s2, g2⟩ := unob h
    refine ⟨rfl, ?_⟩
    walk_at "go"
    refine ⟨_, g2, sz5 (by rw [List.length_replicate]; omega), ob ⟨same_put s2 nfu, ?_⟩⟩
    rw [upd_same, List.replicate_succ']
  intro G4 h
  obtain ⟨tfu, gfu⟩ := unob h
  clear h
  have ne_fi_fu := ne_of_none gfi nfu
  have gfi := tfu _ _ gfi
  have ne_us_fu := ne_of_none gus nfu
  have gus := tfu _ _ gus
  have ne_bi_fu := ne_of_none gbi nfu
  have gbi := tfu _ _ gbi
  have gd := tfu _ _ gd
  walk_at "go"
  refine ⟨gd, pK kd 0 0 fi us bi fu, rfl, (by show 7 ≤ 15; decide), ?_⟩
  rw [p_merge]
  have e1 : ∀ m : Nat, List.replicate m (V.int 0) = (List.replicate m (0 : Int)).map V.int := fun m => by rw [List.map_replicate]
  have e2 : List.replicate n (V.bl false) = (List.replicate n false).map V.bl := by rw [List.map_replicate]
  rw [e1] at gfi gus gbi
  rw [e2] at gfu
  have n1 := dk_lst gd gfi
  have n2 := dk_lst gd gus
  have n3 := dk_lst gd gbi
  have n4 := dk_lst gd gfu
  have rl : ∀ x : Int, (List.replicate n x).length = n := fun x => List.length_replicate
  have s01 := t0.trans tfi
  have s02 := s01.trans tus
  have s03 := s02.trans tbi
  refine q d fi us bi fu _ (same_put (s03.trans tfu) nd) ?_ ⟨upd_same, by rw [upd_ne n1.symm]; exact gfi, by rw [upd_ne n2.symm]; exact gus, by rw [upd_ne n3.symm]; exact gbi, by rw [upd_ne n4.symm]; exact gfu, ?_, rl _, rl _, rl _, List.length_replicate⟩
  · intro x hx
    simp only [List.mem_cons, List.not_mem_nil, or_false] at hx
    rcases hx with rfl | rfl | rfl | rfl | rfl
    · exact nd
    · exact t0.free nfi
    · exact s01.free nus
    · exact s02.free nbi
    · exact s03.free nfu
  · exact ⟨ne_fi_us, ne_fi_bi, ne_fi_fu, ne_us_bi, ne_us_fu, ne_bi_fu⟩
theorem ok_pick {f : Addr} {fd : FuncData} (D : Def K mg "_law_chooser_pick" s_chooser_pick f fd) (b : Binds K fd ["_law_plain", "_law_allowed"] []) (T : Txt mg) : Cal P w K mg base 1 "_law_chooser_pick" spPick [] := by
  refine cal0 D b .nil sc_chooser_pick (fun vs H Q E h => ?_) (fun cdv A outer s H vs Q E hr h => ?_)
  · obtain ⟨d, fi, us, bi, fu, al, n, t, hand, fr, hand2, fis, uss, bits, bits2, als, full, rfl, _⟩ := h
    rfl
  obtain ⟨d, fi, us, bi, fu, al, n, t, hand, fr, hand2, fis, uss, bits, bits2, als, full, rfl, hp, ga, nal, n1, n2, hal, h0, h1, hh, q⟩ := h
  refine ⟨_, (pss_cons (ps_mk (ps_if (pt_cmpR op_eq (pe_dget (hu_of hr) (pv 0) pe_str (fun _ _ => rfl)) pe_str (nomark _))
      (pss_one (ps_mk (ps_for PassesOwn.never rfl (pi_range1 (by rfl) T.range (pa_cons (pe_op op_mul pe_int (pe_callB (lenQ K rfl) (by rfl) T.len PySem.boot_len (pa_cons (pe_dget (hu_of hr) (pv 0) pe_str (fun _ _ => rfl)) pa_nil))) pa_nil)) (pg_name (i := 2) sc_chooser_pick.nd rfl (.inl rfl))
      (pss_cons (ps_set (i := 3) sc_chooser_pick.nd rfl (.inl rfl) (pe_dget (hu_of hr) (pv 0) pe_str (fun _ _ => rfl)))
      (pss_cons (ps_dput (hu_of hr) (pv 0) pe_str (pe_op op_mod (pe_callTy call_int1 (by rfl) T.int (by decide +kernel) (pa_cons (pe_op op_add (pv 3) pe_int) pa_nil)) (pe_callB (lenQ K rfl) (by rfl) T.len PySem.boot_len (pa_cons (pe_dget (hu_of hr) (pv 0) pe_str (fun _ _ => rfl)) pa_nil))) rfl)
      (pss_cons (ps_mk (ps_if (PW.pt (pw_and (pt_cmpR (inQ K rfl) (pv 3) (pv 1) (by rfl)) (pw_and1 (pt_cmpR op_eq (pe_ix (ixL K rfl) (pe_dget (hu_of hr) (pv 0) pe_str (fun _ _ => rfl)) (pv 3) (fun _ _ => rfl)) pe_int (nomark _)))))
      (pss_one (ps_ret (pv 3)))
      pss_nil))
      (pss_one (ps_mk (ps_if (pt_cmpR (inQ K rfl) (pv 3) (pv 1) (by rfl))
      (pss_one (ps_asg pe_int (pg_sub (pe_dget (hu_of hr) (pv 0) pe_str (fun _ _ => rfl)) (pv 3) set_list)))
      pss_nil)))))))))
      pss_nil))
      (pss_cons (ps_never)
      (pss_cons (ps_never)
      (pss_cons (ps_never)
      (pss_cons (ps_never)
      (pss_one (ps_never))))))), ?_⟩
  refine jnS (M := fun _ _ => False) (fun _ _ z => z.elim) (fun N kk => ?_)
  walk_at "go"
  refine ⟨d, _, rfl, p_kind ▸ DGet.k (k := Sum.inr "kind") hp.g, ?_⟩
  walk_at "go"
  refine un ?_
  walk_at "go"
  refine ⟨d, _, rfl, p_bits ▸ DGet.k (k := Sum.inr "bits") hp.g, ?_⟩
  have gb := hp.b
  walk_at "go"
  rw [List.length_map, hp.lb]
  refine ⟨by omega, by omega, for_range (lo := 0) (n := (2 * (n : Int)).toNat) (fun j σ H' => Ob (ButL [d, bi] H H' ∧ ∃ (hand : Int) (bits : List Int) (y3 : Option V) (y2 : Option V), PlAt H' d fi us bi fu "clock" n t hand fis uss bits full ∧ 0 ≤ hand ∧ hand < n ∧ hunt als n (2 * n - j) bits hand = some (fr, bits2, hand2) ∧ σ = [sR d, sR al, y2, y3, none, none])) (ob ⟨ButL.refl, hand, bits, none, none, hp, h0, h1, hh, rfl⟩) ?_ ?_⟩
  rotate_left
  · intro σ H' h
    obtain ⟨_, hand, bits, y3, y2, _, _, _, hh, _⟩ := unob h
    rw [show 2 * n - (2 * (n : Int)).toNat = 0 by omega] at hh
    cases hh
  clear hp h0 h1 hh hand bits gb kk
  intro j σ H1 hj h
  obtain ⟨b1, hand, bits, y3, y2, hp, h0, h1, hh, rfl⟩ := unob h
  clear h
  have hn := hand_ok (hand := hand) n1
  rw [show 2 * n - j = 2 * n - (j + 1) + 1 by omega] at hh
  have ga1 := b1 _ _ nal ga
  walk_at "go"
  refine ⟨d, _, rfl, p_under ▸ DGet.k (k := Sum.inr "under") hp.g, ?_⟩
  walk_at "go"
  refine ⟨d, _, rfl, p_bits ▸ DGet.k (k := Sum.inr "bits") hp.g, ?_⟩
  have gb := hp.b
  have n0 : (0 : Int) < n := by omega
  walk_at "go"
  rw [List.length_map, hp.lb]
  walk_at "go"
  refine ⟨d, _, rfl, DPut.k (k := Sum.inr "under") hp.g (by show 7 < sizeLine; rw [sizeLine_eq]; decide), ?_⟩
  rw [p_punder]
  have h2 := hp.putD t ((hand + 1) % n)
  have b2 := b1.trans (ButL.put (l := [d, bi]) (H := H1) (p := d) (o := HO.dK (pK "clock" t ((hand + 1) % n) fi us bi fu)) (by simp))
  show _
  generalize upd H1 d (HO.dK (pK "clock" t ((hand + 1) % n) fi us bi fu)) = H2 at *
  clear hp b1 gb
  have ga2 := b2 _ _ nal ga
  have ab : atI (bits.map V.int) hand = some (.int (bits.getD hand.toNat 0)) := atI_getD h0 (by rw [h2.lb]; exact h1)
  unfold hunt at hh
  refine jnS (M := fun σ H' => ¬ (hand ∈ als ∧ bits.getD hand.toNat 0 = 0) ∧ H' = H2 ∧ ∃ y2, σ = [sR d, sR al, y2, sI hand, none, none]) ?_ (fun N2 k2 => ?_)
  rotate_left
  · walk_at "go"
    refine ⟨flat_ints _, ?_⟩
    rw [inV_ints]
    walk_at "go"
    refine ifD (fun c => ?_) (fun c => ?_)
    · rw [if_pos c] at hh
      walk_at "go"
      refine ⟨d, _, rfl, p_bits ▸ DGet.k (k := Sum.inr "bits") h2.g, ?_⟩
      walk_at "go"
      refine ⟨_, _, _, _, rfl, rfl, SqL.of h2.b, ab, ?_⟩
      walk_at "go"
      refine ifEq (fun c2 => ?_) (fun c2 => ?_)
      · rw [if_pos c2] at hh
        cases hh
        walk_at "go"
        exact q _ h2 b2
      · exact k2 _ _ ⟨fun z => c2 z.2, rfl, _, rfl⟩
    · exact k2 _ _ ⟨fun z => c z.1, rfl, _, rfl⟩
  rintro σ H3 ⟨c2, e3, z2, rfl⟩
  subst e3
  refine un ?_
  walk_at "go"
  refine ⟨flat_ints _, ?_⟩
  rw [inV_ints]
  walk_at "go"
  refine ifD (fun c => ?_) (fun c => ?_)
  · rw [if_pos c, if_neg (fun z => c2 ⟨c, z⟩)] at hh
    walk_at "go"
    refine ⟨d, _, rfl, p_bits ▸ DGet.k (k := Sum.inr "bits") h2.g, ?_⟩
    walk_at "go"
    refine ⟨bi, _, hand, _, rfl, rfl, h2.b, ix_ok h0 (by rw [List.length_map, h2.lb]; exact h1), ?_⟩
    rw [set_ints]
    exact ob ⟨b2.trans (ButL.put (by simp)), _, bits.set hand.toNat 0, _, _, h2.putB (by rw [List.length_set]; exact h2.lb), hn.1, hn.2, hh, rfl⟩
  · rw [if_neg c] at hh
    exact ob ⟨b2, _, bits, _, _, h2, hn.1, hn.2, hh, rfl⟩
end

end

section

-- a condition of an operator
local macro_rules | `(tactic| walk_at "cond") => `(tactic| first
  | (show (0 : Int) < _; omega)
  | (show CDiv _ _; constructor <;> (first | decide | omega))
  | (show CMul _ _; first | (refine cmul_l ?_; constructor <;> (first | decide | omega)) | (refine cmul_r ?_; constructor <;> (first | decide | omega)))
  | (show CPow _ _; exact (by refine ⟨by decide, by decide, by decide⟩))
  | (show CDivW _ _; exact ⟨by decide, by decide +kernel⟩))
local macro_rules | `(tactic| walk_at "sq") => `(tactic| first | assumption | exact Dh.mono (same_upd (by assumption)) _ _ (by assumption) | exact .inl (.inl (.inl (by assumption))) | exact .inr (.inl (.inl (by assumption))) | exact SqL.of (by assumption) | exact .inl (by assumption) | exact .inl (SqL.of (by assumption)) | exact SqT.of (by assumption) | exact .inr (SqT.of (by assumption)))
local macro_rules | `(tactic| walk_at "st") => `(tactic| first
  | refine ⟨_, rfl, ?_⟩
  | refine ⟨_, _, rfl, rfl, ?_⟩
  | refine .inl ⟨_, rfl, ?_⟩
  | refine ⟨rfl, ?_⟩
  | refine ⟨_, _, rfl, by walk_at "sq", ?_⟩
  | refine ⟨.inl ⟨rfl, _, SqL.of (by assumption)⟩, ?_⟩
  | refine ⟨by walk_at "cond", ?_⟩
  | (refine' ifBT ?hh ?_; (case hh => first | rfl | assumption))
  | (refine' ifBF ?hh ?_; (case hh => first | rfl | assumption)))
local macro_rules | `(tactic| walk_at "go") => `(tactic| repeat walk_at "st")
local macro_rules | `(tactic| walk_at "yes") => `(tactic| (refine' ifT ?hh ?_; (case hh => first | rfl | decide +kernel)))
local macro_rules | `(tactic| walk_at "no") => `(tactic| (refine' ifF ?hh ?_; (case hh => first | decide +kernel | (intro z; cases z; done))))

/-! ### both choosers; told -/
abbrev s_chooser_told : Stmt := topS 9
theorem sc_chooser_told : FnScope ["_law_bureau", "_law_plain", "_law_what", "_law_frame"] ["_law_bureau", "_law_plain", "_law_what", "_law_frame"] (C8.fnScope s_chooser_told) := C8.fnScope_by (by decide +kernel)
structure Ad where
  p : Addr
  fa : Addr
  ua : Addr
  ba : Addr
  dx : Addr
  d : Addr
  fi : Addr
  us : Addr
  bi : Addr
  fu : Addr
def Ad.l (A : Ad) : List Addr := [A.p, A.fa, A.ua, A.ba, A.d, A.fi, A.us, A.bi, A.fu]
structure St (C : Addr) (H : Hp) (A : Ad) (n : Nat) (bits : List Int) (hand : Int) (full : List Bool) : Prop where
  ch : ∃ calls fl us, ChAt C H A.p A.fa A.ua A.ba A.dx "clock" n calls hand fl us bits
  pl : ∃ t fis uss, PlAt H A.d A.fi A.us A.bi A.fu "clock" n t hand fis uss bits full
  dj : ∀ x ∈ [A.p, A.fa, A.ua, A.ba], x ∉ [A.d, A.fi, A.us, A.bi, A.fu]
  h0 : 0 ≤ hand
  h1 : hand < n
  n1 : 1 ≤ n
  n2 : n ≤ 100
theorem ChAt.but {C : Addr} {H H' : Hp} {p fa ua ba dx : Addr} {kd : Str} {n : Nat} {calls hand : Int} {fl us bits : List Int} {l : List Addr} (h : ChAt C H p fa ua ba dx kd n calls hand fl us bits) (s : ButL l H H') (h0 : p ∉ l) (h1 : fa ∉ l) (h2 : ua ∉ l) (h3 : ba ∉ l) : ChAt C H' p fa ua ba dx kd n calls hand fl us bits :=
  ⟨s _ _ h0 h.g, s _ _ h1 h.f, s _ _ h2 h.u, s _ _ h3 h.b, h.nd, h.lf, h.lu, h.lb⟩
theorem St.but {C : Addr} {H H' : Hp} {A : Ad} {n : Nat} {bits : List Int} {hand : Int} {full : List Bool} {l : List Addr} (h : St C H A n bits hand full) (s : ButL l H H') (k : ∀ x ∈ A.l, x ∉ l) : St C H' A n bits hand full := by
  obtain ⟨⟨calls, fl, us, hc⟩, ⟨t, fis, uss, hp⟩, dj, h0, h1, n1, n2⟩ := h
  exact ⟨⟨calls, fl, us, hc.but s (k _ (by simp [Ad.l])) (k _ (by simp [Ad.l])) (k _ (by simp [Ad.l])) (k _ (by simp [Ad.l]))⟩, ⟨t, fis, uss, hp.but s (k _ (by simp [Ad.l])) (k _ (by simp [Ad.l])) (k _ (by simp [Ad.l])) (k _ (by simp [Ad.l])) (k _ (by simp [Ad.l]))⟩, dj, h0, h1, n1, n2⟩
theorem St.same {C : Addr} {H H' : Hp} {A : Ad} {n : Nat} {bits : List Int} {hand : Int} {full : List Bool} (h : St C H A n bits hand full) (s : Same H H') : St C H' A n bits hand full := h.but (l := []) (Same.but s) fun x _ z => by cases z
theorem on_f : onB ("filled" : Str) = true := by kernel_rfl
theorem on_t : onB ("touched" : Str) = true := by kernel_rfl
theorem on_e : onB ("emptied" : Str) = false := by kernel_rfl
def spTold (C : Addr) : Sp := fun vs H Q _ => ∃ (A : Ad) (wh : Str) (n : Nat) (fr hand : Int) (bits : List Int) (full : List Bool), vs = [.ref A.p, .ref A.d, .str wh, .int fr] ∧ (wh = ("filled" : Str) ∨ wh = ("touched" : Str) ∨ wh = ("emptied" : Str)) ∧ St C H A n bits hand full ∧ 0 ≤ fr ∧ fr < n ∧
  ∀ H', St C H' A n (bits.set fr.toNat (if onB wh = true then 1 else 0)) hand (full.set fr.toNat (onB wh)) → ButL A.l H H' → Q (.bl true) H'
section
variable {P : Program} {w : World} {K : PySem.W.Frag} {mg : Str → Option Value} {base : Heap} {C : Addr}
theorem ok_told {f : Addr} {fd : FuncData} (D : Def K mg "_law_chooser_told" s_chooser_told f fd) (b : Binds K fd ["_law_bureau", "_law_plain", "_law_what", "_law_frame"] []) (T : Txt mg) (c_chooser_tell : Cal P w K mg base 1 "_law_chooser_tell" spTell [])
    (m_touched : C8.Met P w K mg base 1 C "touched" (spTch C) []) (m_filled : C8.Met P w K mg base 2 C "filled" (spFil C) []) (m_emptied : C8.Met P w K mg base 1 C "emptied" (spEmp C) []) : Cal P w K mg base 3 "_law_chooser_told" (spTold C) [] := by
  refine cal0 D b .nil sc_chooser_told (fun vs H Q E h => ?_) (fun cdv A0 outer s H vs Q E hr h => ?_)
  · obtain ⟨A, wh, n, fr, hand, bits, full, rfl, _⟩ := h
    rfl
  obtain ⟨A, wh, n, fr, hand, bits, full, rfl, hw, hs, f0, f1, q⟩ := h
  refine ⟨_, (pss_cons (ps_expr (C8.pe_c c_chooser_tell hr (by omega) (by rfl) (pa_cons (pv 1) (pa_cons (pv 2) (pa_cons (pv 3) pa_nil)))))
      (pss_cons (ps_mk (ps_if (pt_cmpR op_eq (pv 2) pe_str (nomark _))
      (pss_one (ps_ret (pe_cmpR op_isN (C8.pe_mt m_filled hr (by omega) (pv 0) (pa_cons (pv 3) pa_nil)) pe_non (nomark _))))
      pss_nil))
      (pss_cons (ps_mk (ps_if (pt_cmpR op_eq (pv 2) pe_str (nomark _))
      (pss_one (ps_ret (pe_cmpR op_isN (C8.pe_mt m_touched hr (by omega) (pv 0) (pa_cons (pv 3) pa_nil)) pe_non (nomark _))))
      pss_nil))
      (pss_one (ps_ret (pe_cmpR op_isN (C8.pe_mt m_emptied hr (by omega) (pv 0) (pa_cons (pv 3) pa_nil)) pe_non (nomark _))))))), ?_⟩
  obtain ⟨⟨calls, fl, us, hc⟩, ⟨t, fis, uss, hp⟩, dj, h0, h1, n1, n2⟩ := hs
  walk_at "go"
  refine ⟨A.d, A.fi, A.us, A.bi, A.fu, "clock", wh, n, t, hand, fr, fis, uss, bits, full, rfl, hp, f0, f1, fun H1 hp1 b1 => ?_⟩
  have hc1 := hc.but b1 (dj _ (by simp)) (dj _ (by simp)) (dj _ (by simp)) (dj _ (by simp))
  have b1' : ButL A.l H H1 := b1.mono (by simp [Ad.l])
  have dj2 : ∀ y ∈ [A.d, A.fi, A.us, A.bi, A.fu], y ∉ [A.p, A.fa, A.ua, A.ba] := fun y hy hx => dj y hx hy
  have fin : ∀ (l : List Addr) H2, (∀ x ∈ l, x ∈ [A.p, A.fa, A.ua, A.ba]) → ButL l H1 H2 → (∃ calls fl us, ChAt C H2 A.p A.fa A.ua A.ba A.dx "clock" n calls hand fl us (bits.set fr.toNat (if onB wh = true then 1 else 0))) → Q (.bl true) H2 := fun l H2 hl b2 hc2 => by
    have nl : ∀ y ∈ [A.d, A.fi, A.us, A.bi, A.fu], y ∉ l := fun y hy z => dj2 y hy (hl y z)
    refine q H2 ⟨hc2, ⟨_, _, _, hp1.but b2 (nl _ (by simp)) (nl _ (by simp)) (nl _ (by simp)) (nl _ (by simp)) (nl _ (by simp))⟩, dj, h0, h1, n1, n2⟩ (b1'.trans (b2.mono fun x hx => ?_))
    have := hl x hx
    simp only [List.mem_cons, List.not_mem_nil, or_false] at this
    rcases this with e | e | e | e <;> simp [Ad.l, e]
  clear q hp1 hp hc
  rcases hw with rfl | rfl | rfl
  · rw [on_f, if_pos rfl] at fin
    refine jnS (M := fun _ _ => False) (fun _ _ z => z.elim) (fun N kk => ?_)
    walk_at "go"
    refine ⟨A.p, A.dx, _, rfl, hc1.g, ch_no2, ?_⟩
    walk_at "go"
    refine ⟨A.p, A.fa, A.ua, A.ba, A.dx, "clock", n, calls, hand, fr, fl, us, bits, rfl, hc1, f0, f1, fun H2 hc2 b2 => ?_⟩
    walk_at "go"
    exact fin [A.p, A.fa, A.ua, A.ba] _ (fun x hx => hx) b2 ⟨_, _, _, hc2⟩
  · rw [on_t, if_pos rfl] at fin
    refine jnS (M := fun σ H' => H' = H1 ∧ σ = [sR A.p, sR A.d, sS "touched", sI fr]) ?_ (fun N kk => ?_)
    rotate_left
    · walk_at "go"
      exact kk _ _ ⟨rfl, rfl⟩
    rintro σ H1' ⟨e1, rfl⟩
    subst e1
    refine jnS (M := fun _ _ => False) (fun _ _ z => z.elim) (fun N kk => ?_)
    walk_at "go"
    refine ⟨A.p, A.dx, _, rfl, hc1.g, ch_no1, ?_⟩
    walk_at "go"
    refine ⟨A.p, A.fa, A.ua, A.ba, A.dx, "clock", n, calls, hand, fr, fl, us, bits, rfl, hc1, f0, f1, fun H2 hc2 b2 => ?_⟩
    walk_at "go"
    exact fin [A.p, A.ua, A.ba] _ (by simp) b2 ⟨_, _, _, hc2⟩
  · rw [on_e, if_neg Bool.false_ne_true] at fin
    refine jnS (M := fun σ H' => H' = H1 ∧ σ = [sR A.p, sR A.d, sS "emptied", sI fr]) ?_ (fun N kk => ?_)
    rotate_left
    · walk_at "go"
      exact kk _ _ ⟨rfl, rfl⟩
    rintro σ H1' ⟨e1, rfl⟩
    subst e1
    refine jnS (M := fun σ H' => H' = H1' ∧ σ = [sR A.p, sR A.d, sS "emptied", sI fr]) ?_ (fun N kk => ?_)
    rotate_left
    · walk_at "go"
      exact kk _ _ ⟨rfl, rfl⟩
    rintro σ H1'' ⟨e1, rfl⟩
    subst e1
    walk_at "go"
    refine ⟨A.p, A.dx, _, rfl, hc1.g, ch_no3, ?_⟩
    walk_at "go"
    refine ⟨A.p, A.fa, A.ua, A.ba, A.dx, "clock", n, calls, hand, fr, fl, us, bits, rfl, hc1, f0, f1, fun H2 hc2 b2 => ?_⟩
    walk_at "go"
    exact fin [A.ba] _ (by simp) b2 ⟨_, _, _, hc2⟩
end

end

/-! ### lists of ints as data -/
theorem dh_ints {H : Hp} : ∀ (ns : List Int), DhAll H (ns.map PyData.int) (ns.map V.int)
  | [] => rfl
  | n :: ns => ⟨.int n, ns.map V.int, rfl, rfl, dh_ints ns⟩
theorem lay_ints : ∀ ns : List Int, PyData.canLayAll0 (ns.map PyData.int) = true
  | [] => by simp [PyData.canLayAll0]
  | n :: ns => by
    simp only [List.map_cons, PyData.canLayAll0, PyData.canLay0, lay_ints ns, Bool.and_self]
theorem depth_ints : ∀ ns : List Int, PyData.depthAll (ns.map PyData.int) ≤ 1
  | [] => by simp [PyData.depthAll]
  | n :: ns => by
    have h := depth_ints ns
    simp only [List.map_cons, PyData.depthAll, PyData.depth]
    omega
theorem shaped_ints (ns : List Int) : SeqAt.shaped (.list (ns.map PyData.int)) = true := by
  have h1 := depth_ints ns
  have h2 : PyData.depth (.list (ns.map PyData.int)) ≤ 64 := by
    simp only [PyData.depth]
    omega
  show (PyData.canLay0 (.list (ns.map PyData.int)) && decide (PyData.depth (.list (ns.map PyData.int)) ≤ 64)) = true
  rw [Bool.and_eq_true]
  exact ⟨by simp only [PyData.canLay0]; exact lay_ints ns, decide_eq_true h2⟩
theorem eqvA_ints : ∀ ns : List Int, PyData.eqvAll (ns.map PyData.int) (ns.map PyData.int) = true
  | [] => by simp [PyData.eqvAll]
  | n :: ns => by
    simp only [List.map_cons, PyData.eqvAll, PyData.eqv, eqvA_ints ns, beq_self_eq_true, Bool.and_self]
theorem eqv_ints (ns : List Int) : PyData.eqv (.list (ns.map PyData.int)) (.list (ns.map PyData.int)) = true := by
  rw [PyData.eqv]
  exact eqvA_ints ns

section

-- a condition of an operator
local macro_rules | `(tactic| walk_at "cond") => `(tactic| first
  | (show (0 : Int) < _; omega)
  | (show CDiv _ _; constructor <;> (first | decide | omega))
  | (show CMul _ _; first | (refine cmul_l ?_; constructor <;> (first | decide | omega)) | (refine cmul_r ?_; constructor <;> (first | decide | omega)))
  | (show CPow _ _; exact (by refine ⟨by decide, by decide, by decide⟩))
  | (show CDivW _ _; exact ⟨by decide, by decide +kernel⟩))
local macro_rules | `(tactic| walk_at "sq") => `(tactic| first | assumption | exact Dh.mono (same_upd (by assumption)) _ _ (by assumption) | exact .inl (.inl (.inl (by assumption))) | exact .inr (.inl (.inl (by assumption))) | exact SqL.of (by assumption) | exact .inl (by assumption) | exact .inl (SqL.of (by assumption)) | exact SqT.of (by assumption) | exact .inr (SqT.of (by assumption)))
local macro_rules | `(tactic| walk_at "st") => `(tactic| first
  | refine ⟨_, rfl, ?_⟩
  | refine ⟨_, _, rfl, rfl, ?_⟩
  | refine .inl ⟨_, rfl, ?_⟩
  | refine ⟨rfl, ?_⟩
  | refine ⟨_, _, rfl, by walk_at "sq", ?_⟩
  | refine ⟨.inl ⟨rfl, _, SqL.of (by assumption)⟩, ?_⟩
  | refine ⟨by walk_at "cond", ?_⟩
  | (refine' ifBT ?hh ?_; (case hh => first | rfl | assumption))
  | (refine' ifBF ?hh ?_; (case hh => first | rfl | assumption)))
local macro_rules | `(tactic| walk_at "go") => `(tactic| repeat walk_at "st")
local macro_rules | `(tactic| walk_at "yes") => `(tactic| (refine' ifT ?hh ?_; (case hh => first | rfl | decide +kernel)))
local macro_rules | `(tactic| walk_at "no") => `(tactic| (refine' ifF ?hh ?_; (case hh => first | decide +kernel | (intro z; cases z; done))))

local macro_rules | `(tactic| walk_at "st") => `(tactic| refine ⟨_, _, _, _, _, rfl, by assumption, by assumption, by omega, by omega, by omega, by omega, by omega, ?_⟩)
local macro_rules | `(tactic| walk_at "st") => `(tactic| refine ⟨_, _, _, _, _, rfl, Same.seq (by assumption) (by assumption), by assumption, by omega, by omega, by omega, by omega, by omega, ?_⟩)

/-! ### chooser_call -/
abbrev s_chooser_call : Stmt := topS 10
theorem sc_chooser_call : FnScope ["_law_script", "_law_at", "_law_bureau", "_law_plain", "_law_full", "_law_k", "_law_empty", "_law_kind", "_law_pool", "_law_allowed", "_law_chosen", "_law_turn", "_law_handed", "_law_told"] ["_law_script", "_law_at", "_law_bureau", "_law_plain"] (C8.fnScope s_chooser_call) := C8.fnScope_by (by decide +kernel)
def idxB (b : Bool) (full : List Bool) : Nat → List Int
  | 0 => []
  | m + 1 => idxB b full m ++ if full.getD m false = b then [(m : Int)] else []
theorem idxB_in (b : Bool) (full : List Bool) : ∀ (m : Nat), ∀ x ∈ idxB b full m, 0 ≤ x ∧ x < m
  | 0, x, h => by cases h
  | m + 1, x, h => by
    unfold idxB at h
    rcases List.mem_append.mp h with h | h
    · have := idxB_in b full m x h
      omega
    · split at h
      · obtain rfl := List.mem_singleton.mp h
        omega
      · cases h
theorem idxB_len (full : List Bool) : ∀ m, (idxB true full m).length + (idxB false full m).length = m
  | 0 => rfl
  | m + 1 => by
    have ih := idxB_len full m
    unfold idxB
    rw [List.length_append, List.length_append]
    cases full.getD m false
    · simp only [Bool.false_eq_true, if_false, if_true, List.length_nil, List.length_singleton]
      omega
    · simp only [Bool.true_eq_false, if_false, if_true, List.length_nil, List.length_singleton]
      omega
theorem erase_ints : ∀ (ps : List Int) (i : Nat), (ps.map V.int).eraseIdx i = (ps.eraseIdx i).map V.int
  | [], _ => rfl
  | _ :: _, 0 => rfl
  | p :: ps, i + 1 => congrArg (V.int p :: ·) (erase_ints ps i)
theorem getD_mem {xs : List Int} {i : Nat} (h : i < xs.length) : xs.getD i 0 ∈ xs := by
  rw [List.getD_eq_getElem?_getD, List.getElem?_eq_getElem h]
  exact List.getElem_mem h
theorem atI_bls {ns : List Bool} {j : Nat} (h : j < ns.length) : atI (ns.map V.bl) ((j : Nat) : Int) = some (.bl (ns.getD j false)) := by
  refine atI_nat ?_
  rw [List.getElem?_map, List.getElem?_eq_getElem h, List.getD_eq_getElem?_getD, List.getElem?_eq_getElem h]
  rfl
def spCall (C : Addr) (K : PySem.W.Frag) : Sp := fun vs H Q _ => ∃ (a : Addr) (ns : List Int) (i : Int) (A : Ad) (n : Nat) (hand : Int) (bits : List Int) (full : List Bool), vs = [.ref a, .int i, .ref A.p, .ref A.d] ∧ (∀ H', ButL A.l H H' → SqL K H' a (ns.map V.int)) ∧ ns.length ≤ 63 ∧ 0 ≤ i ∧ i ≤ 1000000 ∧ St C H A n bits hand full ∧
  ∀ bits' hand' full' H', St C H' A n bits' hand' full' → ButL A.l H H' → Q (.bl true) H'
section
variable {P : Program} {w : World} {K : PySem.W.Frag} {mg : Str → Option Value} {base : Heap} {C : Addr}
theorem ok_call {f : Addr} {fd : FuncData} (D : Def K mg "_law_chooser_call" s_chooser_call f fd) (b : Binds K fd ["_law_script", "_law_at", "_law_bureau", "_law_plain"] []) (T : Txt mg) (c_number : Cal P w K mg base 1 "_law_number" (spNum K) []) (c_is_whole : Cal P w K mg base 1 "_law_is_whole" spWhole [])
    (c_chooser_told : Cal P w K mg base 3 "_law_chooser_told" (spTold C) []) (c_chooser_pick : Cal P w K mg base 1 "_law_chooser_pick" spPick []) (m_choose : C8.Met P w K mg base 2 C "choose" (spHunt C true) []) : Cal P w K mg base 4 "_law_chooser_call" (spCall C K) [] := by
  refine cal0 D b .nil sc_chooser_call (fun vs H Q E h => ?_) (fun cdv A0 outer s H vs Q E hr h => ?_)
  · obtain ⟨a, ns, i, A, n, hand, bits, full, rfl, _⟩ := h
    rfl
  obtain ⟨a, ns, i, A, n, hand, bits, full, rfl, hS, hl, i0, i1, hs, q⟩ := h
  refine ⟨_, (pss_cons (ps_setLc (i := 4) (own := [("_law_k", 5)]) (g := gName 5) rfl sc_chooser_call.nd rfl rfl (sw_true rfl rfl rfl (by decide +kernel)) (pi_range1 (by rfl) T.range (pa_cons (pe_callB (lenQ K rfl) (by rfl) T.len PySem.boot_len (pa_cons (pe_dget (hu_of hr) (pv 3) pe_str (fun _ _ => rfl)) pa_nil)) pa_nil)) (blkOk_by (own := [("_law_k", 5)]) (N := ["_law_script", "_law_at", "_law_bureau", "_law_plain", "_law_full", "_law_k", "_law_empty", "_law_kind", "_law_pool", "_law_allowed", "_law_chosen", "_law_turn", "_law_handed", "_law_told"]) (sc := C8.fnScope s_chooser_call) (by decide +kernel)) (fun _ _ _ _ _ => (pg_name (i := 5) sc_chooser_call.nd rfl (.inl rfl))) (fun _ _ _ _ _ => (pts_one (pt_val (pe_ix (ixL K rfl) (pe_dget (hu_of hr) (pv 3) pe_str (fun _ _ => rfl)) (pv 5) (fun _ _ => rfl))))) (fun _ _ _ _ _ => (pv 5)))
      (pss_cons (ps_setLc (i := 6) (own := [("_law_k", 5)]) (g := gName 5) rfl sc_chooser_call.nd rfl rfl (sw_true rfl rfl rfl (by decide +kernel)) (pi_range1 (by rfl) T.range (pa_cons (pe_callB (lenQ K rfl) (by rfl) T.len PySem.boot_len (pa_cons (pe_dget (hu_of hr) (pv 3) pe_str (fun _ _ => rfl)) pa_nil)) pa_nil)) (blkOk_by (own := [("_law_k", 5)]) (N := ["_law_script", "_law_at", "_law_bureau", "_law_plain", "_law_full", "_law_k", "_law_empty", "_law_kind", "_law_pool", "_law_allowed", "_law_chosen", "_law_turn", "_law_handed", "_law_told"]) (sc := C8.fnScope s_chooser_call) (by decide +kernel)) (fun _ _ _ _ _ => (pg_name (i := 5) sc_chooser_call.nd rfl (.inl rfl))) (fun _ _ _ _ _ => (pts_one (pt_not (pt_val (pe_ix (ixL K rfl) (pe_dget (hu_of hr) (pv 3) pe_str (fun _ _ => rfl)) (pv 5) (fun _ _ => rfl)))))) (fun _ _ _ _ _ => (pv 5)))
      (pss_cons (ps_set (i := 7) sc_chooser_call.nd rfl (.inl rfl) (C8.pe_c c_number hr (by omega) (by rfl) (pa_cons (pv 0) (pa_cons (pv 1) (pa_cons pe_int (pa_cons pe_int pa_nil))))))
      (pss_cons (ps_mk (ps_if (PW.pt (pw_and (pt_cmpR op_gt (pe_callB (lenQ K rfl) (by rfl) T.len PySem.boot_len (pa_cons (pv 6) pa_nil)) pe_int (nomark _)) (pw_and1 (PW.pt (pw_or (pt_cmpR op_lt (pv 7) pe_int (nomark _)) (pw_or1 (pt_cmpR op_eq (pe_callB (lenQ K rfl) (by rfl) T.len PySem.boot_len (pa_cons (pv 4) pa_nil)) pe_int (nomark _))))))))
      (pss_one (ps_ret (C8.pe_c c_chooser_told hr (by omega) (by rfl) (pa_cons (pv 2) (pa_cons (pv 3) (pa_cons pe_str (pa_cons (pe_ix (ixL K rfl) (pv 6) (C8.pe_c c_number hr (by omega) (by rfl) (pa_cons (pv 0) (pa_cons (pv 1) (pa_cons pe_int (pa_cons (pe_callB (lenQ K rfl) (by rfl) T.len PySem.boot_len (pa_cons (pv 6) pa_nil)) pa_nil))))) (fun _ _ => rfl)) pa_nil)))))))
      pss_nil))
      (pss_cons (ps_mk (ps_if (PW.pt (pw_or (pt_cmpR op_lt (pv 7) pe_int (nomark _)) (pw_or1 (pt_cmpR op_eq (pv 7) pe_int (nomark _)))))
      (pss_one (ps_ret (C8.pe_c c_chooser_told hr (by omega) (by rfl) (pa_cons (pv 2) (pa_cons (pv 3) (pa_cons pe_str (pa_cons (pe_ix (ixL K rfl) (pv 4) (C8.pe_c c_number hr (by omega) (by rfl) (pa_cons (pv 0) (pa_cons (pv 1) (pa_cons pe_int (pa_cons (pe_callB (lenQ K rfl) (by rfl) T.len PySem.boot_len (pa_cons (pv 4) pa_nil)) pa_nil))))) (fun _ _ => rfl)) pa_nil)))))))
      pss_nil))
      (pss_cons (ps_mk (ps_if (pt_cmpR op_eq (pv 7) pe_int (nomark _))
      (pss_one (ps_ret (C8.pe_c c_chooser_told hr (by omega) (by rfl) (pa_cons (pv 2) (pa_cons (pv 3) (pa_cons pe_str (pa_cons (pe_ix (ixL K rfl) (pv 4) (C8.pe_c c_number hr (by omega) (by rfl) (pa_cons (pv 0) (pa_cons (pv 1) (pa_cons pe_int (pa_cons (pe_callB (lenQ K rfl) (by rfl) T.len PySem.boot_len (pa_cons (pv 4) pa_nil)) pa_nil))))) (fun _ _ => rfl)) pa_nil)))))))
      pss_nil))
      (pss_cons (ps_set (i := 8) sc_chooser_call.nd rfl (.inl rfl) (pe_callTy (listQ K rfl) (by rfl) T.list (by decide +kernel) (pa_cons (pv 4) pa_nil)))
      (pss_cons (ps_set (i := 9) sc_chooser_call.nd rfl (.inl rfl) (pe_lst pa_nil))
      (pss_cons (ps_mk (ps_for PassesOwn.never rfl (pi_range1 (by rfl) T.range (pa_cons (pe_op op_add pe_int (C8.pe_c c_number hr (by omega) (by rfl) (pa_cons (pv 0) (pa_cons (pv 1) (pa_cons pe_int (pa_cons (pe_callB (lenQ K rfl) (by rfl) T.len PySem.boot_len (pa_cons (pv 4) pa_nil)) pa_nil)))))) pa_nil)) (pg_name (i := 5) sc_chooser_call.nd rfl (.inl rfl))
      (pss_one (ps_expr (pe_bm PySem.F.plainAttrs_list PySem.F.slot_list_append PySem.F.type_list_append mt_append (pv 9) (pa_cons (pe_bm PySem.F.plainAttrs_list PySem.F.slot_list_pop PySem.F.type_list_pop mt_popAt (pv 8) (pa_cons (C8.pe_c c_number hr (by omega) (by rfl) (pa_cons (pv 0) (pa_cons (pv 1) (pa_cons (pe_op op_add pe_int (pe_op op_mod (pe_callTy call_int1 (by rfl) T.int (by decide +kernel) (pa_cons (pv 5) pa_nil)) pe_int)) (pa_cons (pe_callB (lenQ K rfl) (by rfl) T.len PySem.boot_len (pa_cons (pv 8) pa_nil)) pa_nil))))) pa_nil)) pa_nil))))))
      (pss_cons (ps_set (i := 10) sc_chooser_call.nd rfl (.inl rfl) (C8.pe_c c_chooser_pick hr (by omega) (by rfl) (pa_cons (pv 3) (pa_cons (pv 9) pa_nil))))
      (pss_cons (ps_mk (ps_for PassesOwn.never rfl (pi_range1 (by rfl) T.range (pa_cons (pe_op op_add pe_int (pe_callTy call_int1 (by rfl) T.int (by decide +kernel) (pa_cons (pe_cmpR op_ne (pe_dget (hu_of hr) (pv 3) pe_str (fun _ _ => rfl)) pe_str (nomark _)) pa_nil))) pa_nil)) (pg_name (i := 11) sc_chooser_call.nd rfl (.inl rfl))
      (pss_cons (ps_set (i := 12) sc_chooser_call.nd rfl (.inl rfl) (pe_callTy (listQ K rfl) (by rfl) T.list (by decide +kernel) (pa_cons (pv 9) pa_nil)))
      (pss_cons (ps_set (i := 13) sc_chooser_call.nd rfl (.inl rfl) (C8.pe_mt m_choose hr (by omega) (pv 2) (pa_cons (pv 12) pa_nil)))
      (pss_cons (ps_mk (ps_if (PW.pt (pw_or (pt_not (pt_val (C8.pe_c c_is_whole hr (by omega) (by rfl) (pa_cons (pv 13) pa_nil)))) (pw_or (pt_cmpR op_ne (pv 13) (pv 10) (nomark _)) (pw_or1 (pt_cmpR (neQ K rfl hr.units) (pv 12) (pv 9) (nomark _))))))
      (pss_one (ps_ret pe_bl))
      pss_nil))
      (pss_one (ps_expr (pe_bm0 PySem.F.plainAttrs_list PySem.F.slot_list_clear PySem.F.type_list_clear mt_clear (pv 12)))))))))
      (pss_cons (ps_mk (ps_if (pt_cmpR op_eq (C8.pe_c c_number hr (by omega) (by rfl) (pa_cons (pv 0) (pa_cons (pv 1) (pa_cons pe_int (pa_cons pe_int pa_nil))))) pe_int (nomark _))
      (pss_one (ps_ret (C8.pe_c c_chooser_told hr (by omega) (by rfl) (pa_cons (pv 2) (pa_cons (pv 3) (pa_cons pe_str (pa_cons (pv 10) pa_nil)))))))
      pss_nil))
      (pss_one (ps_ret pe_bl)))))))))))))), ?_⟩
  have n1 := hs.n1
  have n2 := hs.n2
  obtain ⟨t, fis, uss, hp⟩ := hs.pl
  have fl := hp.ll
  have gf := hp.l
  walk_at "go"
  refine ⟨A.d, _, rfl, p_full ▸ DGet.k (k := Sum.inr "full") hp.g, ?_⟩
  walk_at "go"
  rw [List.length_map, fl]
  refine ⟨by omega, by omega, fun F nF => lc_range (lo := 0) (n := n) (fun j H' => Ob (Same H H' ∧ H' F = some (.lst ((idxB true full j).map V.int)))) (ob ⟨same_upd nF, upd_same⟩) ?_ ?_⟩
  · intro j H1 hj h
    obtain ⟨s1, g1⟩ := unob h
    have gf1 := s1 _ _ gf
    have ln := idxB_len full j
    have en : idxB true full (j + 1) = idxB true full j ++ if full.getD j false = true then [(j : Int)] else [] := rfl
    have ab := atI_bls (ns := full) (j := j) (by omega)
    refine ⟨rfl, ?_⟩
    rw [Int.zero_add]
    walk_at "go"
    refine ⟨A.d, _, rfl, p_full ▸ DGet.k (k := Sum.inr "full") (s1 _ _ hp.g), ?_⟩
    walk_at "go"
    refine ⟨_, _, _, _, rfl, rfl, SqL.of gf1, ab, ?_⟩
    walk_at "go"
    cases hb : full.getD j false with
    | true =>
      rw [hb, if_pos rfl] at en
      refine ifBT rfl ?_
      walk_at "go"
      refine ⟨_, g1, sz5 (by rw [List.length_map]; omega), ob ⟨same_put s1 nF, ?_⟩⟩
      rw [upd_same, en, List.map_append]
      rfl
    | false =>
      rw [hb, if_neg Bool.false_ne_true, List.append_nil] at en
      refine ifBF rfl ?_
      exact ob ⟨s1, by rw [en]; exact g1⟩
  intro H1 h
  obtain ⟨s1, gF⟩ := unob h
  have hp1 := hp.but (l := []) (Same.but s1) (by simp) (by simp) (by simp) (by simp) (by simp)
  have gf1 := hp1.l
  clear h
  walk_at "go"
  refine ⟨A.d, _, rfl, p_full ▸ DGet.k (k := Sum.inr "full") hp1.g, ?_⟩
  walk_at "go"
  rw [List.length_map, fl]
  refine ⟨by omega, by omega, fun G nG => lc_range (lo := 0) (n := n) (fun j H' => Ob (Same H1 H' ∧ H' G = some (.lst ((idxB false full j).map V.int)))) (ob ⟨same_upd nG, upd_same⟩) ?_ ?_⟩
  · intro j H2 hj h
    obtain ⟨s2, g1⟩ := unob h
    have gf2 := s2 _ _ gf1
    have ln := idxB_len full j
    have en : idxB false full (j + 1) = idxB false full j ++ if full.getD j false = false then [(j : Int)] else [] := rfl
    have ab := atI_bls (ns := full) (j := j) (by omega)
    refine ⟨rfl, ?_⟩
    rw [Int.zero_add]
    walk_at "go"
    refine ⟨A.d, _, rfl, p_full ▸ DGet.k (k := Sum.inr "full") (s2 _ _ hp1.g), ?_⟩
    walk_at "go"
    refine ⟨_, _, _, _, rfl, rfl, SqL.of gf2, ab, ?_⟩
    walk_at "go"
    refine ifN ?_
    cases hb : full.getD j false with
    | true =>
      rw [hb, if_neg (by decide), List.append_nil] at en
      refine ifBT rfl ?_
      exact ob ⟨s2, by rw [en]; exact g1⟩
    | false =>
      rw [hb, if_pos rfl] at en
      refine ifBF rfl ?_
      walk_at "go"
      refine ⟨_, g1, sz5 (by rw [List.length_map]; omega), ob ⟨same_put s2 nG, ?_⟩⟩
      rw [upd_same, en, List.map_append]
      rfl
  intro H2 h
  obtain ⟨s2, gG⟩ := unob h
  have gF := s2 _ _ gF
  have s2 := s1.trans s2
  clear h hp1 gf1 s1 nF nG gf hp
  have ilen := idxB_len full n
  have inF := idxB_in true full n
  have inG := idxB_in false full n
  generalize idxB true full n = fs at *
  generalize idxB false full n = gs at *
  have hs2 := hs.same s2
  have hS2 := hS _ (Same.but s2)
  obtain ⟨kn, ekn⟩ : ∃ kn, kn = num ns i 2 10 := ⟨_, rfl⟩
  have numb : ∀ (k : Int) (xs : List Int), 0 < xs.length → 0 ≤ num ns i k (xs.length : Int) ∧ num ns i k (xs.length : Int) < (xs.length : Int) := fun k xs h => ⟨num_nn (by omega), num_lt (by omega)⟩
  have pickm : ∀ (k : Int) (xs : List Int), 0 < xs.length → xs.getD (num ns i k (xs.length : Int)).toNat 0 ∈ xs := fun k xs h => getD_mem (by have := numb k xs h; omega)
  walk_at "go"
  refine jnS (M := fun σ H' => 0 < fs.length ∧ H' = H2 ∧ σ = [sR a, sI i, sR A.p, sR A.d, sR F, none, sR G, sI kn, none, none, none, none, none, none]) ?_ (fun N kk => ?_)
  rotate_left
  · rw [ekn] at kk
    walk_at "go"
    rw [List.length_map]
    refine ifD (fun c => ?_) (fun c => ?_)
    · have tel : 0 < gs.length → tRet (tCall (spTold C) [] C8.E0 (tCons (tVar 2) (tCons (tVar 3) (tCons (tC (V.str "filled")) (tCons (tOp (rIxL K) (tVar 6) (tCall (spNum K) [] C8.E0 (tCons (tVar 0) (tCons (tVar 1) (tCons (tC (V.int 1)) (tCons (tCB (rLen K) (tCons (tVar 6) tNil)) tNil)))))) tNil))))) { nx := N, rt := Q } [sR a, sI i, sR A.p, sR A.d, sR F, none, sR G, sI (num ns i 2 10), none, none, none, none, none, none] H2 := fun g0 => by
        have m := inG _ (pickm 1 gs g0)
        walk_at "go"
        rw [List.length_map]
        have xt : (0 : Int) < gs.length := by omega
        walk_at "go"
        refine ⟨_, _, _, _, rfl, rfl, SqL.of gG, atI_getD (numb 1 gs g0).1 (numb 1 gs g0).2, ?_⟩
        walk_at "go"
        refine ⟨A, "filled", n, _, hand, bits, full, rfl, .inl rfl, hs2, m.1, m.2, fun H3 h3 b3 => ?_⟩
        exact q _ _ _ _ h3 ((Same.but s2).trans b3)
      walk_at "go"
      refine ifD (fun c2 => ?_) (fun c2 => ?_)
      · exact tel (by omega)
      · walk_at "go"
        rw [List.length_map]
        refine ifEq (fun c3 => ?_) (fun c3 => ?_)
        · exact tel (by omega)
        · exact kk _ _ ⟨by omega, rfl, rfl⟩
    · exact kk _ _ ⟨by omega, rfl, rfl⟩
  rintro σ H3 ⟨f0, e3, rfl⟩
  subst e3
  refine jnS (M := fun σ H' => H' = H3 ∧ σ = [sR a, sI i, sR A.p, sR A.d, sR F, none, sR G, sI kn, none, none, none, none, none, none]) ?_ (fun N kk => ?_)
  rotate_left
  · have tel : tRet (tCall (spTold C) [] C8.E0 (tCons (tVar 2) (tCons (tVar 3) (tCons (tC (V.str "touched")) (tCons (tOp (rIxL K) (tVar 4) (tCall (spNum K) [] C8.E0 (tCons (tVar 0) (tCons (tVar 1) (tCons (tC (V.int 1)) (tCons (tCB (rLen K) (tCons (tVar 4) tNil)) tNil)))))) tNil))))) { nx := N, rt := Q } [sR a, sI i, sR A.p, sR A.d, sR F, none, sR G, sI kn, none, none, none, none, none, none] H3 := by
      have m := inF _ (pickm 1 fs f0)
      walk_at "go"
      rw [List.length_map]
      have xt : (0 : Int) < fs.length := by omega
      walk_at "go"
      refine ⟨_, _, _, _, rfl, rfl, SqL.of gF, atI_getD (numb 1 fs f0).1 (numb 1 fs f0).2, ?_⟩
      walk_at "go"
      refine ⟨A, "touched", n, _, hand, bits, full, rfl, .inr (.inl rfl), hs2, m.1, m.2, fun H4 h4 b4 => ?_⟩
      exact q _ _ _ _ h4 ((Same.but s2).trans b4)
    walk_at "go"
    refine ifD (fun c => ?_) (fun c => ?_)
    · exact tel
    · walk_at "go"
      refine ifEq (fun c2 => ?_) (fun c2 => ?_)
      · exact tel
      · exact kk _ _ ⟨rfl, rfl⟩
  rintro σ H4 ⟨e4, rfl⟩
  subst e4
  refine jnS (M := fun σ H' => H' = H4 ∧ σ = [sR a, sI i, sR A.p, sR A.d, sR F, none, sR G, sI kn, none, none, none, none, none, none]) ?_ (fun N kk => ?_)
  rotate_left
  · walk_at "go"
    refine ifEq (fun c => ?_) (fun c => ?_)
    · have m := inF _ (pickm 1 fs f0)
      walk_at "go"
      rw [List.length_map]
      have xt : (0 : Int) < fs.length := by omega
      walk_at "go"
      refine ⟨_, _, _, _, rfl, rfl, SqL.of gF, atI_getD (numb 1 fs f0).1 (numb 1 fs f0).2, ?_⟩
      walk_at "go"
      refine ⟨A, "emptied", n, _, hand, bits, full, rfl, .inr (.inr rfl), hs2, m.1, m.2, fun H5 h5 b5 => ?_⟩
      exact q _ _ _ _ h5 ((Same.but s2).trans b5)
    · exact kk _ _ ⟨rfl, rfl⟩
  rintro σ H5 ⟨e5, rfl⟩
  subst e5
  walk_at "go"
  intro Po nPo
  have s6 := s2.trans (same_upd (o := HO.lst (fs.map V.int)) nPo)
  have gPo := upd_same (H := H5) (a := Po) (o := HO.lst (fs.map V.int))
  have gF6 := same_upd (o := HO.lst (fs.map V.int)) nPo _ _ gF
  have nPo0 := s2.free nPo
  generalize upd H5 Po (HO.lst (fs.map V.int)) = H6 at *
  clear gF gG nPo inG hs2 hS2
  walk_at "go"
  refine ⟨sz, fun Al nAl => ?_⟩
  have s7 := s6.trans (same_upd (o := HO.lst []) nAl)
  have gAl := upd_same (H := H6) (a := Al) (o := HO.lst [])
  have gPo7 := same_upd (o := HO.lst []) nAl _ _ gPo
  have gF7 := same_upd (o := HO.lst []) nAl _ _ gF6
  have nAl0 := s6.free nAl
  have hPA : Po ≠ Al := ne_of_none gPo nAl
  generalize upd H6 Al (HO.lst []) = H7 at *
  clear gPo nAl s6 gF6
  have xt : (0 : Int) < fs.length := by omega
  have cb := numb 1 fs f0
  have hS7 := hS _ (Same.but s7)
  refine jnS (M := fun σ H' => Same H H' ∧ ∃ (als : List Int) (y5 : Option V), als.length ≤ n ∧ als ≠ [] ∧ (∀ x ∈ als, 0 ≤ x ∧ x < n) ∧ H' Al = some (.lst (als.map V.int)) ∧ σ = [sR a, sI i, sR A.p, sR A.d, sR F, y5, sR G, sI kn, sR Po, sR Al, none, none, none, none]) ?_ (fun N kk => ?_)
  rotate_left
  · walk_at "go"
    rw [List.length_map]
    walk_at "go"
    refine ⟨by omega, by omega, for_range (lo := 0) (n := (1 + num ns i 1 (fs.length : Int)).toNat) (fun j σ H' => Ob (Same H H' ∧ ∃ (ps als : List Int) (y5 : Option V), ps.length + j = fs.length ∧ als.length = j ∧ (∀ x ∈ ps, 0 ≤ x ∧ x < n) ∧ (∀ x ∈ als, 0 ≤ x ∧ x < n) ∧ H' Po = some (.lst (ps.map V.int)) ∧ H' Al = some (.lst (als.map V.int)) ∧ σ = [sR a, sI i, sR A.p, sR A.d, sR F, y5, sR G, sI kn, sR Po, sR Al, none, none, none, none])) (ob ⟨s7, fs, [], none, rfl, rfl, inF, fun x hx => (by cases hx), gPo7, gAl, rfl⟩) ?_ ?_⟩
    rotate_left
    · intro σ H' h
      obtain ⟨s8, ps, als, y5, lp, la, hp8, ha8, g1, g2, rfl⟩ := unob h
      refine kk _ _ ⟨s8, als, y5, by omega, fun e => ?_, ha8, g2, rfl⟩
      rw [e] at la
      simp at la
      omega
    intro j σ H8 hj h
    obtain ⟨s8, ps, als, y5, lp, la, hp8, ha8, gp8, ga8, rfl⟩ := unob h
    clear h kk hS7 gPo7 gAl s7 gF7
    have hS8 := hS _ (Same.but s8)
    have p0 : 0 < ps.length := by omega
    have xp : (0 : Int) < ps.length := by omega
    rw [Int.zero_add]
    walk_at "go"
    rw [List.length_map]
    walk_at "go"
    have nb : 0 ≤ num ns i (3 + (j : Int) % 8) (ps.length : Int) ∧ num ns i (3 + (j : Int) % 8) (ps.length : Int) < (ps.length : Int) := ⟨num_nn xp, num_lt xp⟩
    generalize num ns i (3 + (j : Int) % 8) (ps.length : Int) = ix at *
    have ixl : ix.toNat < ps.length := by omega
    refine ⟨Po, _, ix, ix.toNat, .int (ps.getD ix.toNat 0), rfl, rfl, gp8, by omega, by omega, (ixN_seq (ix_ok nb.1 (by rw [List.length_map]; exact nb.2))).1, ?_, ?_⟩
    · rw [List.getElem?_map, List.getElem?_eq_getElem ixl, List.getD_eq_getElem?_getD, List.getElem?_eq_getElem ixl]
      rfl
    have pm := hp8 _ (getD_mem ixl)
    have es : (ps.map V.int).eraseIdx ix.toNat = (ps.eraseIdx ix.toNat).map V.int := erase_ints _ _
    rw [es]
    generalize ps.getD ix.toNat 0 = yv at *
    have s9 := same_put (o := HO.lst ((ps.eraseIdx ix.toNat).map V.int)) s8 nPo0
    have ga9 : (upd H8 Po (HO.lst ((ps.eraseIdx ix.toNat).map V.int))) Al = some (.lst (als.map V.int)) := by
      rw [upd_ne hPA.symm]
      exact ga8
    have gp9 := upd_same (H := H8) (a := Po) (o := HO.lst ((ps.eraseIdx ix.toNat).map V.int))
    show _
    generalize upd H8 Po (HO.lst ((ps.eraseIdx ix.toNat).map V.int)) = H9 at *
    refine ⟨Al, _, _, rfl, rfl, ga9, sz5 (by rw [List.length_map]; omega), ?_⟩
    refine ob ⟨same_put s9 nAl0, ps.eraseIdx ix.toNat, als ++ [yv], _, ?_, by rw [List.length_append, la]; rfl, fun x hx => hp8 x (List.mem_of_mem_eraseIdx hx), fun x hx => ?_, by rw [upd_ne hPA]; exact gp9, by rw [upd_same, List.map_append]; rfl, rfl⟩
    · rw [List.length_eraseIdx_of_lt ixl]
      omega
    · rcases List.mem_append.mp hx with hx | hx
      · exact ha8 x hx
      · obtain rfl := List.mem_singleton.mp hx
        exact pm
  clear hS7 gPo7 gAl s7 gF7 cb hPA nPo0 inF f0 xt numb pickm ilen ekn
  rintro σ H8 ⟨s8, als, y5, la, ne, hal, ga, rfl⟩
  obtain ⟨⟨calls, fl, us, hc⟩, ⟨t, fis, uss, hp⟩, dj, h0, h1, _, _⟩ := hs.same s8
  obtain ⟨⟨_, _, _, hc0⟩, ⟨_, _, _, hp0⟩, _⟩ := id hs
  obtain ⟨x0, hx0⟩ : ∃ x, x ∈ als := List.exists_mem_of_ne_nil als ne
  obtain ⟨⟨fr, bits2, hand2⟩, hh⟩ := hunt_all n1 hx0 (hal _ hx0).1 (hal _ hx0).2 (bits := bits) (hand := hand) hp.lb h0 h1
  have hr2 := hunt_res n1 _ _ _ _ hh hp.lb h0 h1
  have nald : Al ∉ [A.d, A.bi] := by
    intro z
    rcases List.mem_cons.mp z with e | z
    · exact ne_of_none hp0.g nAl0 e.symm
    · exact ne_of_none hp0.b nAl0 (List.mem_singleton.mp z).symm
  walk_at "go"
  refine ⟨A.d, A.fi, A.us, A.bi, A.fu, Al, n, t, hand, fr, hand2, fis, uss, bits, bits2, als, full, rfl, hp, ga, nald, n1, by omega, hal, h0, h1, hh, fun H9 hp9 b9 => ?_⟩
  have ga9 := b9 _ _ nald ga
  have hc9 := hc.but b9 (fun z => dj A.p (by simp) (by rcases List.mem_cons.mp z with e | z; (· rw [e]; simp); (· rw [List.mem_singleton.mp z]; simp))) (fun z => dj A.fa (by simp) (by rcases List.mem_cons.mp z with e | z; (· rw [e]; simp); (· rw [List.mem_singleton.mp z]; simp))) (fun z => dj A.ua (by simp) (by rcases List.mem_cons.mp z with e | z; (· rw [e]; simp); (· rw [List.mem_singleton.mp z]; simp))) (fun z => dj A.ba (by simp) (by rcases List.mem_cons.mp z with e | z; (· rw [e]; simp); (· rw [List.mem_singleton.mp z]; simp)))
  have b09 : ButL A.l H H9 := (Same.but s8).trans (b9.mono (by simp [Ad.l]))
  clear hp hc ga b9
  have dA : Al ∉ A.l := by
    intro z
    have pr : ∀ x ∈ A.l, ∃ o, H x = some o := by
      intro x hx
      simp only [Ad.l, List.mem_cons, List.not_mem_nil, or_false] at hx
      rcases hx with rfl | rfl | rfl | rfl | rfl | rfl | rfl | rfl | rfl
      · exact ⟨_, hc0.g⟩
      · exact ⟨_, hc0.f⟩
      · exact ⟨_, hc0.u⟩
      · exact ⟨_, hc0.b⟩
      · exact ⟨_, hp0.g⟩
      · exact ⟨_, hp0.f⟩
      · exact ⟨_, hp0.u⟩
      · exact ⟨_, hp0.b⟩
      · exact ⟨_, hp0.l⟩
    obtain ⟨o, e⟩ := pr Al z
    rw [nAl0] at e
    cases e
  have ek : (if (!decide (V.str ("clock" : Str) = V.str ("clock" : Str))) = true then (1 : Int) else 0) = 0 := by kernel_rfl
  refine jnS (M := fun σ H' => ButL A.l H H' ∧ PlAt H' A.d A.fi A.us A.bi A.fu "clock" n t hand2 fis uss bits2 full ∧ ChAt C H' A.p A.fa A.ua A.ba A.dx "clock" n calls hand2 fl us bits2 ∧ ∃ y11 y12 y13, σ = [sR a, sI i, sR A.p, sR A.d, sR F, y5, sR G, sI kn, sR Po, sR Al, sI fr, y11, y12, y13]) ?_ (fun N kk => ?_)
  · rintro σ H10 ⟨b10, hp10, hc10, y11, y12, y13, rfl⟩
    have hst : St C H10 A n bits2 hand2 full := ⟨⟨_, _, _, hc10⟩, ⟨_, _, _, hp10⟩, dj, hr2.2.2.1, hr2.2.2.2, n1, n2⟩
    have hS10 := hS _ b10
    have fb := hal _ hr2.1
    refine jnS (M := fun σ H' => H' = H10) ?_ (fun N2 k2 => ?_)
    rotate_left
    · walk_at "go"
      refine ifEq (fun c => ?_) (fun c => ?_)
      · walk_at "go"
        refine ⟨A, "emptied", n, fr, hand2, bits2, full, rfl, .inr (.inr rfl), hst, fb.1, fb.2, fun H11 h11 b11 => ?_⟩
        exact q _ _ _ _ h11 (b10.trans b11)
      · exact k2 _ _ rfl
    rintro σ H11 rfl
    walk_at "go"
    exact q _ _ _ _ hst b10
  walk_at "go"
  refine ⟨A.d, _, rfl, p_kind ▸ DGet.k (k := Sum.inr "kind") hp9.g, ?_⟩
  walk_at "go"
  refine .inr ⟨_, rfl, ?_⟩
  rw [ek]
  walk_at "go"
  refine ⟨by omega, by omega, for_range (lo := 0) (n := 1) (fun j σ H' => Ob (ButL A.l H H' ∧ H' Al = some (.lst (als.map V.int)) ∧ PlAt H' A.d A.fi A.us A.bi A.fu "clock" n t hand2 fis uss bits2 full ∧ ChAt C H' A.p A.fa A.ua A.ba A.dx "clock" n calls (if j = 0 then hand else hand2) fl us (if j = 0 then bits else bits2) ∧ ∃ y11 y12 y13, σ = [sR a, sI i, sR A.p, sR A.d, sR F, y5, sR G, sI kn, sR Po, sR Al, sI fr, y11, y12, y13])) (ob ⟨b09, ga9, hp9, hc9, none, none, none, rfl⟩) ?_ ?_⟩
  rotate_left
  · intro σ H' h
    obtain ⟨b10, _, hp10, hc10, y11, y12, y13, rfl⟩ := unob h
    exact kk _ _ ⟨b10, hp10, hc10, _, _, _, rfl⟩
  intro j σ H10 hj h
  obtain ⟨b10, ga10, hp10, hc10, y11, y12, y13, rfl⟩ := unob h
  obtain rfl : j = 0 := by omega
  rw [if_pos rfl, if_pos rfl] at hc10
  clear h kk hp9 hc9 ga9 b09
  walk_at "go"
  intro Hd nHd
  have s11 := same_upd (o := HO.lst (als.map V.int)) nHd
  have gHd := upd_same (H := H10) (a := Hd) (o := HO.lst (als.map V.int))
  have ga11 := s11 _ _ ga10
  have hp11 := hp10.but (l := []) (Same.but s11) (by simp) (by simp) (by simp) (by simp) (by simp)
  have hc11 := hc10.but (l := []) (Same.but s11) (by simp) (by simp) (by simp) (by simp)
  have hHb : Hd ≠ A.ba := (ne_of_none hc10.b nHd).symm
  have b11 := b10.trans (Same.but (l := A.l) s11)
  have dHd : Hd ∉ A.l := by
    intro hx
    simp only [Ad.l, List.mem_cons, List.not_mem_nil, or_false] at hx
    rcases hx with e | e | e | e | e | e | e | e | e
    · exact ne_of_none hc10.g nHd e.symm
    · exact ne_of_none hc10.f nHd e.symm
    · exact ne_of_none hc10.u nHd e.symm
    · exact ne_of_none hc10.b nHd e.symm
    · exact ne_of_none hp10.g nHd e.symm
    · exact ne_of_none hp10.f nHd e.symm
    · exact ne_of_none hp10.u nHd e.symm
    · exact ne_of_none hp10.b nHd e.symm
    · exact ne_of_none hp10.l nHd e.symm
  have hAH : Al ≠ Hd := ne_of_none ga10 nHd
  have nH0 : H Hd = none := by
    cases e : H Hd with
    | none => rfl
    | some o =>
      have := b10 Hd o dHd e
      rw [nHd] at this
      cases this
  generalize upd H10 Hd (HO.lst (als.map V.int)) = H11 at *
  clear hp10 hc10 b10 s11 ga10
  walk_at "go"
  refine ⟨A.p, A.dx, _, rfl, hc11.g, ch_no4, ?_⟩
  walk_at "go"
  refine ⟨A.p, A.fa, A.ua, A.ba, A.dx, Hd, "clock", n, 2 * n, calls, hand, fr, hand2, fl, us, bits, bits2, als, rfl, hc11, fun _ => rfl, gHd, hHb, n1, by omega, hal, h0, h1, hh, fun H12 hc12 b12 => ?_⟩
  have b12' : ButL A.l H11 H12 := b12.mono (by simp [Ad.l])
  have gHd12 := b12' _ _ dHd gHd
  have ga12 := b12' _ _ dA ga11
  have djp : ∀ y ∈ [A.d, A.fi, A.us, A.bi, A.fu], y ∉ [A.p, A.ba] := fun y hy hx => dj y (by rcases List.mem_cons.mp hx with e | e; (· rw [e]; simp); (· rw [List.mem_singleton.mp e]; simp)) hy
  have hp12 := hp11.but b12 (djp _ (by simp)) (djp _ (by simp)) (djp _ (by simp)) (djp _ (by simp)) (djp _ (by simp))
  have b12 := b11.trans b12'
  clear hp11 hc11 b11 b12' gHd ga11
  refine jnS (M := fun σ H' => H' = H12 ∧ σ = [sR a, sI i, sR A.p, sR A.d, sR F, y5, sR G, sI kn, sR Po, sR Al, sI fr, sI (0 + ((0 : Nat) : Int)), sR Hd, sI fr]) ?_ (fun N2 k2 => ?_)
  rotate_left
  · walk_at "go"
    refine ⟨_, .int fr, rfl, rfl, ?_⟩
    walk_at "go"
    refine ifNe (fun c => absurd rfl c) (fun _ => ?_)
    walk_at "go"
    refine ⟨.list (als.map PyData.int), .list (als.map PyData.int), Dh.dp _ _ ⟨Hd, _, rfl, gHd12, dh_ints _⟩, Dh.dp _ _ ⟨Al, _, rfl, ga12, dh_ints _⟩, shaped_ints _, shaped_ints _, ?_⟩
    walk_at "go"
    refine ifN ?_
    refine ifBT (eqv_ints _) ?_
    exact k2 _ _ ⟨rfl, rfl⟩
  rintro σ H13 ⟨e13, rfl⟩
  subst e13
  walk_at "go"
  refine ⟨Hd, _, rfl, rfl, gHd12, ?_⟩
  have bH : ButL [Hd] H13 (upd H13 Hd (HO.lst [])) := ButL.put (by simp)
  have nin : ∀ y ∈ A.l, y ∉ [Hd] := fun y hy z => dHd (by rw [← List.mem_singleton.mp z]; exact hy)
  refine ob ⟨fun c o hcl e => ?_, by rw [upd_ne hAH]; exact ga12, hp12.but bH (nin _ (by simp [Ad.l])) (nin _ (by simp [Ad.l])) (nin _ (by simp [Ad.l])) (nin _ (by simp [Ad.l])) (nin _ (by simp [Ad.l])), ?_, _, _, _, rfl⟩
  · have ne2 : c ≠ Hd := fun z => by
      rw [z, nH0] at e
      cases e
    rw [upd_ne ne2]
    exact b12 _ _ hcl e
  · exact hc12.but bH (nin _ (by simp [Ad.l])) (nin _ (by simp [Ad.l])) (nin _ (by simp [Ad.l])) (nin _ (by simp [Ad.l]))
end

end

section

-- a condition of an operator
local macro_rules | `(tactic| walk_at "cond") => `(tactic| first
  | (show (0 : Int) < _; omega)
  | (show CDiv _ _; constructor <;> (first | decide | omega))
  | (show CMul _ _; first | (refine cmul_l ?_; constructor <;> (first | decide | omega)) | (refine cmul_r ?_; constructor <;> (first | decide | omega)))
  | (show CPow _ _; exact (by refine ⟨by decide, by decide, by decide⟩))
  | (show CDivW _ _; exact ⟨by decide, by decide +kernel⟩))
local macro_rules | `(tactic| walk_at "sq") => `(tactic| first | assumption | exact Dh.mono (same_upd (by assumption)) _ _ (by assumption) | exact .inl (.inl (.inl (by assumption))) | exact .inr (.inl (.inl (by assumption))) | exact SqL.of (by assumption) | exact .inl (by assumption) | exact .inl (SqL.of (by assumption)) | exact SqT.of (by assumption) | exact .inr (SqT.of (by assumption)))
local macro_rules | `(tactic| walk_at "st") => `(tactic| first
  | refine ⟨_, rfl, ?_⟩
  | refine ⟨_, _, rfl, rfl, ?_⟩
  | refine .inl ⟨_, rfl, ?_⟩
  | refine ⟨rfl, ?_⟩
  | refine ⟨_, _, rfl, by walk_at "sq", ?_⟩
  | refine ⟨.inl ⟨rfl, _, SqL.of (by assumption)⟩, ?_⟩
  | refine ⟨by walk_at "cond", ?_⟩
  | (refine' ifBT ?hh ?_; (case hh => first | rfl | assumption))
  | (refine' ifBF ?hh ?_; (case hh => first | rfl | assumption)))
local macro_rules | `(tactic| walk_at "go") => `(tactic| repeat walk_at "st")
local macro_rules | `(tactic| walk_at "yes") => `(tactic| (refine' ifT ?hh ?_; (case hh => first | rfl | decide +kernel)))
local macro_rules | `(tactic| walk_at "no") => `(tactic| (refine' ifF ?hh ?_; (case hh => first | decide +kernel | (intro z; cases z; done))))

local macro_rules | `(tactic| walk_at "st") => `(tactic| refine ⟨_, _, _, _, _, rfl, by assumption, by assumption, by omega, by omega, by omega, by omega, by omega, ?_⟩)
local macro_rules | `(tactic| walk_at "st") => `(tactic| refine ⟨_, _, _, _, _, rfl, Same.seq (by assumption) (by assumption), by assumption, by omega, by omega, by omega, by omega, by omega, ?_⟩)

/-! ### law (k22) -/
abbrev s_law : Stmt := topS 11
theorem sc_law : FnScope ["_law_script", "_law_pairs", "_law_one", "_law_many", "_law_at", "_law_pair"] ["_law_script"] (C8.fnScope s_law) := C8.fnScope_by (by decide +kernel)
def spLaw (K : PySem.W.Frag) : Sp := fun vs H Q _ => ∃ (a : Addr) (ns : List Int), vs = [.ref a] ∧ SqL K H a (ns.map V.int) ∧ ns.length ≤ 63 ∧ ∀ H', Q (.bl true) H'
theorem St.pres {C : Addr} {H : Hp} {A : Ad} {n : Nat} {bits : List Int} {hand : Int} {full : List Bool} (h : St C H A n bits hand full) : ∀ x ∈ A.l, ∃ o, H x = some o := by
  obtain ⟨⟨_, _, _, hc0⟩, ⟨_, _, _, hp0⟩, _⟩ := h
  intro x hx
  simp only [Ad.l, List.mem_cons, List.not_mem_nil, or_false] at hx
  rcases hx with rfl | rfl | rfl | rfl | rfl | rfl | rfl | rfl | rfl
  · exact ⟨_, hc0.g⟩
  · exact ⟨_, hc0.f⟩
  · exact ⟨_, hc0.u⟩
  · exact ⟨_, hc0.b⟩
  · exact ⟨_, hp0.g⟩
  · exact ⟨_, hp0.f⟩
  · exact ⟨_, hp0.u⟩
  · exact ⟨_, hp0.b⟩
  · exact ⟨_, hp0.l⟩
theorem nin_new {H : Hp} {l : List Addr} {y : Addr} (h : ∀ x ∈ l, ∃ o, H x = some o) (n : H y = none) : y ∉ l := fun z => by
  obtain ⟨o, e⟩ := h y z
  rw [n] at e
  cases e
theorem nin_old {H : Hp} {l : List Addr} {y : Addr} {o : HO} (h : ∀ x ∈ l, H x = none) (n : H y = some o) : y ∉ l := fun z => by
  rw [h y z] at n
  cases n
theorem same_but {l : List Addr} {H H0 H' : Hp} (s : Same H H0) (f : ∀ x ∈ l, H x = none) (b : ButL l H0 H') : Same H H' := fun c o e => b c o (nin_old f e) (s c o e)
structure Two (C : Addr) (H H' : Hp) (L : Addr) (j : Nat) (A : Nat → Ad) (q : Nat → Addr) : Prop where
  s : Same H H'
  nL : H L = none
  gL : H' L = some (.lst ((List.range j).map fun i => V.ref (q i)))
  gq : ∀ i, i < j → H' (q i) = some (.lst [.ref (A i).p, .ref (A i).d])
  st : ∀ i, i < j → ∃ n bits hand full, St C H' (A i) n bits hand full
  fr : ∀ i, i < j → ∀ x ∈ (A i).l, H x = none
  cr : ∀ i k, i < j → k < j → i ≠ k → ∀ x ∈ (A i).l, x ∉ (A k).l
  qn : ∀ i k, i < j → k < j → q i ∉ (A k).l
  qL : ∀ i, i < j → q i ≠ L
  Ln : ∀ k, k < j → L ∉ (A k).l
section
variable {P : Program} {w : World} {K : PySem.W.Frag} {mg : Str → Option Value} {base : Heap} {C : Addr}
theorem ok_law {f : Addr} {fd : FuncData} (D : Def K mg "law" s_law f fd) (T : Txt mg) (c_number : Cal P w K mg base 1 "_law_number" (spNum K) []) (c_Chooser : C8.Mak P w K mg base 1 "Chooser" C (spChI C) []) (c_chooser_new : Cal P w K mg base 1 "_law_chooser_new" spNew []) (c_chooser_call : Cal P w K mg base 4 "_law_chooser_call" (spCall C K) []) : FnOk P w K mg base C8.CX0 5 f fd ["_law_script"] (spLaw K) := by
  refine C8.fn0 D.fn sc_law (fun vs H Q E h => ?_) (fun cdv A0 outer s H vs Q E hr h => ?_)
  · obtain ⟨a, ns, rfl, _⟩ := h
    rfl
  obtain ⟨a, ns, rfl, hS, hl, q0⟩ := h
  refine ⟨_, (pss_cons (ps_set (i := 1) sc_law.nd rfl (.inl rfl) (pe_lst pa_nil))
      (pss_cons (ps_mk (ps_for PassesOwn.never rfl (pi_range1 (by rfl) T.range (pa_cons pe_int pa_nil)) (pg_name (i := 2) sc_law.nd rfl (.inl rfl))
      (pss_cons (ps_set (i := 3) sc_law.nd rfl (.inl rfl) (pe_op op_add pe_int (C8.pe_c c_number hr (by omega) (by rfl) (pa_cons (pv 0) (pa_cons pe_int (pa_cons (pe_op op_add pe_int (pv 2)) (pa_cons pe_int pa_nil)))))))
      (pss_cons (ps_mk (ps_if (pt_cmpR op_eq (C8.pe_c c_number hr (by omega) (by rfl) (pa_cons (pv 0) (pa_cons pe_int (pa_cons (pe_op op_add pe_int (pv 2)) (pa_cons pe_int pa_nil))))) pe_int (nomark _))
      (pss_one (ps_set (i := 3) sc_law.nd rfl (.inl rfl) (pe_op op_add pe_int (pv 3))))
      pss_nil))
      (pss_one (ps_expr (pe_bm PySem.F.plainAttrs_list PySem.F.slot_list_append PySem.F.type_list_append mt_append (pv 1) (pa_cons (pe_lst (pa_cons (C8.pe_mk c_Chooser hr (by omega) (by rfl) (pa_cons pe_str (pa_cons (pv 3) pa_nil))) (pa_cons (C8.pe_c c_chooser_new hr (by omega) (by rfl) (pa_cons pe_str (pa_cons (pv 3) pa_nil))) pa_nil))) pa_nil))))))))
      (pss_cons (ps_mk (ps_for PassesOwn.never rfl (pi_range2 (by rfl) T.range (pa_cons pe_int (pa_cons (pe_op op_add pe_int (C8.pe_c c_number hr (by omega) (by rfl) (pa_cons (pv 0) (pa_cons pe_int (pa_cons pe_int (pa_cons pe_int pa_nil)))))) pa_nil))) (pg_name (i := 4) sc_law.nd rfl (.inl rfl))
      (pss_cons (ps_set (i := 5) sc_law.nd rfl (.inl rfl) (pe_ix (ixL K rfl) (pv 1) (C8.pe_c c_number hr (by omega) (by rfl) (pa_cons (pv 0) (pa_cons (pv 4) (pa_cons pe_int (pa_cons pe_int pa_nil))))) (fun _ _ => rfl)))
      (pss_one (ps_mk (ps_if (pt_not (pt_val (C8.pe_c c_chooser_call hr (by omega) (by rfl) (pa_cons (pv 0) (pa_cons (pv 4) (pa_cons (pe_ix (ixL K rfl) (pv 5) pe_int (fun _ _ => rfl)) (pa_cons (pe_ix (ixL K rfl) (pv 5) pe_int (fun _ _ => rfl)) pa_nil)))))))
      (pss_one (ps_ret pe_bl))
      pss_nil))))))
      (pss_one (ps_ret pe_bl))))), ?_⟩
  walk_at "go"
  refine ⟨sz, fun L nL => ?_⟩
  have s1 := same_upd (o := HO.lst []) nL
  have gL := upd_same (H := H) (a := L) (o := HO.lst [])
  generalize upd H L (HO.lst []) = H1 at *
  refine jnS (M := fun σ H' => ∃ A q y2 y3, Two C H H' L 2 A q ∧ σ = [sR a, sR L, y2, y3, none, none]) ?_ (fun N kk => ?_)
  rotate_left
  · walk_at "go"
    refine ⟨by omega, by omega, for_range (lo := 0) (n := 2) (fun j σ H' => Ob (∃ A q y2 y3, Two C H H' L j A q ∧ σ = [sR a, sR L, y2, y3, none, none])) (ob ⟨fun _ => ⟨L, L, L, L, L, L, L, L, L, L⟩, fun _ => L, none, none, ⟨s1, nL, gL, fun i h => absurd h (Nat.not_lt_zero i), fun i h => absurd h (Nat.not_lt_zero i), fun i h => absurd h (Nat.not_lt_zero i), fun i _ h => absurd h (Nat.not_lt_zero i), fun i _ h => absurd h (Nat.not_lt_zero i), fun i h => absurd h (Nat.not_lt_zero i), fun i h => absurd h (Nat.not_lt_zero i)⟩, rfl⟩) ?_ (fun σ H' h => kk _ _ (unob h))⟩
    intro j σ H2 hj h
    obtain ⟨A, q, y2, y3, h2, rfl⟩ := unob h
    clear h kk gL s1
    have hS2 := h2.s.seq hS
    have n0 : 0 ≤ num ns 0 (2 + (0 + (j : Int))) 6 := num_nn (by decide)
    have n1 : num ns 0 (2 + (0 + (j : Int))) 6 < 6 := num_lt (by decide)
    walk_at "go"
    refine jnS (M := fun σ H' => H' = H2 ∧ ∃ n : Nat, 1 ≤ n ∧ n ≤ 100 ∧ σ = [sR a, sR L, sI (0 + (j : Int)), sI (n : Nat), none, none]) ?_ (fun N kk => ?_)
    rotate_left
    · walk_at "go"
      refine ifEq (fun c => ?_) (fun c => ?_)
      · walk_at "go"
        exact kk _ _ ⟨rfl, (62 + (1 + num ns 0 (2 + (0 + (j : Int))) 6)).toNat, by omega, by omega, by rw [Int.toNat_of_nonneg (by omega)]; rfl⟩
      · exact kk _ _ ⟨rfl, (1 + num ns 0 (2 + (0 + (j : Int))) 6).toNat, by omega, by omega, by rw [Int.toNat_of_nonneg (by omega)]; rfl⟩
    rintro σ H3 ⟨e3, n, m1, m2, rfl⟩
    subst e3
    have gL := h2.gL
    walk_at "go"
    intro p dx np ndx npx
    have sC : Same H3 (upd (upd H3 dx (.own p)) p (.ins C dx [])) := (same_upd ndx).trans (same_upd (by rw [upd_ne npx.symm]; exact np))
    have fC : ∀ {x : Addr}, (upd (upd H3 dx (.own p)) p (.ins C dx [])) x = none → H3 x = none := fun h => sC.free h
    refine ⟨p, dx, "clock", n, rfl, upd_same, by omega, fun fa ua ba H5 hc nfa nua nba b5 => ⟨rfl, ?_⟩⟩
    have s35 : Same H3 H5 := fun b o e => b5 _ _ (ne_of_none e np) (sC _ _ e)
    have nfa3 := fC nfa
    have nua3 := fC nua
    have nba3 := fC nba
    clear sC fC nfa nua nba b5 ndx npx
    walk_at "go"
    refine ⟨"clock", n, rfl, by omega, fun d fi us bi fu H6 s6 nd hp => ?_⟩
    obtain ⟨Aj, eA⟩ : ∃ Aj : Ad, Aj = ⟨p, fa, ua, ba, dx, d, fi, us, bi, fu⟩ := ⟨_, rfl⟩
    have hc6 := hc.but (l := []) (Same.but s6) (by simp) (by simp) (by simp) (by simp)
    have dj : ∀ x ∈ [p, fa, ua, ba], x ∉ [d, fi, us, bi, fu] := fun x hx => by
      simp only [List.mem_cons, List.not_mem_nil, or_false] at hx
      rcases hx with rfl | rfl | rfl | rfl
      · exact nin_old nd hc.g
      · exact nin_old nd hc.f
      · exact nin_old nd hc.u
      · exact nin_old nd hc.b
    have hst : St C H6 Aj n (List.replicate n 0) 0 (List.replicate n false) := by
      rw [eA]
      exact ⟨⟨_, _, _, hc6⟩, ⟨_, _, _, hp⟩, dj, Int.le_refl _, by omega, m1, m2⟩
    have fr3 : ∀ x ∈ Aj.l, H3 x = none := by
      intro x hx
      rw [eA] at hx
      simp only [Ad.l, List.mem_cons, List.not_mem_nil, or_false] at hx
      rcases hx with rfl | rfl | rfl | rfl | hx
      · exact np
      · exact nfa3
      · exact nua3
      · exact nba3
      · exact s35.free (nd x (by simpa using hx))
    have s36 := s35.trans s6
    have sH6 := h2.s.trans s36
    have ep : Aj.p = p := by rw [eA]
    have ed : Aj.d = d := by rw [eA]
    rw [← ep, ← ed]
    clear hc hc6 hp dj eA nd s6 s35 np nfa3 nua3 nba3
    walk_at "go"
    refine ⟨sz, fun qn nq => ?_⟩
    have s7 := same_upd (o := HO.lst [V.ref Aj.p, V.ref Aj.d]) nq
    have gq := upd_same (H := H6) (a := qn) (o := HO.lst [V.ref Aj.p, V.ref Aj.d])
    have s37 := s36.trans s7
    have sH7 := sH6.trans s7
    have hst7 := hst.same s7
    have gL7 := s37 _ _ gL
    have nLq : L ≠ qn := ne_of_none (s36 _ _ gL) nq
    have prJ := hst.pres
    have LnJ : L ∉ Aj.l := nin_old fr3 gL
    have qJ : qn ∉ Aj.l := nin_new prJ nq
    have oldA : ∀ k, k < j → (∀ x ∈ (A k).l, ∃ o, H3 x = some o) := fun k hk => by
      obtain ⟨_, _, _, _, z⟩ := h2.st k hk
      exact z.pres
    have qk : ∀ k, k < j → qn ∉ (A k).l := fun k hk => nin_new (fun x hx => by
      obtain ⟨o, e⟩ := oldA k hk x hx
      exact ⟨o, s36 _ _ e⟩) nq
    have qq : ∀ i, i < j → q i ≠ qn := fun i hi => ne_of_none (s36 _ _ (h2.gq i hi)) nq
    generalize upd H6 qn (HO.lst [V.ref Aj.p, V.ref Aj.d]) = H7 at *
    clear hst nq s7 s36 sH6
    refine ⟨L, _, _, rfl, rfl, gL7, sz5 (by rw [List.length_map, List.length_range]; omega), ?_⟩
    refine ob ⟨fun i => if i = j then Aj else A i, fun i => if i = j then qn else q i, _, _, ⟨same_put sH7 h2.nL, h2.nL, ?_, ?_, ?_, ?_, ?_, ?_, ?_, ?_⟩, rfl⟩
    · have e1 : (List.range j).map (fun i => V.ref (q i)) = (List.range j).map (fun i => V.ref (if i = j then qn else q i)) := List.map_congr_left fun i hi => by
        have := List.mem_range.mp hi
        rw [if_neg (by omega)]
      rw [upd_same, e1, List.range_succ, List.map_append]
      show some (HO.lst (_ ++ [V.ref qn])) = some (HO.lst (_ ++ [V.ref (if j = j then qn else q j)]))
      rw [if_pos rfl]
    · intro i hi
      by_cases e : i = j
      · subst e
        rw [if_pos rfl, if_pos rfl, upd_ne nLq.symm]
        exact gq
      · rw [if_neg e, if_neg e, upd_ne (h2.qL i (by omega))]
        exact s37 _ _ (h2.gq i (by omega))
    · intro i hi
      have bL : ButL [L] H7 (upd H7 L (HO.lst (List.map (fun i => V.ref (q i)) (List.range j) ++ [V.ref qn]))) := ButL.put (by simp)
      by_cases e : i = j
      · rw [if_pos e]
        exact ⟨_, _, _, _, hst7.but bL fun x hx z => LnJ (by rw [← List.mem_singleton.mp z]; exact hx)⟩
      · rw [if_neg e]
        obtain ⟨n', b', h', f', z'⟩ := h2.st i (by omega)
        exact ⟨n', b', h', f', (z'.same s37).but bL fun x hx z => h2.Ln i (by omega) (by rw [← List.mem_singleton.mp z]; exact hx)⟩
    · intro i hi x hx
      by_cases e : i = j
      · rw [if_pos e] at hx
        exact h2.s.free (fr3 x hx)
      · rw [if_neg e] at hx
        exact h2.fr i (by omega) x hx
    · intro i k hi hk ne x hx
      by_cases e : i = j
      · rw [if_pos e] at hx
        rw [if_neg (by omega)]
        exact fun z => nin_new (oldA k (by omega)) (fr3 x hx) z
      · rw [if_neg e] at hx
        by_cases e2 : k = j
        · rw [if_pos e2]
          obtain ⟨o, z⟩ := oldA i (by omega) x hx
          exact nin_old fr3 z
        · rw [if_neg e2]
          exact h2.cr i k (by omega) (by omega) ne x hx
    · intro i k hi hk
      by_cases e : i = j
      · rw [if_pos e]
        by_cases e2 : k = j
        · rw [if_pos e2]
          exact qJ
        · rw [if_neg e2]
          exact qk k (by omega)
      · rw [if_neg e]
        by_cases e2 : k = j
        · rw [if_pos e2]
          exact nin_old fr3 (h2.gq i (by omega))
        · rw [if_neg e2]
          exact h2.qn i k (by omega) (by omega)
    · intro i hi
      by_cases e : i = j
      · rw [if_pos e]
        exact nLq.symm
      · rw [if_neg e]
        exact h2.qL i (by omega)
    · intro k hk
      by_cases e : k = j
      · rw [if_pos e]
        exact LnJ
      · rw [if_neg e]
        exact h2.Ln k (by omega)
  clear gL s1
  rintro σ H2 ⟨A, q, y2, y3, h2, rfl⟩
  have hS2 := h2.s.seq hS
  have n0 : 0 ≤ num ns 0 0 45 := num_nn (by decide)
  have n1 : num ns 0 0 45 < 45 := num_lt (by decide)
  refine jnS (M := fun _ _ => True) (fun σ H' _ => ?_) (fun N kk => ?_)
  · walk_at "go"
    exact q0 _
  walk_at "go"
  refine ⟨_, _, rfl, ⟨by omega, by omega, by omega, by omega⟩, for_range (lo := 1) (n := (4 + num ns 0 0 45 - 1).toNat) (fun j σ H' => Ob (ButL ((A 0).l ++ (A 1).l) H2 H' ∧ (∀ i, i < 2 → ∃ n bits hand full, St C H' (A i) n bits hand full) ∧ ∃ y4 y5, σ = [sR a, sR L, y2, y3, y4, y5])) (ob ⟨ButL.refl, h2.st, none, none, rfl⟩) ?_ (fun σ H' _ => kk _ _ trivial)⟩
  intro j σ H3 hj h
  obtain ⟨b3, st3, y4, y5, rfl⟩ := unob h
  clear h kk hS2
  have frA : ∀ x ∈ (A 0).l ++ (A 1).l, H x = none := fun x hx => (List.mem_append.mp hx).elim (h2.fr 0 (by omega) x) (h2.fr 1 (by omega) x)
  have hS3 := (same_but h2.s frA b3).seq hS
  have gL3 := b3 _ _ (fun z => (List.mem_append.mp z).elim (h2.Ln 0 (by omega)) (h2.Ln 1 (by omega))) h2.gL
  have q3 : ∀ i, i < 2 → H3 (q i) = some (.lst [.ref (A i).p, .ref (A i).d]) := fun i hi => b3 _ _ (fun z => (List.mem_append.mp z).elim (h2.qn i 0 hi (by omega)) (h2.qn i 1 hi (by omega))) (h2.gq i hi)
  obtain ⟨i, hi, ei⟩ : ∃ i : Nat, i < 2 ∧ num ns (1 + (j : Int)) 0 2 = (i : Int) := by
    have d0 : 0 ≤ num ns (1 + (j : Int)) 0 2 := num_nn (by decide)
    have d1 : num ns (1 + (j : Int)) 0 2 < 2 := num_lt (by decide)
    exact ⟨(num ns (1 + (j : Int)) 0 2).toNat, by omega, by omega⟩
  walk_at "go"
  rw [ei]
  refine ⟨_, _, _, .ref (q i), rfl, rfl, SqL.of gL3, atI_nat (by rw [List.getElem?_map, List.getElem?_range hi]; rfl), ?_⟩
  refine un ?_
  have gq := q3 i hi
  have a0 : atI [V.ref (A i).p, V.ref (A i).d] 0 = some (.ref (A i).p) := rfl
  have a1 : atI [V.ref (A i).p, V.ref (A i).d] 1 = some (.ref (A i).d) := rfl
  walk_at "go"
  refine ⟨_, _, _, _, rfl, rfl, SqL.of gq, a0, ?_⟩
  walk_at "go"
  refine ⟨_, _, _, _, rfl, rfl, SqL.of gq, a1, ?_⟩
  walk_at "go"
  obtain ⟨n, bits, hand, full, sti⟩ := st3 i hi
  have subA : ∀ x ∈ (A i).l, x ∈ (A 0).l ++ (A 1).l := fun x hx => by
    have : i = 0 ∨ i = 1 := by omega
    rcases this with rfl | rfl
    · exact List.mem_append_left _ hx
    · exact List.mem_append_right _ hx
  refine ⟨a, ns, 1 + (j : Int), A i, n, hand, bits, full, rfl, fun H4 b4 => (same_but h2.s frA (b3.trans (b4.mono subA))).seq hS, hl, by omega, by omega, sti, fun bits2 hand2 full2 H4 st4 b4 => ?_⟩
  walk_at "go"
  refine ob ⟨b3.trans (b4.mono subA), fun k hk => ?_, _, _, rfl⟩
  by_cases e : k = i
  · rw [e]
    exact ⟨_, _, _, _, st4⟩
  · obtain ⟨n', b', h', f', z'⟩ := st3 k hk
    exact ⟨n', b', h', f', z'.but b4 (h2.cr k i hk hi e)⟩
end

end

section

-- a condition of an operator
local macro_rules | `(tactic| walk_at "cond") => `(tactic| first
  | (show (0 : Int) < _; omega)
  | (show CDiv _ _; constructor <;> (first | decide | omega))
  | (show CMul _ _; first | (refine cmul_l ?_; constructor <;> (first | decide | omega)) | (refine cmul_r ?_; constructor <;> (first | decide | omega)))
  | (show CPow _ _; exact (by refine ⟨by decide, by decide, by decide⟩))
  | (show CDivW _ _; exact ⟨by decide, by decide +kernel⟩))
local macro_rules | `(tactic| walk_at "sq") => `(tactic| first | assumption | exact Dh.mono (same_upd (by assumption)) _ _ (by assumption) | exact .inl (.inl (.inl (by assumption))) | exact .inr (.inl (.inl (by assumption))) | exact SqL.of (by assumption) | exact .inl (by assumption) | exact .inl (SqL.of (by assumption)) | exact SqT.of (by assumption) | exact .inr (SqT.of (by assumption)))
local macro_rules | `(tactic| walk_at "st") => `(tactic| first
  | refine ⟨_, rfl, ?_⟩
  | refine ⟨_, _, rfl, rfl, ?_⟩
  | refine .inl ⟨_, rfl, ?_⟩
  | refine ⟨rfl, ?_⟩
  | refine ⟨_, _, rfl, by walk_at "sq", ?_⟩
  | refine ⟨.inl ⟨rfl, _, SqL.of (by assumption)⟩, ?_⟩
  | refine ⟨by walk_at "cond", ?_⟩
  | (refine' ifBT ?hh ?_; (case hh => first | rfl | assumption))
  | (refine' ifBF ?hh ?_; (case hh => first | rfl | assumption)))
local macro_rules | `(tactic| walk_at "go") => `(tactic| repeat walk_at "st")
local macro_rules | `(tactic| walk_at "yes") => `(tactic| (refine' ifT ?hh ?_; (case hh => first | rfl | decide +kernel)))
local macro_rules | `(tactic| walk_at "no") => `(tactic| (refine' ifF ?hh ?_; (case hh => first | decide +kernel | (intro z; cases z; done))))

theorem all_mk {l : PySem.W.OpenLaw} {w : World} {K : PySem.W.Frag} {h : Heap} {mg : Str → Option Value} {fa : Addr} (X : K.In h) (G : h.Ns mainGlobals mg) (hfa : mg "law" = some (.ref fa))
    {CC : Addr} (aCC : PySem.W.nsIn K mainGlobals "Chooser" = some (some (.ref CC)))
    {od_m_init an_m_init : Option Addr} {sl_m_init : Array (Option Value)} {f_m_init : Addr} {oc_m_init kV_m_init dc_m_init pm_m_init cd_m_init ct_m_init : Value}
    (a_m_init : PySem.W.findIn K (.ref CC) "__init__" = some (some (.ref f_m_init))) (i_m_init : PySem.W.isFn K (.ref f_m_init) = true)
    (l_m_init : K.lookup f_m_init = some ⟨oc_m_init, od_m_init, .func (PySem.W.fnOf "__init__" "Chooser.__init__" (C8.fnArgs s_Chooser___init__) (C8.fnBody s_Chooser___init__) (C8.fnScope s_Chooser___init__) .none kV_m_init dc_m_init pm_m_init an_m_init cd_m_init ct_m_init), sl_m_init⟩)
    (c_m_init : PySem.W.codeIn K cd_m_init "Chooser.__init__" = true) (k_m_init : PySem.W.keepIn K (.ref f_m_init) = true)
    {od_m_filled an_m_filled : Option Addr} {sl_m_filled : Array (Option Value)} {f_m_filled : Addr} {oc_m_filled kV_m_filled dc_m_filled pm_m_filled cd_m_filled ct_m_filled : Value}
    (a_m_filled : PySem.W.findIn K (.ref CC) "filled" = some (some (.ref f_m_filled))) (i_m_filled : PySem.W.isFn K (.ref f_m_filled) = true)
    (l_m_filled : K.lookup f_m_filled = some ⟨oc_m_filled, od_m_filled, .func (PySem.W.fnOf "filled" "Chooser.filled" (C8.fnArgs s_Chooser_filled) (C8.fnBody s_Chooser_filled) (C8.fnScope s_Chooser_filled) .none kV_m_filled dc_m_filled pm_m_filled an_m_filled cd_m_filled ct_m_filled), sl_m_filled⟩)
    (c_m_filled : PySem.W.codeIn K cd_m_filled "Chooser.filled" = true) (k_m_filled : PySem.W.keepIn K (.ref f_m_filled) = true)
    {od_m_touched an_m_touched : Option Addr} {sl_m_touched : Array (Option Value)} {f_m_touched : Addr} {oc_m_touched kV_m_touched dc_m_touched pm_m_touched cd_m_touched ct_m_touched : Value}
    (a_m_touched : PySem.W.findIn K (.ref CC) "touched" = some (some (.ref f_m_touched))) (i_m_touched : PySem.W.isFn K (.ref f_m_touched) = true)
    (l_m_touched : K.lookup f_m_touched = some ⟨oc_m_touched, od_m_touched, .func (PySem.W.fnOf "touched" "Chooser.touched" (C8.fnArgs s_Chooser_touched) (C8.fnBody s_Chooser_touched) (C8.fnScope s_Chooser_touched) .none kV_m_touched dc_m_touched pm_m_touched an_m_touched cd_m_touched ct_m_touched), sl_m_touched⟩)
    (c_m_touched : PySem.W.codeIn K cd_m_touched "Chooser.touched" = true) (k_m_touched : PySem.W.keepIn K (.ref f_m_touched) = true)
    {od_m_emptied an_m_emptied : Option Addr} {sl_m_emptied : Array (Option Value)} {f_m_emptied : Addr} {oc_m_emptied kV_m_emptied dc_m_emptied pm_m_emptied cd_m_emptied ct_m_emptied : Value}
    (a_m_emptied : PySem.W.findIn K (.ref CC) "emptied" = some (some (.ref f_m_emptied))) (i_m_emptied : PySem.W.isFn K (.ref f_m_emptied) = true)
    (l_m_emptied : K.lookup f_m_emptied = some ⟨oc_m_emptied, od_m_emptied, .func (PySem.W.fnOf "emptied" "Chooser.emptied" (C8.fnArgs s_Chooser_emptied) (C8.fnBody s_Chooser_emptied) (C8.fnScope s_Chooser_emptied) .none kV_m_emptied dc_m_emptied pm_m_emptied an_m_emptied cd_m_emptied ct_m_emptied), sl_m_emptied⟩)
    (c_m_emptied : PySem.W.codeIn K cd_m_emptied "Chooser.emptied" = true) (k_m_emptied : PySem.W.keepIn K (.ref f_m_emptied) = true)
    {od_m_choose an_m_choose : Option Addr} {sl_m_choose : Array (Option Value)} {f_m_choose : Addr} {oc_m_choose kV_m_choose dc_m_choose pm_m_choose cd_m_choose ct_m_choose : Value}
    (a_m_choose : PySem.W.findIn K (.ref CC) "choose" = some (some (.ref f_m_choose))) (i_m_choose : PySem.W.isFn K (.ref f_m_choose) = true)
    (l_m_choose : K.lookup f_m_choose = some ⟨oc_m_choose, od_m_choose, .func (PySem.W.fnOf "choose" "Chooser.choose" (C8.fnArgs s_Chooser_choose) (C8.fnBody s_Chooser_choose) (C8.fnScope s_Chooser_choose) .none kV_m_choose dc_m_choose pm_m_choose an_m_choose cd_m_choose ct_m_choose), sl_m_choose⟩)
    (c_m_choose : PySem.W.codeIn K cd_m_choose "Chooser.choose" = true) (k_m_choose : PySem.W.keepIn K (.ref f_m_choose) = true)
    {od_m_choose_by_hand an_m_choose_by_hand : Option Addr} {sl_m_choose_by_hand : Array (Option Value)} {f_m_choose_by_hand : Addr} {oc_m_choose_by_hand kV_m_choose_by_hand dc_m_choose_by_hand pm_m_choose_by_hand cd_m_choose_by_hand ct_m_choose_by_hand : Value}
    (a_m_choose_by_hand : PySem.W.findIn K (.ref CC) "_choose_by_hand" = some (some (.ref f_m_choose_by_hand))) (i_m_choose_by_hand : PySem.W.isFn K (.ref f_m_choose_by_hand) = true)
    (l_m_choose_by_hand : K.lookup f_m_choose_by_hand = some ⟨oc_m_choose_by_hand, od_m_choose_by_hand, .func (PySem.W.fnOf "_choose_by_hand" "Chooser._choose_by_hand" (C8.fnArgs s_Chooser__choose_by_hand) (C8.fnBody s_Chooser__choose_by_hand) (C8.fnScope s_Chooser__choose_by_hand) .none kV_m_choose_by_hand dc_m_choose_by_hand pm_m_choose_by_hand an_m_choose_by_hand cd_m_choose_by_hand ct_m_choose_by_hand), sl_m_choose_by_hand⟩)
    (c_m_choose_by_hand : PySem.W.codeIn K cd_m_choose_by_hand "Chooser._choose_by_hand" = true) (k_m_choose_by_hand : PySem.W.keepIn K (.ref f_m_choose_by_hand) = true)
    (pgCC : PySem.W.plainGet K CC Str.empty = true) (hdCC : PySem.W.hasDictIn K CC = true) (poCC : PySem.W.plainOver K CC = true) (saCC : PySem.W.findIn K (.ref CC) "__setattr__" = some (some (.builtin "object.__setattr__"))) (mkCC : PySem.W.makesIn K CC = true) (kcCC : PySem.W.keepIn K (.ref CC) = true)
    (nA0 : PySem.W.findIn K (.ref CC) "_kind" = some none)
    (nA1 : PySem.W.findIn K (.ref CC) "_frames" = some none)
    (nA2 : PySem.W.findIn K (.ref CC) "_calls" = some none)
    (nA3 : PySem.W.findIn K (.ref CC) "_fill_calls" = some none)
    (nA4 : PySem.W.findIn K (.ref CC) "_use_calls" = some none)
    (nA5 : PySem.W.findIn K (.ref CC) "_bits" = some none)
    (nA6 : PySem.W.findIn K (.ref CC) "_hand" = some none)
    {od_number an_number : Option Addr} {sl_number : Array (Option Value)} {f_number : Addr} {oc_number kV_number dc_number pm_number cd_number ct_number : Value}
    (a_number : PySem.W.nsIn K mainGlobals "_law_number" = some (some (.ref f_number)))
    (l_number : K.lookup f_number = some ⟨oc_number, od_number, .func (PySem.W.fnOf "_law_number" "_law_number" (C8.fnArgs s_number) (C8.fnBody s_number) (C8.fnScope s_number) .none kV_number dc_number pm_number an_number cd_number ct_number), sl_number⟩)
    (c_number : PySem.W.codeIn K cd_number "_law_number" = true) (k_number : PySem.W.keepIn K (.ref f_number) = true)
    {od_is_whole an_is_whole : Option Addr} {sl_is_whole : Array (Option Value)} {f_is_whole : Addr} {oc_is_whole kV_is_whole dc_is_whole pm_is_whole cd_is_whole ct_is_whole : Value}
    (a_is_whole : PySem.W.nsIn K mainGlobals "_law_is_whole" = some (some (.ref f_is_whole)))
    (l_is_whole : K.lookup f_is_whole = some ⟨oc_is_whole, od_is_whole, .func (PySem.W.fnOf "_law_is_whole" "_law_is_whole" (C8.fnArgs s_is_whole) (C8.fnBody s_is_whole) (C8.fnScope s_is_whole) .none kV_is_whole dc_is_whole pm_is_whole an_is_whole cd_is_whole ct_is_whole), sl_is_whole⟩)
    (c_is_whole : PySem.W.codeIn K cd_is_whole "_law_is_whole" = true) (k_is_whole : PySem.W.keepIn K (.ref f_is_whole) = true)
    {od_same an_same : Option Addr} {sl_same : Array (Option Value)} {f_same : Addr} {oc_same kV_same dc_same pm_same cd_same ct_same : Value}
    (a_same : PySem.W.nsIn K mainGlobals "_law_same" = some (some (.ref f_same)))
    (l_same : K.lookup f_same = some ⟨oc_same, od_same, .func (PySem.W.fnOf "_law_same" "_law_same" (C8.fnArgs s_same) (C8.fnBody s_same) (C8.fnScope s_same) .none kV_same dc_same pm_same an_same cd_same ct_same), sl_same⟩)
    (c_same : PySem.W.codeIn K cd_same "_law_same" = true) (k_same : PySem.W.keepIn K (.ref f_same) = true)
    {od_chooser_new an_chooser_new : Option Addr} {sl_chooser_new : Array (Option Value)} {f_chooser_new : Addr} {oc_chooser_new kV_chooser_new dc_chooser_new pm_chooser_new cd_chooser_new ct_chooser_new : Value}
    (a_chooser_new : PySem.W.nsIn K mainGlobals "_law_chooser_new" = some (some (.ref f_chooser_new)))
    (l_chooser_new : K.lookup f_chooser_new = some ⟨oc_chooser_new, od_chooser_new, .func (PySem.W.fnOf "_law_chooser_new" "_law_chooser_new" (C8.fnArgs s_chooser_new) (C8.fnBody s_chooser_new) (C8.fnScope s_chooser_new) .none kV_chooser_new dc_chooser_new pm_chooser_new an_chooser_new cd_chooser_new ct_chooser_new), sl_chooser_new⟩)
    (c_chooser_new : PySem.W.codeIn K cd_chooser_new "_law_chooser_new" = true) (k_chooser_new : PySem.W.keepIn K (.ref f_chooser_new) = true)
    {od_chooser_tell an_chooser_tell : Option Addr} {sl_chooser_tell : Array (Option Value)} {f_chooser_tell : Addr} {oc_chooser_tell kV_chooser_tell dc_chooser_tell pm_chooser_tell cd_chooser_tell ct_chooser_tell : Value}
    (a_chooser_tell : PySem.W.nsIn K mainGlobals "_law_chooser_tell" = some (some (.ref f_chooser_tell)))
    (l_chooser_tell : K.lookup f_chooser_tell = some ⟨oc_chooser_tell, od_chooser_tell, .func (PySem.W.fnOf "_law_chooser_tell" "_law_chooser_tell" (C8.fnArgs s_chooser_tell) (C8.fnBody s_chooser_tell) (C8.fnScope s_chooser_tell) .none kV_chooser_tell dc_chooser_tell pm_chooser_tell an_chooser_tell cd_chooser_tell ct_chooser_tell), sl_chooser_tell⟩)
    (c_chooser_tell : PySem.W.codeIn K cd_chooser_tell "_law_chooser_tell" = true) (k_chooser_tell : PySem.W.keepIn K (.ref f_chooser_tell) = true)
    {od_chooser_pick an_chooser_pick : Option Addr} {sl_chooser_pick : Array (Option Value)} {f_chooser_pick : Addr} {oc_chooser_pick kV_chooser_pick dc_chooser_pick pm_chooser_pick cd_chooser_pick ct_chooser_pick : Value}
    (a_chooser_pick : PySem.W.nsIn K mainGlobals "_law_chooser_pick" = some (some (.ref f_chooser_pick)))
    (l_chooser_pick : K.lookup f_chooser_pick = some ⟨oc_chooser_pick, od_chooser_pick, .func (PySem.W.fnOf "_law_chooser_pick" "_law_chooser_pick" (C8.fnArgs s_chooser_pick) (C8.fnBody s_chooser_pick) (C8.fnScope s_chooser_pick) .none kV_chooser_pick dc_chooser_pick pm_chooser_pick an_chooser_pick cd_chooser_pick ct_chooser_pick), sl_chooser_pick⟩)
    (c_chooser_pick : PySem.W.codeIn K cd_chooser_pick "_law_chooser_pick" = true) (k_chooser_pick : PySem.W.keepIn K (.ref f_chooser_pick) = true)
    {od_chooser_told an_chooser_told : Option Addr} {sl_chooser_told : Array (Option Value)} {f_chooser_told : Addr} {oc_chooser_told kV_chooser_told dc_chooser_told pm_chooser_told cd_chooser_told ct_chooser_told : Value}
    (a_chooser_told : PySem.W.nsIn K mainGlobals "_law_chooser_told" = some (some (.ref f_chooser_told)))
    (l_chooser_told : K.lookup f_chooser_told = some ⟨oc_chooser_told, od_chooser_told, .func (PySem.W.fnOf "_law_chooser_told" "_law_chooser_told" (C8.fnArgs s_chooser_told) (C8.fnBody s_chooser_told) (C8.fnScope s_chooser_told) .none kV_chooser_told dc_chooser_told pm_chooser_told an_chooser_told cd_chooser_told ct_chooser_told), sl_chooser_told⟩)
    (c_chooser_told : PySem.W.codeIn K cd_chooser_told "_law_chooser_told" = true) (k_chooser_told : PySem.W.keepIn K (.ref f_chooser_told) = true)
    {od_chooser_call an_chooser_call : Option Addr} {sl_chooser_call : Array (Option Value)} {f_chooser_call : Addr} {oc_chooser_call kV_chooser_call dc_chooser_call pm_chooser_call cd_chooser_call ct_chooser_call : Value}
    (a_chooser_call : PySem.W.nsIn K mainGlobals "_law_chooser_call" = some (some (.ref f_chooser_call)))
    (l_chooser_call : K.lookup f_chooser_call = some ⟨oc_chooser_call, od_chooser_call, .func (PySem.W.fnOf "_law_chooser_call" "_law_chooser_call" (C8.fnArgs s_chooser_call) (C8.fnBody s_chooser_call) (C8.fnScope s_chooser_call) .none kV_chooser_call dc_chooser_call pm_chooser_call an_chooser_call cd_chooser_call ct_chooser_call), sl_chooser_call⟩)
    (c_chooser_call : PySem.W.codeIn K cd_chooser_call "_law_chooser_call" = true) (k_chooser_call : PySem.W.keepIn K (.ref f_chooser_call) = true)
    {od_law an_law : Option Addr} {sl_law : Array (Option Value)} {f_law : Addr} {oc_law kV_law dc_law pm_law cd_law ct_law : Value}
    (a_law : PySem.W.nsIn K mainGlobals "law" = some (some (.ref f_law)))
    (l_law : K.lookup f_law = some ⟨oc_law, od_law, .func (PySem.W.fnOf "law" "law" (C8.fnArgs s_law) (C8.fnBody s_law) (C8.fnScope s_law) .none kV_law dc_law pm_law an_law cd_law ct_law), sl_law⟩)
    (c_law : PySem.W.codeIn K cd_law "law" = true) (k_law : PySem.W.keepIn K (.ref f_law) = true)
    (z_len : PySem.W.nsIn K mainGlobals "len" = some none)
    (z_abs : PySem.W.nsIn K mainGlobals "abs" = some none)
    (z_int : PySem.W.nsIn K mainGlobals "int" = some none)
    (z_range : PySem.W.nsIn K mainGlobals "range" = some none)
    (z_isinstance : PySem.W.nsIn K mainGlobals "isinstance" = some none)
    (z_bool : PySem.W.nsIn K mainGlobals "bool" = some none)
    (z_str : PySem.W.nsIn K mainGlobals "str" = some none)
    (z_list : PySem.W.nsIn K mainGlobals "list" = some none)
    (z_tuple : PySem.W.nsIn K mainGlobals "tuple" = some none) :
    ∃ fd : FuncData, (∀ (s : Shared) (v : Value), BindsTo s fd ⟨[v], []⟩ [("_law_script", v)]) ∧ ∀ base : Heap, K.In base → base.Ns mainGlobals mg → FnOk l.prog w K mg base C8.CX0 5 fa fd ["_law_script"] (spLaw K) := by
  have e := hfa.symm.trans (PySem.W.mg_of X G a_law)
  cases e
  have T : Txt mg := ⟨PySem.W.mg_none_of X G z_len, PySem.W.mg_none_of X G z_abs, PySem.W.mg_none_of X G z_int, PySem.W.mg_none_of X G z_range, PySem.W.mg_none_of X G z_isinstance, PySem.W.mg_none_of X G z_bool, PySem.W.mg_none_of X G z_str, PySem.W.mg_none_of X G z_list, PySem.W.mg_none_of X G z_tuple⟩
  have F_m_init : C8.Fun K "__init__" "Chooser.__init__" s_Chooser___init__ f_m_init _ := ⟨oc_m_init, od_m_init, .none, kV_m_init, dc_m_init, pm_m_init, an_m_init, cd_m_init, ct_m_init, sl_m_init, rfl, l_m_init, c_m_init⟩
  have b_m_init := F_m_init.binds (ps := ["self", "kind", "frames"]) rfl fun _ _ _ _ _ _ us hl => match us, hl with | [_, _, _], _ => rfl
  have F_m_filled : C8.Fun K "filled" "Chooser.filled" s_Chooser_filled f_m_filled _ := ⟨oc_m_filled, od_m_filled, .none, kV_m_filled, dc_m_filled, pm_m_filled, an_m_filled, cd_m_filled, ct_m_filled, sl_m_filled, rfl, l_m_filled, c_m_filled⟩
  have b_m_filled := F_m_filled.binds (ps := ["self", "frame"]) rfl fun _ _ _ _ _ _ us hl => match us, hl with | [_, _], _ => rfl
  have F_m_touched : C8.Fun K "touched" "Chooser.touched" s_Chooser_touched f_m_touched _ := ⟨oc_m_touched, od_m_touched, .none, kV_m_touched, dc_m_touched, pm_m_touched, an_m_touched, cd_m_touched, ct_m_touched, sl_m_touched, rfl, l_m_touched, c_m_touched⟩
  have b_m_touched := F_m_touched.binds (ps := ["self", "frame"]) rfl fun _ _ _ _ _ _ us hl => match us, hl with | [_, _], _ => rfl
  have F_m_emptied : C8.Fun K "emptied" "Chooser.emptied" s_Chooser_emptied f_m_emptied _ := ⟨oc_m_emptied, od_m_emptied, .none, kV_m_emptied, dc_m_emptied, pm_m_emptied, an_m_emptied, cd_m_emptied, ct_m_emptied, sl_m_emptied, rfl, l_m_emptied, c_m_emptied⟩
  have b_m_emptied := F_m_emptied.binds (ps := ["self", "frame"]) rfl fun _ _ _ _ _ _ us hl => match us, hl with | [_, _], _ => rfl
  have F_m_choose : C8.Fun K "choose" "Chooser.choose" s_Chooser_choose f_m_choose _ := ⟨oc_m_choose, od_m_choose, .none, kV_m_choose, dc_m_choose, pm_m_choose, an_m_choose, cd_m_choose, ct_m_choose, sl_m_choose, rfl, l_m_choose, c_m_choose⟩
  have b_m_choose := F_m_choose.binds (ps := ["self", "allowed"]) rfl fun _ _ _ _ _ _ us hl => match us, hl with | [_, _], _ => rfl
  have F_m_choose_by_hand : C8.Fun K "_choose_by_hand" "Chooser._choose_by_hand" s_Chooser__choose_by_hand f_m_choose_by_hand _ := ⟨oc_m_choose_by_hand, od_m_choose_by_hand, .none, kV_m_choose_by_hand, dc_m_choose_by_hand, pm_m_choose_by_hand, an_m_choose_by_hand, cd_m_choose_by_hand, ct_m_choose_by_hand, sl_m_choose_by_hand, rfl, l_m_choose_by_hand, c_m_choose_by_hand⟩
  have b_m_choose_by_hand := F_m_choose_by_hand.binds (ps := ["self", "allowed"]) rfl fun _ _ _ _ _ _ us hl => match us, hl with | [_, _], _ => rfl
  have TS : STxt K mg CC := ⟨⟨pgCC, hdCC, poCC, saCC⟩, nA0, nA1, nA2, nA3, nA4, nA5, nA6, PySem.W.mg_of X G aCC⟩
  have D_number : Def K mg "_law_number" s_number f_number _ := ⟨⟨oc_number, od_number, .none, kV_number, dc_number, pm_number, an_number, cd_number, ct_number, sl_number, rfl, l_number, c_number⟩, PySem.W.mg_of X G a_number, k_number⟩
  have b_number := D_number.fn.binds (ps := ["_law_script", "_law_at", "_law_k", "_law_size"]) rfl fun _ _ _ _ _ _ us hl => match us, hl with | [_, _, _, _], _ => rfl
  have D_is_whole : Def K mg "_law_is_whole" s_is_whole f_is_whole _ := ⟨⟨oc_is_whole, od_is_whole, .none, kV_is_whole, dc_is_whole, pm_is_whole, an_is_whole, cd_is_whole, ct_is_whole, sl_is_whole, rfl, l_is_whole, c_is_whole⟩, PySem.W.mg_of X G a_is_whole, k_is_whole⟩
  have b_is_whole := D_is_whole.fn.binds (ps := ["_law_told"]) rfl fun _ _ _ _ _ _ us hl => match us, hl with | [_], _ => rfl
  have D_same : Def K mg "_law_same" s_same f_same _ := ⟨⟨oc_same, od_same, .none, kV_same, dc_same, pm_same, an_same, cd_same, ct_same, sl_same, rfl, l_same, c_same⟩, PySem.W.mg_of X G a_same, k_same⟩
  have b_same := D_same.fn.binds (ps := ["_law_told", "_law_due"]) rfl fun _ _ _ _ _ _ us hl => match us, hl with | [_, _], _ => rfl
  have D_chooser_new : Def K mg "_law_chooser_new" s_chooser_new f_chooser_new _ := ⟨⟨oc_chooser_new, od_chooser_new, .none, kV_chooser_new, dc_chooser_new, pm_chooser_new, an_chooser_new, cd_chooser_new, ct_chooser_new, sl_chooser_new, rfl, l_chooser_new, c_chooser_new⟩, PySem.W.mg_of X G a_chooser_new, k_chooser_new⟩
  have b_chooser_new := D_chooser_new.fn.binds (ps := ["_law_kind", "_law_many"]) rfl fun _ _ _ _ _ _ us hl => match us, hl with | [_, _], _ => rfl
  have D_chooser_tell : Def K mg "_law_chooser_tell" s_chooser_tell f_chooser_tell _ := ⟨⟨oc_chooser_tell, od_chooser_tell, .none, kV_chooser_tell, dc_chooser_tell, pm_chooser_tell, an_chooser_tell, cd_chooser_tell, ct_chooser_tell, sl_chooser_tell, rfl, l_chooser_tell, c_chooser_tell⟩, PySem.W.mg_of X G a_chooser_tell, k_chooser_tell⟩
  have b_chooser_tell := D_chooser_tell.fn.binds (ps := ["_law_plain", "_law_what", "_law_frame"]) rfl fun _ _ _ _ _ _ us hl => match us, hl with | [_, _, _], _ => rfl
  have D_chooser_pick : Def K mg "_law_chooser_pick" s_chooser_pick f_chooser_pick _ := ⟨⟨oc_chooser_pick, od_chooser_pick, .none, kV_chooser_pick, dc_chooser_pick, pm_chooser_pick, an_chooser_pick, cd_chooser_pick, ct_chooser_pick, sl_chooser_pick, rfl, l_chooser_pick, c_chooser_pick⟩, PySem.W.mg_of X G a_chooser_pick, k_chooser_pick⟩
  have b_chooser_pick := D_chooser_pick.fn.binds (ps := ["_law_plain", "_law_allowed"]) rfl fun _ _ _ _ _ _ us hl => match us, hl with | [_, _], _ => rfl
  have D_chooser_told : Def K mg "_law_chooser_told" s_chooser_told f_chooser_told _ := ⟨⟨oc_chooser_told, od_chooser_told, .none, kV_chooser_told, dc_chooser_told, pm_chooser_told, an_chooser_told, cd_chooser_told, ct_chooser_told, sl_chooser_told, rfl, l_chooser_told, c_chooser_told⟩, PySem.W.mg_of X G a_chooser_told, k_chooser_told⟩
  have b_chooser_told := D_chooser_told.fn.binds (ps := ["_law_bureau", "_law_plain", "_law_what", "_law_frame"]) rfl fun _ _ _ _ _ _ us hl => match us, hl with | [_, _, _, _], _ => rfl
  have D_chooser_call : Def K mg "_law_chooser_call" s_chooser_call f_chooser_call _ := ⟨⟨oc_chooser_call, od_chooser_call, .none, kV_chooser_call, dc_chooser_call, pm_chooser_call, an_chooser_call, cd_chooser_call, ct_chooser_call, sl_chooser_call, rfl, l_chooser_call, c_chooser_call⟩, PySem.W.mg_of X G a_chooser_call, k_chooser_call⟩
  have b_chooser_call := D_chooser_call.fn.binds (ps := ["_law_script", "_law_at", "_law_bureau", "_law_plain"]) rfl fun _ _ _ _ _ _ us hl => match us, hl with | [_, _, _, _], _ => rfl
  have D_law : Def K mg "law" s_law fa _ := ⟨⟨oc_law, od_law, .none, kV_law, dc_law, pm_law, an_law, cd_law, ct_law, sl_law, rfl, l_law, c_law⟩, PySem.W.mg_of X G a_law, k_law⟩
  refine ⟨PySem.W.fnOf "law" "law" (C8.fnArgs s_law) (C8.fnBody s_law) (C8.fnScope s_law) .none kV_law dc_law pm_law an_law cd_law ct_law, fun s v => .of_eq rfl, fun base _ _ => ?_⟩
  have c_number := ok_number (P := l.prog) (w := w) (base := base) D_number b_number T
  have c_whole := ok_whole (P := l.prog) (w := w) (base := base) D_is_whole b_is_whole T
  have c_Ch := ok_init (P := l.prog) (w := w) (base := base) F_m_init ⟨mkCC, a_m_init, i_m_init, kcCC⟩ b_m_init TS
  have m_em := ok_emptied (P := l.prog) (w := w) (base := base) F_m_emptied ⟨a_m_emptied, i_m_emptied, k_m_emptied⟩ b_m_emptied TS
  have m_to := ok_touched (P := l.prog) (w := w) (base := base) F_m_touched ⟨a_m_touched, i_m_touched, k_m_touched⟩ b_m_touched TS
  have m_fi := ok_filled F_m_filled ⟨a_m_filled, i_m_filled, k_m_filled⟩ b_m_filled TS m_to
  have m_ha := ok_hand (P := l.prog) (w := w) (base := base) F_m_choose_by_hand ⟨a_m_choose_by_hand, i_m_choose_by_hand, k_m_choose_by_hand⟩ b_m_choose_by_hand TS
  have m_ch := ok_choose F_m_choose ⟨a_m_choose, i_m_choose, k_m_choose⟩ b_m_choose TS m_ha
  have c_tell := ok_tell (P := l.prog) (w := w) (base := base) D_chooser_tell b_chooser_tell T
  have c_new := ok_new (P := l.prog) (w := w) (base := base) D_chooser_new b_chooser_new T
  have c_pick := ok_pick (P := l.prog) (w := w) (base := base) D_chooser_pick b_chooser_pick T
  have c_told := ok_told D_chooser_told b_chooser_told T c_tell m_to m_fi m_em
  have c_call := ok_call D_chooser_call b_chooser_call T c_number c_whole c_told c_pick m_ch
  exact ok_law D_law T c_number c_Ch c_new c_call

end

end Lw
open PySem PySem.W PyProof.Rows
set_option maxRecDepth 100000 in
set_option maxHeartbeats 0 in
theorem PySem.Challenge.cw_lentpages_k22_chooser_clock_holds : PySem.Challenge.rw_lentpages_k22_chooser_clock.Holds := by
  w_on; o_law; k_head; (case hw => w_witness2)
  k_fill
  refine L2.walk_of (l := PySem.Challenge.rw_lentpages_k22_chooser_clock) (n := 63) (k := 5) (x := "_law_script") (CX := fun _ => C8.CX0) (sp := fun w => Lw.spLaw _) rfl (by decide) rfl ⟨rfl, by decide, by decide⟩ (fun w h Y => by first | exact PySem.W.kIn_of Y | exact PySem.W.km_in_of Y) ?F (fun _ _ a ns hl _ hS => ⟨a, ns, rfl, hS, hl, fun _ => rfl⟩) (fun _ _ _ _ _ h => h)
  case F =>
    intro w mg fa h KX G hmg
    refine' Lw.all_mk KX G hmg ?aCC ?a_m_init ?i_m_init ?l_m_init ?c_m_init ?k_m_init ?a_m_filled ?i_m_filled ?l_m_filled ?c_m_filled ?k_m_filled ?a_m_touched ?i_m_touched ?l_m_touched ?c_m_touched ?k_m_touched ?a_m_emptied ?i_m_emptied ?l_m_emptied ?c_m_emptied ?k_m_emptied ?a_m_choose ?i_m_choose ?l_m_choose ?c_m_choose ?k_m_choose ?a_m_choose_by_hand ?i_m_choose_by_hand ?l_m_choose_by_hand ?c_m_choose_by_hand ?k_m_choose_by_hand ?pgCC ?hdCC ?poCC ?saCC ?mkCC ?kcCC ?nA0 ?nA1 ?nA2 ?nA3 ?nA4 ?nA5 ?nA6 ?a_number ?l_number ?c_number ?k_number ?a_is_whole ?l_is_whole ?c_is_whole ?k_is_whole ?a_same ?l_same ?c_same ?k_same ?a_chooser_new ?l_chooser_new ?c_chooser_new ?k_chooser_new ?a_chooser_tell ?l_chooser_tell ?c_chooser_tell ?k_chooser_tell ?a_chooser_pick ?l_chooser_pick ?c_chooser_pick ?k_chooser_pick ?a_chooser_told ?l_chooser_told ?c_chooser_told ?k_chooser_told ?a_chooser_call ?l_chooser_call ?c_chooser_call ?k_chooser_call ?a_law ?l_law ?c_law ?k_law ?z_len ?z_abs ?z_int ?z_range ?z_isinstance ?z_bool ?z_str ?z_list ?z_tuple
    (case aCC => k_is)
    (case a_m_init => k_is)
    (case i_m_init => k_is)
    (case l_m_init => k_is)
    (case c_m_init => k_is)
    (case k_m_init => k_is)
    (case a_m_filled => k_is)
    (case i_m_filled => k_is)
    (case l_m_filled => k_is)
    (case c_m_filled => k_is)
    (case k_m_filled => k_is)
    (case a_m_touched => k_is)
    (case i_m_touched => k_is)
    (case l_m_touched => k_is)
    (case c_m_touched => k_is)
    (case k_m_touched => k_is)
    (case a_m_emptied => k_is)
    (case i_m_emptied => k_is)
    (case l_m_emptied => k_is)
    (case c_m_emptied => k_is)
    (case k_m_emptied => k_is)
    (case a_m_choose => k_is)
    (case i_m_choose => k_is)
    (case l_m_choose => k_is)
    (case c_m_choose => k_is)
    (case k_m_choose => k_is)
    (case a_m_choose_by_hand => k_is)
    (case i_m_choose_by_hand => k_is)
    (case l_m_choose_by_hand => k_is)
    (case c_m_choose_by_hand => k_is)
    (case k_m_choose_by_hand => k_is)
    (case pgCC => k_is)
    (case hdCC => k_is)
    (case poCC => k_is)
    (case saCC => k_is)
    (case mkCC => k_is)
    (case kcCC => k_is)
    (case nA0 => k_is)
    (case nA1 => k_is)
    (case nA2 => k_is)
    (case nA3 => k_is)
    (case nA4 => k_is)
    (case nA5 => k_is)
    (case nA6 => k_is)
    (case a_number => k_is)
    (case l_number => k_is)
    (case c_number => k_is)
    (case k_number => k_is)
    (case a_is_whole => k_is)
    (case l_is_whole => k_is)
    (case c_is_whole => k_is)
    (case k_is_whole => k_is)
    (case a_same => k_is)
    (case l_same => k_is)
    (case c_same => k_is)
    (case k_same => k_is)
    (case a_chooser_new => k_is)
    (case l_chooser_new => k_is)
    (case c_chooser_new => k_is)
    (case k_chooser_new => k_is)
    (case a_chooser_tell => k_is)
    (case l_chooser_tell => k_is)
    (case c_chooser_tell => k_is)
    (case k_chooser_tell => k_is)
    (case a_chooser_pick => k_is)
    (case l_chooser_pick => k_is)
    (case c_chooser_pick => k_is)
    (case k_chooser_pick => k_is)
    (case a_chooser_told => k_is)
    (case l_chooser_told => k_is)
    (case c_chooser_told => k_is)
    (case k_chooser_told => k_is)
    (case a_chooser_call => k_is)
    (case l_chooser_call => k_is)
    (case c_chooser_call => k_is)
    (case k_chooser_call => k_is)
    (case a_law => k_is)
    (case l_law => k_is)
    (case c_law => k_is)
    (case k_law => k_is)
    (case z_len => k_is)
    (case z_abs => k_is)
    (case z_int => k_is)
    (case z_range => k_is)
    (case z_isinstance => k_is)
    (case z_bool => k_is)
    (case z_str => k_is)
    (case z_list => k_is)
    (case z_tuple => k_is)
