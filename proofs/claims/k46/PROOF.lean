import PyProof.Rows.All
import Wide.All
import OpenK.AllK
import Wide.FinOn
import HandS.ForMost
import HandS.Codes
import HandS.IsInst
import HandS.Wide
import HandS.DictTup
import PyProof.DictMoreH
import HandS.TupLen
import HandS.Nested
import HandS.ExcInit
import HandS.FStr
import HandS.ExcOwn
import HandS.ExcIs
import HandS.ExcField
import KE.KExcIs
import HandS.WordsExc
import HandS.Rev
import HandS.Style
import HandS.Zip
import KE.GoesEnum
import KE.KIntText
import KE.IntTextText
import KE.IntTextLaws
import HandS.Text
import HandS.Walk
import HandS.TryOnly
import HandS.TryMany
import HandS.MakeKwOnly
import HandS.Conv
import KE.KExcSuper
import KE.KExcMake
import KE.GoesZip
import KE.GoesMore
import HandS.More
import PySem.Challenge.RW_lentpages_k46_assemble
set_option Elab.async false
set_option linter.all false
set_option maxRecDepth 100000
set_option maxHeartbeats 4000000
namespace Lw
open PySem PySem.Spec PyProof.Rows L2 NdefX
open C8 (Def Cal cal0 pe_c)
def topS (i : Nat) : Stmt := PySem.Challenge.pw_lentpages_k46_assemble.main.body.getD i (.Pass ⟨0, 0, 0, 0⟩)

/-! ### data in the heap, tracked -/
mutual
def Dh (H : Hp) : PyData → V → Prop
  | .none, x => x = .non
  | .bool b, x => x = .bl b
  | .int i, x => x = .int i
  | .str s, x => x = .str s
  | .list ds, x => ∃ a xs, x = .ref a ∧ H a = some (.lst xs) ∧ DhAll H ds xs
  | .tuple ds, x => ∃ a xs, x = .ref a ∧ H a = some (.tup xs) ∧ DhAll H ds xs
  | .dict _, _ => False
def DhAll (H : Hp) : List PyData → List V → Prop
  | [], xs => xs = []
  | d :: ds, xs => ∃ v vs, xs = v :: vs ∧ Dh H d v ∧ DhAll H ds vs
end
mutual
theorem Dh.mono {H H' : Hp} (s : Same H H') : ∀ (d : PyData) (x : V), Dh H d x → Dh H' d x
  | .none, x, h => h
  | .bool b, x, h => h
  | .int i, x, h => h
  | .str i, x, h => h
  | .list ds, x, h => by
    obtain ⟨a, xs, e, g, r⟩ := h
    exact ⟨a, xs, e, s _ _ g, DhAll.mono s ds xs r⟩
  | .tuple ds, x, h => by
    obtain ⟨a, xs, e, g, r⟩ := h
    exact ⟨a, xs, e, s _ _ g, DhAll.mono s ds xs r⟩
  | .dict _, x, h => False.elim h
theorem DhAll.mono {H H' : Hp} (s : Same H H') : ∀ (ds : List PyData) (xs : List V), DhAll H ds xs → DhAll H' ds xs
  | [], xs, h => h
  | d :: ds, xs, h => by
    obtain ⟨v, vs, e, g, r⟩ := h
    exact ⟨v, vs, e, Dh.mono s d v g, DhAll.mono s ds vs r⟩
end
theorem DhAll.len {H : Hp} : ∀ {ds : List PyData} {xs : List V}, DhAll H ds xs → xs.length = ds.length
  | [], xs, h => by
    cases (show xs = [] from h)
    rfl
  | d :: ds, xs, h => by
    obtain ⟨v, vs, e, g, r⟩ := h
    rw [e, List.length_cons, List.length_cons, DhAll.len r]
theorem DhAll.get {H : Hp} : ∀ {ds : List PyData} {xs : List V} {i : Nat} {d : PyData}, DhAll H ds xs → ds[i]? = some d → ∃ x, xs[i]? = some x ∧ Dh H d x
  | [], xs, i, d, h, e => by simp at e
  | d' :: ds, xs, 0, d, h, e => by
    obtain ⟨v, vs, e', g, r⟩ := h
    simp at e
    subst e
    exact ⟨v, by rw [e']; rfl, g⟩
  | d' :: ds, xs, i + 1, d, h, e => by
    obtain ⟨v, vs, e', g, r⟩ := h
    obtain ⟨x, h1, h2⟩ := DhAll.get (i := i) (d := d) r (by simpa using e)
    exact ⟨x, by rw [e']; simpa using h1, h2⟩
mutual
theorem Dh.dp {K : PySem.W.Frag} {H : Hp} : ∀ (d : PyData) (x : V), Dh H d x → Dp K H x d
  | .none, x, h => by
    cases (show x = .non from h)
    exact .non
  | .bool b, x, h => by
    cases (show x = .bl b from h)
    exact .bl b
  | .int i, x, h => by
    cases (show x = .int i from h)
    exact .int i
  | .str i, x, h => by
    cases (show x = .str i from h)
    exact .str i
  | .list ds, x, h => by
    obtain ⟨a, xs, e, g, r⟩ := h
    rw [e]
    exact .lst (SqL.of g) (DhAll.dp ds xs r)
  | .tuple ds, x, h => by
    obtain ⟨a, xs, e, g, r⟩ := h
    rw [e]
    exact .tup (SqT.of g) (DhAll.dp ds xs r)
  | .dict _, x, h => False.elim h
theorem DhAll.dp {K : PySem.W.Frag} {H : Hp} : ∀ (ds : List PyData) (xs : List V), DhAll H ds xs → DpAll K H xs ds
  | [], xs, h => by
    cases (show xs = [] from h)
    exact .nil
  | d :: ds, xs, h => by
    obtain ⟨v, vs, e, g, r⟩ := h
    rw [e]
    exact .cons (Dh.dp d v g) (DhAll.dp ds vs r)
end
/-- a datum's type -/
def tyN : PyData → String
  | .none => "NoneType"
  | .bool _ => "bool"
  | .int _ => "int"
  | .str _ => "str"
  | .list _ => "list"
  | .tuple _ => "tuple"
  | .dict _ => "dict"
theorem Dh.ty {K : PySem.W.Frag} {H : Hp} : ∀ {d : PyData} {x : V}, Dh H d x → TyX K H x (.type (tyN d))
  | .none, x, h => by
    cases (show x = .non from h)
    exact .base .non
  | .bool b, x, h => by
    cases (show x = .bl b from h)
    exact .base (.bl b)
  | .int i, x, h => by
    cases (show x = .int i from h)
    exact .base (.int i)
  | .str i, x, h => by
    cases (show x = .str i from h)
    exact .base (.str i)
  | .list ds, x, h => by
    obtain ⟨a, xs, e, g, r⟩ := h
    rw [e]
    exact .base (.lst g)
  | .tuple ds, x, h => by
    obtain ⟨a, xs, e, g, r⟩ := h
    rw [e]
    exact .base (.tup g)
  | .dict _, x, h => False.elim h
/-- at most n lists and tuples in one another, none of them long -/
def Dle : Nat → PyData → Prop
  | 0, _ => False
  | n + 1, .list ds => ds.length ≤ 100000 ∧ ∀ d ∈ ds, Dle n d
  | n + 1, .tuple ds => ds.length ≤ 100000 ∧ ∀ d ∈ ds, Dle n d
  | _, .dict _ => False
  | _, _ => True
theorem same_upd {H : Hp} {p : Addr} {o : HO} (h : H p = none) : Same H (upd H p o) := fun b x e => by
  rw [upd_ne (ne_of_none e h)]
  exact e
theorem same_rfl {H : Hp} : Same H H := fun _ _ e => e
/-- what is asked of the top's names -/
structure Txt (mg : Str → Option Value) : Prop where
  len : mg "len" = none
  abs : mg "abs" = none
  int : mg "int" = none
  range : mg "range" = none
  isinstance : mg "isinstance" = none
  bool : mg "bool" = none
  str : mg "str" = none
  list : mg "list" = none
  tuple : mg "tuple" = none
abbrev sI (i : Int) : Option V := some (.int i)
abbrev sR (a : Addr) : Option V := some (.ref a)
abbrev sS (x : Str) : Option V := some (.str x)
abbrev sB (b : Bool) : Option V := some (.bl b)

/-! ### steps of a reading -/
theorem ifD {p : Prop} [Decidable p] {A B : Prop} (a : p → A) (b : ¬ p → B) : if decide p = true then A else B := by
  by_cases h : p
  · rw [if_pos (decide_eq_true h)]
    exact a h
  · rw [if_neg (fun z => h (of_decide_eq_true z))]
    exact b h
theorem ifEq {x y : Int} {A B : Prop} (a : x = y → A) (b : x ≠ y → B) : if decide (V.int x = V.int y) = true then A else B :=
  ifD (fun h => a (V.int.inj h)) (fun h => b (fun z => h (congrArg V.int z)))
theorem ifT {p : Prop} [Decidable p] {A B : Prop} (h : p) (a : A) : if decide p = true then A else B := by
  rw [if_pos (decide_eq_true h)]
  exact a
theorem ifF {p : Prop} [Decidable p] {A B : Prop} (h : ¬ p) (b : B) : if decide p = true then A else B := by
  rw [if_neg (fun z => h (of_decide_eq_true z))]
  exact b
theorem ifEqT {x y : Int} {A B : Prop} (h : x = y) (a : A) : if decide (V.int x = V.int y) = true then A else B := ifT (congrArg V.int h) a
theorem ifEqF {x y : Int} {A B : Prop} (h : x ≠ y) (b : B) : if decide (V.int x = V.int y) = true then A else B := ifF (fun z => h (V.int.inj z)) b
theorem cmul_l {i j : Int} (h : -(2 ^ 64) < i ∧ i < 2 ^ 64) : CMul i j := .inl h
theorem cmul_r {i j : Int} (h : -(2 ^ 64) < j ∧ j < 2 ^ 64) : CMul i j := .inr h
/-- a statement that the steps stop at -/
@[irreducible] def tMk (t : TS) : TS := t
theorem tMk_eq (t : TS) : tMk t = t := by
  unfold tMk
  rfl
theorem ps_mk {X : Cx} {s : Stmt} {t : TS} (h : PS X s t) : PS X s (tMk t) := by
  rw [tMk_eq]
  exact h
theorem un {t : TS} {D : Ends} {σ : L2.St} {H : Hp} (h : t D σ H) : tMk t D σ H := by
  rw [tMk_eq]
  exact h
/-- what follows, said once -/
theorem jn {t : TS} {D : Ends} {σ : L2.St} {H : Hp} (M : L2.St → Hp → Prop) (h2 : ∀ σ H, M σ H → D.nx σ H) (h1 : ∀ N : L2.St → Hp → Prop, (∀ σ H, M σ H → N σ H) → t { D with nx := N } σ H) : tMk t D σ H := by
  rw [tMk_eq]
  exact h1 D.nx h2
/-- a wish that the steps stop at -/
@[irreducible] def Ob (p : Prop) : Prop := p
theorem ob {p : Prop} (h : p) : Ob p := by
  unfold Ob
  exact h
theorem unob {p : Prop} (h : Ob p) : p := by
  unfold Ob at h
  exact h
theorem atI_getD {ns : List Int} {j : Int} (h0 : 0 ≤ j) (h1 : j < (ns.length : Int)) : atI (ns.map V.int) j = some (.int (ns.getD j.toNat 0)) := by
  have e : j = ((j.toNat : Nat) : Int) := by omega
  have hj : j.toNat < ns.length := by omega
  have q : atI (ns.map V.int) ((j.toNat : Nat) : Int) = some (.int (ns.getD j.toNat 0)) := atI_nat (by
    rw [List.getElem?_map, List.getElem?_eq_getElem hj, List.getD_eq_getElem?_getD, List.getElem?_eq_getElem hj]
    rfl)
  rw [← e] at q
  exact q
theorem sz {n : Nat} (h : n ≤ 1000 := by first | decide | simp) : n ≤ sizeLine := Nat.le_of_lt (small1000 h)
theorem sz5 {n : Nat} (h : n ≤ 1000000) : n < sizeLine := by
  rw [sizeLine_eq]
  omega
theorem take_succ_eq {α : Type} {xs ys : List α} {i : Nat} {x y : α} (hx : xs[i]? = some x) (hy : ys[i]? = some y) : xs.take (i + 1) = ys.take (i + 1) ↔ xs.take i = ys.take i ∧ x = y := by
  rw [List.take_add_one, List.take_add_one, hx, hy]
  constructor
  · intro h
    have h1 := List.append_inj' h rfl
    refine ⟨h1.1, ?_⟩
    have h2 := h1.2
    simpa using h2
  · rintro ⟨h1, rfl⟩
    rw [h1]
-- size2
theorem ifN {b : Bool} {A B : Prop} (h : if b = true then B else A) : if (!b) = true then A else B := by
  cases b
  · exact h
  · exact h
theorem ifNe {x y : Int} {A B : Prop} (a : x ≠ y → A) (b : x = y → B) : if (!decide (V.int x = V.int y)) = true then A else B := ifN (ifEq b a)
theorem ixAny {K : PySem.W.Frag} {H : Hp} {a : Addr} {xs : List V} {i : Int} {v : V} {Q : VK} (h : SqL K H a xs ∨ SqT K H a xs) (e : atI xs i = some v) (q : Q v H) : rIx K (.ref a) (.int i) H Q := by
  rcases h with h | h
  · exact .inl ⟨a, xs, i, v, rfl, rfl, h, e, q⟩
  · exact .inr (.inl ⟨a, xs, i, v, rfl, rfl, h, e, q⟩)
theorem sameT {K : PySem.W.Frag} {H H' : Hp} {a : Addr} {xs : List V} (s : Same H H') (h : SqT K H a xs) : SqT K H' a xs := by
  rcases h with (g | ⟨o, g⟩) | g
  · exact .inl (.inl (s _ _ g))
  · exact .inl (.inr ⟨o, s _ _ g⟩)
  · exact .inr g
theorem sqAny {K : PySem.W.Frag} {H H' : Hp} {a : Addr} {xs : List V} (s : Same H H') (h : SqL K H a xs ∨ SqT K H a xs) : SqL K H' a xs ∨ SqT K H' a xs := h.imp (fun z => s.seq z) (fun z => sameT s z)
theorem same_put {H H1 : Hp} {D : Addr} {o : HO} (s : Same H H1) (h : H D = none) : Same H (upd H1 D o) := fun b x e => by
  rw [upd_ne (ne_of_none e h)]
  exact s b x e

/-! ### rules that say the written part by a letter -/
theorem ixL {X : Cx} (K : PySem.W.Frag) (h : X.K = K) : IxR X (rIxL K) := by
  subst h
  exact ix_list
theorem ixT {X : Cx} (K : PySem.W.Frag) (h : X.K = K) : IxR X (rIxT K) := by
  subst h
  exact ix_tup
theorem ixA {X : Cx} (K : PySem.W.Frag) (h : X.K = K) : IxR X (rIx K) := by
  subst h
  exact ix_seq
def rLen (K : PySem.W.Frag) : List V → Hp → VK → Prop := fun xs H Q => ∃ p ys, xs = [.ref p] ∧ (SqL K H p ys ∨ SqT K H p ys) ∧ Q (.int ys.length) H
theorem lenQ {X : Cx} (K : PySem.W.Frag) (h : X.K = K) : CallR X (.builtin "len") (rLen K) := by
  subst h
  exact call_len_seq
def isB : PyData → Bool
  | .bool _ => true
  | _ => false
def isI : PyData → Bool
  | .int _ => true
  | _ => false
def isS : PyData → Bool
  | .str _ => true
  | _ => false
def isL : PyData → Bool
  | .list _ => true
  | _ => false
def isT : PyData → Bool
  | .tuple _ => true
  | _ => false
theorem kit_B {K : PySem.W.Frag} : ∀ (d : PyData), PySem.W.kitOne K (.type (tyN d)) (.type "bool") = some (isB d)
  | .none => kit_ty (show kitB "NoneType" "bool" = some false by decide +kernel)
  | .bool _ => kit_ty (show kitB "bool" "bool" = some true by decide +kernel)
  | .int _ => kit_ty (show kitB "int" "bool" = some false by decide +kernel)
  | .str _ => kit_ty (show kitB "str" "bool" = some false by decide +kernel)
  | .list _ => kit_ty (show kitB "list" "bool" = some false by decide +kernel)
  | .tuple _ => kit_ty (show kitB "tuple" "bool" = some false by decide +kernel)
  | .dict _ => kit_ty (show kitB "dict" "bool" = some false by decide +kernel)
theorem kit_I {K : PySem.W.Frag} : ∀ (d : PyData), PySem.W.kitOne K (.type (tyN d)) (.type "int") = some (isI d || isB d)
  | .none => kit_ty (show kitB "NoneType" "int" = some false by decide +kernel)
  | .bool _ => kit_ty (show kitB "bool" "int" = some true by decide +kernel)
  | .int _ => kit_ty (show kitB "int" "int" = some true by decide +kernel)
  | .str _ => kit_ty (show kitB "str" "int" = some false by decide +kernel)
  | .list _ => kit_ty (show kitB "list" "int" = some false by decide +kernel)
  | .tuple _ => kit_ty (show kitB "tuple" "int" = some false by decide +kernel)
  | .dict _ => kit_ty (show kitB "dict" "int" = some false by decide +kernel)
theorem kit_S {K : PySem.W.Frag} : ∀ (d : PyData), PySem.W.kitOne K (.type (tyN d)) (.type "str") = some (isS d)
  | .none => kit_ty (show kitB "NoneType" "str" = some false by decide +kernel)
  | .bool _ => kit_ty (show kitB "bool" "str" = some false by decide +kernel)
  | .int _ => kit_ty (show kitB "int" "str" = some false by decide +kernel)
  | .str _ => kit_ty (show kitB "str" "str" = some true by decide +kernel)
  | .list _ => kit_ty (show kitB "list" "str" = some false by decide +kernel)
  | .tuple _ => kit_ty (show kitB "tuple" "str" = some false by decide +kernel)
  | .dict _ => kit_ty (show kitB "dict" "str" = some false by decide +kernel)
theorem kit_L {K : PySem.W.Frag} : ∀ (d : PyData), PySem.W.kitOne K (.type (tyN d)) (.type "list") = some (isL d)
  | .none => kit_ty (show kitB "NoneType" "list" = some false by decide +kernel)
  | .bool _ => kit_ty (show kitB "bool" "list" = some false by decide +kernel)
  | .int _ => kit_ty (show kitB "int" "list" = some false by decide +kernel)
  | .str _ => kit_ty (show kitB "str" "list" = some false by decide +kernel)
  | .list _ => kit_ty (show kitB "list" "list" = some true by decide +kernel)
  | .tuple _ => kit_ty (show kitB "tuple" "list" = some false by decide +kernel)
  | .dict _ => kit_ty (show kitB "dict" "list" = some false by decide +kernel)
theorem kit_T {K : PySem.W.Frag} : ∀ (d : PyData), PySem.W.kitOne K (.type (tyN d)) (.type "tuple") = some (isT d)
  | .none => kit_ty (show kitB "NoneType" "tuple" = some false by decide +kernel)
  | .bool _ => kit_ty (show kitB "bool" "tuple" = some false by decide +kernel)
  | .int _ => kit_ty (show kitB "int" "tuple" = some false by decide +kernel)
  | .str _ => kit_ty (show kitB "str" "tuple" = some false by decide +kernel)
  | .list _ => kit_ty (show kitB "list" "tuple" = some false by decide +kernel)
  | .tuple _ => kit_ty (show kitB "tuple" "tuple" = some true by decide +kernel)
  | .dict _ => kit_ty (show kitB "dict" "tuple" = some false by decide +kernel)
theorem kit_LT {K : PySem.W.Frag} (d : PyData) : PySem.W.kitAny K (.type (tyN d)) [.type "list", .type "tuple"] = some (isL d || isT d) := by
  refine kitAny_cons (kit_L d) (fun h => ?_) (fun h => by rw [h]; rfl)
  rw [h]
  refine kitAny_cons (kit_T d) (fun h => by rw [h]; rfl) (fun h => by rw [h]; rfl)
/-- isinstance of a datum -/
def rIsD (T : String) (g : PyData → Bool) : List V → Hp → VK → Prop := fun xs H Q => ∃ x d, xs = [x, .ty T] ∧ Dh H d x ∧ Q (.bl (g d)) H
theorem isOf {X : Cx} {T : String} {g : PyData → Bool} (h : ∀ d, PySem.W.kitOne X.K (.type (tyN d)) (.type T) = some (g d)) : CallR X (.builtin "isinstance") (rIsD T g) := by
  intro pins s σ H xs us Q I r z
  obtain ⟨x, d, rfl, hx, q⟩ := z
  exact call_isi pins s σ H _ us Q I r ⟨_, _, _, _, _, rfl, .ty T, hx.ty, h d, q⟩
theorem is_bool {X : Cx} : CallR X (.builtin "isinstance") (rIsD "bool" isB) := isOf kit_B
theorem is_int {X : Cx} : CallR X (.builtin "isinstance") (rIsD "int" fun d => isI d || isB d) := isOf kit_I
theorem is_str {X : Cx} : CallR X (.builtin "isinstance") (rIsD "str" isS) := isOf kit_S
theorem is_list {X : Cx} : CallR X (.builtin "isinstance") (rIsD "list" isL) := isOf kit_L
theorem is_tuple {X : Cx} : CallR X (.builtin "isinstance") (rIsD "tuple" isT) := isOf kit_T
/-- isinstance(x, (list, tuple)) of a datum -/
def rIsLT : List V → Hp → VK → Prop := fun xs H Q => ∃ x d p, xs = [x, .ref p] ∧ H p = some (.tup [.ty "list", .ty "tuple"]) ∧ Dh H d x ∧ Q (.bl (isL d || isT d)) H
theorem is_lt {X : Cx} : CallR X (.builtin "isinstance") rIsLT := by
  intro pins s σ H xs us Q I r z
  obtain ⟨x, d, p, rfl, hp, hx, q⟩ := z
  exact call_isiT pins s σ H _ us Q I r ⟨_, _, _, _, _, _, rfl, hp, .cons (.ty "list") (.cons (.ty "tuple") .nil), hx.ty, kit_LT d, q⟩
theorem ifBT {b : Bool} {A B : Prop} (h : b = true) (a : A) : if b = true then A else B := by
  rw [if_pos h]
  exact a
theorem ifBF {b : Bool} {A B : Prop} (h : b = false) (q : B) : if b = true then A else B := by
  rw [h, if_neg Bool.false_ne_true]
  exact q
theorem inQ {X : Cx} (K : PySem.W.Frag) (h : X.K = K) : OpR X (compareOp .In) (rIn K false) := by
  subst h
  exact op_in_seq
theorem notInQ {X : Cx} (K : PySem.W.Frag) (h : X.K = K) : OpR X (compareOp .NotIn) (rIn K true) := by
  subst h
  exact op_notIn_seq
theorem eqQ {X : Cx} (K : PySem.W.Frag) (h : X.K = K) (hu : X.A.units + 64 < cLine) : OpR X (compareOp .Eq) (rEqD K) := by
  subst h
  exact op_eqD hu
theorem neQ {X : Cx} (K : PySem.W.Frag) (h : X.K = K) (hu : X.A.units + 64 < cLine) : OpR X (compareOp .NotEq) (rNeD K) := by
  subst h
  exact op_neD hu
def rLst (K : PySem.W.Frag) : List V → Hp → VK → Prop := fun xs H Q => ∃ p ys, xs = [.ref p] ∧ (SqL K H p ys ∨ SqT K H p ys) ∧ ∀ l, H l = none → Q (.ref l) (upd H l (.lst ys))
theorem listQ {X : Cx} (K : PySem.W.Frag) (h : X.K = K) : CallR X (.type "list") (rLst K) := by
  subst h
  exact call_list_of

/-! ### an own error (over ValueError, by any own classes) whose __init__ begins with super().__init__(text) -/
section
variable {prog : Program} {w : World} {A : Around} {E : Value → Shared → Prop} {h : Heap} {g : Array GenState} {d : Drawn} {t : Nat} {os : OsState}
theorem mw_call {u a C N t1 : Addr} {dv : Option Addr} {ws : List Value} {Q : Value → Shared → Prop} {nm q : Str} {bs bm : List Value} {hdct : Bool} {sn : List Str} {sub : List Value} {ab : Bool} {col : Option Bool} {dd : Option Addr} {k0 k1 k2 k3 k5 : Option Value}
    (hC : h.get? C = some (excClassObj nm q C N bs bm hdct sn sub ab col dd k0 k1 k2 k3 k5 "ValueError.__new__")) (he : h.get? a = some (PySem.W.excObj C t1 dv .none)) (hu : h.get? u = some (PySem.W.kxs_mw "ValueError.__init__" a)) (hl : ws.length ≤ sizeLine)
    (hq : ∀ h' t2, (∀ b o, b ≠ a → h.get? b = some o → h'.get? b = some o) → h'.get? a = some (PySem.W.excObj C t2 dv .none) → Q .none ⟨h', g, d, t, os⟩) : wpAny (model prog w) A (call (.ref u) ws) Q E ⟨h, g, d, t, os⟩ := by
  have FB := F.excBase_ValueError
  refine (wpAny_call (codeAny_of_tree ?_)); show wpAny _ A.in1 (callAny (.ref u) ⟨ws, []⟩) _ _ _; simp only [callAny]
  refine (wpAny_bind (wpAny_load hu ?_)); simp only [PySem.W.kxs_mw]; refine (PySem.W.KFB.if_so (by decide) (wpAny_bind (PySem.W.check_bound_init FB.toExcCallFacts hC he rfl (wpAny_bind (wpAny_pure (wpAny_pure ⟨plainId_quiet FB.init.plain _, codeAny_builtin FB.initEntry ?_⟩))))))
  exact PySem.W.exc_init_tree (cls := .ref C) (t0 := t1) (dv := dv) (c2 := .none) (c3 := .none) (b4 := .bool false) he hl fun h' k e _ => hq h' _ k e
end
/-- what the written part and the text say of the def F at f, an __init__ of the class at D -/
structure SupAt (P : Program) (K : PySem.W.Frag) (mg : Str → Option Value) (F : NF) (f D cc : Addr) (me : Str) (dV kV doc pm ctv : Value) (an : Option Addr) : Prop where
  fn : ∃ oc od osl, K.lookup f = some ⟨oc, od, .func (PySem.W.fnX F.name F.qual F.params F.body F.scope F.cl dV kV doc pm an (.ref F.c) ctv), osl⟩
  cl : F.cl = [(("__class__" : Str), cc)]
  code : PySem.W.codeIn K (.ref F.c) F.qual = true
  file : ∃ ccl cdd vs ccs file tf, K.lookup F.c = some ⟨ccl, cdd, .fields vs, ccs⟩ ∧ vs[2]? = some (.str file tf) ∧ ((P.main.file : Str) == file) = true
  top : (P.main.scope.names.lookup ("super" : Str)).isSome = false
  cell : ∃ cl cld csl, K.lookup cc = some ⟨cl, cld, .cell (some (.ref D)), csl⟩
  sup : mg "super" = none
  par : ∃ ar : Arg, (F.params.posonlyargs ++ F.params.args).head? = some ar ∧ ar.arg = me
  sk : F.scope.names.lookup ("super" : Str) = some .globalImplicit
  exc : OexC K D
  mro : PySem.W.mroIn K D (.ref D) = some true
  ini : PySem.W.ks_superIn K D D "__init__" = some (some (.builtin "ValueError.__init__"))
  ve : PySem.W.subIn K (.ref D) (.type "ValueError") = some true
  any : PySem.W.nsIn K cStatics "thirdparty.any" = some none
section
variable {CX : CXT} {P : Program} {w : World} {K : PySem.W.Frag} {mg : Str → Option Value} {base : Heap} {N ps : List Str} {F : NF} {f D cc : Addr} {k : Nat} {sp : Sp} {me : Str} {dV kV doc pm ctv : Value} {an : Option Addr} {msg : Expr} {rest : List Stmt} {p0 p1 p2 p3 p4 : Pos}
theorem fn_sup (S : NScope N ps ["__class__"] F.scope) (U : SupAt P K mg F f D cc me dV kV doc pm ctv an) (hps : ps[0]? = some me) (hF : F.body = .Expr (.Call (.Attribute (.Call (.Name "super" p0) [] [] p1) "__init__" p2) [msg] [] p3) p4 :: rest)
    (len : ∀ vs H Q E, sp vs H Q E → vs.length = ps.length)
    (hbody : ∀ (A : Around) (outer : List Env) (s : Shared) (H : Hp) (vs : List V) (Q : VK) (E : XK), Room k (A.deeper (envF F f s.heap.objs.size)) → sp vs H Q E →
      ∃ ta t, PA (ncx CX P w K mg base N F f A outer s H E) [msg] ta ∧ PSs (ncx CX P w K mg base N F f A outer s H E) rest t ∧
        ∃ a, vs[0]? = some (.ref a) ∧ H a = some (exo a D none) ∧ ta (startF N vs [none]) H fun xs H1 => xs.length ≤ 1000 ∧ H1 a = some (exo a D none) ∧ t { nx := fun _ H' => Q .non H', rt := Q } (startF N vs [none]) H1)
    {pl : Env → Sem Bool} (he : ∀ env : Env, eval (.Call (.Attribute (.Call (.Name "super" p0) [] [] p1) "__init__" p2) [msg] [] p3) env = (do
      let ov ← attributeBase (.Call (.Name "super" p0) [] [] p1) "__init__" env (eval (.Call (.Name "super" p0) [] [] p1) env)
      standAt p2.atName
      let (f, first) ← holding [ov] (getMethod ov "__init__" (pl env))
      callWith p3 f first (backTo p3 (starEach [msg] env)) []) := by intro _; rfl)
    (hm : ∀ env : Env, starEach [msg] env = [(false, eval msg env)] := by intro _; rfl) (hs : ∀ env : Env, swapsWith (.Call (.Attribute (.Call (.Name "super" p0) [] [] p1) "__init__" p2) [msg] [] p3) none p4.line env = pure false := by intro _; rfl) :
    FnOk P w K mg base CX (k + 1) f (PySem.W.fnX F.name F.qual F.params F.body F.scope F.cl dV kV doc pm an (.ref F.c) ctv) ps sp := by
  refine ⟨len, fun A outer s H args us vs Q E hr e0 hb r hsp => ?_⟩
  have hl := len _ _ _ _ hsp
  have KX : K.In s.heap := e0.mod.kin.keeps fun b o e => (e0.bs b o e).1
  have lim : s.heap.NoLimit := e0.mod.nolimit.keeps fun b o e => (e0.bs b o e).1
  obtain ⟨oc, od, osl, lk⟩ := U.fn
  obtain ⟨cl, cld, csl, hcc⟩ := U.cell
  have CA : CellsAt F.cl ["__class__"] [none] s.heap H := by
    rw [U.cl]
    have one : ∀ {y : Str} {c : Addr}, ([("__class__", cc)] : List (Str × Addr)).lookup y = some c → y = "__class__" ∧ c = cc := fun {y c} e => by
      have m := PySem.mem_of_lookup e
      rcases List.mem_singleton.mp m with z
      cases z
      exact ⟨rfl, rfl⟩
    refine ⟨rfl, fun y c e => ?_, fun x y c e1 e2 => ?_, fun i y e => ?_⟩
    · obtain ⟨rfl, rfl⟩ := one e
      exact ⟨(e0.bs _ _ (e0.mod.kin _ _ hcc)).2, _, _, KX _ _ hcc, rfl⟩
    · rw [(one e1).1, (one e2).1]
    · have hy : y = "__class__" := by
        have m := List.mem_of_getElem? e
        exact List.mem_singleton.mp m
      rw [hy]
      refine ⟨cc, by simp [List.lookup], fun v hv => ?_⟩
      cases i with
      | zero => simp at hv
      | succ i => simp at hv
  refine ks_codeAny_call_defAt (binds := ps.zip us) hr.depth (KX _ _ lk) rfl lim (PySem.W.codeRec_of KX U.code) rfl hb S.nocell (fun ⟨n, _⟩ hy => S.par n (List.of_mem_zip hy).1) (fun h₁ hns kp => ?_) S.co S.gen S.kind
  obtain ⟨ta, t, hta, ht, a, ha0, ha, q⟩ := hbody A outer s H vs Q E (hr.deeper _) hsp
  have I : Inv (ncx CX P w K mg base N F f A outer s H E) [] (startF N vs [none]) H { s with heap := h₁, toks := s.toks + (ps.zip us).length } := inv_startN S hr.hd e0 hl r CA hns kp
  show PySem.wpAt _ (A.deeper (envF F f s.heap.objs.size)) (.func F.body (envF F f s.heap.objs.size)) (execs F.body (envF F f s.heap.objs.size)) _ _ _
  rw [hF]
  refine ks_wpAt_execs_cons (ks_wpAt_mono (Q := fun fl s' => fl = .next ∧ ∃ H1, Inv (ncx CX P w K mg base N F f A outer s H E) [] (startF N vs [none]) H1 s' ∧ t { nx := fun _ H' => Q .non H', rt := Q } (startF N vs [none]) H1) ?one ?two fun _ _ z => z)
  case two =>
    rintro fl s' ⟨rfl, H1, J, q1⟩
    refine wpAt_of_wpAny (wpAny_mono (ht.run [] s' (startF N vs [none]) H1 _ J q1) (fun fl s2 hs => ?_) fun e s2 hs => hs)
    have fin : ∀ {σ' : L2.St} {H' : Hp} {v : V} {u : Value}, Inv (ncx CX P w K mg base N F f A outer s H E) [] σ' H' s2 → RelV v u → Q v H' → CE outer P w H s Q u s2 := fun {σ' H' v u} J2 rv q2 => ⟨v, H', J2.os, J2.bare, J2.base, J2.hok, rv, q2⟩
    cases fl with
    | ret u =>
      obtain ⟨v, σ', H', J2, rv, q2⟩ := hs
      exact fin J2 rv q2
    | next =>
      obtain ⟨σ', H', J2, q2⟩ := hs
      exact fin (v := V.non) (u := Value.none) J2 rfl q2
    | brk =>
      obtain ⟨_, _, _, q2⟩ := hs
      exact q2.elim
    | cont =>
      obtain ⟨_, _, _, q2⟩ := hs
      exact q2.elim
  case one =>
    have IX := I
    obtain ⟨oD, cdD, hD0, hD1, hD2⟩ : ∃ oD cdD, PySem.W.clsIn K D = some cdD ∧ K.lookup D = some oD ∧ oD.data = .cls cdD := by
      obtain ⟨nm, qq, NN, bs, bm, sn, sub, ab, col, dd, k0, k1, k2, k3, k5, hC, _⟩ := U.exc.cls
      exact ⟨_, _, by unfold PySem.W.clsIn; rw [hC] <;> rfl, hC, rfl⟩
    obtain ⟨ccl, cdd, vsc, ccs, file, tf, hfc, hv2, hfile⟩ := U.file
    obtain ⟨ar, har, harm⟩ := U.par
    obtain ⟨t1, ho⟩ := exo_at I.hok ha
    have K1 := I.kIn
    have hN0 : N[0]? = some me := by
      have z : (N.take (ps.length + [("__class__" : Str)].length))[0]? = (ps ++ [("__class__" : Str)])[0]? := by rw [S.pre]
      rw [List.getElem?_take_of_lt (by simp)] at z
      rw [z, List.getElem?_append_left (List.getElem?_eq_some_iff.mp hps).1, hps]
    have hme : F.scope.names.lookup me = some .local := S.par _ (List.mem_of_getElem? hps)
    have hs0 : (startF N vs [none])[0]? = some (some (.ref a)) := by
      have hlt : 0 < vs.length := (List.getElem?_eq_some_iff.mp ha0).1
      unfold startF
      rw [List.getElem?_append_left (by rw [List.length_map]; exact hlt), List.getElem?_map, ha0]
      rfl
    refine ks_wpAt_Expr_any (ks_wpAt_MethodCall ?_ (he _)) (hi := I.quiet) (hs := hs _)
    refine ks_wpAt_super_base (env := envF F f s.heap.objs.size) U.sk (S.frk _ (List.mem_singleton.mpr rfl)) (by decide) rfl (K1 _ _ lk) rfl har rfl (K1 _ _ hfc) rfl hv2 hfile U.top ?_
    obtain ⟨mb, hb1, hb2⟩ := I.mod.blt
    refine PySem.W.ks_loadName_global S.kind U.sk (Calls.loadGlobal_builtin (I.mod.glob.keeps I.bk) U.sup (hb1.keeps I.bk) ((hb2 "super" (by decide)).trans (show bootBuiltins "super" = some (.type "super") from by first | rfl | kernel_rfl)) ⟨rfl, ?_⟩)
    refine wpAny_loadName_free (c := cc) (v := .ref D) S.kind (S.frk _ (List.mem_singleton.mpr rfl)) (by show F.cl.lookup _ = _; rw [U.cl]; simp [List.lookup]) ⟨_, K1 _ _ hcc, rfl⟩ ?_
    obtain ⟨m, hns1, hlook⟩ := I.loc
    obtain ⟨u, hu, hL⟩ := hlook 0 me (.ref a) hN0 hs0 (.inl hme)
    obtain rfl : u = Value.ref a := hu
    have hmu : m me = some (.ref a) := by
      rcases hL with ⟨_, z⟩ | ⟨z, _⟩
      · exact z
      · have z2 : F.scope.names.lookup me = some .cell ∨ F.scope.names.lookup me = some .free := z
        rw [hme] at z2
        rcases z2 with z2 | z2 <;> cases z2
    rw [harm]
    refine wpAny_loadName_local S.kind hme hns1 hmu ?_
    refine ks_wpAny_isType_cls (K1 _ _ hD1) hD2 ⟨rfl, ?_⟩
    refine ks_wpAny_call_super (K1 _ _ hD1) hD2 ho rfl (fun c z => by cases z) (PySem.W.looks_mroIn K1 U.mro) (fun h2 e2 kk2 => ?_)
    have I2 := I.kept (t' := s.toks + (ps.zip us).length) kk2
    have K2 := I2.kIn
    have ia : PySem.W.InstAt h2 a (PySem.W.excObj D t1 none .none) D none := ⟨kk2 _ _ ho, rfl, rfl, trivial⟩
    have aD : a ≠ D := fun z => by
      have z2 := K1 _ _ hD1
      rw [← z, ho] at z2
      have z3 := Option.some.inj z2
      rw [← z3] at hD2
      cases hD2
    have ini := U.ini
    unfold PySem.W.ks_superIn at ini
    rw [hD0] at ini
    refine PySem.W.kxs_getMethod PySem.W.kxs_ValueError e2 (PySem.W.looks_opaque K2 U.any) (l₀ := cdD.mro) (fun A' Q' E' s' k' q' => wpAny_bind ((PySem.W.looks_clsIn K2 hD0) A' _ E' s' k' (wpAny_pure q'))) rfl K2 ini (ia.type.andThen (PySem.W.looks_subIn K2 U.ve)) aD (by decide) ?_
    have I3 := I2.kept (t' := s.toks + (ps.zip us).length + 1) (h' := h2.push (PySem.W.kxs_mw "ValueError.__init__" a)) (fun b o e => Heap.get?_push_of_some _ e)
    have I4 : Inv (ncx CX P w K mg base N F f A outer s H E) ([] ++ [(h2.objs.size, PySem.W.kxs_mw "ValueError.__init__" a)]) (startF N vs [none]) H _ := I3.pins_of (fun p hp => by
      obtain rfl := List.mem_singleton.mp hp
      exact ⟨Heap.get?_push_at rfl rfl, I2.hok.fresh (Nat.le_refl _), Nat.ne_of_gt I2.lt, I2.nofs (Nat.le_refl _), fun v z => by cases z⟩)
    show wpAny _ _ (callWith p3 (.ref h2.objs.size) [] (backTo p3 (starEach [msg] (envF F f s.heap.objs.size))) []) _ _ _
    have hsp2 := hta.run p3 _ _ _ _ _ I4 q
    have hst : starEach [msg] (ncx CX P w K mg base N F f A outer s H E).env = [(false, eval msg (envF F f s.heap.objs.size))] := hm _
    rw [hst] at hsp2
    rw [hm]
    refine PySem.W.kxs_callWith (i := "ValueError.__init__") (x := a) rfl (Calls.evalArgs_plain (thn hsp2 fun us2 s7 ⟨xs, H1, I8, r8, hl8, ea, q8⟩ => ?_))
    obtain ⟨nm, qq, NN, bs, bm, sn, sub, ab, col, dd, k0, k1, k2, k3, k5, hC, _⟩ := U.exc.cls
    obtain ⟨h7, g7, d7, t7, os7⟩ := s7
    have pn := (I8.pin (h2.objs.size, PySem.W.kxs_mw "ValueError.__init__" a) (List.mem_append_right _ (List.mem_append_right _ (List.mem_singleton.mpr rfl)))).1
    obtain ⟨t8, ho8⟩ := exo_at I8.hok ea
    refine ⟨pn, mw_call (I8.kIn _ _ hC) ho8 pn (by show us2.length ≤ sizeLine; rw [← r8.length, sizeLine_eq]; omega) fun h9 t9 k9 e9 => ⟨rfl, H1, ?_, q8⟩⟩
    have J := I8.write (t' := t7) (x := a) (e := a) (o := exo a D none) (by rw [ea]; exact True.intro) (.inl rfl) k9 ⟨_, e9⟩ (exo_ok e9)
    have eu : upd H1 a (exo a D none) = H1 := by
      funext b
      by_cases hb : b = a
      · rw [hb, upd_same, ea]
      · rw [upd_ne hb]
    rw [eu] at J
    exact J.unpinned
end

/-! ### a chain of three comparisons -/
section
variable {X : Cx} {a b c d : Expr} {ta tb tc td : TE} {r r2 r3 : R2} {op op2 op3 : CmpOp} {pos : Pos}
def tChain3 (r r2 r3 : R2) (ta tb tc td : TE) : TE := fun σ H Q => ta σ H fun x H1 => tb σ H1 fun y H2 => r x y H2 fun z H3 => ∃ k, z = .bl k ∧
  (if k = true then tc σ H3 fun u H4 => r2 y u H4 fun z2 H5 => ∃ k2, z2 = .bl k2 ∧ (if k2 = true then td σ H5 fun v H6 => r3 u v H6 Q else Q (.bl false) H5) else Q (.bl false) H3)
theorem if_ff {A B : Prop} (h : B) : if (false : Bool) = true then A else B := by
  rw [if_neg (by decide)]
  exact h
theorem if_tt {A B : Prop} (h : A) : if (true : Bool) = true then A else B := by
  rw [if_pos rfl]
  exact h
theorem pt_chain3 (h1 : OpR X (compareOp op) r) (h2 : OpR X (compareOp op2) r2) (h3 : OpR X (compareOp op3) r3) (ha : PE X a ta) (hb : PE X b tb) (hc : PE X c tc) (hd : PE X d td)
    (hm : lastMarks [op, op2, op3] [b, c, d] = false := by with_unfolding_all rfl) : PT X (.Compare a [op, op2, op3] [b, c, d] pos) (tTest (tChain3 r r2 r3 ta tb tc td)) := by
  refine ⟨fun pins s σ H Q I h => ?_⟩
  refine isTrue_chain (thn (ha.run pins s σ H _ I h) fun v s1 ⟨x, H1, I1, e1, q1⟩ => test_link (thn (hb.run pins s1 σ H1 _ I1 q1) fun u s2 ⟨y, H2, I2, e2, q2⟩ => thn (h1 pins s2 σ H2 x y v u _ I2 e1 e2 q2) fun dv s3 ⟨z, H3, I3, e3, k, ek, q3⟩ => ?_)) hm
  subst ek
  cases e3
  refine wpAny_truthy_bool ?_
  cases k with
  | false =>
    obtain ⟨k', e', q'⟩ := q3
    cases e'
    exact if_ff ⟨H3, I3, q'⟩
  | true =>
    refine if_tt (test_link (thn (hc.run pins s3 σ H3 _ I3 (if_pos rfl ▸ q3)) fun w4 s4 ⟨z4, H4, I4, e4, q4⟩ => thn (h2 pins s4 σ H4 y z4 u w4 _ I4 e2 e4 q4) fun d5 s5 ⟨z5, H5, I5, e5, k2, ek2, q5⟩ => ?_))
    subst ek2
    cases e5
    refine wpAny_truthy_bool ?_
    cases k2 with
    | false =>
      obtain ⟨k', e', q'⟩ := q5
      cases e'
      exact if_ff ⟨H5, I5, q'⟩
    | true =>
      refine if_tt (test_last (thn (hd.run pins s5 σ H5 _ I5 q5) fun w6 s6 ⟨z6, H6, I6, e6, q6⟩ => thn (h3 pins s6 σ H6 z4 z6 w4 w6 _ I6 e4 e6 q6) fun d7 s7 ⟨z7, H7, I7, e7, k3, ek3, q7⟩ => ?_))
      subst ek3
      cases e7
      exact wpAny_truthy_bool ⟨H7, I7, q7⟩
end

/-! ### defs that may raise, called -/
/-- the def under its name, which may let out what sp says -/
structure CalE (P : Program) (w : World) (K : PySem.W.Frag) (mg : Str → Option Value) (base : Heap) (k : Nat) (x : Str) (sp : Sp) : Prop where
  ex : ∃ (f : Addr) (fd : FuncData) (ps : List Str), FnOk P w K mg base (L2.CX P w) k f fd ps sp ∧ mg x = some (.ref f) ∧ PySem.W.keepIn K (.ref f) = true ∧ Binds K fd ps []
section
variable {P : Program} {w : World} {K : PySem.W.Frag} {mg : Str → Option Value} {base : Heap}
theorem fnE {x qual : Str} {st : Stmt} {f : Addr} {fd : FuncData} {N ps : List Str} {k : Nat} {sp : Sp} (F : C8.Fun K x qual st f fd) (S : FnScope N ps (C8.fnScope st)) (len : ∀ vs H Q E, sp vs H Q E → vs.length = ps.length)
    (hb : ∀ (cdv : Value) (A : Around) (outer : List Env) (s : Shared) (H : Hp) (vs : List V) (Q : VK) (E : XK), Room k (A.deeper (envOfC qual (C8.fnScope st) s.heap.objs.size f cdv)) → sp vs H Q E →
      ∃ t, PSs (cxOf (L2.CX P w) P w K mg base N qual (C8.fnScope st) f cdv A outer s H E) (C8.fnBody st) t ∧ t { nx := fun _ H' => Q .non H', rt := Q } (start N vs) H) : FnOk P w K mg base (L2.CX P w) (k + 1) f fd ps sp := by
  obtain ⟨oc, od, dV, kV, doc, pm, an, cdv, ct, osl, rfl, lk, hcd⟩ := F.ex
  exact fn_of lk hcd S len fun A outer s H vs Q E hr hs => hb cdv A outer s H vs Q E hr hs
theorem calE {x : Str} {st : Stmt} {f : Addr} {fd : FuncData} {N ps : List Str} {k : Nat} {sp : Sp} (D : Def K mg x st f fd) (b : Binds K fd ps []) (S : FnScope N ps (C8.fnScope st)) (len : ∀ vs H Q E, sp vs H Q E → vs.length = ps.length)
    (hb : ∀ (cdv : Value) (A : Around) (outer : List Env) (s : Shared) (H : Hp) (vs : List V) (Q : VK) (E : XK), Room k (A.deeper (envOfC x (C8.fnScope st) s.heap.objs.size f cdv)) → sp vs H Q E →
      ∃ t, PSs (cxOf (L2.CX P w) P w K mg base N x (C8.fnScope st) f cdv A outer s H E) (C8.fnBody st) t ∧ t { nx := fun _ H' => Q .non H', rt := Q } (start N vs) H) : CalE P w K mg base (k + 1) x sp :=
  ⟨f, fd, ps, fnE D.fn S len hb, D.mgf, D.kp, b⟩
end
section
variable {X : Cx} {x : Str} {p pos : Pos} {e : Expr} {es : List Expr} {ta : TA} {sp : Sp} {k j : Nat}
/-- its call where exceptions go to W -/
theorem pe_cE (c : CalE X.prog X.w X.K X.mg X.base k x sp) {W : WX} (tk : Takes X W) (hr : Room j X.A) (hk : k ≤ j) (hg : Gl X x) (ha : PA X (e :: es) ta) (hdb : (x == ("__debug__" : Str)) = false := by decide)
    (he : starEach (e :: es) X.env = (false, eval e X.env) :: starEach es X.env := by rfl) (hpl : (backTo pos (starEach es X.env)).any (·.1) = false := by rfl) : PE X (.Call (.Name x p) (e :: es) [] pos) (tCallS sp (WE W) ta) := by
  obtain ⟨f, fd, ps, F, m, kp, b⟩ := c.ex
  exact pe_callS (F.mono hk) hr hg m kp b (passAt tk) ha hdb he hpl
end
/-- a method that may raise -/
structure MetE (P : Program) (w : World) (K : PySem.W.Frag) (mg : Str → Option Value) (base : Heap) (k : Nat) (C : Addr) (m : Str) (sp : Sp) : Prop where
  ex : ∃ (f : Addr) (fd : FuncData) (ps : List Str), Cls K C ∧ Meth K C m f ∧ FnOk P w K mg base (L2.CX P w) k f fd ps sp ∧ Binds K fd ps []
def tMtE (C : Addr) (m : Str) (sp : Sp) (E : L2.St → XK) (ta : TE) (t : TA) : TE := fun σ H Q => ta σ H fun x H1 => ∃ a dx fs, x = .ref a ∧ H1 a = some (.ins C dx fs) ∧ fs.lookup m = none ∧ t σ H1 fun vs H2 => sp (x :: vs) H2 Q (E σ)
section
variable {P : Program} {w : World} {K : PySem.W.Frag} {mg : Str → Option Value} {base : Heap}
theorem metE {m qual : Str} {C : Addr} {st : Stmt} {f : Addr} {fd : FuncData} {N ps : List Str} {k : Nat} {sp : Sp} (c : Cls K C) (me : Meth K C m f) (F : C8.Fun K m qual st f fd) (b : Binds K fd ps []) (S : FnScope N ps (C8.fnScope st)) (len : ∀ vs H Q E, sp vs H Q E → vs.length = ps.length)
    (hb : ∀ (cdv : Value) (A : Around) (outer : List Env) (s : Shared) (H : Hp) (vs : List V) (Q : VK) (E : XK), Room k (A.deeper (envOfC qual (C8.fnScope st) s.heap.objs.size f cdv)) → sp vs H Q E →
      ∃ t, PSs (cxOf (L2.CX P w) P w K mg base N qual (C8.fnScope st) f cdv A outer s H E) (C8.fnBody st) t ∧ t { nx := fun _ H' => Q .non H', rt := Q } (start N vs) H) : MetE P w K mg base (k + 1) C m sp :=
  ⟨f, fd, ps, c, me, fnE F S len hb, b⟩
end
section
variable {X : Cx} {m : Str} {C : Addr} {pos apos : Pos} {e o : Expr} {es : List Expr} {ta : TE} {t : TA} {sp : Sp} {k j : Nat}
theorem pe_mE {pl : Sem Bool} (c : MetE X.prog X.w X.K X.mg X.base k C m sp) {W : WX} (tk : Takes X W) (hr : Room j X.A) (hk : k ≤ j) (he : PE X o ta) (ha : PA X (e :: es) t)
    (hst : starEach (e :: es) X.env = (false, eval e X.env) :: starEach es X.env := by rfl) (hpl : (backTo pos (starEach es X.env)).any (·.1) = false := by rfl)
    (ht : eval (.Call (.Attribute o m apos) (e :: es) [] pos) X.env = (do
      let ov ← eval o X.env
      standAt apos.atName
      let (f, first) ← holding [ov] (getMethod ov m pl)
      callWith pos f first (backTo pos (starEach (e :: es) X.env)) (backToKw pos (keywordEach [] X.env))) := by rfl) : PE X (.Call (.Attribute o m apos) (e :: es) [] pos) (tMtE C m sp (WE W) ta t) := by
  obtain ⟨f, fd, ps, hc, hm, F, b⟩ := c.ex
  refine ⟨fun pins s σ H Q I h => PySem.W.methodCall_KW (pl := pl) (thn (he.run pins s σ H _ I h) fun u s1 ⟨x, H1, I1, rx, a, dx, fs, ex, ea, l, q⟩ => ?_) ht⟩
  subst ex
  cases (show u = Value.ref a from rx)
  exact getmeth_ok I1 ea hc hm l (PySem.W.callWith_K (first := [.ref a]) (h₀ := X.base) I.ok.mod.kin hm.kp (thn (ha.run pos pins s1 σ H1 _ I1 q) fun us s2 ⟨vs, H2, I2, r, q2⟩ => ⟨I2.kIn, run_fnS (us := .ref a :: us) (vs := .ref a :: vs) (F.mono hk) hr b (passAt tk σ) I2 (.cons rfl r) q2⟩) hst hpl)
end

/-! ### isinstance of the exception that a suite holds, with its fields -/
def rIsX (K : PySem.W.Frag) (D a : Addr) (cls : Value) (d0 : Option Addr) : List V → Hp → VK → Prop := fun xs H Q => cls = .ref D ∧ ∃ (d : Addr) (c : V) (u : Value) (b : Bool) (fs : List (Str × V)), d0 = some d ∧ xs = [.ref a, c] ∧ ClsV c u ∧ H d = some (.xd fs) ∧ PySem.W.kitOne K (.ref D) u = some b ∧ Q (.bl b) H
def rIsXT (K : PySem.W.Frag) (D a : Addr) (cls : Value) (d0 : Option Addr) : List V → Hp → VK → Prop := fun xs H Q => cls = .ref D ∧ ∃ (d tp : Addr) (cs : List V) (us : List Value) (b : Bool) (fs : List (Str × V)), d0 = some d ∧ xs = [.ref a, .ref tp] ∧ H tp = some (.tup cs) ∧ Paired ClsV cs us ∧ H d = some (.xd fs) ∧ PySem.W.kitAny K (.ref D) us = some b ∧ Q (.bl b) H
section
variable {X : Cx} {a D : Addr} {cls : Value} {d0 : Option Addr} {oe : Obj} {pn : List (Addr × Obj)}
theorem exx_at {d : Addr} {pins : List (Addr × Obj)} {σ : L2.St} {H : Hp} {s : Shared} {fs : List (Str × V)} (hz : Zc (.ref D) (some d) oe) (hf : ∃ vs, oe.data = .fields vs) (I : Inv (X.suite a ((a, oe) :: pn)) pins σ H s) (hd : H d = some (.xd fs)) : ∃ od, PySem.W.InstAt s.heap a oe D (some od) := by
  obtain ⟨hget, _⟩ := I.pin (a, oe) (List.mem_append.mpr (.inl List.mem_cons_self))
  obtain ⟨mA, hns, _⟩ := (show ObjOk X.prog X.w H s.heap d (.xd fs) from I.hok d _ hd)
  obtain ⟨od, _, _, hod, _⟩ := hns
  obtain ⟨vs, hv⟩ := hf
  refine ⟨od, hget, hz.1, ?_, ?_⟩
  · obtain ⟨oc, od2, oda, osl⟩ := oe
    dsimp only at hv
    subst hv
    rfl
  · rw [hz.2]
    exact hod
theorem call_isX (K : PySem.W.Frag) (hK : X.K = K) (C : ExcC K D) (hz : Zc cls d0 oe) (hf : ∃ vs, oe.data = .fields vs) : CallR (X.suite a ((a, oe) :: pn)) (.builtin "isinstance") (rIsX K D a cls d0) := by
  intro pins s σ H xs us Q I r h
  obtain ⟨rfl, d, c, u, b, fs, rfl, rfl, hc, hd, e, q⟩ := h
  subst hK
  obtain ⟨u1, u2, rfl, r1, r2⟩ := vals2 r
  cases (show u1 = Value.ref a from r1)
  obtain rfl := hc.eq r2
  obtain ⟨od, J⟩ := exx_at hz hf I hd
  have hcl : (PySem.W.clsIn X.K D).isSome = true := by
    obtain ⟨cd, hcd, _⟩ := PySem.W.any_some C.hd
    rw [hcd]
    rfl
  exact PySem.W.kia_one (PySem.W.kitx_exc hcl C.hg C.hk C.hs C.ha C.hn C.ht C.hm) I.kIn J e (fun z => nomatch z) fun tk => ⟨.bl b, H, I.tok tk, rfl, q⟩
theorem call_isXT (K : PySem.W.Frag) (hK : X.K = K) (C : ExcC K D) (hz : Zc cls d0 oe) (hf : ∃ vs, oe.data = .fields vs) : CallR (X.suite a ((a, oe) :: pn)) (.builtin "isinstance") (rIsXT K D a cls d0) := by
  intro pins s σ H xs us Q I r h
  obtain ⟨rfl, d, tp, cs, ws, b, fs, rfl, rfl, hT, hk, hd, e, q⟩ := h
  subst hK
  obtain ⟨u1, u2, rfl, r1, r2⟩ := vals2 r
  cases (show u1 = Value.ref a from r1)
  cases (show u2 = Value.ref tp from r2)
  obtain ⟨od, J⟩ := exx_at hz hf I hd
  obtain ⟨_, its, rv, o, g1, g2, n, g3⟩ := (show ObjOk X.prog X.w H s.heap tp (.tup cs) from I.hok tp _ hT)
  obtain rfl := ClsV.all hk rv
  obtain ⟨oc, od2, dt, sl⟩ := o
  simp only at g2 g3
  subst g2 g3
  have hcl : (PySem.W.clsIn X.K D).isSome = true := by
    obtain ⟨cd, hcd, _⟩ := PySem.W.any_some C.hd
    rw [hcd]
    rfl
  exact PySem.W.kia_tup (PySem.W.kitx_exc hcl C.hg C.hk C.hs C.ha C.hn C.ht C.hm) I.kIn J g1 e (fun z => nomatch z) fun tk => ⟨.bl b, H, I.tok tk, rfl, q⟩
end

/-- what follows a wrapped statement, said once -/
theorem jnS {a b : TS} {D : Ends} {σ : L2.St} {H : Hp} (M : L2.St → Hp → Prop) (h2 : ∀ σ H, M σ H → b D σ H) (h1 : ∀ N : L2.St → Hp → Prop, (∀ σ H, M σ H → N σ H) → a { D with nx := N } σ H) : tSeq (tMk a) b D σ H := by
  rw [tMk_eq]
  exact h1 (b D) h2

mutual
/-- no lists inside -/
def noL : PyData → Bool
  | .list _ => false
  | .dict _ => false
  | .tuple ds => noLs ds
  | _ => true
def noLs : List PyData → Bool
  | [] => true
  | d :: ds => noL d && noLs ds
end
mutual
theorem Dh.tups {H H' : Hp} (s : ∀ a us, H a = some (.tup us) → H' a = some (.tup us)) : ∀ (d : PyData) (x : V), noL d = true → Dh H d x → Dh H' d x
  | .none, x, _, h => h
  | .bool b, x, _, h => h
  | .int i, x, _, h => h
  | .str i, x, _, h => h
  | .list ds, x, n, h => by cases n
  | .tuple ds, x, n, h => by
    obtain ⟨a, xs, e, g, r⟩ := h
    exact ⟨a, xs, e, s _ _ g, DhAll.tups s ds xs n r⟩
  | .dict _, x, n, h => by cases n
theorem DhAll.tups {H H' : Hp} (s : ∀ a us, H a = some (.tup us) → H' a = some (.tup us)) : ∀ (ds : List PyData) (xs : List V), noLs ds = true → DhAll H ds xs → DhAll H' ds xs
  | [], xs, _, h => h
  | d :: ds, xs, n, h => by
    obtain ⟨v, vs, e, g, r⟩ := h
    have n2 : noL d = true ∧ noLs ds = true := Bool.and_eq_true_iff.mp n
    exact ⟨v, vs, e, Dh.tups s d v n2.1 g, DhAll.tups s ds vs n2.2 r⟩
end
theorem DhAll.snoc {H : Hp} : ∀ {ds : List PyData} {xs : List V} {d : PyData} {x : V}, DhAll H ds xs → Dh H d x → DhAll H (ds ++ [d]) (xs ++ [x])
  | [], xs, d, x, h, hx => by
    cases (show xs = [] from h)
    exact ⟨x, [], rfl, hx, rfl⟩
  | d' :: ds, xs, d, x, h, hx => by
    obtain ⟨v, vs, rfl, h1, h2⟩ := h
    exact ⟨v, vs ++ [x], rfl, h1, DhAll.snoc h2 hx⟩

/-! ### for a, b in zip(text, list) -/
def ItzS (K : PySem.W.Frag) (x : Str) (b : Addr) : It :=
  ⟨fun i H => ∃ (ys : List V) (c : Nat) (y : V), SqL K H b ys ∧ x.cps[i]? = some c ∧ ys[i]? = some y,
    fun i H v H' => ∃ T c y, v = .ref T ∧ H T = none ∧ H' = upd H T (.tup [.str ⟨#[c]⟩, y]) ∧ x.cps[i]? = some c ∧ ∀ ys, SqL K H b ys → ys[i]? = some y,
    fun i H => ∃ ys : List V, SqL K H b ys ∧ i ≤ ys.length ∧ i ≤ x.cps.size ∧ (x.cps.size = i ∨ ys.length = i)⟩
structure SepS (z TI TO i1 i2 b : Addr) : Prop where
  s : ZipSep2 z TI TO i1 i2 [i1] [i2, b]
  b1 : b ≠ i2
theorem sepS_at (N b : Nat) (h : b < N) : SepS (N + 4) (N + 2) (N + 3) N (N + 1) b := by
  have nn : ∀ {x y : Nat}, x ≠ y → ¬ ((x : Addr) = (y : Addr)) := fun h => h
  have n1 : ∀ {x y : Nat}, x ≠ y → (x : Addr) ∉ [(y : Addr)] := fun h z => h (List.mem_singleton.mp z)
  have n2 : ∀ {x y w : Nat}, x ≠ y → x ≠ w → (x : Addr) ∉ [(y : Addr), (w : Addr)] := fun h k z => by
    rcases List.mem_cons.mp z with e | e
    · exact h e
    · exact k (List.mem_singleton.mp e)
  refine ⟨⟨nn (by omega), nn (by omega), nn (by omega), nn (by omega), List.mem_cons_self, n1 (by omega), n1 (by omega), nn (by omega), List.mem_cons_self, n2 (by omega) (by omega), n2 (by omega) (by omega), n2 (by omega) (by omega), n1 (by omega)⟩, nn (by omega)⟩
theorem turn_zipS {P : Program} {w : World} {K : PySem.W.Frag} {elts : List Expr} {kk : Nat} {tpos : Pos} {x : Str} {t : Tok} {b z TI TO i1 i2 : Addr} (D : SepS z TI TO i1 i2 b) :
    Turn P w K (.Tuple elts kk tpos) (ItzS K x b) [z, TI, TO, i1, i2] z (fun i h => IsZip h z TI TO .none ∧ IsTupOf2 h TI (.ref i1) (.ref i2) ∧ (∃ x y, IsTupOf2 h TO x y) ∧ h.IsStrIter i1 (strIterType x) x t i ∧ h.IsListIter i2 b i) where
  mem := by simp
  obj := fun i h st c hc => by
    obtain ⟨hz, hTI, ⟨x, y, hTO⟩, ⟨o1, e1, _, d1⟩, ⟨o2, e2, _, d2⟩⟩ := st
    simp only [List.mem_cons, List.not_mem_nil, or_false] at hc
    rcases hc with q | q | q | q | q
    · rw [q]; exact ⟨_, hz, fun v q => nomatch q⟩
    · rw [q]; exact ⟨_, hTI, fun v q => nomatch q⟩
    · rw [q]; exact ⟨_, hTO, fun v q => nomatch q⟩
    · rw [q]; exact ⟨o1, e1, fun v q => by rw [d1] at q; cases q⟩
    · rw [q]; exact ⟨o2, e2, fun v q => by rw [d2] at q; cases q⟩
  keep := fun i h h' st k => by
    obtain ⟨hz, hTI, ⟨x, y, hTO⟩, ⟨o1, e1, r1⟩, h2⟩ := st
    exact ⟨k z (by simp) _ hz, k TI (by simp) _ hTI, ⟨x, y, k TO (by simp) _ hTO⟩, ⟨o1, k i1 (by simp) _ e1, r1⟩, h2.at fun o q => k i2 (by simp) o q⟩
  item := by
    intro X hP hw hK hc i pins s σ H E I hf st hg
    subst hP hw hK
    obtain ⟨hz, hTI, ⟨x0, y0, hTO⟩, h1, h2⟩ := st
    obtain ⟨ys, c, y, hq, hcx, hy⟩ := hg
    obtain ⟨its, rv, p, _⟩ := I.list hq
    obtain ⟨u2, hu2, ru2⟩ := rv.get hy
    have hzl : z < s.heap.objs.size := Heap.lt_size hz
    have hh := I.ok.hd hc
    have l1 : i < x.cps.size := (Array.getElem?_eq_some_iff.mp hcx).1
    have l2 : i < its.toArray.size := by rw [List.size_toArray]; exact (List.getElem?_eq_some_iff.mp hu2).1
    refine wpAny_pyNext_zipD2_item D.s (Draws.text (A := X.A.in1) hh i1 x t) (Draws.list (A := X.A.in1) hh i2 b D.b1 its.toArray) hz hTI hTO h1 ⟨h2, p.isList⟩ l1 l2 fun v1 v2 h' tk p1 p2 z' TO' st1 st2 hT hsz hk => ?_
    obtain ⟨c', tc, ec, rfl⟩ := p1
    obtain rfl : c' = c := Option.some.inj (ec.symm.trans hcx)
    have e2 : its[i]? = some v2 := by simpa using p2
    obtain rfl : v2 = u2 := Option.some.inj (e2.symm.trans hu2)
    refine ⟨_, rfl, wpAny_letOwnedTupleGo_zip (s := { s with heap := h', toks := tk }) z' fun h'' z'' sb => ?_⟩
    have hT2 : h''.get? s.heap.objs.size = some { cls := .type "tuple", data := .seq #[.str ⟨#[c']⟩ tc, v2] } := (sb.2 _ (Nat.ne_of_gt hzl)).trans hT
    have nw : ObjOk X.prog X.w (upd H s.heap.objs.size (.tup [.str ⟨#[c']⟩, y])) h'' s.heap.objs.size (.tup [.str ⟨#[c']⟩, y]) := ⟨sz, [.str ⟨#[c']⟩ tc, v2], .cons ⟨_, rfl⟩ (.cons ru2 .nil), ⟨_, hT2, rfl, _, rfl⟩⟩
    have I1 : Inv X pins σ (upd H s.heap.objs.size (.tup [.str ⟨#[c']⟩, y])) { s with heap := h'', toks := tk } := I.turnedNew (t' := tk) (ch := [z, TI, TO, i1, i2]) (fun b o hb q => by
      simp only [List.mem_cons, List.not_mem_nil, or_false, not_or] at hb
      exact (sb.2 b hb.1).trans (hk b o hb.1 hb.2.2.1 hb.2.2.2.1 hb.2.2.2.2 q)) hf (Nat.le_refl _) nw
    refine ⟨.ref s.heap.objs.size, _, I1, rfl, ⟨_, c', y, rfl, I.hok.fresh (Nat.le_refl _), rfl, hcx, fun l hl => by rw [I.list_inj hl hq]; exact hy⟩, ⟨z'', ?_, ⟨_, _, (sb.2 _ D.s.TOz).trans TO'⟩, ?_, ?_⟩, fun b hb => ?_⟩
    · exact (sb.2 _ D.s.TIz).trans (hk _ _ D.s.TIz D.s.TITO D.s.TIi1 D.s.TIi2 hTI)
    · obtain ⟨o, g, r⟩ := st1
      exact ⟨o, (sb.2 _ D.s.zi1.symm).trans g, r⟩
    · exact st2.1.at fun o q => (sb.2 _ D.s.zi2.symm).trans q
    · have hlt : b < s.heap.objs.size := by
        simp only [List.mem_cons, List.not_mem_nil, or_false] at hb
        rcases hb with q | q | q | q | q
        · rw [q]; exact hzl
        · rw [q]; exact Heap.lt_size hTI
        · rw [q]; exact Heap.lt_size hTO
        · rw [q]; obtain ⟨_, e1, _⟩ := h1; exact Heap.lt_size e1
        · rw [q]; obtain ⟨_, e1, _⟩ := h2; exact Heap.lt_size e1
      rw [upd_ne (Nat.ne_of_lt hlt)]
      exact (hf b hb).1
  done := by
    intro X hP hw hK hc i pins s σ H E I hf st hg
    subst hP hw hK
    obtain ⟨hz, hTI, ⟨x0, y0, hTO⟩, h1, h2⟩ := st
    obtain ⟨ys, hq, l1, l2, hend⟩ := hg
    obtain ⟨its, rv, p, _⟩ := I.list hq
    have ll := rv.length
    have hh := I.ok.hd hc
    exact wpAny_pyNext_zipD2_end D.s (Draws.text (A := X.A.in1) hh i1 x t) (Draws.list (A := X.A.in1) hh i2 b D.b1 its.toArray) hz hTI hTO h1 ⟨h2, p.isList⟩ l2 (by rw [List.size_toArray]; omega) (hend.elim (fun e => .inl e.symm) fun e => .inr (by rw [List.size_toArray]; omega)) fun h' tk hk => ⟨rfl, I.turnedL (t' := tk) (ch := [z, TI, TO, i1, i2]) (fun b o hb q => by
      simp only [List.mem_cons, List.not_mem_nil, or_false, not_or] at hb
      exact hk b o hb.1 hb.2.2.1 hb.2.2.2.1 hb.2.2.2.2 q) hf⟩
  self := fun A i s Q E st h => wpAny_pyIter_zip st.1 h
def iZipS (K : PySem.W.Frag) (ta : TA) : TI := fun σ H R => ta σ H fun vs H1 => ∃ x b ys, vs = [.str x, .ref b] ∧ SqL K H1 b ys ∧ R (ItzS K x b) H1
theorem pi_zipS {X : Cx} {e e2 : Expr} {ta : TA} {p pos tpos : Pos} {elts : List Expr} {kk : Nat} (hg : Gl X "zip") (hm : X.mg "zip" = none) (ha : PA X [e, e2] ta)
    (hs : starEach [e, e2] X.env = (false, eval e X.env) :: starEach [e2] X.env := by rfl) (hpl : (backTo pos (starEach [e2] X.env)).any (·.1) = false := by rfl) :
    PI X (.Tuple elts kk tpos) (.Call (.Name "zip" p) [e, e2] [] pos) (iZipS X.K ta) := by
  refine ⟨fun pins s σ H R I h => Call_ (ld_blt I hg hm PyProof.Rows.boot_zip (PyProof.Rows.callWith_type1 (thn (ha.run pos pins s σ H _ I h) fun us s1 ⟨vs, H1, I1, r1, q1⟩ => ?_) hs hpl))⟩
  obtain ⟨x, b, ys, ex, hq, q⟩ := q1
  subst ex
  cases r1 with
  | cons r rr =>
    cases rr with
    | cons r' rr =>
      cases rr
      obtain ⟨t, rfl⟩ := r
      cases r'
      obtain ⟨its, rv, p1, _⟩ := I1.list hq
      have lb : b < s1.heap.objs.size := p1.lt
      refine zip_begins2 (begins_text x t) (begins_list b its.toArray) trivial p1.isList fun h' hz hTI hTO g1 g2 hsz hk => wpAny_pyIter_zip hz ?_
      have I2 : Inv X pins σ H1 { s1 with heap := h' } := I1.kept (t' := s1.toks) hk
      have S : SepS (s1.heap.objs.size + 4) (s1.heap.objs.size + 2) (s1.heap.objs.size + 3) s1.heap.objs.size (s1.heap.objs.size + 1) b := sepS_at _ _ lb
      refine ⟨s1.heap.objs.size + 4, [s1.heap.objs.size + 4, s1.heap.objs.size + 2, s1.heap.objs.size + 3, s1.heap.objs.size, s1.heap.objs.size + 1], _, _, H1, rfl, I2, turn_zipS (t := t) S, ⟨hz, hTI, ⟨_, _, hTO⟩, ⟨_, g1, rfl, rfl⟩, ⟨_, g2, rfl, rfl⟩⟩, fun c hcm => ?_, q⟩
      have hle : s1.heap.objs.size ≤ c := by
        simp only [List.mem_cons, List.not_mem_nil, or_false] at hcm
        rcases hcm with z | z | z | z | z
        · rw [z]; exact Nat.le_add_right _ _
        · rw [z]; exact Nat.le_add_right _ _
        · rw [z]; exact Nat.le_add_right _ _
        · exact Nat.le_of_eq z.symm
        · rw [z]; exact Nat.le_add_right _ _
      exact I1.fpOk hle (I1.hok.fresh hle)

/-! ### for i, x in enumerate(a tuple) -/
set_option maxHeartbeats 1000000 in
theorem meets_enum1 {v : Value} {o : Obj} {H : Heap → Prop} (B : Begins v o H) :
    Meets (Builtin.«enumerate.__new__» ⟨[.type "enumerate", v], []⟩) (fun _ R s => H s.heap ∧
      R (.ok (.ret (.ref (s.heap.push o).objs.size))) { s with heap := (s.heap.push o).push { cls := .type "enumerate", data := .fields #[.none, .bool false, .ref s.heap.objs.size, rawInt 0, .none, .none] } }) :=
  .of_wp fun prog w A R s h => by
    obtain ⟨hp, g, d, tk, os⟩ := s
    obtain ⟨h1, h⟩ := h
    have hsub := sub_enumerate
    have q1 : ∀ {A' : Around} {E : Value → Shared → Prop} {Q : Value → Shared → Prop}, Q (.ref hp.objs.size) ⟨hp.push o, g, d, tk, os⟩ → wpAny (model prog w) A' (pyIter v) Q E ⟨hp, g, d, tk, os⟩ :=
      fun q => B.iter prog w _ _ ⟨hp, g, d, tk, os⟩ _ h1 q
    wp_walk using q1
    refine wpAny_stack_any fun st => wpAny_pure ?_
    split
    · rename_i c _ _ _ _ _
      cases (c == Value.type "enumerate")
      · wp_walk using q1
        exact ⟨_, rfl, h⟩
      · wp_walk using q1
        exact ⟨_, rfl, h⟩
    · wp_walk using q1
      exact ⟨_, rfl, h⟩
theorem enum_begins1 {prog : Program} {w : World} {A : Around} {E : Value → Shared → Prop} {s : Shared} {v : Value} {o : Obj} {H : Heap → Prop} {Q : Value → Shared → Prop} (B : Begins v o H) (h1 : H s.heap)
    (h : ∀ h', IsEnum h' (s.heap.objs.size + 1) s.heap.objs.size 0 .none → h'.get? s.heap.objs.size = some o → h'.objs.size = s.heap.objs.size + 2 →
      (∀ b o, s.heap.get? b = some o → h'.get? b = some o) → Q (.ref (s.heap.objs.size + 1)) { s with heap := h' }) :
    wpAny (model prog w) A (call (.type "enumerate") [v]) Q E s := by
  refine callType_new F.called_enumerate (by decide) (F.typeCall_enumerate_1 _) (F.newCall_enumerate_1 _) (fun obj => F.args_object_init_2 obj _) F.entry_enumerate_new (meets_enum1 B) ⟨h1, ?_⟩
  have hz : (s.heap.push o).objs.size = s.heap.objs.size + 1 := Heap.size_push ..
  show _ ∧ _
  rw [hz]
  have he : IsEnum ((s.heap.push o).push { cls := .type "enumerate", data := .fields #[.none, .bool false, .ref s.heap.objs.size, rawInt 0, .none, .none] }) (s.heap.objs.size + 1) s.heap.objs.size 0 .none := by
    have := Heap.get?_push_size (s.heap.push o) (o := { cls := .type "enumerate", data := .fields #[.none, .bool false, .ref s.heap.objs.size, rawInt 0, .none, .none] }) rfl
    rw [hz] at this
    exact this
  exact ⟨⟨_, he, rfl⟩, h _ he (Heap.get?_push_of_some _ (Heap.get?_push_size _ B.free)) (by rw [Heap.size_push, hz]) fun b o x => Heap.get?_push_of_some _ (Heap.get?_push_of_some _ x)⟩
def IteT (K : PySem.W.Frag) (a : Addr) : It :=
  ⟨fun i H => ∃ (xs : List V) (x : V), SqT K H a xs ∧ xs[i]? = some x,
    fun i H v H' => ∃ T x, v = .ref T ∧ H T = none ∧ H' = upd H T (.tup [.int (i : Nat), x]) ∧ ∀ xs, SqT K H a xs → xs[i]? = some x,
    fun i H => ∃ xs : List V, SqT K H a xs ∧ xs.length = i⟩
theorem turn_enumT {P : Program} {w : World} {K : PySem.W.Frag} {elts : List Expr} {kk : Nat} {tpos : Pos} (a e it : Addr) :
    Turn P w K (.Tuple elts kk tpos) (IteT K a) [e, it] e (fun i h => (∃ old, IsEnum h e it (i : Nat) old) ∧ h.IsTupleIter it a i ∧ e ≠ it ∧ a ≠ it ∧ a ≠ e) where
  mem := List.mem_cons_self
  obj := fun i h st b hb => by
    obtain ⟨⟨old, he⟩, ⟨o, ho, _, hd⟩, _⟩ := st
    rcases List.mem_cons.mp hb with z | hb
    · rw [z]
      exact ⟨_, he, fun v q => nomatch q⟩
    · rw [List.mem_singleton.mp hb]
      exact ⟨o, ho, fun v q => by rw [hd] at q; cases q⟩
  keep := fun i h h' st k => by
    obtain ⟨⟨old, he⟩, hi, r⟩ := st
    exact ⟨⟨old, k e List.mem_cons_self _ he⟩, hi.at fun o q => k it (List.mem_cons_of_mem _ List.mem_cons_self) o q, r⟩
  item := by
    intro X hP hw hK hc i pins s σ H E I hf st hg
    subst hP hw hK
    obtain ⟨⟨old, he⟩, hit, h1, h2, h3⟩ := st
    obtain ⟨xs, x, hq, hx⟩ := hg
    obtain ⟨its, rv, p, hz⟩ := I.tuple hq
    obtain ⟨u, hu, ru⟩ := rv.get hx
    have hel : e < s.heap.objs.size := Heap.lt_size he
    have hil : it < s.heap.objs.size := by
      obtain ⟨_, q, _⟩ := hit
      exact Heap.lt_size q
    have hef : e ∉ [it, a] := fun z => by
      rcases List.mem_cons.mp z with z | z
      · exact h1 z
      · exact h3 (List.mem_singleton.mp z).symm
    have ll : i < its.toArray.size := by
      rw [List.size_toArray]
      exact (List.getElem?_eq_some_iff.mp hu).1
    refine wpAny_pyNext_enum_itemC (Draws.tuple (A := X.A.in1) (I.ok.hd hc) it a h2 its.toArray) he ⟨hit, p⟩ ll h1 hef fun y h' tk hy ho st' hT hsz hk => ?_
    have hy : its[i]? = some y := by simpa using hy
    obtain rfl : y = u := Option.some.inj (hy.symm.trans hu)
    refine ⟨_, rfl, wpAny_letOwnedTupleGo_enum (s := { s with heap := h', toks := tk + 1 }) ho fun h2' he' sb => ?_⟩
    have hT2 : h2'.get? s.heap.objs.size = some { cls := .type "tuple", data := .seq #[.int (i : Nat) tk, y] } := (sb.2 _ (Nat.ne_of_gt hel)).trans hT
    have new : ObjOk X.prog X.w (upd H s.heap.objs.size (.tup [.int (i : Nat), x])) h2' s.heap.objs.size (.tup [.int (i : Nat), x]) := ⟨sz, [.int (i : Nat) tk, y], .cons ⟨_, rfl⟩ (.cons ru .nil), ⟨_, hT2, rfl, _, rfl⟩⟩
    have nin : ∀ b, b ∉ [e, it] → b ≠ e ∧ b ≠ it := fun b hb => ⟨fun z => hb (by rw [z]; exact List.mem_cons_self), fun z => hb (by rw [z]; exact List.mem_cons_of_mem _ List.mem_cons_self)⟩
    have I1 : Inv X pins σ (upd H s.heap.objs.size (.tup [.int (i : Nat), x])) { s with heap := h2', toks := tk + 1 } :=
      I.turnedNew (ch := [e, it]) (fun b ob hb q => (sb.2 b (nin b hb).1).trans (hk b ob (nin b hb).1 (nin b hb).2 q)) hf (Nat.le_refl _) new
    refine ⟨.ref s.heap.objs.size, _, I1, rfl, ⟨_, x, rfl, I.hok.fresh (Nat.le_refl _), rfl, fun ys hy => by rw [I.tuple_inj hy hq]; exact hx⟩, ⟨⟨y, ?_⟩, st'.1.at fun o q => (sb.2 it (Ne.symm h1)).trans q, h1, h2, h3⟩, fun b hb => ?_⟩
    · rw [show ((i + 1 : Nat) : Int) = ((i : Nat) : Int) + 1 by omega]
      exact he'
    · have hlt : b < s.heap.objs.size := by
        rcases List.mem_cons.mp hb with z | hb
        · rw [z]
          exact hel
        · rw [List.mem_singleton.mp hb]
          exact hil
      rw [upd_ne (Nat.ne_of_lt hlt)]
      exact (hf b hb).1
  done := by
    intro X hP hw hK hc i pins s σ H E I hf st hg
    subst hP hw hK
    obtain ⟨⟨old, he⟩, hit, h1, h2, h3⟩ := st
    obtain ⟨xs, hq, hx⟩ := hg
    obtain ⟨its, rv, p, hz⟩ := I.tuple hq
    obtain ⟨f0, f1, f2, f3, f4, f5⟩ := hf it (List.mem_cons_of_mem _ List.mem_cons_self)
    have hl := rv.length
    have en : i = its.toArray.size := by
      rw [List.size_toArray]
      omega
    exact wpAny_pyNext_enum_endD (Draws.tuple (A := X.A.in1) (I.ok.hd hc) it a h2 its.toArray) he (by rw [← en]; exact ⟨hit, p⟩) fun h' eb => ⟨rfl, I.turned (t' := s.toks) (fun b o hb q => eb b o hb q) f0 f1 f3 f4 f5⟩
  self := fun A i s Q E st h => by
    obtain ⟨⟨_, he⟩, _⟩ := st
    exact wpAny_pyIter_enum he h
def iEnumT (K : PySem.W.Frag) (ta : TA) : TI := fun σ H R => ta σ H fun vs H1 => ∃ a xs, vs = [.ref a] ∧ SqT K H1 a xs ∧ R (IteT K a) H1
theorem pi_enumT {X : Cx} {e : Expr} {ta : TA} {p pos tpos : Pos} {elts : List Expr} {kk : Nat} (hg : Gl X "enumerate") (hm : X.mg "enumerate" = none) (ha : PA X [e] ta) (hs : starEach [e] X.env = [(false, eval e X.env)] := by rfl) :
    PI X (.Tuple elts kk tpos) (.Call (.Name "enumerate" p) [e] [] pos) (iEnumT X.K ta) := by
  refine ⟨fun pins s σ H R I h => ?_⟩
  refine Call_ (ld_blt I hg hm boot_enumerate (PyProof.Rows.callWith_type1 (thn (ha.run pos pins s σ H _ I h) fun us s1 ⟨vs, H1, I1, r1, q1⟩ => ?_) hs rfl))
  obtain ⟨a, xs, ex, hq, q⟩ := q1
  subst ex
  obtain rfl := Vals.ref1 r1
  obtain ⟨its, rv, p', hz⟩ := I1.tuple hq
  refine enum_begins1 (begins_tuple a its.toArray) p' fun h' hE hI hsz hk => wpAny_pyIter_enum hE ?_
  have lt : a < s1.heap.objs.size := by
    obtain ⟨_, q, _⟩ := p'
    exact Heap.lt_size q
  have I3 : Inv X pins σ H1 { s1 with heap := h' } := I1.kept (t' := s1.toks) hk
  refine ⟨s1.heap.objs.size + 1, [s1.heap.objs.size + 1, s1.heap.objs.size], _, _, H1, rfl, I3, turn_enumT a (s1.heap.objs.size + 1) s1.heap.objs.size, ⟨⟨.none, hE⟩, ⟨_, hI, rfl, rfl⟩, Nat.succ_ne_self _, Nat.ne_of_lt lt, Nat.ne_of_lt (Nat.lt_succ_of_lt lt)⟩, fun b hb => ?_, q⟩
  have hle : s1.heap.objs.size ≤ b := by
    rcases List.mem_cons.mp hb with z | hb
    · rw [z]
      exact Nat.le_succ _
    · rw [List.mem_singleton.mp hb]
      exact Nat.le_refl _
  exact I1.fpOk hle (I1.hok.fresh hle)
theorem walk_enumT {K : PySem.W.Frag} {a : Addr} {xs : List V} : Walk (IteT K a) xs.length (fun H => SqT K H a xs) (YPair (fun i => some (.int (i : Nat))) (fun i => xs[i]?)) := by
  refine ⟨fun i _ hi q => ⟨xs, xs[i], q, by simp [hi]⟩, fun _ q => ⟨xs, q, rfl⟩, fun i H v H' _ q y => ?_⟩
  obtain ⟨T, x, e1, e2, e3, e4⟩ := y
  exact ⟨T, .int (i : Nat), x, e1, e2, e3, rfl, e4 xs q⟩

section

-- a condition of an operator
local macro_rules | `(tactic| walk_at "cond") => `(tactic| first
  | (show (0 : Int) < _; omega)
  | (show CDiv _ _; constructor <;> (first | decide | omega))
  | (show CMul _ _; first | (refine cmul_l ?_; constructor <;> (first | decide | omega)) | (refine cmul_r ?_; constructor <;> (first | decide | omega)))
  | (show CPow _ _; exact (by refine ⟨by decide, by decide, by decide⟩))
  | (show CDivW _ _; exact ⟨by decide, by decide +kernel⟩))
local macro_rules | `(tactic| walk_at "sq") => `(tactic| first | assumption | exact Dh.mono (same_upd (by assumption)) _ _ (by assumption) | exact .inl (.inl (.inl (by assumption))) | exact .inr (.inl (.inl (by assumption))) | exact SqL.of (by assumption) | exact .inl (by assumption) | exact .inl (SqL.of (by assumption)) | exact SqT.of (by assumption) | exact .inr (SqT.of (by assumption)))
local macro_rules | `(tactic| walk_at "st") => `(tactic| first
  | refine ⟨_, rfl, ?_⟩
  | refine ⟨_, _, rfl, rfl, ?_⟩
  | refine .inl ⟨_, rfl, ?_⟩
  | refine ⟨rfl, ?_⟩
  | refine ⟨_, _, rfl, by walk_at "sq", ?_⟩
  | refine ⟨.inl ⟨rfl, _, SqL.of (by assumption)⟩, ?_⟩
  | refine ⟨by walk_at "cond", ?_⟩
  | (refine' ifBT ?hh ?_; (case hh => first | rfl | assumption))
  | (refine' ifBF ?hh ?_; (case hh => first | rfl | assumption)))
local macro_rules | `(tactic| walk_at "go") => `(tactic| repeat walk_at "st")
local macro_rules | `(tactic| walk_at "yes") => `(tactic| (refine' ifT ?hh ?_; (case hh => first | rfl | decide +kernel)))
local macro_rules | `(tactic| walk_at "no") => `(tactic| (refine' ifF ?hh ?_; (case hh => first | decide +kernel | (intro z; cases z; done))))

/-! ### _law_number -/
/-- n times // 1000 -/
def itd : Nat → Int → Int
  | 0, r => r
  | n + 1, r => itd n r / 1000
theorem itd_zero : ∀ n, itd n 0 = 0
  | 0 => rfl
  | n + 1 => by
    show itd n 0 / 1000 = 0
    rw [itd_zero n]
    rfl
theorem itd_add (r : Int) (h : itd n r = 0) : ∀ m, itd (n + m) r = 0
  | 0 => h
  | m + 1 => by
    show itd (n + m) r / 1000 = 0
    rw [itd_add r h m]
    rfl
theorem itd_nn {r : Int} (h : 0 ≤ r) : ∀ n, 0 ≤ itd n r
  | 0 => h
  | n + 1 => Int.ediv_nonneg (itd_nn h n) (by decide)
def nCell (ns : List Int) (i : Int) : Int := if ns.length = 0 then 0 else (ns.getD (i % (ns.length : Int)).toNat 0).natAbs
def nTurn (ns : List Int) (i : Int) : Int := if ns.length = 0 then i else i / (ns.length : Int)
def nPick (ns : List Int) (i k : Int) : Int := k + 16 * nTurn ns i
def nMix (c p : Int) : Int :=
  let a := (c + 7919 * p + 13) % 2147483647
  let b := (a * (a + 48271)) % 2147483629
  (b * (b + 69621) + 31 * p) % 2147483647
def num (ns : List Int) (i k size : Int) : Int :=
  let c := nCell ns i
  let p := nPick ns i k
  if c ≥ 10 ^ 18 then
    if itd p.toNat (c / 10 ^ 18) > 0 then itd p.toNat (c / 10 ^ 18) % 1000 % size else nMix c p / 9 % size
  else nMix c p / 9 % size
theorem num_nn {ns : List Int} {i k size : Int} (h : 0 < size) : 0 ≤ num ns i k size := by
  unfold num
  dsimp only
  split
  · split
    · exact Int.emod_nonneg _ (by omega)
    · exact Int.emod_nonneg _ (by omega)
  · exact Int.emod_nonneg _ (by omega)
theorem num_lt {ns : List Int} {i k size : Int} (h : 0 < size) : num ns i k size < size := by
  unfold num
  dsimp only
  split
  · split
    · exact Int.emod_lt_of_pos _ h
    · exact Int.emod_lt_of_pos _ h
  · exact Int.emod_lt_of_pos _ h
def spNum (K : PySem.W.Frag) : Sp := fun vs H Q _ => ∃ (a : Addr) (ns : List Int) (i k size : Int), vs = [.ref a, .int i, .int k, .int size] ∧ SqL K H a (ns.map V.int) ∧ ns.length ≤ 63 ∧
  0 ≤ i ∧ i ≤ 1000000000 ∧ 0 ≤ k ∧ k ≤ 1000000000 ∧ 0 < size ∧ Q (.int (num ns i k size)) H

abbrev s_number : Stmt := topS 19
theorem sc_number : FnScope ["_law_script", "_law_at", "_law_k", "_law_size", "_law_cell", "_law_turn", "_law_pick", "_law_rest", "_law_step", "_law_mixed"] ["_law_script", "_law_at", "_law_k", "_law_size"] (C8.fnScope s_number) := C8.fnScope_by (by decide +kernel)
section
variable {P : Program} {w : World} {K : PySem.W.Frag} {mg : Str → Option Value} {base : Heap}
theorem ok_number {f : Addr} {fd : FuncData} (D : Def K mg "_law_number" s_number f fd) (b : Binds K fd ["_law_script", "_law_at", "_law_k", "_law_size"] []) (T : Txt mg) : Cal P w K mg base 1 "_law_number" (spNum K) [] := by
  refine cal0 D b .nil sc_number (fun vs H Q E h => ?_) (fun cdv A outer s H vs Q E hr h => ?_)
  · obtain ⟨a, ns, i, k, size, rfl, _⟩ := h
    rfl
  obtain ⟨a, ns, i, k, size, rfl, hS, hl, i0, i1, k0, k1, hz, q⟩ := h
  refine ⟨_, (pss_cons (ps_set (i := 4) sc_number.nd rfl (.inl rfl) pe_int)
      (pss_cons (ps_set (i := 5) sc_number.nd rfl (.inl rfl) (pv 1))
      (pss_cons (ps_mk (ps_if (pt_cmpR op_gt (pe_callB (lenQ K rfl) (by rfl) T.len PySem.boot_len (pa_cons (pv 0) pa_nil)) pe_int (nomark _))
      (pss_cons (ps_set (i := 4) sc_number.nd rfl (.inl rfl) (pe_callB call_abs (by rfl) T.abs (by decide +kernel) (pa_cons (pe_ix (ixL K rfl) (pv 0) (pe_op op_mod (pe_callTy call_int1 (by rfl) T.int (by decide +kernel) (pa_cons (pv 1) pa_nil)) (pe_callB (lenQ K rfl) (by rfl) T.len PySem.boot_len (pa_cons (pv 0) pa_nil))) (fun _ _ => rfl)) pa_nil)))
      (pss_one (ps_set (i := 5) sc_number.nd rfl (.inl rfl) (pe_op op_fdiv (pv 1) (pe_callB (lenQ K rfl) (by rfl) T.len PySem.boot_len (pa_cons (pv 0) pa_nil))))))
      pss_nil))
      (pss_cons (ps_set (i := 6) sc_number.nd rfl (.inl rfl) (pe_op op_add (pv 2) (pe_op op_mul pe_int (pv 5))))
      (pss_cons (ps_mk (ps_if (pt_cmpR op_ge (pv 4) (pe_op op_pow pe_int pe_int) (nomark _))
      (pss_cons (ps_set (i := 7) sc_number.nd rfl (.inl rfl) (pe_op op_fdivW (pv 4) (pe_op op_pow pe_int pe_int)))
      (pss_cons (ps_mk (ps_for PassesOwn.never rfl (pi_range1 (by rfl) T.range (pa_cons (pv 6) pa_nil)) (pg_name (i := 8) sc_number.nd rfl (.inl rfl))
      (pss_cons (ps_mk (ps_if (pt_cmpR op_eq (pv 7) pe_int (nomark _))
      (pss_one ps_break)
      pss_nil))
      (pss_one (ps_set (i := 7) sc_number.nd rfl (.inl rfl) (pe_op op_fdiv (pv 7) pe_int))))))
      (pss_one (ps_mk (ps_if (pt_cmpR op_gt (pv 7) pe_int (nomark _))
      (pss_one (ps_ret (pe_op op_mod (pe_callTy call_int1 (by rfl) T.int (by decide +kernel) (pa_cons (pe_op op_mod (pe_callTy call_int1 (by rfl) T.int (by decide +kernel) (pa_cons (pv 7) pa_nil)) pe_int) pa_nil)) (pv 3))))
      pss_nil)))))
      pss_nil))
      (pss_cons (ps_set (i := 9) sc_number.nd rfl (.inl rfl) (pe_op op_mod (pe_callTy call_int1 (by rfl) T.int (by decide +kernel) (pa_cons (pe_op op_add (pe_op op_add (pv 4) (pe_op op_mul pe_int (pv 6))) pe_int) pa_nil)) pe_int))
      (pss_cons (ps_set (i := 9) sc_number.nd rfl (.inl rfl) (pe_op op_mod (pe_callTy call_int1 (by rfl) T.int (by decide +kernel) (pa_cons (pe_op op_mul (pv 9) (pe_op op_add (pv 9) pe_int)) pa_nil)) pe_int))
      (pss_cons (ps_set (i := 9) sc_number.nd rfl (.inl rfl) (pe_op op_mod (pe_callTy call_int1 (by rfl) T.int (by decide +kernel) (pa_cons (pe_op op_add (pe_op op_mul (pv 9) (pe_op op_add (pv 9) pe_int)) (pe_op op_mul pe_int (pv 6))) pa_nil)) pe_int))
      (pss_one (ps_ret (pe_op op_mod (pe_callTy call_int1 (by rfl) T.int (by decide +kernel) (pa_cons (pe_op op_fdiv (pv 9) pe_int) pa_nil)) (pv 3)))))))))))), ?_⟩
  have hml : (ns.map V.int).length = ns.length := List.length_map _
  have t0 : 0 ≤ nTurn ns i ∧ nTurn ns i ≤ 1000000000 := by
    unfold nTurn
    split
    · exact ⟨i0, i1⟩
    · exact ⟨Int.ediv_nonneg i0 (by omega), Int.le_trans (Int.ediv_le_self _ i0) i1⟩
  have p0 : 0 ≤ nPick ns i k ∧ nPick ns i k ≤ 17000000000 := by
    unfold nPick
    omega
  walk_at "go"
  refine jn (M := fun σ H' => ∃ c t : Int, c = nCell ns i ∧ t = nTurn ns i ∧ H' = H ∧ σ = [sR a, sI i, sI k, sI size, sI c, sI t, none, none, none, none]) ?_ (fun N kk => ?_)
  · rintro σ H' ⟨c, t, ec, et, rfl, rfl⟩
    walk_at "go"
    -- behind the pick
    have ep : k + 16 * t = nPick ns i k := by
      rw [et]
      rfl
    have c0 : 0 ≤ c := by
      rw [ec]
      unfold nCell
      split <;> omega
    have en : c < 10 ^ 18 ∨ ¬ itd (nPick ns i k).toNat (c / 10 ^ 18) > 0 → num ns i k size = nMix c (nPick ns i k) / 9 % size := fun h => by
      unfold num
      dsimp only
      rw [← ec]
      rcases h with h | h
      · rw [if_neg (by omega)]
      · split
        · rfl
        · rfl
    refine jn (M := fun σ H2 => H2 = H' ∧ (c < 10 ^ 18 ∨ ¬ itd (nPick ns i k).toNat (c / 10 ^ 18) > 0) ∧ ∃ y8 y9, σ = [sR a, sI i, sI k, sI size, sI c, sI t, sI (nPick ns i k), y8, y9, none]) ?_ (fun N kk => ?_)
    · rintro σ H2 ⟨rfl, hc, y8, y9, rfl⟩
      walk_at "go"
      have e := en hc
      unfold nMix at e
      dsimp only at e
      rw [e] at q
      exact q
    · walk_at "go"
      refine ifD (fun g => ?_) (fun g => ?_)
      · have g' : c ≥ 10 ^ 18 := g
        walk_at "go"
        have r0 : 0 ≤ c / 10 ^ 18 := Int.ediv_nonneg c0 (by decide)
        refine jn (M := fun σ H2 => H2 = H' ∧ ∃ y9, σ = [sR a, sI i, sI k, sI size, sI c, sI t, sI (nPick ns i k), sI (itd (nPick ns i k).toNat (c / 10 ^ 18)), y9, none]) ?_ (fun N2 k2 => ?_)
        · rintro σ H2 ⟨rfl, y9, rfl⟩
          refine un ?_
          walk_at "go"
          refine ifD (fun g2 => ?_) (fun g2 => ?_)
          · walk_at "go"
            have e : num ns i k size = itd (nPick ns i k).toNat (c / 10 ^ 18) % 1000 % size := by
              unfold num
              dsimp only
              rw [← ec, if_pos g', if_pos g2]
            rw [e] at q
            exact q
          · walk_at "go"
            exact kk _ _ ⟨rfl, .inr g2, _, _, rfl⟩
        · walk_at "go"
          refine ⟨(show -(2 ^ 62) ≤ k + 16 * t by omega), (show k + 16 * t < 2 ^ 62 by omega), for_range (lo := 0) (n := (k + 16 * t).toNat) (fun j σ H2 => Ob (H2 = H' ∧ ∃ y9, σ = [sR a, sI i, sI k, sI size, sI c, sI t, sI (nPick ns i k), sI (itd j (c / 10 ^ 18)), y9, none])) (ob ⟨rfl, none, ?_⟩) ?_ ?_⟩
          · rw [← ep]
            rfl
          · rintro j σ H2 hj h
            obtain ⟨rfl, y9, rfl⟩ := unob h
            refine un ?_
            walk_at "go"
            refine ifEq (fun z => ?_) (fun z => ?_)
            · walk_at "go"
              refine k2 _ _ ⟨rfl, sI (0 + (j : Int)), ?_⟩
              have z2 : itd (nPick ns i k).toNat (c / 10 ^ 18) = 0 := by
                have z3 := itd_add _ z ((nPick ns i k).toNat - j)
                rw [show j + ((nPick ns i k).toNat - j) = (nPick ns i k).toNat by omega] at z3
                exact z3
              rw [z2, ← z]
              rfl
            · walk_at "go"
              exact ob ⟨rfl, _, rfl⟩
          · rintro σ H2 h
            obtain ⟨rfl, y9, rfl⟩ := unob h
            refine k2 _ _ ⟨rfl, y9, ?_⟩
            rw [ep]
      · walk_at "go"
        have g' : ¬ c ≥ 10 ^ 18 := g
        refine kk _ _ ⟨rfl, .inl (by omega), none, none, ?_⟩
        rw [← ep]
        rfl
  · walk_at "go"
    refine ifD (fun c => ?_) (fun c => ?_)
    · walk_at "go"
      rw [hml] at c
      refine ⟨_, _, _, _, rfl, rfl, hS, atI_getD (Int.emod_nonneg _ (by omega)) (by rw [hml]; exact Int.emod_lt_of_pos _ (by omega)), ?_⟩
      walk_at "go"
      refine kk _ _ ⟨_, _, ?_, ?_, rfl, rfl⟩
      · unfold nCell
        rw [if_neg (show ¬ ns.length = 0 by omega)]
        simp only [hml]
        split
        · omega
        · omega
      · unfold nTurn
        rw [if_neg (by omega), hml]
    · walk_at "go"
      rw [hml] at c
      refine kk _ _ ⟨_, _, ?_, ?_, rfl, rfl⟩
      · unfold nCell
        rw [if_pos (by omega)]
      · unfold nTurn
        rw [if_pos (by omega)]
end

/-! ### _law_is_whole, _law_same -/
abbrev s_is_whole : Stmt := topS 20
theorem sc_is_whole : FnScope ["_law_told"] ["_law_told"] (C8.fnScope s_is_whole) := C8.fnScope_by (by decide +kernel)
abbrev s_same : Stmt := topS 21
theorem sc_same : FnScope ["_law_told", "_law_due", "_law_k"] ["_law_told", "_law_due"] (C8.fnScope s_same) := C8.fnScope_by (by decide +kernel)
def spWhole : Sp := fun vs H Q _ => ∃ (x : V) (d : PyData), vs = [x] ∧ Dh H d x ∧ Q (.bl (isI d)) H
def spSame (n : Nat) : Sp := fun vs H Q _ => ∃ (x y : V) (d e : PyData), vs = [x, y] ∧ Dh H d x ∧ Dh H e y ∧ Dle n e ∧ ∀ (b : Bool) (H' : Hp), (b = true ↔ d = e) → Same H H' → Q (.bl b) H'
section
variable {P : Program} {w : World} {K : PySem.W.Frag} {mg : Str → Option Value} {base : Heap}
theorem ok_whole {f : Addr} {fd : FuncData} (D : Def K mg "_law_is_whole" s_is_whole f fd) (b : Binds K fd ["_law_told"] []) (T : Txt mg) : Cal P w K mg base 1 "_law_is_whole" spWhole [] := by
  refine cal0 D b .nil sc_is_whole (fun vs H Q E h => ?_) (fun cdv A outer s H vs Q E hr h => ?_)
  · obtain ⟨x, d, rfl, _⟩ := h
    rfl
  obtain ⟨x, d, rfl, hx, q⟩ := h
  refine ⟨_, (pss_one (ps_ret (pe_and (pe_callB is_int (by rfl) T.isinstance (by decide +kernel) (pa_cons (pv 0) (pa_cons (pe_bltn (v := .ty "int") (by rfl) T.int (by decide +kernel) rfl) pa_nil))) (pe_one (pe_not (pe_callB is_bool (by rfl) T.isinstance (by decide +kernel) (pa_cons (pv 0) (pa_cons (pe_bltn (v := .ty "bool") (by rfl) T.bool (by decide +kernel) rfl) pa_nil)))))))), ?_⟩
  cases d <;> (walk_at "go"; exact q)
theorem ok_same_step {f : Addr} {fd : FuncData} (D : Def K mg "_law_same" s_same f fd) (b : Binds K fd ["_law_told", "_law_due"] []) (T : Txt mg) (c_is_whole : Cal P w K mg base 1 "_law_is_whole" spWhole []) {n : Nat}
    (c_same : Cal P w K mg base (n + 1) "_law_same" (spSame n) []) : Cal P w K mg base (n + 2) "_law_same" (spSame (n + 1)) [] := by
  refine cal0 D b .nil sc_same (fun vs H Q E h => ?_) (fun cdv A outer s H vs Q E hr h => ?_)
  · obtain ⟨x, y, d, e, rfl, _⟩ := h
    rfl
  obtain ⟨x, y, d, e, rfl, hx, hy, he, q⟩ := h
  refine ⟨_, (pss_cons (ps_mk (ps_if (pt_val (pe_callB is_lt (by rfl) T.isinstance (by decide +kernel) (pa_cons (pv 1) (pa_cons (pe_tup (pa_cons (pe_bltn (v := .ty "list") (by rfl) T.list (by decide +kernel) rfl) (pa_cons (pe_bltn (v := .ty "tuple") (by rfl) T.tuple (by decide +kernel) rfl) pa_nil))) pa_nil))))
      (pss_cons (ps_mk (ps_if (PW.pt (pw_or (pt_not (pt_val (pe_callB is_lt (by rfl) T.isinstance (by decide +kernel) (pa_cons (pv 0) (pa_cons (pe_tup (pa_cons (pe_bltn (v := .ty "list") (by rfl) T.list (by decide +kernel) rfl) (pa_cons (pe_bltn (v := .ty "tuple") (by rfl) T.tuple (by decide +kernel) rfl) pa_nil))) pa_nil))))) (pw_or1 (pt_cmpR op_ne (pe_callB is_list (by rfl) T.isinstance (by decide +kernel) (pa_cons (pv 0) (pa_cons (pe_bltn (v := .ty "list") (by rfl) T.list (by decide +kernel) rfl) pa_nil))) (pe_callB is_list (by rfl) T.isinstance (by decide +kernel) (pa_cons (pv 1) (pa_cons (pe_bltn (v := .ty "list") (by rfl) T.list (by decide +kernel) rfl) pa_nil))) (nomark _)))))
      (pss_one (ps_ret pe_bl))
      pss_nil))
      (pss_cons (ps_mk (ps_if (pt_cmpR op_ne (pe_callB (lenQ K rfl) (by rfl) T.len PySem.boot_len (pa_cons (pv 0) pa_nil)) (pe_callB (lenQ K rfl) (by rfl) T.len PySem.boot_len (pa_cons (pv 1) pa_nil)) (nomark _))
      (pss_one (ps_ret pe_bl))
      pss_nil))
      (pss_one (ps_ret (pe_cmpR op_eq (pe_callB (lenQ K rfl) (by rfl) T.len PySem.boot_len (pa_cons (pe_lc (own := [("_law_k", 2)]) (g := gName 2) rfl sc_same.nd (pi_range1 (by rfl) T.range (pa_cons (pe_callB (lenQ K rfl) (by rfl) T.len PySem.boot_len (pa_cons (pv 1) pa_nil)) pa_nil)) (blkOk_by (own := [("_law_k", 2)]) (N := ["_law_told", "_law_due", "_law_k"]) (sc := C8.fnScope s_same) (by decide +kernel)) (fun _ _ _ _ _ => (pg_name (i := 2) sc_same.nd rfl (.inl rfl))) (fun _ _ _ _ _ => (pts_one (pt_not (pt_val (C8.pe_c c_same hr (by omega) (by rfl) (pa_cons (pe_ix (ixA K rfl) (pv 0) (pv 2) (fun _ _ => rfl)) (pa_cons (pe_ix (ixA K rfl) (pv 1) (pv 2) (fun _ _ => rfl)) pa_nil))))))) (fun _ _ _ _ _ => (pv 2))) pa_nil)) pe_int (nomark _))))))
      pss_nil))
      (pss_cons (ps_mk (ps_if (pt_val (pe_callB is_bool (by rfl) T.isinstance (by decide +kernel) (pa_cons (pv 1) (pa_cons (pe_bltn (v := .ty "bool") (by rfl) T.bool (by decide +kernel) rfl) pa_nil))))
      (pss_one (ps_ret (pe_and (pe_callB is_bool (by rfl) T.isinstance (by decide +kernel) (pa_cons (pv 0) (pa_cons (pe_bltn (v := .ty "bool") (by rfl) T.bool (by decide +kernel) rfl) pa_nil))) (pe_one (pe_cmpR op_eq (pv 0) (pv 1) (nomark _))))))
      pss_nil))
      (pss_cons (ps_mk (ps_if (pt_val (pe_callB is_int (by rfl) T.isinstance (by decide +kernel) (pa_cons (pv 1) (pa_cons (pe_bltn (v := .ty "int") (by rfl) T.int (by decide +kernel) rfl) pa_nil))))
      (pss_one (ps_ret (pe_and (C8.pe_c c_is_whole hr (by omega) (by rfl) (pa_cons (pv 0) pa_nil)) (pe_one (pe_cmpR op_eq (pv 0) (pv 1) (nomark _))))))
      pss_nil))
      (pss_cons (ps_mk (ps_if (pt_val (pe_callB is_str (by rfl) T.isinstance (by decide +kernel) (pa_cons (pv 1) (pa_cons (pe_bltn (v := .ty "str") (by rfl) T.str (by decide +kernel) rfl) pa_nil))))
      (pss_one (ps_ret (pe_and (pe_callB is_str (by rfl) T.isinstance (by decide +kernel) (pa_cons (pv 0) (pa_cons (pe_bltn (v := .ty "str") (by rfl) T.str (by decide +kernel) rfl) pa_nil))) (pe_one (pe_cmpR op_eq (pv 0) (pv 1) (nomark _))))))
      pss_nil))
      (pss_one (ps_ret (pe_and (pe_cmpR op_isN (pv 0) pe_non (nomark _)) (pe_one (pe_cmpR op_isN (pv 1) pe_non (nomark _)))))))))), ?_⟩
  refine jn (M := fun σ H' => Same H H' ∧ σ = [some x, some y, none] ∧ (isL e || isT e) = false) ?_ (fun N kk => ?_)
  · rintro σ H1 ⟨s1, rfl, hf⟩
    have hx1 := Dh.mono s1 _ _ hx
    have hy1 := Dh.mono s1 _ _ hy
    clear hx hy he
    cases e with
    | list es => cases hf
    | tuple es => cases hf
    | dict kvs => exact False.elim hy1
    | none =>
      cases (show y = V.non from hy1)
      cases d
      case dict => exact False.elim hx1
      all_goals first | (obtain ⟨_, _, e1, _, _⟩ := id hx1; cases e1) | (cases (show x = _ from hx1))
      all_goals repeat (first | refine un ?_ | walk_at "st")
      all_goals exact q _ _ (by simp) s1
    | bool c =>
      cases (show y = V.bl c from hy1)
      cases d
      case dict => exact False.elim hx1
      all_goals first | (obtain ⟨_, _, e1, _, _⟩ := id hx1; cases e1) | (cases (show x = _ from hx1))
      all_goals repeat (first | refine un ?_ | walk_at "st")
      all_goals exact q _ _ (by simp) s1
    | int c =>
      cases (show y = V.int c from hy1)
      cases d
      case dict => exact False.elim hx1
      all_goals first | (obtain ⟨_, _, e1, _, _⟩ := id hx1; cases e1) | (cases (show x = _ from hx1))
      all_goals repeat (first | refine un ?_ | walk_at "st")
      all_goals first | exact q _ _ (by simp) s1 | skip
      all_goals refine ⟨_, _, rfl, hx1, ?_⟩
      all_goals repeat (first | refine un ?_ | walk_at "st")
      all_goals exact q _ _ (by simp) s1
    | str c =>
      cases (show y = V.str c from hy1)
      cases d
      case dict => exact False.elim hx1
      all_goals first | (obtain ⟨_, _, e1, _, _⟩ := id hx1; cases e1) | (cases (show x = _ from hx1))
      all_goals repeat (first | refine un ?_ | walk_at "st")
      all_goals exact q _ _ (by simp) s1
  · walk_at "go"
    refine ⟨sz, fun p hp => ?_⟩
    refine ⟨_, _, _, rfl, upd_same, Dh.mono (same_upd hp) _ _ hy, ?_⟩
    walk_at "go"
    have s1 : Same H (upd H p (.tup [.ty "list", .ty "tuple"])) := same_upd hp
    have hx1 := Dh.mono s1 _ _ hx
    have hy1 := Dh.mono s1 _ _ hy
    cases hf : (isL e || isT e) with
    | false =>
      refine ifBF rfl ?_
      exact kk _ _ ⟨s1, rfl, hf⟩
    | true =>
      refine ifBT rfl ?_
      generalize upd H p (HO.tup [V.ty "list", V.ty "tuple"]) = H1 at *
      clear hx hy kk hp
      walk_at "go"
      refine jn (M := fun σ H2 => Same H1 H2 ∧ ∃ a c xs ys ds es, σ = [sR a, sR c, none] ∧ (SqL K H2 a xs ∨ SqT K H2 a xs) ∧ (SqL K H2 c ys ∨ SqT K H2 c ys) ∧ DhAll H2 ds xs ∧ DhAll H2 es ys ∧ es.length ≤ 100000 ∧ (∀ e' ∈ es, Dle n e') ∧ (d = e ↔ ds = es)) ?_ (fun N2 k2 => ?_)
      · rintro σ H2 ⟨s2, a, c, xs, ys, ds, es, rfl, hA, hC, hds, hes, hlen, hle, hiff⟩
        have lx := hds.len
        have ly := hes.len
        walk_at "go"
        refine jn (M := fun σ H3 => H3 = H2 ∧ σ = [sR a, sR c, none] ∧ ds.length = es.length) ?_ (fun N3 k3 => ?_)
        · rintro σ H3 ⟨rfl, rfl, el⟩
          walk_at "go"
          refine ⟨by omega, by omega, fun L hL => lc_range (lo := 0) (n := ((ys.length : Nat) : Int).toNat)
            (fun i H' => Ob (Same H3 H' ∧ ∃ acc, H' L = some (.lst acc) ∧ acc.length ≤ i ∧ (acc = [] ↔ ds.take i = es.take i))) (ob ⟨same_upd hL, [], upd_same, Nat.le_refl _, by simp⟩) ?_ ?_⟩
          · intro i H4 hi h4
            obtain ⟨s4, acc, g4, l4, e4⟩ := unob h4
            have hi2 : i < es.length := by omega
            have hi3 : i < ds.length := by omega
            obtain ⟨xv, ex, dx⟩ := hds.get (List.getElem?_eq_getElem hi3)
            obtain ⟨yv, ey, dy⟩ := hes.get (List.getElem?_eq_getElem hi2)
            have tk := take_succ_eq (List.getElem?_eq_getElem hi3) (List.getElem?_eq_getElem hi2)
            have ax : atI xs (0 + (i : Int)) = some xv := by
              rw [Int.zero_add]
              exact atI_nat ex
            have ay : atI ys (0 + (i : Int)) = some yv := by
              rw [Int.zero_add]
              exact atI_nat ey
            refine ⟨rfl, ?_⟩
            walk_at "go"
            refine ixAny (sqAny s4 hA) ax ?_
            walk_at "go"
            refine ixAny (sqAny s4 hC) ay ?_
            walk_at "go"
            refine ⟨_, _, _, _, rfl, Dh.mono s4 _ _ dx, Dh.mono s4 _ _ dy, hle _ (List.getElem_mem hi2), fun b5 H5 hb s5 => ?_⟩
            walk_at "go"
            refine ifN ?_
            cases b5 with
            | true =>
              refine ifBT rfl (ob ⟨s4.trans s5, acc, s5 _ _ g4, Nat.le_succ_of_le l4, ?_⟩)
              rw [e4, tk]
              exact ⟨fun z => ⟨z, hb.mp rfl⟩, fun z => z.1⟩
            | false =>
              refine ifBF rfl ?_
              walk_at "go"
              refine ⟨acc, s5 _ _ g4, sz5 (by omega), ob ⟨same_put (s4.trans s5) hL, _, upd_same, ?_, ?_⟩⟩
              · rw [List.length_append]
                exact Nat.add_le_add_right l4 1
              · constructor
                · intro z
                  exact absurd (congrArg List.length z) (by rw [List.length_append]; simp)
                · intro z
                  exact absurd (hb.mpr (tk.mp z).2) Bool.false_ne_true
          · intro H4 h4
            obtain ⟨s4, acc, g4, l4, e4⟩ := unob h4
            walk_at "go"
            refine q _ _ ?_ ((s1.trans s2).trans s4)
            rw [hiff]
            have et : ((ys.length : Nat) : Int).toNat = es.length := by omega
            rw [et, List.take_of_length_le (by omega), List.take_of_length_le (Nat.le_refl _)] at e4
            rw [← e4, decide_eq_true_iff]
            constructor
            · intro z
              have z2 := V.int.inj z
              exact List.eq_nil_of_length_eq_zero (by omega)
            · intro z
              rw [z]
              rfl
        · walk_at "go"
          refine ifNe (fun z => ?_) (fun z => ?_)
          · walk_at "go"
            refine q _ _ ?_ (s1.trans s2)
            rw [hiff]
            constructor
            · intro h
              cases h
            · intro h
              rw [h] at lx
              omega
          · walk_at "go"
            exact k3 _ _ ⟨rfl, rfl, by omega⟩
      · walk_at "go"
        refine ⟨sz, fun p2 hp2 => ?_⟩
        have s2 : Same H1 (upd H1 p2 (HO.tup [V.ty "list", V.ty "tuple"])) := same_upd hp2
        refine ⟨_, _, _, rfl, upd_same, Dh.mono s2 _ _ hx1, ?_⟩
        have hx2 := Dh.mono s2 _ _ hx1
        have hy2 := Dh.mono s2 _ _ hy1
        walk_at "go"
        generalize upd H1 p2 (HO.tup [V.ty "list", V.ty "tuple"]) = H2 at *
        clear hp2
        cases e with
        | none => cases hf
        | bool _ => cases hf
        | int _ => cases hf
        | str _ => cases hf
        | dict kvs => cases hf
        | list es =>
          obtain ⟨c, ys, rfl, gy, hes⟩ := id hy2
          cases d
          case dict => exact False.elim hx2
          case list ds =>
            obtain ⟨a, xs, rfl, gx, hds⟩ := id hx2
            walk_at "go"
            exact k2 _ _ ⟨s2, _, _, _, _, ds, es, rfl, .inl (.inl (.inl gx)), .inl (.inl (.inl gy)), hds, hes, he.1, he.2, by simp⟩
          all_goals walk_at "go"
          all_goals exact q _ _ (by simp) (s1.trans s2)
        | tuple es =>
          obtain ⟨c, ys, rfl, gy, hes⟩ := id hy2
          cases d
          case dict => exact False.elim hx2
          case tuple ds =>
            obtain ⟨a, xs, rfl, gx, hds⟩ := id hx2
            walk_at "go"
            exact k2 _ _ ⟨s2, _, _, _, _, ds, es, rfl, .inr (.inl (.inl gx)), .inr (.inl (.inl gy)), hds, hes, he.1, he.2, by simp⟩
          all_goals walk_at "go"
          all_goals exact q _ _ (by simp) (s1.trans s2)
theorem ok_same {f : Addr} {fd : FuncData} (D : Def K mg "_law_same" s_same f fd) (b : Binds K fd ["_law_told", "_law_due"] []) (T : Txt mg) (c_is_whole : Cal P w K mg base 1 "_law_is_whole" spWhole []) :
    ∀ n, Cal P w K mg base (n + 1) "_law_same" (spSame n) []
  | 0 => by
    have no : ∀ vs H Q E, ¬ spSame 0 vs H Q E := fun vs H Q E h => by
      obtain ⟨x, y, d, e, _, _, _, h1, _⟩ := h
      exact h1
    exact ⟨f, fd, _, _, ⟨fun vs H Q E h => absurd h (no vs H Q E), fun A outer s H args us vs Q E _ _ _ _ h => absurd h (no vs H Q E)⟩, D.mgf, D.kp, b, .nil⟩
  | n + 1 => ok_same_step D b T c_is_whole (ok_same D b T c_is_whole n)
end

end

/-! ### a try whose wish the body sees as a letter -/
def tTry (K : PySem.W.Frag) (c : Value) (i : Nat) (tb : WX → TS) (ts : Addr → Value → Option Addr → TS) (Wout : WX) : TS := fun D σ H => ∀ W : WX, (∀ cls d σ2 H2, wAs K c i ts Wout D cls d σ2 H2 → W cls d σ2 H2) → tb W D σ H
theorem ps_try_m {X : Cx} {x n : Str} {c : Value} {i : Nat} {body suite : List Stmt} {b0 : Stmt} {np pos pos2 : Pos} {tb : WX → TS} {ts : Addr → Value → Option Addr → TS} {Wout : WX} (hs : X.stack = X.env :: X.outer) (hf : X.env.frame = some X.env.locals) (hN : X.N.Nodup) (hi : X.N[i]? = some n) (hln : X.env.kindOf n = some .local) (hc : Names X x c) (tk : Takes X Wout)
    (hb : ∀ (W : WX) (pn : List (Addr × Obj)) (xe : Value → Shared → Prop), Takes (X.tr pn xe) W → PassesOwn (model X.prog X.w) X.A X.env xe → PSs (X.tr pn xe) body (tb W))
    (hu : ∀ (a : Addr) (oe : Obj) (cls : Value) (d : Option Addr) (pn : List (Addr × Obj)), Zc cls d oe → (∃ vs, oe.data = .fields vs) → PSs (X.suite a ((a, oe) :: pn)) (b0 :: suite) (ts a cls d)) :
    PS X (.Try body [.ExceptHandler (some (.Name x np)) (some n) (b0 :: suite) pos2] [] [] pos) (tTry X.K c i tb ts Wout) :=
  ⟨fun pins s σ H D I h => (ps_try_as hs hf hN hi hln hc tk hb hu).run pins s σ H D I (h _ fun _ _ _ _ z => z)⟩
/-- the catch takes it -/
theorem catch_yes {K : PySem.W.Frag} {c : Value} {i : Nat} {ts : Addr → Value → Option Addr → TS} {Wout : WX} {D : Ends} {cls : Value} {d : Option Addr} {σ : L2.St} {H : Hp} (e : PySem.W.exmOne K cls c = some true)
    (h : ∀ a, H a = none → ts a cls d { nx := fun σ' H' => D.nx (σ'.set i none) H', rt := D.rt, bk := fun σ' H' => D.bk (σ'.set i none) H', ct := fun σ' H' => D.ct (σ'.set i none) H' } (σ.set i (some (.ref a))) H) : wAs K c i ts Wout D cls d σ H :=
  ⟨true, e, fun _ => h, fun z => by cases z⟩

/-! ### lines and bytes -/
abbrev tS (i : Int) : Str := toString i
def wordS (c : Nat) : Str := (["halt", "set", "add", "sub", "load", "store", "loadw", "storew", "move", "jump", "fork"] : List Str).getD c ""
def kindS (c : Nat) : Str := (["", "rn", "rrr", "rrr", "rr", "rr", "rr", "rr", "rrr", "rn", "r"] : List Str).getD c ""
def formS (c : Nat) : Str := (["", "an", "abc", "abc", "ab", "ab", "ab", "ab", "abc", "an", "a"] : List Str).getD c ""
def By (bs : List Int) : Prop := ∀ b ∈ bs, 0 ≤ b ∧ b < 256
def lawK : List Nat → List Int → Str → Option (Str × List Int)
  | [], bs, l => some (l, bs)
  | k :: ks, bs, l => if k = 110 then lawK ks (bs.drop 2) (l ++ " " ++ tS (bs.getD 0 0 + 256 * bs.getD 1 0)) else if bs.getD 0 0 > 7 then none else lawK ks (bs.drop 1) (l ++ " " ++ tS (bs.getD 0 0))
def kindL (c : Nat) : List Nat := (kindS c).cps.toList
def formL (c : Nat) : List Nat := (formS c).cps.toList
def endL (o : Option (Str × List Int)) : Option Str := o.bind fun p => if p.2.all (· == 0) then some p.1 else none
def lawLine : List Int → Option Str
  | [] => none
  | c :: bs => if c > 10 then none else endL (lawK (kindL c.toNat) bs (wordS c.toNat))
def nameB (form : List Nat) (f : List Int) : List Bool := ((([97, 98, 99] : List Nat).zip f).filter fun p => decide (p.1 ∈ form)).map fun p => decide (p.2 < 8)
def fieldP (form : List Nat) (ops : List Int) : List Int := (form.zip ops).flatMap fun p => if p.1 = 110 then [p.2 % 256, p.2 / 256] else [p.2]
def fieldsP (form : List Nat) (ops : List Int) : List Int := fieldP form ops ++ List.replicate (3 - (fieldP form ops).length) 0
def opsP (c : Nat) (x y z : Int) : List Int := if formS c = "an" then [x, y + 256 * z] else [x, y, z].take (formL c).length
def progLine : List Int → Option Str
  | [c, x, y, z] => if c ≥ 11 then none else if (nameB (formL c.toNat) [x, y, z]).all id = false then none
      else if [c] ++ fieldsP (formL c.toNat) (opsP c.toNat x y z) ≠ [c, x, y, z] then none else some (Str.join " " (wordS c.toNat :: (opsP c.toNat x y z).map tS))
  | _ => none
theorem join1 (w : Str) : Str.join " " [w] = w := rfl
theorem join2 (w s : Str) (r : List Str) : Str.join " " (w :: s :: r) = w ++ " " ++ Str.join " " (s :: r) := rfl
theorem kind_tab : [kindL 0, kindL 1, kindL 2, kindL 3, kindL 4, kindL 5, kindL 6, kindL 7, kindL 8, kindL 9, kindL 10] = [[], [114, 110], [114, 114, 114], [114, 114, 114], [114, 114], [114, 114], [114, 114], [114, 114], [114, 114, 114], [114, 110], [114]] := by decide +kernel
theorem form_tab : [formL 0, formL 1, formL 2, formL 3, formL 4, formL 5, formL 6, formL 7, formL 8, formL 9, formL 10] = [[], [97, 110], [97, 98, 99], [97, 98, 99], [97, 98], [97, 98], [97, 98], [97, 98], [97, 98, 99], [97, 110], [97]] := by decide +kernel
theorem an_tab : [(decide (formS 0 = "an")), (decide (formS 1 = "an")), (decide (formS 2 = "an")), (decide (formS 3 = "an")), (decide (formS 4 = "an")), (decide (formS 5 = "an")), (decide (formS 6 = "an")), (decide (formS 7 = "an")), (decide (formS 8 = "an")), (decide (formS 9 = "an")), (decide (formS 10 = "an"))] = [false, true, false, false, false, false, false, false, false, true, false] := by decide +kernel
/-- the five forms: kinds, form, whether it is "an" -/
theorem five {c : Nat} (h : c ≤ 10) : (kindL c = [] ∧ formL c = [] ∧ formS c ≠ "an") ∨ (kindL c = [114] ∧ formL c = [97] ∧ formS c ≠ "an") ∨ (kindL c = [114, 114] ∧ formL c = [97, 98] ∧ formS c ≠ "an") ∨ (kindL c = [114, 114, 114] ∧ formL c = [97, 98, 99] ∧ formS c ≠ "an") ∨ (kindL c = [114, 110] ∧ formL c = [97, 110] ∧ formS c = "an") := by
  have k := kind_tab
  have f := form_tab
  have a := an_tab
  simp only [List.cons.injEq, and_true, decide_eq_false_iff_not, decide_eq_true_eq] at k f a
  obtain ⟨k0, k1, k2, k3, k4, k5, k6, k7, k8, k9, k10⟩ := k
  obtain ⟨f0, f1, f2, f3, f4, f5, f6, f7, f8, f9, f10⟩ := f
  obtain ⟨a0, a1, a2, a3, a4, a5, a6, a7, a8, a9, a10⟩ := a
  have : c = 0 ∨ c = 1 ∨ c = 2 ∨ c = 3 ∨ c = 4 ∨ c = 5 ∨ c = 6 ∨ c = 7 ∨ c = 8 ∨ c = 9 ∨ c = 10 := by omega
  rcases this with rfl | rfl | rfl | rfl | rfl | rfl | rfl | rfl | rfl | rfl | rfl
  · exact .inl ⟨k0, f0, a0⟩
  · exact .inr (.inr (.inr (.inr ⟨k1, f1, a1⟩)))
  · exact .inr (.inr (.inr (.inl ⟨k2, f2, a2⟩)))
  · exact .inr (.inr (.inr (.inl ⟨k3, f3, a3⟩)))
  · exact .inr (.inr (.inl ⟨k4, f4, a4⟩))
  · exact .inr (.inr (.inl ⟨k5, f5, a5⟩))
  · exact .inr (.inr (.inl ⟨k6, f6, a6⟩))
  · exact .inr (.inr (.inl ⟨k7, f7, a7⟩))
  · exact .inr (.inr (.inr (.inl ⟨k8, f8, a8⟩)))
  · exact .inr (.inr (.inr (.inr ⟨k9, f9, a9⟩)))
  · exact .inr (.inl ⟨k10, f10, a10⟩)
theorem app_assoc (a b c : Str) : a ++ b ++ c = a ++ (b ++ c) := TL.ext_tl (by rw [TL.tl_append, TL.tl_append, TL.tl_append, TL.tl_append, List.append_assoc])
theorem same_line {c x y z : Int} (h : By [c, x, y, z]) : progLine [c, x, y, z] = lawLine [c, x, y, z] := by
  have hc := h c (by simp)
  have hx := h x (by simp)
  have hy := h y (by simp)
  have hz := h z (by simp)
  dsimp only [progLine, lawLine]
  by_cases c10 : c > 10
  · rw [if_pos (by omega), if_pos c10]
  rw [if_neg (by omega), if_neg c10]
  have e1 : (y + 256 * z) % 256 = y := by omega
  have e2 : (y + 256 * z) / 256 = z := by omega
  rcases five (c := c.toNat) (by omega) with ⟨k, f, a⟩ | ⟨k, f, a⟩ | ⟨k, f, a⟩ | ⟨k, f, a⟩ | ⟨k, f, a⟩
  all_goals simp only [k, f, a, opsP, if_true, if_false, nameB, fieldsP, fieldP, lawK, endL]
  all_goals simp [List.replicate, e1, e2, join1, join2, app_assoc]
  all_goals
    have q : ∀ {i : Int}, i < 8 ↔ ¬ 7 < i := fun {i} => by omega
    have q2 : ∀ {i : Int}, 8 ≤ i ↔ 7 < i := fun {i} => by omega
    simp only [q, q2, eq_comm (a := (0 : Int))]
    by_cases b1 : 7 < x <;> by_cases b2 : 7 < y <;> by_cases b3 : 7 < z <;> by_cases z1 : x = 0 <;> by_cases z2 : y = 0 <;> by_cases z3 : z = 0 <;> simp [b1, b2, b3, z1, z2, z3] <;> omega

/-! ### words and figures -/
open PySem.NumText PySem.W.KIN
abbrev digB (cs : List Nat) : Bool := cs.all fun c => decide (48 ≤ c ∧ c ≤ 57)
abbrev sgn (w : Str) : List Nat := w.cps.toList
abbrev valW (w : Str) : Nat := digitsVal (sgn w)
/-- the law's -/
def wordV (w : Str) (top : Nat) : Int := if digB (sgn w) = true ∧ w ≠ "" ∧ valW w ≤ top ∧ tS (valW w : Nat) = w then (valW w : Nat) else -1
/-- the program's -/
def operP (lim : Nat) (w : Str) : Option Int := if w = "" ∨ w.length > 5 ∨ digB (sgn w) = false then none else if (sgn w).head? = some 48 ∧ w ≠ "0" then none else if valW w < lim then some ((valW w : Nat) : Int) else none
theorem dig_all {cs : List Nat} : digB cs = true ↔ AllDigits cs := by
  unfold digB AllDigits
  rw [List.all_eq_true]
  exact forall_congr' fun c => forall_congr' fun _ => decide_eq_true_iff
theorem val_ge : ∀ (cs : List Nat) (a : Nat), a * 10 ^ cs.length ≤ cs.foldl (fun acc c => acc * 10 + (c - 48)) a
  | [], a => by simp
  | c :: cs, a => by
    have h := val_ge cs (a * 10 + (c - 48))
    rw [List.foldl_cons, List.length_cons, Nat.pow_succ]
    refine Nat.le_trans ?_ h
    rw [Nat.mul_comm (10 ^ cs.length) 10, ← Nat.mul_assoc]
    exact Nat.mul_le_mul_right _ (by omega)
theorem str_ext {a b : Str} (h : sgn a = sgn b) : a = b := TL.ext_tl h
theorem nil_iff {w : Str} : w = "" ↔ sgn w = [] := by
  constructor
  · rintro rfl
    decide +kernel
  · intro h
    exact str_ext (h.trans (by decide +kernel))
theorem back_nat {c : Nat} (h : 48 ≤ c ∧ c ≤ 57) : (Char.ofNat c).toNat = c := by
  have hw : ((List.range 58).all fun c => decide ((Char.ofNat c).toNat = c)) = true := by decide +kernel
  exact of_decide_eq_true (List.all_eq_true.mp hw c (List.mem_range.mpr (by omega)))
theorem map_back : ∀ {cs : List Nat}, AllDigits cs → (cs.map Char.ofNat).map Char.toNat = cs
  | [], _ => rfl
  | c :: cs, h => by
    rw [List.map_cons, List.map_cons, back_nat h.head, map_back h.tail]
theorem canon {w : Str} {c : Nat} {r : List Nat} (e : sgn w = c :: r) (h : AllDigits (c :: r)) : tS (valW w : Nat) = w ↔ ¬ (c = 48 ∧ w ≠ "0") := by
  have e0 : sgn "0" = [48] := by decide +kernel
  have st : sgn (tS (valW w : Nat)) = (Nat.toDigits 10 (digitsVal (c :: r))).map Char.toNat := by
    rw [← e]
    exact signs_num _
  by_cases c48 : c = 48
  · subst c48
    cases r with
    | nil =>
      have ew : w = "0" := str_ext (e.trans e0.symm)
      constructor
      · rintro _ ⟨_, z⟩
        exact z ew
      · intro _
        exact str_ext (st.trans (by rw [e]; decide +kernel))
    | cons d r =>
      constructor
      · intro z _
        rw [z, e, toDigits_all _ h] at st
        cases ed : (48 :: d :: r).dropWhile (· == 48) with
        | nil => rw [ed] at st; simp at st
        | cons x xs =>
          rw [ed] at st
          have hx : x ≠ 48 := fun zx => by
            have := List.head?_dropWhile_not (· == 48) (48 :: d :: r)
            rw [ed] at this
            simp [zx] at this
          have hd : AllDigits (x :: xs) := fun y hy => h y ((List.dropWhile_sublist _).subset (by rw [ed]; exact hy))
          have st : (48 : Nat) :: d :: r = ((x :: xs).map Char.ofNat).map Char.toNat := st
          rw [map_back hd] at st
          exact hx (List.cons.inj st).1.symm
      · intro z
        refine absurd ⟨rfl, fun zz => ?_⟩ z
        rw [zz, e0] at e
        cases e
  · constructor
    · intro _ z
      exact c48 z.1
    · intro _
      refine str_ext (st.trans ?_)
      have := h.head
      rw [toDigits_digitsVal r.length (c :: r) rfl h (Or.inr ⟨c, r, rfl, by omega⟩), map_back h, e]
theorem oper_eq {top : Nat} (ht : top < 100000) (w : Str) : operP (top + 1) w = if wordV w top < 0 then none else some (wordV w top) := by
  have e0 : sgn "0" = [48] := by decide +kernel
  have lw : w.length = (sgn w).length := Array.length_toList.symm
  have no : operP (top + 1) w = none → wordV w top = -1 → operP (top + 1) w = if wordV w top < 0 then none else some (wordV w top) := fun a b => by
    rw [a, b]
    rfl
  by_cases h0 : w = ""
  · exact no (if_pos (.inl h0)) (if_neg (fun z => z.2.1 h0))
  by_cases hd : digB (sgn w) = true
  rotate_left
  · exact no (if_pos (.inr (.inr (by simpa using hd)))) (if_neg (fun z => hd z.1))
  obtain ⟨c, r, e⟩ : ∃ c r, sgn w = c :: r := by
    cases e : sgn w with
    | nil => exact absurd (nil_iff.mpr e) h0
    | cons c r => exact ⟨c, r, rfl⟩
  have ha : AllDigits (c :: r) := by
    rw [← e]
    exact dig_all.mp hd
  have hc := canon e ha
  by_cases h5 : w.length > 5
  · refine no (if_pos (.inr (.inl h5))) (if_neg ?_)
    rintro ⟨_, _, z1, z2⟩
    have z := hc.mp z2
    have c48 : c ≠ 48 := fun zc => z ⟨zc, fun zz => by
      rw [lw, zz, e0] at h5
      exact absurd h5 (by decide)⟩
    have hh := ha.head
    have g := val_ge r (0 * 10 + (c - 48))
    have g2 : valW w = r.foldl (fun acc c => acc * 10 + (c - 48)) (0 * 10 + (c - 48)) := by
      show digitsVal (sgn w) = _
      rw [e]
      rfl
    rw [lw, e, List.length_cons] at h5
    have g3 : 10 ^ 5 ≤ 10 ^ r.length := Nat.pow_le_pow_right (by decide) (by omega)
    have g4 : 1 * 10 ^ r.length ≤ (0 * 10 + (c - 48)) * 10 ^ r.length := Nat.mul_le_mul_right _ (by omega)
    omega
  have o1 : operP (top + 1) w = (if (sgn w).head? = some 48 ∧ w ≠ "0" then none else if valW w < top + 1 then some ((valW w : Nat) : Int) else none : Option Int) := if_neg (by
    rintro (z | z | z)
    · exact h0 z
    · exact h5 z
    · rw [hd] at z
      cases z)
  by_cases hz : c = 48 ∧ w ≠ "0"
  · exact no (o1.trans (if_pos ⟨by rw [e, hz.1]; rfl, hz.2⟩)) (if_neg (fun z => hc.mp z.2.2.2 hz))
  · have o2 := o1.trans (if_neg (fun z => hz ⟨by rw [e] at z; exact Option.some.inj z.1, z.2⟩))
    by_cases hv : valW w ≤ top
    · have wv : wordV w top = (valW w : Nat) := if_pos ⟨hd, h0, hv, hc.mpr hz⟩
      rw [o2, wv, if_pos (by omega), if_neg (by omega)]
    · exact no (o2.trans (if_neg (by omega))) (if_neg (fun z => hv z.2.2.1))
theorem wordV_le (w : Str) (top : Nat) : wordV w top ≤ top := by
  unfold wordV
  split
  · rename_i h
    have := h.2.2.1
    omega
  · omega
/-! ### lines -/
def topC (k : Nat) : Nat := if k = 110 then 65535 else 7
def opsF (c : Nat) (ts : List Str) : List (Option Int) := ((formL c).zip ts).map fun p => operP (topC p.1 + 1) p.2
def codeAt (c : Nat) (ts : List Str) : Option (List Int) := if (opsF c ts).any (·.isNone) = true then none else some ((c : Int) :: fieldsP (formL c) ((opsF c ts).filterMap id))
def wIdx (s : Str) : Option Nat := (List.range 11).find? fun c => decide (wordS c = s)
def lineF (parts : List Str) : Option (List Int) := match wIdx (parts.headD "") with
  | none => none
  | some c => if parts.length = 1 + (formL c).length then codeAt c parts.tail else none
def lawFold : List Nat → List Str → List Int → Option (List Int)
  | [], _, f => some f
  | k :: ks, ts, f => if wordV (ts.headD "") (topC k) < 0 then none else lawFold ks ts.tail (f ++ [wordV (ts.headD "") (topC k) % 256] ++ if k = 110 then [wordV (ts.headD "") (topC k) / 256] else [])
def padF (f : List Int) : List Int := f ++ List.replicate (4 - f.length) 0
theorem word_inj {i j : Nat} (hi : i ≤ 10) (hj : j ≤ 10) (h : wordS i = wordS j) : i = j := by
  have hw : ((List.range 11).all fun a => (List.range 11).all fun b => decide (wordS a = wordS b → a = b)) = true := by decide +kernel
  exact of_decide_eq_true (List.all_eq_true.mp (List.all_eq_true.mp hw i (List.mem_range.mpr (by omega))) j (List.mem_range.mpr (by omega))) h
theorem wIdx_some {s : Str} {c : Nat} (h : wIdx s = some c) : c ≤ 10 ∧ wordS c = s := by
  have h1 := List.find?_some h
  have h2 := List.mem_of_find?_eq_some h
  exact ⟨by have := List.mem_range.mp h2; omega, by simpa using h1⟩
theorem wIdx_none {s : Str} (h : wIdx s = none) : ∀ c, c ≤ 10 → wordS c ≠ s := fun c hc z => by
  have := List.find?_eq_none.mp h c (List.mem_range.mpr (by omega))
  simp [z] at this
theorem wIdx_of {c : Nat} (h : c ≤ 10) : wIdx (wordS c) = some c := by
  cases e : wIdx (wordS c) with
  | none => exact absurd rfl (wIdx_none e c h)
  | some d =>
    obtain ⟨h1, h2⟩ := wIdx_some e
    rw [word_inj h1 h h2]
theorem kf_len {c : Nat} (h : c ≤ 10) : (kindL c).length = (formL c).length := by
  rcases five h with ⟨k, f, _⟩ | ⟨k, f, _⟩ | ⟨k, f, _⟩ | ⟨k, f, _⟩ | ⟨k, f, _⟩ <;> rw [k, f] <;> rfl
theorem lineF_hit {parts : List Str} {i : Nat} (hi : i ≤ 10) (h0 : wordS i = parts.headD "") (hl : parts.length = 1 + (formL i).length) : lineF parts = codeAt i parts.tail := by
  unfold lineF
  rw [← h0, wIdx_of hi]
  exact if_pos hl
theorem lineF_miss {parts : List Str} (h : ∀ j, j < 11 → ¬ (wordS j = parts.headD "" ∧ parts.length = 1 + (formL j).length)) : lineF parts = none := by
  unfold lineF
  cases e : wIdx (parts.headD "") with
  | none => rfl
  | some c =>
    obtain ⟨h1, h2⟩ := wIdx_some e
    exact if_neg fun z => h c (by omega) ⟨h2, z⟩
theorem law_code {c : Nat} (h : c ≤ 10) {ts : List Str} (hl : ts.length = (kindL c).length) : (lawFold (kindL c) ts [(c : Int)]).map padF = codeAt c ts := by
  have o7 : ∀ w, operP (7 + 1) w = if wordV w 7 < 0 then none else some (wordV w 7) := oper_eq (by decide)
  have o6 : ∀ w, operP (65535 + 1) w = if wordV w 65535 < 0 then none else some (wordV w 65535) := oper_eq (by decide)
  have m7 : ∀ w, ¬ wordV w 7 < 0 → wordV w 7 % 256 = wordV w 7 := fun w hw => by
    have := wordV_le w 7
    omega
  rcases five h with ⟨k, f, _⟩ | ⟨k, f, _⟩ | ⟨k, f, _⟩ | ⟨k, f, _⟩ | ⟨k, f, _⟩
  all_goals rw [k] at hl ⊢
  · match ts, hl with
    | [], _ => simp [lawFold, codeAt, opsF, f, padF, fieldsP, fieldP, List.replicate]
  · match ts, hl with
    | [x], _ =>
      by_cases hx : wordV x 7 < 0 <;> simp [lawFold, codeAt, opsF, f, padF, fieldsP, fieldP, topC, List.replicate, o7, hx, m7]
  · match ts, hl with
    | [x, y], _ =>
      by_cases hx : wordV x 7 < 0 <;> by_cases hy : wordV y 7 < 0 <;> simp [lawFold, codeAt, opsF, f, padF, fieldsP, fieldP, topC, List.replicate, o7, hx, hy, m7]
  · match ts, hl with
    | [x, y, z], _ =>
      by_cases hx : wordV x 7 < 0 <;> by_cases hy : wordV y 7 < 0 <;> by_cases hz : wordV z 7 < 0 <;> simp [lawFold, codeAt, opsF, f, padF, fieldsP, fieldP, topC, List.replicate, o7, hx, hy, hz, m7]
  · match ts, hl with
    | [x, y], _ =>
      by_cases hx : wordV x 7 < 0 <;> by_cases hy : wordV y 65535 < 0 <;> simp [lawFold, codeAt, opsF, f, padF, fieldsP, fieldP, topC, List.replicate, o7, o6, hx, hy, m7]
def partsF (line : Str) : List Str := Txt.split line " "
theorem sgn_blank : sgn " " = [32] := by decide +kernel
theorem parts_spl (line : Str) : (partsF line).map sgn = TL.spl [32] 0 [] (sgn line) := by
  have h := TL.split_spl line " " (by show sgn " " ≠ []; rw [sgn_blank]; simp) (TL.kind_ok (by decide +kernel))
  have e : TL.tl (" " : Str) = [32] := sgn_blank
  rw [e] at h
  exact h
theorem spl_blank {acc r : List Nat} : TL.spl [32] 0 acc (32 :: r) = acc :: TL.spl [32] 0 [] r := TL.spl_hit (by simp [TL.pre])
theorem spl_sign {acc r : List Nat} {c : Nat} (h : c ≠ 32) : TL.spl [32] 0 acc (c :: r) = TL.spl [32] 0 (acc ++ [c]) r := by
  show (if TL.pre [32] (c :: r) = true then _ else _) = _
  rw [if_neg]
  simp [TL.pre, Ne.symm h, h]
theorem fig_of (c : Nat) : Txt.find "0123456789" ⟨#[c]⟩ = if 48 ≤ c ∧ c ≤ 57 then ((c - 48 : Nat) : Int) else -1 := by
  have ed : sgn "0123456789" = [48, 49, 50, 51, 52, 53, 54, 55, 56, 57] := by decide +kernel
  by_cases h : 48 ≤ c ∧ c ≤ 57
  · rw [if_pos h]
    have : c = 48 ∨ c = 49 ∨ c = 50 ∨ c = 51 ∨ c = 52 ∨ c = 53 ∨ c = 54 ∨ c = 55 ∨ c = 56 ∨ c = 57 := by omega
    rcases this with rfl | rfl | rfl | rfl | rfl | rfl | rfl | rfl | rfl | rfl <;> decide +kernel
  · rw [if_neg h]
    have f := PySem.StrLaws.found_one "0123456789" c
    have nm : c ∉ ("0123456789" : Str).cps.toList := by
      show c ∉ sgn "0123456789"
      rw [ed]
      simp only [List.mem_cons, List.not_mem_nil, or_false]
      omega
    rw [decide_eq_false nm] at f
    unfold Txt.find
    split
    · rename_i i r e
      rw [e] at f
      simp at f
    · rfl

section

-- a condition of an operator
local macro_rules | `(tactic| walk_at "cond") => `(tactic| first
  | (show (0 : Int) < _; omega)
  | (show CDiv _ _; constructor <;> (first | decide | omega))
  | (show CMul _ _; first | (refine cmul_l ?_; constructor <;> (first | decide | omega)) | (refine cmul_r ?_; constructor <;> (first | decide | omega)))
  | (show CPow _ _; exact (by refine ⟨by decide, by decide, by decide⟩))
  | (show CDivW _ _; exact ⟨by decide, by decide +kernel⟩))
local macro_rules | `(tactic| walk_at "sq") => `(tactic| first | assumption | exact Dh.mono (same_upd (by assumption)) _ _ (by assumption) | exact .inl (.inl (.inl (by assumption))) | exact .inr (.inl (.inl (by assumption))) | exact SqL.of (by assumption) | exact .inl (by assumption) | exact .inl (SqL.of (by assumption)) | exact SqT.of (by assumption) | exact .inr (SqT.of (by assumption)))
local macro_rules | `(tactic| walk_at "st") => `(tactic| first
  | refine ⟨_, rfl, ?_⟩
  | refine ⟨_, _, rfl, rfl, ?_⟩
  | refine .inl ⟨_, rfl, ?_⟩
  | refine ⟨rfl, ?_⟩
  | refine ⟨_, _, rfl, by walk_at "sq", ?_⟩
  | refine ⟨.inl ⟨rfl, _, SqL.of (by assumption)⟩, ?_⟩
  | refine ⟨by walk_at "cond", ?_⟩
  | (refine' ifBT ?hh ?_; (case hh => first | rfl | assumption))
  | (refine' ifBF ?hh ?_; (case hh => first | rfl | assumption)))
local macro_rules | `(tactic| walk_at "go") => `(tactic| repeat walk_at "st")
local macro_rules | `(tactic| walk_at "yes") => `(tactic| (refine' ifT ?hh ?_; (case hh => first | rfl | decide +kernel)))
local macro_rules | `(tactic| walk_at "no") => `(tactic| (refine' ifF ?hh ?_; (case hh => first | decide +kernel | (intro z; cases z; done))))

local macro_rules | `(tactic| walk_at "st") => `(tactic| refine ⟨_, _, _, _, _, rfl, by assumption, by assumption, by omega, by omega, by omega, by omega, by omega, ?_⟩)
local macro_rules | `(tactic| walk_at "st") => `(tactic| refine ⟨_, _, _, _, _, rfl, Same.seq (by assumption) (by assumption), by assumption, by omega, by omega, by omega, by omega, by omega, ?_⟩)

/-! ### BadLine, names_registers, fields, line_of, disassemble -/
abbrev s_BadLine_init : Stmt := inClass (topS 7) 0
theorem sn_BadLine_init : NScope ["self", "number", "__class__"] ["self", "number"] ["__class__"] (C8.fnScope s_BadLine_init) := nscope_by (by decide +kernel)
theorem no_fly {P : Program} {w : World} {l : List Env} {H : Hp} {s s' : Shared} {e : Value} {p : Prop} (c : L2.CX P w l H s (fun _ _ _ => False) e s') : p := by
  obtain ⟨_, _, _, _, _, _, _, _, _, _, _, _, z⟩ := c
  exact z.elim
def blF (i : Int) : List (Str × V) := [("number", .int i)]
def spBL (D : Addr) : Sp := fun vs H Q _ => ∃ (a : Addr) (i : Int), vs = [.ref a, .int i] ∧ H a = some (exo a D none) ∧ i.natAbs.log2 < 1920 ∧
  ∀ dx, H dx = none → dx ≠ a → Q .non (upd (upd H dx (exd dx (blF i))) a (exo a D (some dx)))
theorem sz3 {n : Nat} (h : n ≤ 10000) : n ≤ sizeLine := by
  rw [sizeLine_eq]
  omega
theorem len_ap {a b : Str} {m n : Nat} (ha : a.length ≤ m) (hb : b.length ≤ n) : (a ++ b).length ≤ m + n := by
  rw [Str.length_append]
  omega
theorem log_le {i : Int} (h : i.natAbs < 2 ^ 100) : i.natAbs.log2 < 1920 := by
  by_cases e : i.natAbs = 0
  · rw [e]
    decide
  · exact (Nat.log2_lt e).mpr (Nat.lt_of_lt_of_le h (Nat.pow_le_pow_right (by decide) (by decide)))
theorem log_sm {i : Int} (h0 : 0 ≤ i) (h1 : i ≤ 1000000000) : i.natAbs.log2 < 1920 := log_le (Nat.lt_of_le_of_lt (show i.natAbs ≤ 1000000000 by omega) (by decide +kernel))
theorem tS_len {i : Int} (h0 : 0 ≤ i) (h1 : i ≤ 1000000000) : (tS i).length ≤ 1921 := int_text_len_1921 (log_sm h0 h1)
section
variable {P : Program} {w : World} {K : PySem.W.Frag} {mg : Str → Option Value} {base : Heap}
theorem ok_BadLine {F : NF} {f D cc : Addr} {dV kV doc pm ctv : Value} {an : Option Addr} {q : Str} {cl : List (Str × Addr)} {c : Addr} (U : SupAt P K mg (NF.of s_BadLine_init "__init__" q cl c) f D cc "self" dV kV doc pm ctv an)
    (nS : PySem.W.findIn K (.ref D) "number" = some none) :
    FnOk P w K mg base (L2.CX P w) 1 f (PySem.W.fnX "__init__" q (C8.fnArgs s_BadLine_init) (C8.fnBody s_BadLine_init) (C8.fnScope s_BadLine_init) cl dV kV doc pm an (.ref c) ctv) ["self", "number"] (spBL D) := by
  refine fn_sup (F := NF.of s_BadLine_init "__init__" q cl c) (N := ["self", "number", "__class__"]) sn_BadLine_init U rfl (by rfl) (fun vs H Q E h => ?_) (fun A outer s H vs Q E hr h => ?_)
  · obtain ⟨a, i, rfl, _⟩ := h
    rfl
  obtain ⟨a, i, rfl, ha, hi, q⟩ := h
  refine ⟨_, _, pa_cons (pe_joined (.cons pe_str (.cons (pe_fmt (pv 1)) (.cons pe_str .nil)))) pa_nil, pss_one (ps_ost (pv 0) (pv 1)), a, rfl, ha, ?_⟩
  have l1 := len_ap (show Str.empty.length ≤ 0 by decide +kernel) (show ("line " : Str).length ≤ 50 by decide +kernel)
  have l2 := len_ap l1 (int_text_len_1921 hi)
  have l3 := len_ap l2 (show (" is not an instruction" : Str).length ≤ 50 by decide +kernel)
  refine ⟨_, rfl, sz3 (Nat.le_trans l1 (by decide)), ?_⟩
  refine ⟨_, rfl, .inr ⟨i, rfl, hi, _, rfl, sz3 (Nat.le_trans l2 (by decide)), ?_⟩⟩
  refine ⟨_, rfl, sz3 (Nat.le_trans l3 (by decide)), ?_⟩
  refine ⟨(by show 1 ≤ 1000; decide), ha, _, rfl, _, rfl, a, D, rfl, U.exc, nS, .inl ⟨ha, fun dx nd ne => q dx nd ne⟩⟩
end
/-- what the top has of words -/
structure TxtW (K : PySem.W.Frag) (mg : Str → Option Value) (F : Addr) : Prop extends Txt mg where
  all : mg "all" = none
  zip : mg "zip" = none
  enumerate : mg "enumerate" = none
  REG : ∃ t, mg "REGISTERS" = some (.int 8 t)
  WL : ∃ t, mg "WORD_LIMIT" = some (.int 65536 t)
  DIG : ∃ t, mg "DIGITS" = some (.str "0123456789" t)
  FORMS : mg "FORMS" = some (.ref F)
  tab : ∃ rs : List Addr, rs.length = 11 ∧ (∀ H, SqT K H F (rs.map V.ref)) ∧ ∀ i r, rs[i]? = some r → ∀ H, SqT K H r [.str (wordS i), .str (formS i)]
theorem allQ {X : Cx} (K : PySem.W.Frag) (h : X.K = K) (hc : X.calm = true) : CallR X (.builtin "all") (rAll K) := by
  subst h
  exact cr_all hc
theorem walk_zipS {K : PySem.W.Frag} {x : Str} {b : Addr} {ys : List V} {n : Nat} (hn : n = min x.cps.size ys.length) : Walk (ItzS K x b) n (fun H => SqL K H b ys) (YPair (fun i => (x.cps[i]?).map fun c => V.str ⟨#[c]⟩) (fun i => ys[i]?)) := by
  subst hn
  refine ⟨fun i H hi q => ?_, fun H q => ⟨ys, q, by omega, by omega, by omega⟩, fun i H v H' hi q y => ?_⟩
  · have h1 : i < x.cps.size := by omega
    have h2 : i < ys.length := by omega
    exact ⟨ys, x.cps[i], ys[i], q, by simp [h1], by simp [h2]⟩
  · obtain ⟨T, c, z, e1, e2, e3, e4, e5⟩ := y
    exact ⟨T, .str ⟨#[c]⟩, z, e1, e2, e3, by show (x.cps[i]?).map _ = _; rw [e4]; rfl, e5 ys q⟩

end

section

-- a condition of an operator
local macro_rules | `(tactic| walk_at "cond") => `(tactic| first
  | (show (0 : Int) < _; omega)
  | (show CDiv _ _; constructor <;> (first | decide | omega))
  | (show CMul _ _; first | (refine cmul_l ?_; constructor <;> (first | decide | omega)) | (refine cmul_r ?_; constructor <;> (first | decide | omega)))
  | (show CPow _ _; exact (by refine ⟨by decide, by decide, by decide⟩))
  | (show CDivW _ _; exact ⟨by decide, by decide +kernel⟩))
local macro_rules | `(tactic| walk_at "sq") => `(tactic| first | assumption | exact Dh.mono (same_upd (by assumption)) _ _ (by assumption) | exact .inl (.inl (.inl (by assumption))) | exact .inr (.inl (.inl (by assumption))) | exact SqL.of (by assumption) | exact .inl (by assumption) | exact .inl (SqL.of (by assumption)) | exact SqT.of (by assumption) | exact .inr (SqT.of (by assumption)))
local macro_rules | `(tactic| walk_at "st") => `(tactic| first
  | refine ⟨_, rfl, ?_⟩
  | refine ⟨_, _, rfl, rfl, ?_⟩
  | refine .inl ⟨_, rfl, ?_⟩
  | refine ⟨rfl, ?_⟩
  | refine ⟨_, _, rfl, by walk_at "sq", ?_⟩
  | refine ⟨.inl ⟨rfl, _, SqL.of (by assumption)⟩, ?_⟩
  | refine ⟨by walk_at "cond", ?_⟩
  | (refine' ifBT ?hh ?_; (case hh => first | rfl | assumption))
  | (refine' ifBF ?hh ?_; (case hh => first | rfl | assumption)))
local macro_rules | `(tactic| walk_at "go") => `(tactic| repeat walk_at "st")
local macro_rules | `(tactic| walk_at "yes") => `(tactic| (refine' ifT ?hh ?_; (case hh => first | rfl | decide +kernel)))
local macro_rules | `(tactic| walk_at "no") => `(tactic| (refine' ifF ?hh ?_; (case hh => first | decide +kernel | (intro z; cases z; done))))

local macro_rules | `(tactic| walk_at "st") => `(tactic| refine ⟨_, _, _, _, _, rfl, by assumption, by assumption, by omega, by omega, by omega, by omega, by omega, ?_⟩)
local macro_rules | `(tactic| walk_at "st") => `(tactic| refine ⟨_, _, _, _, _, rfl, Same.seq (by assumption) (by assumption), by assumption, by omega, by omega, by omega, by omega, by omega, ?_⟩)

/-! ### fields -/
abbrev s_fields : Stmt := topS 17
theorem sc_fields : FnScope ["form", "operands", "fields", "letter", "operand"] ["form", "operands"] (C8.fnScope s_fields) := C8.fnScope_by (by decide +kernel)
theorem fieldP_le (form : List Nat) (ops : List Int) : (fieldP form ops).length ≤ 2 * form.length := by
  unfold fieldP
  induction form generalizing ops with
  | nil => simp
  | cons f fs ih =>
    cases ops with
    | nil => simp
    | cons o os =>
      rw [List.zip_cons_cons, List.flatMap_cons, List.length_append, List.length_cons]
      have := ih os
      split
      · show 2 + _ ≤ _
        omega
      · show 1 + _ ≤ _
        omega
theorem zip_take {α β : Type} : ∀ (xs : List α) (ys : List β) (n : Nat), (xs.take n).zip (ys.take n) = (xs.zip ys).take n
  | [], _, _ => by simp
  | _ :: _, [], n => by simp
  | _ :: _, _ :: _, 0 => rfl
  | x :: xs, y :: ys, n + 1 => congrArg ((x, y) :: ·) (zip_take xs ys n)
theorem sign_n (c : Nat) : V.str ⟨#[c]⟩ = V.str "n" ↔ c = 110 := by
  have e : ("n" : Str).cps = #[110] := by decide +kernel
  constructor
  · intro h
    have h := V.str.inj h
    have h : (#[c] : Array Nat) = ("n" : Str).cps := congrArg Str.cps h
    rw [e] at h
    simpa using h
  · rintro rfl
    exact congrArg V.str (TL.ext_tl (by show [110] = ("n" : Str).cps.toList; rw [e]))
theorem fieldP_snoc {form : List Nat} {ops : List Int} {i : Nat} {c : Nat} {o : Int} (h1 : form[i]? = some c) (h2 : ops[i]? = some o) : fieldP (form.take (i + 1)) (ops.take (i + 1)) = fieldP (form.take i) (ops.take i) ++ (if c = 110 then [o % 256, o / 256] else [o]) := by
  unfold fieldP
  rw [zip_take, zip_take, List.take_add_one, List.getElem?_zip_eq_some (z := (c, o)) |>.mpr ⟨h1, h2⟩, List.flatMap_append]
  congr 1
  simp
theorem fieldP_all (form : List Nat) (ops : List Int) : fieldP (form.take (min form.length ops.length)) (ops.take (min form.length ops.length)) = fieldP form ops := by
  unfold fieldP
  rw [zip_take, List.take_of_length_le (by rw [List.length_zip]; exact Nat.le_refl _)]
section
variable {P : Program} {w : World} {K : PySem.W.Frag} {mg : Str → Option Value} {base : Heap} {FM : Addr}
def spFlds : Sp := fun vs H Q _ => ∃ (form : Str) (p : Addr) (ops : List Int), vs = [.str form, .ref p] ∧ H p = some (.lst (ops.map V.int)) ∧ form.cps.size ≤ 10 ∧ (∀ o ∈ ops, 0 ≤ o) ∧ ∀ (r : Addr) (H' : Hp), Same H H' → H r = none → H' r = some (.lst ((fieldsP form.cps.toList ops).map V.int)) → Q (.ref r) H'
theorem ok_flds {f : Addr} {fd : FuncData} (D : Def K mg "_fields" s_fields f fd) (b : Binds K fd ["form", "operands"] []) (T : TxtW K mg FM) : Cal P w K mg base 1 "_fields" spFlds [] := by
  refine cal0 D b .nil sc_fields (fun vs H Q E h => ?_) (fun cdv A outer s H vs Q E hr h => ?_)
  · obtain ⟨form, p, ops, rfl, _⟩ := h
    rfl
  obtain ⟨form, p, ops, rfl, gp, lf, on, q⟩ := h
  refine ⟨_, (pss_cons (ps_set (i := 2) sc_fields.nd rfl (.inl rfl) (pe_lst pa_nil))
      (pss_cons (ps_mk (ps_for PassesOwn.never rfl (pi_zipS (by rfl) T.zip (pa_cons (pv 0) (pa_cons (pv 1) pa_nil))) (pg_tup rfl (pgs_cons (pg_name (i := 3) sc_fields.nd rfl (.inl rfl)) (pgs_cons (pg_name (i := 4) sc_fields.nd rfl (.inl rfl)) pgs_nil)))
      (pss_one (ps_expr (pe_bm PySem.F.plainAttrs_list PySem.F.slot_list_extend PySem.F.type_list_extend mt_extend (pv 2) (pa_cons (pe_ifExp (pt_cmpR op_eq (pv 3) pe_str (nomark _)) (pe_lst (pa_cons (pe_op op_mod (pv 4) pe_int) (pa_cons (pe_op op_fdiv (pv 4) pe_int) pa_nil))) (pe_lst (pa_cons (pv 4) pa_nil))) pa_nil))))))
      (pss_one (ps_ret (pe_op op_cat (pv 2) (pe_op op_rep (pe_lst (pa_cons pe_int pa_nil)) (pe_op op_sub pe_int (pe_callB (lenQ K rfl) (by rfl) T.len PySem.boot_len (pa_cons (pv 2) pa_nil))))))))), ?_⟩
  walk_at "go"
  refine ⟨sz, fun L nL => ?_⟩
  have s1 := same_upd (o := HO.lst []) nL
  have gL := upd_same (H := H) (a := L) (o := HO.lst [])
  have gp1 := s1 _ _ gp
  generalize upd H L (HO.lst []) = H1 at *
  refine jnS (M := fun σ H' => ∃ y3 y4, Same H H' ∧ H' L = some (.lst ((fieldP form.cps.toList ops).map V.int)) ∧ σ = [sS form, sR p, sR L, y3, y4]) ?_ (fun N kk => ?_)
  rotate_left
  · walk_at "go"
    refine ⟨form, p, _, rfl, SqL.of gp1, ?_⟩
    refine for_it (walk_zipS (K := K) (x := form) (b := p) (ys := ops.map V.int) (n := min form.cps.toList.length ops.length) (by rw [Array.length_toList, List.length_map])) (fun i σ H' => Ob (∃ y3 y4, Same H H' ∧ H' L = some (.lst ((fieldP (form.cps.toList.take i) (ops.take i)).map V.int)) ∧ σ = [sS form, sR p, sR L, y3, y4])) (ob ⟨none, none, s1, gL, rfl⟩) (fun i σ H' _ h => ?_) ?_ ?_
    · obtain ⟨_, _, s2, _⟩ := unob h
      exact SqL.of (s2 _ _ gp)
    · intro i x σ H2 H3 hi h hy
      obtain ⟨y3, y4, s2, g2, rfl⟩ := unob h
      clear h kk
      obtain ⟨TT, x1, x2, rfl, nT, rfl, e1, e2⟩ := hy
      have h1 : i < form.cps.toList.length := by omega
      have h2 : i < ops.length := by omega
      have h1' : i < form.cps.size := by rw [← Array.length_toList]; exact h1
      have e1 : (form.cps[i]?).map (fun c => V.str ⟨#[c]⟩) = some x1 := e1
      have e2 : (ops.map V.int)[i]? = some x2 := e2
      rw [Array.getElem?_eq_getElem h1'] at e1
      rw [List.getElem?_map, List.getElem?_eq_getElem h2] at e2
      obtain rfl := Option.some.inj e1
      obtain rfl := Option.some.inj e2
      have st := fieldP_snoc (form := form.cps.toList) (ops := ops) (i := i) (c := form.cps[i]) (o := ops[i]) (by rw [List.getElem?_eq_getElem h1, Array.getElem_toList]) (List.getElem?_eq_getElem h2)
      have o0 := on _ (List.getElem_mem h2)
      have fl := fieldP_le (form.cps.toList.take i) (ops.take i)
      rw [List.length_take] at fl
      have lfs : form.cps.toList.length = form.cps.size := Array.length_toList
      generalize form.cps[i] = c at *
      generalize ops[i] = o at *
      have s3 := same_upd (o := HO.tup [V.str ⟨#[c]⟩, V.int o]) nT
      have gT := upd_same (H := H2) (a := TT) (o := HO.tup [V.str ⟨#[c]⟩, V.int o])
      have g3 := s3 _ _ g2
      have s23 := s2.trans s3
      generalize upd H2 TT (HO.tup [V.str ⟨#[c]⟩, V.int o]) = H3 at *
      rw [st]
      refine ⟨TT, _, rfl, SqT.of gT, rfl, ?_⟩
      refine ⟨_, _, rfl, ?_⟩
      refine ⟨_, _, rfl, ?_⟩
      walk_at "go"
      by_cases c1 : c = 110
      · refine ifT ((sign_n c).mpr c1) ?_
        rw [if_pos c1]
        walk_at "go"
        refine ⟨sz, fun r nr => ?_⟩
        have s4 := same_upd (o := HO.lst [V.int (o % 256), V.int (o / 256)]) nr
        refine ⟨L, r, _, _, rfl, rfl, s4 _ _ g3, upd_same, Nat.le_of_lt (sz5 (by rw [List.length_map]; show _ + 2 ≤ _; omega)), ?_⟩
        exact ob ⟨_, _, same_put (s23.trans s4) nL, by rw [upd_same, List.map_append]; rfl, rfl⟩
      · refine ifF (fun z => c1 ((sign_n c).mp z)) ?_
        rw [if_neg c1]
        walk_at "go"
        refine ⟨sz, fun r nr => ?_⟩
        have s4 := same_upd (o := HO.lst [V.int o]) nr
        refine ⟨L, r, _, _, rfl, rfl, s4 _ _ g3, upd_same, Nat.le_of_lt (sz5 (by rw [List.length_map]; show _ + 1 ≤ _; omega)), ?_⟩
        exact ob ⟨_, _, same_put (s23.trans s4) nL, by rw [upd_same, List.map_append]; rfl, rfl⟩
    · intro σ H2 h
      obtain ⟨y3, y4, s2, g2, rfl⟩ := unob h
      rw [fieldP_all] at g2
      exact kk _ _ ⟨y3, y4, s2, g2, rfl⟩
  rintro σ H2 ⟨y3, y4, s2, g2, rfl⟩
  walk_at "go"
  refine ⟨sz, fun r nr => ?_⟩
  have s3 := same_upd (o := HO.lst [V.int 0]) nr
  have gr := upd_same (H := H2) (a := r) (o := HO.lst [V.int 0])
  have g3 := s3 _ _ g2
  have s23 := s2.trans s3
  generalize upd H2 r (HO.lst [V.int 0]) = H3 at *
  have fl := fieldP_le form.cps.toList ops
  have lfs : form.cps.toList.length = form.cps.size := Array.length_toList
  walk_at "go"
  rw [List.length_map]
  refine ⟨r, _, [V.int 0], rfl, rfl, gr, by omega, by omega, Nat.le_of_lt (sz5 (by show 1 * _ ≤ _; omega)), fun r2 nr2 => ?_⟩
  have e0 : (List.replicate ((3 : Int) - ((fieldP form.cps.toList ops).length : Nat)).toNat [V.int 0]).flatten = (List.replicate (3 - (fieldP form.cps.toList ops).length) (0 : Int)).map V.int := by
    rw [show ((3 : Int) - ((fieldP form.cps.toList ops).length : Nat)).toNat = 3 - (fieldP form.cps.toList ops).length by omega, List.map_replicate]
    generalize 3 - (fieldP form.cps.toList ops).length = k
    induction k with
    | zero => rfl
    | succ k ih => rw [List.replicate_succ, List.flatten_cons, ih, List.replicate_succ]; rfl
  rw [e0]
  have s4 := same_upd (o := HO.lst ((List.replicate (3 - (fieldP form.cps.toList ops).length) (0 : Int)).map V.int)) nr2
  have gr2 := upd_same (H := H3) (a := r2) (o := HO.lst ((List.replicate (3 - (fieldP form.cps.toList ops).length) (0 : Int)).map V.int))
  have g4 := s4 _ _ g3
  have s24 := s23.trans s4
  generalize upd H3 r2 (HO.lst ((List.replicate (3 - (fieldP form.cps.toList ops).length) (0 : Int)).map V.int)) = H4 at *
  refine ⟨L, r2, _, _, rfl, rfl, g4, gr2, Nat.le_of_lt (sz5 (by rw [List.length_map, List.length_map, List.length_replicate]; omega)), fun r3 nr3 => ?_⟩
  rw [← List.map_append]
  exact q r3 _ (s24.trans (same_upd nr3)) (s24.free nr3) upd_same
end

end

section

-- a condition of an operator
local macro_rules | `(tactic| walk_at "cond") => `(tactic| first
  | (show (0 : Int) < _; omega)
  | (show CDiv _ _; constructor <;> (first | decide | omega))
  | (show CMul _ _; first | (refine cmul_l ?_; constructor <;> (first | decide | omega)) | (refine cmul_r ?_; constructor <;> (first | decide | omega)))
  | (show CPow _ _; exact (by refine ⟨by decide, by decide, by decide⟩))
  | (show CDivW _ _; exact ⟨by decide, by decide +kernel⟩))
local macro_rules | `(tactic| walk_at "sq") => `(tactic| first | assumption | exact Dh.mono (same_upd (by assumption)) _ _ (by assumption) | exact .inl (.inl (.inl (by assumption))) | exact .inr (.inl (.inl (by assumption))) | exact SqL.of (by assumption) | exact .inl (by assumption) | exact .inl (SqL.of (by assumption)) | exact SqT.of (by assumption) | exact .inr (SqT.of (by assumption)))
local macro_rules | `(tactic| walk_at "st") => `(tactic| first
  | refine ⟨_, rfl, ?_⟩
  | refine ⟨_, _, rfl, rfl, ?_⟩
  | refine .inl ⟨_, rfl, ?_⟩
  | refine ⟨rfl, ?_⟩
  | refine ⟨_, _, rfl, by walk_at "sq", ?_⟩
  | refine ⟨.inl ⟨rfl, _, SqL.of (by assumption)⟩, ?_⟩
  | refine ⟨by walk_at "cond", ?_⟩
  | (refine' ifBT ?hh ?_; (case hh => first | rfl | assumption))
  | (refine' ifBF ?hh ?_; (case hh => first | rfl | assumption)))
local macro_rules | `(tactic| walk_at "go") => `(tactic| repeat walk_at "st")
local macro_rules | `(tactic| walk_at "yes") => `(tactic| (refine' ifT ?hh ?_; (case hh => first | rfl | decide +kernel)))
local macro_rules | `(tactic| walk_at "no") => `(tactic| (refine' ifF ?hh ?_; (case hh => first | decide +kernel | (intro z; cases z; done))))

local macro_rules | `(tactic| walk_at "st") => `(tactic| refine ⟨_, _, _, _, _, rfl, by assumption, by assumption, by omega, by omega, by omega, by omega, by omega, ?_⟩)
local macro_rules | `(tactic| walk_at "st") => `(tactic| refine ⟨_, _, _, _, _, rfl, Same.seq (by assumption) (by assumption), by assumption, by omega, by omega, by omega, by omega, by omega, ?_⟩)

/-! ### operand -/
abbrev s_operand : Stmt := topS 16
theorem sc_operand : FnScope ["letter", "text", "limit", "sign"] ["letter", "text"] (C8.fnScope s_operand) := C8.fnScope_by (by decide +kernel)
def oI : Option Int → V
  | none => .non
  | some i => .int i
abbrev dgB (c : Nat) : Bool := decide (c ∈ ("0123456789" : Str).cps.toList)
theorem dg_eq (c : Nat) : dgB c = decide (48 ≤ c ∧ c ≤ 57) := by
  have ed : ("0123456789" : Str).cps.toList = [48, 49, 50, 51, 52, 53, 54, 55, 56, 57] := by decide +kernel
  unfold dgB
  rw [ed, decide_eq_decide]
  simp only [List.mem_cons, List.not_mem_nil, or_false]
  omega
theorem dg_all (cs : List Nat) : (cs.map dgB).all id = digB cs := by
  rw [List.all_map]
  exact congrArg cs.all (funext fun c => dg_eq c)
theorem sign_0 (c : Nat) : V.str ⟨#[c]⟩ = V.str "0" ↔ c = 48 := by
  have e : ("0" : Str).cps = #[48] := by decide +kernel
  constructor
  · intro h
    have h := V.str.inj h
    have h : (#[c] : Array Nat) = ("0" : Str).cps := congrArg Str.cps h
    rw [e] at h
    simpa using h
  · rintro rfl
    exact congrArg V.str (TL.ext_tl (by show [48] = ("0" : Str).cps.toList; rw [e]))
def spOper : Sp := fun vs H Q _ => ∃ (c : Nat) (w : Str), vs = [.str ⟨#[c]⟩, .str w] ∧ w.length ≤ 100000 ∧ ∀ H', Same H H' → Q (oI (operP (topC c + 1) w)) H'
section
variable {P : Program} {w : World} {K : PySem.W.Frag} {mg : Str → Option Value} {base : Heap} {FM : Addr}
theorem ok_oper {f : Addr} {fd : FuncData} (D : Def K mg "_operand" s_operand f fd) (b : Binds K fd ["letter", "text"] []) (T : TxtW K mg FM) : Cal P w K mg base 1 "_operand" spOper [] := by
  obtain ⟨tR, TRG⟩ := T.REG
  obtain ⟨tW, TWL⟩ := T.WL
  obtain ⟨tD, TDG⟩ := T.DIG
  refine cal0 D b .nil sc_operand (fun vs H Q E h => ?_) (fun cdv A outer s H vs Q E hr h => ?_)
  · obtain ⟨c, t, rfl, _⟩ := h
    rfl
  obtain ⟨c, t, rfl, ht, q⟩ := h
  refine ⟨_, (pss_cons (ps_set (i := 2) sc_operand.nd rfl (.inl rfl) (pe_ifExp (pt_cmpR op_eq (pv 0) pe_str (nomark _)) (pe_glob (v := V.int 65536) (by rfl) TWL ⟨_, rfl⟩) (pe_glob (v := V.int 8) (by rfl) TRG ⟨_, rfl⟩)))
      (pss_cons (ps_mk (ps_if (PW.pt (pw_or (pt_cmpR op_eq (pv 1) pe_str (nomark _)) (pw_or (pt_cmpR op_gt (pe_callB call_len_str (by rfl) T.len PySem.boot_len (pa_cons (pv 1) pa_nil)) pe_int (nomark _)) (pw_or1 (pt_not (pt_val (pe_callB (allQ K rfl rfl) (by rfl) T.all (by decide +kernel) (pa_cons (pe_lc (own := [("sign", 3)]) (g := gName 3) (tt := tYes) rfl sc_operand.nd (pi_str (pv 1)) (blkOk_by (own := [("sign", 3)]) (N := ["letter", "text", "limit", "sign"]) (sc := C8.fnScope s_operand) (by decide +kernel)) (fun _ _ _ _ _ => (pg_name (i := 3) sc_operand.nd rfl (.inl rfl))) (fun _ _ _ _ _ => pts_nil) (fun _ _ _ _ _ => (pe_cmpR op_in_sign (pv 3) (pe_glob (v := V.str "0123456789") (by rfl) TDG ⟨_, rfl⟩) (by rfl)))) pa_nil))))))))
      (pss_one (ps_ret pe_non))
      pss_nil))
      (pss_cons (ps_mk (ps_if (PW.pt (pw_and (pt_cmpR op_eq (pe_ix ix_str (pv 1) pe_int (fun _ _ => rfl)) pe_str (nomark _)) (pw_and1 (pt_cmpR op_ne (pv 1) pe_str (nomark _)))))
      (pss_one (ps_ret pe_non))
      pss_nil))
      (pss_one (ps_ret (pe_ifExp (pt_cmpR op_lt (pe_callTy call_int_str (by rfl) T.int (by decide +kernel) (pa_cons (pv 1) pa_nil)) (pv 2) (nomark _)) (pe_callTy call_int_str (by rfl) T.int (by decide +kernel) (pa_cons (pv 1) pa_nil)) pe_non)))))), ?_⟩
  walk_at "go"
  by_cases c1 : c = 110
  case' pos =>
    refine ifT ((sign_n c).mpr c1) ?_
    generalize hL : (65536 : Int) = L
    have hL2 : L = ((topC c + 1 : Nat) : Int) := by
      rw [topC, if_pos c1, ← hL]
      rfl
    walk_at "go"
  case' neg =>
    refine ifF (fun z => c1 ((sign_n c).mp z)) ?_
    generalize hL : (8 : Int) = L
    have hL2 : L = ((topC c + 1 : Nat) : Int) := by
      rw [topC, if_neg c1, ← hL]
      rfl
    walk_at "go"
  all_goals
    clear hL
    subst hL2
    generalize topC c + 1 = lim at *
    refine jnS (M := fun σ H' => Same H H' ∧ (t ≠ "" ∧ ¬ t.length > 5 ∧ digB (sgn t) = true) ∧ σ = [some (.str ⟨#[c]⟩), sS t, sI (lim : Nat), none]) ?_ (fun N kk => ?_)
    rotate_left
    · walk_at "go"
      refine ifD (fun z => ?_) (fun h0 => ?_)
      · walk_at "go"
        rw [show operP lim t = none from if_pos (.inl (V.str.inj z))] at q
        exact q _ same_rfl
      walk_at "go"
      refine ⟨by rw [sizeLine_eq]; omega, ?_⟩
      walk_at "go"
      refine ifD (fun z => ?_) (fun h5 => ?_)
      · walk_at "go"
        rw [show operP lim t = none from if_pos (.inr (.inl (by omega)))] at q
        exact q _ same_rfl
      walk_at "go"
      refine fun L nL => lc_it (walk_str (z := t)) (fun i H' => Ob (Same H H' ∧ H' L = some (.lst ((((sgn t).take i).map dgB).map V.bl)))) (ob ⟨same_upd nL, upd_same⟩) (fun _ _ _ _ => trivial) ?_ ?_
      · intro i v H2 H3 hi h hy
        obtain ⟨s2, g2⟩ := unob h
        clear h kk
        obtain ⟨rfl, d, ed, rfl⟩ := hy
        have hil : i < (sgn t).length := by
          show i < t.cps.toList.length
          rw [Array.length_toList]
          exact hi
        have ed2 : (sgn t)[i]? = some d := by
          show t.cps.toList[i]? = some d
          rw [Array.getElem?_toList]
          exact ed
        rw [List.take_add_one, ed2, List.map_append, List.map_append]
        refine ⟨rfl, ?_⟩
        refine ⟨_, rfl, ?_⟩
        refine ⟨d, _, rfl, rfl, ?_⟩
        refine ⟨_, g2, sz5 (by rw [List.length_map, List.length_map, List.length_take]; exact Nat.le_trans (Nat.min_le_right _ _) (by show t.cps.toList.length ≤ _; rw [Array.length_toList]; exact Nat.le_trans ht (by decide))), ?_⟩
        exact ob ⟨same_put s2 nL, upd_same⟩
      intro H2 h
      obtain ⟨s2, g2⟩ := unob h
      clear h
      have le : t.cps.size = (sgn t).length := Array.length_toList.symm
      rw [le, List.take_length] at g2
      try dsimp only
      refine ⟨L, _, rfl, SqL.of g2, ?_⟩
      rw [dg_all]
      walk_at "go"
      cases hd : digB (sgn t) with
      | true =>
        walk_at "go"
        exact kk _ _ ⟨s2, ⟨fun z => h0 (congrArg V.str z), by omega, hd⟩, rfl⟩
      | false =>
        walk_at "go"
        rw [show operP lim t = none from if_pos (.inr (.inr hd))] at q
        exact q _ s2
    rintro σ H1 ⟨s1, ⟨h0, h5, hd⟩, rfl⟩
    obtain ⟨d, r, e⟩ : ∃ c r, sgn t = c :: r := by
      cases e : sgn t with
      | nil => exact absurd (nil_iff.mpr e) h0
      | cons c r => exact ⟨c, r, rfl⟩
    have lt : t.length = (sgn t).length := Array.length_toList.symm
    have hI : intText? t = some ((valW t : Nat) : Int) := intText_digits (dig_all.mp hd) (by rw [show t.cps.toList = d :: r from e]; simp) (by omega)
    have o1 : operP lim t = (if (sgn t).head? = some 48 ∧ t ≠ "0" then none else if valW t < lim then some ((valW t : Nat) : Int) else none : Option Int) := if_neg (by
      rintro (z | z | z)
      · exact h0 z
      · exact h5 z
      · rw [hd] at z
        cases z)
    refine jnS (M := fun σ H' => H' = H1 ∧ ¬ ((sgn t).head? = some 48 ∧ t ≠ "0") ∧ σ = [some (.str ⟨#[c]⟩), sS t, sI (lim : Nat), none]) ?_ (fun N kk => ?_)
    rotate_left
    · walk_at "go"
      refine ⟨t, _, d, rfl, rfl, by rw [sizeLine_eq]; omega, atI_nat (j := 0) (v := d) (by show (sgn t)[0]? = _; rw [e]; rfl), ?_⟩
      walk_at "go"
      by_cases d48 : d = 48
      · subst d48
        refine ifT ((sign_0 48).mpr rfl) ?_
        walk_at "go"
        by_cases t0 : t = "0"
        · show if (!decide (V.str t = V.str "0")) = true then _ else _
          rw [if_neg (by rw [t0]; decide +kernel)]
          walk_at "go"
          exact kk _ _ ⟨rfl, fun z => z.2 t0, rfl⟩
        · show if (!decide (V.str t = V.str "0")) = true then _ else _
          rw [if_pos (show (!decide (V.str t = V.str "0")) = true by rw [decide_eq_false (fun z => t0 (V.str.inj z))]; rfl)]
          walk_at "go"
          rw [o1, if_pos ⟨by rw [e]; rfl, t0⟩] at q
          exact q _ s1
      · refine ifF (fun z => d48 ((sign_0 d).mp z)) ?_
        walk_at "go"
        exact kk _ _ ⟨rfl, fun z => d48 (by rw [e] at z; exact Option.some.inj z.1), rfl⟩
    rintro σ H2 ⟨rfl, hz, rfl⟩
    rw [o1, if_neg hz] at q
    walk_at "go"
    refine ⟨by omega, ?_⟩
    walk_at "go"
    refine ifD (fun z => ?_) (fun z => ?_)
    · walk_at "go"
      refine ⟨by omega, ?_⟩
      rw [if_pos (by omega)] at q
      exact q _ s1
    · walk_at "go"
      rw [if_neg (by omega)] at q
      exact q _ s1
end

end

section

-- a condition of an operator
local macro_rules | `(tactic| walk_at "cond") => `(tactic| first
  | (show (0 : Int) < _; omega)
  | (show CDiv _ _; constructor <;> (first | decide | omega))
  | (show CMul _ _; first | (refine cmul_l ?_; constructor <;> (first | decide | omega)) | (refine cmul_r ?_; constructor <;> (first | decide | omega)))
  | (show CPow _ _; exact (by refine ⟨by decide, by decide, by decide⟩))
  | (show CDivW _ _; exact ⟨by decide, by decide +kernel⟩))
local macro_rules | `(tactic| walk_at "sq") => `(tactic| first | assumption | exact Dh.mono (same_upd (by assumption)) _ _ (by assumption) | exact .inl (.inl (.inl (by assumption))) | exact .inr (.inl (.inl (by assumption))) | exact SqL.of (by assumption) | exact .inl (by assumption) | exact .inl (SqL.of (by assumption)) | exact SqT.of (by assumption) | exact .inr (SqT.of (by assumption)))
local macro_rules | `(tactic| walk_at "st") => `(tactic| first
  | refine ⟨_, rfl, ?_⟩
  | refine ⟨_, _, rfl, rfl, ?_⟩
  | refine .inl ⟨_, rfl, ?_⟩
  | refine ⟨rfl, ?_⟩
  | refine ⟨_, _, rfl, by walk_at "sq", ?_⟩
  | refine ⟨.inl ⟨rfl, _, SqL.of (by assumption)⟩, ?_⟩
  | refine ⟨by walk_at "cond", ?_⟩
  | (refine' ifBT ?hh ?_; (case hh => first | rfl | assumption))
  | (refine' ifBF ?hh ?_; (case hh => first | rfl | assumption)))
local macro_rules | `(tactic| walk_at "go") => `(tactic| repeat walk_at "st")
local macro_rules | `(tactic| walk_at "yes") => `(tactic| (refine' ifT ?hh ?_; (case hh => first | rfl | decide +kernel)))
local macro_rules | `(tactic| walk_at "no") => `(tactic| (refine' ifF ?hh ?_; (case hh => first | decide +kernel | (intro z; cases z; done))))

local macro_rules | `(tactic| walk_at "st") => `(tactic| refine ⟨_, _, _, _, _, rfl, by assumption, by assumption, by omega, by omega, by omega, by omega, by omega, ?_⟩)
local macro_rules | `(tactic| walk_at "st") => `(tactic| refine ⟨_, _, _, _, _, rfl, Same.seq (by assumption) (by assumption), by assumption, by omega, by omega, by omega, by omega, by omega, ?_⟩)

/-! ### code_of -/
abbrev s_code_of : Stmt := topS 15
theorem sc_code_of : FnScope ["line", "words", "code", "word", "form", "operands", "letter", "text"] ["line"] (C8.fnScope s_code_of) := C8.fnScope_by (by decide +kernel)
theorem form_len {c : Nat} (h : c ≤ 10) : (formS c).cps.size ≤ 3 ∧ (formS c).length ≤ 3 ∧ (wordS c).length ≤ 10 := by
  have hw : ((List.range 11).all fun c => decide ((formS c).cps.size ≤ 3 ∧ (formS c).length ≤ 3 ∧ (wordS c).length ≤ 10)) = true := by decide +kernel
  exact of_decide_eq_true (List.all_eq_true.mp hw c (List.mem_range.mpr (by omega)))
theorem cut1 (x : V) (xs : List V) : cutV (x :: xs) (some 1) none = xs := by
  unfold cutV
  have e : HT.sIx (x :: xs).length 0 (some 1) = 1 := by
    simp [HT.sIx]
  have e2 : HT.sIx (x :: xs).length (x :: xs).length none = (x :: xs).length := rfl
  rw [e, e2]
  simp
theorem code_len {c : Nat} {ts : List Str} {bs : List Int} (h : codeAt c ts = some bs) (hc : c ≤ 10) : 1 ≤ bs.length ∧ bs.length ≤ 20 := by
  unfold codeAt at h
  split at h
  · cases h
  · obtain rfl := Option.some.inj h
    have h1 := fieldP_le (formL c) ((opsF c ts).filterMap id)
    have h2 : (formL c).length ≤ 3 := by
      rcases five hc with ⟨_, f, _⟩ | ⟨_, f, _⟩ | ⟨_, f, _⟩ | ⟨_, f, _⟩ | ⟨_, f, _⟩ <;> rw [f] <;> decide
    rw [List.length_cons]
    unfold fieldsP
    rw [List.length_append, List.length_replicate]
    omega
theorem line_len {parts : List Str} {bs : List Int} (h : lineF parts = some bs) : 1 ≤ bs.length ∧ bs.length ≤ 20 := by
  unfold lineF at h
  cases e : wIdx (parts.headD "") with
  | none => rw [e] at h; cases h
  | some c =>
    rw [e] at h
    have h : (if parts.length = 1 + (formL c).length then codeAt c parts.tail else none) = some bs := h
    split at h
    · exact code_len h (wIdx_some e).1
    · cases h
theorem spl_ne : ∀ (S : List Nat) (k : Nat) (acc r : List Nat), TL.spl S k acc r ≠ []
  | S, k, acc, [] => by
    rw [TL.spl_nil]
    simp
  | S, 0, acc, c :: r => by
    rw [TL.spl]
    split
    · simp
    · exact spl_ne S 0 _ r
  | S, k + 1, acc, c :: r => by
    rw [TL.spl]
    exact spl_ne S k acc r
theorem spl_len : ∀ (S : List Nat) (k : Nat) (acc r : List Nat), ∀ x ∈ TL.spl S k acc r, x.length ≤ acc.length + r.length
  | S, k, acc, [], x, h => by
    rw [TL.spl_nil] at h
    obtain rfl := List.mem_singleton.mp h
    exact Nat.le_add_right _ _
  | S, 0, acc, c :: r, x, h => by
    rw [TL.spl] at h
    split at h
    · rcases List.mem_cons.mp h with rfl | h
      · exact Nat.le_add_right _ _
      · have := spl_len S _ [] r x h
        rw [List.length_nil] at this
        rw [List.length_cons]
        omega
    · have := spl_len S 0 _ r x h
      rw [List.length_append, List.length_singleton] at this
      rw [List.length_cons]
      omega
  | S, k + 1, acc, c :: r, x, h => by
    rw [TL.spl] at h
    have := spl_len S k acc r x h
    rw [List.length_cons]
    omega
theorem parts_len {line p : Str} (h : p ∈ partsF line) : p.length ≤ line.length := by
  have h1 : sgn p ∈ (partsF line).map sgn := List.mem_map.mpr ⟨p, h, rfl⟩
  rw [parts_spl] at h1
  have h2 := spl_len _ _ _ _ _ h1
  rw [List.length_nil, Nat.zero_add] at h2
  have e1 : p.length = (sgn p).length := Array.length_toList.symm
  have e2 : line.length = (sgn line).length := Array.length_toList.symm
  omega
theorem parts_ne (line : Str) : ∃ p0 ts, partsF line = p0 :: ts := by
  have h := parts_spl line
  cases e : partsF line with
  | nil =>
    rw [e] at h
    exact absurd h.symm (spl_ne _ _ _ _)
  | cons a b => exact ⟨a, b, rfl⟩
theorem in_none : ∀ os : List (Option Int), inV .non (os.map oI) = os.any (·.isNone)
  | [] => rfl
  | none :: os => rfl
  | some i :: os => by
    have h := in_none os
    unfold inV at h ⊢
    rw [List.map_cons, List.any_cons, List.any_cons, h]
    rfl
theorem flat_oI : ∀ os : List (Option Int), (os.map oI).all flatV = true
  | [] => rfl
  | none :: os => flat_oI os
  | some i :: os => flat_oI os
theorem all_some : ∀ os : List (Option Int), os.any (·.isNone) = false → os.map oI = (os.filterMap id).map V.int
  | [], _ => rfl
  | none :: os, h => by cases h
  | some i :: os, h => by
    have h2 := all_some os h
    rw [List.map_cons, h2]
    rfl
theorem oper_nn {l : Nat} {w : Str} {v : Int} (h : operP l w = some v) : 0 ≤ v := by
  unfold operP at h
  split at h
  · cases h
  · split at h
    · cases h
    · split at h
      · obtain rfl := Option.some.inj h
        omega
      · cases h
theorem opsF_get {c j : Nat} {ts : List Str} {k : Nat} {t : Str} (h1 : (formL c)[j]? = some k) (h2 : ts[j]? = some t) : (opsF c ts)[j]? = some (operP (topC k + 1) t) := by
  unfold opsF
  rw [List.getElem?_map, List.getElem?_zip_eq_some (z := (k, t)) |>.mpr ⟨h1, h2⟩]
  rfl
theorem opsF_nn {c : Nat} {ts : List Str} : ∀ o ∈ (opsF c ts).filterMap id, 0 ≤ o := fun o ho => by
  obtain ⟨x, hx, ex⟩ := List.mem_filterMap.mp ho
  obtain ⟨p, _, ep⟩ := List.mem_map.mp hx
  obtain rfl : x = some o := ex
  exact oper_nn ep
def spCode : Sp := fun vs H Q _ => ∃ (line : Str), vs = [.str line] ∧ line.length ≤ 10000 ∧ (∀ H', Same H H' → lineF (partsF line) = none → Q .non H') ∧
  ∀ bs, lineF (partsF line) = some bs → ∀ (p : Addr) (H' : Hp), Same H H' → H p = none → H' p = some (.lst (bs.map V.int)) → Q (.ref p) H'
section
variable {P : Program} {w : World} {K : PySem.W.Frag} {mg : Str → Option Value} {base : Heap} {FM : Addr}
theorem ok_code {f : Addr} {fd : FuncData} (D : Def K mg "_code_of" s_code_of f fd) (b : Binds K fd ["line"] []) (T : TxtW K mg FM) (c__operand : Cal P w K mg base 1 "_operand" spOper []) (c__fields : Cal P w K mg base 1 "_fields" spFlds []) : Cal P w K mg base 2 "_code_of" spCode [] := by
  obtain ⟨rs, lrs, hF, hr'⟩ := T.tab
  refine cal0 D b .nil sc_code_of (fun vs H Q E h => ?_) (fun cdv A outer s H vs Q E hr h => ?_)
  · obtain ⟨line, rfl, _⟩ := h
    rfl
  obtain ⟨line, rfl, hl, q1, q2⟩ := h
  refine ⟨_, (pss_cons (ps_set (i := 1) sc_code_of.nd rfl (.inl rfl) (pe_split (pv 0) pe_str))
      (pss_cons (ps_mk (ps_for PassesOwn.never rfl (pi_enumT (by rfl) T.enumerate (pa_cons (pe_glob (v := V.ref FM) (by rfl) T.FORMS rfl) pa_nil)) (pg_tup rfl (pgs_cons (pg_name (i := 2) sc_code_of.nd rfl (.inl rfl)) (pgs_cons (pg_tup rfl (pgs_cons (pg_name (i := 3) sc_code_of.nd rfl (.inl rfl)) (pgs_cons (pg_name (i := 4) sc_code_of.nd rfl (.inl rfl)) pgs_nil))) pgs_nil)))
      (pss_one (ps_mk (ps_if (PW.pt (pw_and (pt_cmpR op_eq (pv 3) (pe_ix (ixL K rfl) (pv 1) pe_int (fun _ _ => rfl)) (nomark _)) (pw_and1 (pt_cmpR op_eq (pe_callB (lenQ K rfl) (by rfl) T.len PySem.boot_len (pa_cons (pv 1) pa_nil)) (pe_op op_add pe_int (pe_callB call_len_str (by rfl) T.len PySem.boot_len (pa_cons (pv 4) pa_nil))) (nomark _)))))
      (pss_cons (ps_setLc (i := 5) (own := [("letter", 6), ("text", 7)]) (g := gTup K 2 (gCons (gName 6) (gCons (gName 7) gNil))) (tt := tYes) rfl sc_code_of.nd rfl rfl (sw_true rfl rfl rfl (by decide +kernel)) (pi_zipS (by rfl) T.zip (pa_cons (pv 4) (pa_cons (pe_slice sl_list (pv 1) (po_some pe_int) po_none) pa_nil))) (blkOk_by (own := [("letter", 6), ("text", 7)]) (N := ["line", "words", "code", "word", "form", "operands", "letter", "text"]) (sc := C8.fnScope s_code_of) (by decide +kernel)) (fun _ _ _ _ _ => (pg_tup rfl (pgs_cons (pg_name (i := 6) sc_code_of.nd rfl (.inl rfl)) (pgs_cons (pg_name (i := 7) sc_code_of.nd rfl (.inl rfl)) pgs_nil)))) (fun _ _ _ _ _ => pts_nil) (fun _ _ _ _ _ => (C8.pe_c c__operand hr (by omega) (by rfl) (pa_cons (pv 6) (pa_cons (pv 7) pa_nil)))))
      (pss_one (ps_ret (pe_ifExp (pt_cmpR op_in_seq pe_non (pv 5) (by rfl)) pe_non (pe_op op_cat (pe_lst (pa_cons (pv 2) pa_nil)) (C8.pe_c c__fields hr (by omega) (by rfl) (pa_cons (pv 4) (pa_cons (pv 5) pa_nil))))))))
      pss_nil)))))
      (pss_one (ps_ret pe_non)))), ?_⟩
  obtain ⟨p0, ts, ep⟩ := parts_ne line
  have lb : (" " : Str).length = 1 := by decide +kernel
  walk_at "go"
  refine ⟨⟨line, rfl⟩, ?_⟩
  refine ⟨line, " ", rfl, rfl, by rw [lb]; rfl, by rw [sizeLine_eq]; omega, fun W nW => ?_⟩
  rw [show Txt.split line " " = p0 :: ts from ep]
  have lp : ∀ t ∈ p0 :: ts, t.length ≤ 10000 := fun t h => Nat.le_trans (parts_len (line := line) (by rw [ep]; exact h)) hl
  rw [ep] at q1 q2
  have s1 := same_upd (o := HO.lst ((p0 :: ts).map V.str)) nW
  have gW := upd_same (H := H) (a := W) (o := HO.lst ((p0 :: ts).map V.str))
  generalize upd H W (HO.lst ((p0 :: ts).map V.str)) = H1 at *
  try dsimp only
  walk_at "go"
  refine jnS (M := fun σ H' => Same H H' ∧ lineF (p0 :: ts) = none ∧ ∃ y2 y3 y4 y5 y6 y7, σ = [sS line, sR W, y2, y3, y4, y5, y6, y7]) ?_ (fun N kk => ?_)
  · rintro σ H2 ⟨s2, el, y2, y3, y4, y5, y6, y7, rfl⟩
    walk_at "go"
    exact q1 _ s2 el
  walk_at "go"
  refine ⟨FM, _, rfl, hF _, ?_⟩
  refine for_it (walk_enumT (K := K) (a := FM) (xs := rs.map V.ref)) (fun i σ H' => Ob (Same H1 H' ∧ (∀ j, j < i → ¬ (wordS j = p0 ∧ ts.length = (formL j).length)) ∧ ∃ y2 y3 y4 y5 y6 y7, σ = [sS line, sR W, y2, y3, y4, y5, y6, y7])) (ob ⟨same_rfl, fun _ z => by omega, none, none, none, none, none, none, rfl⟩) (fun _ _ H _ _ => hF H) ?_ ?_
  rotate_left
  · intro σ H2 h
    obtain ⟨s2, hm, y2, y3, y4, y5, y6, y7, rfl⟩ := unob h
    rw [List.length_map, lrs] at hm
    refine kk _ _ ⟨s1.trans s2, lineF_miss (fun j hj z => hm j hj ⟨z.1, by have := z.2; rw [List.length_cons] at this; omega⟩), _, _, _, _, _, _, rfl⟩
  intro i v σ H2 H3 hi h hy
  obtain ⟨s2, hm, y2, y3, y4, y5, y6, y7, rfl⟩ := unob h
  clear h kk
  obtain ⟨TT, x1, x2, rfl, nT, rfl, e1, e2⟩ := hy
  rw [List.length_map, lrs] at hi
  have hri : rs[i]? = some rs[i] := List.getElem?_eq_getElem (by omega)
  have e2 : (rs.map V.ref)[i]? = some x2 := e2
  rw [List.getElem?_map, hri] at e2
  obtain rfl := Option.some.inj e2
  obtain rfl := Option.some.inj e1
  have hrow := hr' i _ hri
  generalize rs[i] = r at *
  have s3 := same_upd (o := HO.tup [V.int (i : Nat), V.ref r]) nT
  have gT := upd_same (H := H2) (a := TT) (o := HO.tup [V.int (i : Nat), V.ref r])
  have s23 := s2.trans s3
  clear s3 s2
  generalize upd H2 TT (HO.tup [V.int (i : Nat), V.ref r]) = H3 at *
  have gW3 := s23 _ _ gW
  refine ⟨TT, _, rfl, SqT.of gT, rfl, ?_⟩
  refine ⟨_, _, rfl, ?_⟩
  refine ⟨_, _, rfl, ?_⟩
  refine ⟨r, _, rfl, hrow _, rfl, ?_⟩
  refine ⟨_, _, rfl, ?_⟩
  refine ⟨_, _, rfl, ?_⟩
  refine ⟨rfl, ?_⟩
  refine ⟨rfl, ?_⟩
  have hfl : (formL i).length = (formS i).length := Array.length_toList
  have fl3 := (form_len (c := i) (by omega)).2.1
  refine un ?_
  walk_at "go"
  refine ⟨W, _, _, _, rfl, rfl, SqL.of gW3, atI_nat (j := 0) rfl, ?_⟩
  walk_at "go"
  have miss : ¬ (wordS i = p0 ∧ ts.length = (formL i).length) → Ob (Same H1 H3 ∧ (∀ j, j < i + 1 → ¬ (wordS j = p0 ∧ ts.length = (formL j).length)) ∧ ∃ z2 z3 z4 z5 z6 z7, [sS line, sR W, sI (i : Nat), sS (wordS i), sS (formS i), y5, y6, y7] = [sS line, sR W, z2, z3, z4, z5, z6, z7]) := fun z => ob ⟨s23, fun j hj => by
    by_cases ej : j = i
    · rw [ej]
      exact z
    · exact hm j (by omega), _, _, _, _, _, _, rfl⟩
  by_cases w0 : wordS i = p0
  rotate_left
  · refine ifF (fun z => w0 (V.str.inj z)) ?_
    walk_at "go"
    exact miss fun z => w0 z.1
  refine ifT (congrArg V.str w0) ?_
  walk_at "go"
  refine ⟨by rw [sizeLine_eq]; omega, ?_⟩
  walk_at "go"
  refine ifEq (fun z => ?_) (fun z => ?_)
  rotate_left
  · walk_at "go"
    exact miss fun y => z (by rw [List.length_map, List.length_cons, y.2, hfl]; omega)
  have lts : ts.length = (formL i).length := by
    rw [List.length_map, List.length_cons] at z
    omega
  have eL : lineF (p0 :: ts) = codeAt i ts := lineF_hit (by omega) w0 (by rw [List.length_cons, lts]; omega)
  rw [eL] at q1 q2
  clear miss hm z gT
  walk_at "go"
  intro S nS
  rw [show cutV ((p0 :: ts).map V.str) (some 1) none = ts.map V.str from cut1 _ _]
  have s4 := (s1.trans s23).trans (same_upd (o := HO.lst (ts.map V.str)) nS)
  have gS := upd_same (H := H3) (a := S) (o := HO.lst (ts.map V.str))
  clear gW gW3 s23 s1 nT
  generalize upd H3 S (HO.lst (ts.map V.str)) = H4 at *
  try dsimp only
  walk_at "go"
  refine ⟨formS i, S, _, rfl, SqL.of gS, fun L nL => ?_⟩
  have szf : (formS i).cps.size = (formL i).length := Array.length_toList.symm
  have lop : (opsF i ts).length = (formL i).length := by
    unfold opsF
    rw [List.length_map, List.length_zip, lts, Nat.min_self]
  refine lc_it (walk_zipS (K := K) (x := formS i) (b := S) (ys := ts.map V.str) (n := (formL i).length) (by rw [List.length_map, szf, lts, Nat.min_self])) (fun j H' => Ob (Same H4 H' ∧ H' L = some (.lst (((opsF i ts).take j).map oI)))) (ob ⟨same_upd nL, upd_same⟩) (fun j H' _ h => SqL.of ((unob h).1 _ _ gS)) ?_ ?_
  · intro j v H5 H6 hj h hy
    obtain ⟨s5, g5⟩ := unob h
    clear h
    obtain ⟨TU, y1, yy, rfl, nU, rfl, e1, e2⟩ := hy
    have h1' : j < (formS i).cps.size := by omega
    have h2 : j < ts.length := by omega
    have e1 : ((formS i).cps[j]?).map (fun c => V.str ⟨#[c]⟩) = some y1 := e1
    have e2 : (ts.map V.str)[j]? = some yy := e2
    rw [Array.getElem?_eq_getElem h1'] at e1
    rw [List.getElem?_map, List.getElem?_eq_getElem h2] at e2
    obtain rfl := Option.some.inj e1
    obtain rfl := Option.some.inj e2
    have eo := opsF_get (c := i) (j := j) (ts := ts) (k := (formS i).cps[j]) (t := ts[j]) (by show (formS i).cps.toList[j]? = _; rw [Array.getElem?_toList, Array.getElem?_eq_getElem h1']) (List.getElem?_eq_getElem h2)
    have lt := lp _ (List.mem_cons_of_mem p0 (List.getElem_mem h2))
    rw [List.take_add_one, eo, List.map_append]
    generalize (formS i).cps[j] = c at *
    generalize ts[j] = t at *
    have s6 := same_upd (o := HO.tup [V.str ⟨#[c]⟩, V.str t]) nU
    have gU := upd_same (H := H5) (a := TU) (o := HO.tup [V.str ⟨#[c]⟩, V.str t])
    have g6 := s6 _ _ g5
    have s56 := s5.trans s6
    generalize upd H5 TU (HO.tup [V.str ⟨#[c]⟩, V.str t]) = H6 at *
    refine ⟨TU, _, rfl, SqT.of gU, rfl, ?_⟩
    refine ⟨_, _, rfl, ?_⟩
    refine ⟨_, _, rfl, ?_⟩
    refine ⟨rfl, ?_⟩
    refine ⟨rfl, ?_⟩
    walk_at "go"
    refine ⟨c, t, rfl, by omega, fun H7 s7 => ?_⟩
    refine ⟨_, s7 _ _ g6, sz5 (by rw [List.length_map, List.length_take, lop]; omega), ?_⟩
    exact ob ⟨same_put (s56.trans s7) nL, upd_same⟩
  intro H5 h
  obtain ⟨s5, g5⟩ := unob h
  clear h
  rw [← lop, List.take_length] at g5
  have s45 := s4.trans s5
  try dsimp only
  walk_at "go"
  refine ⟨flat_oI _, ?_⟩
  walk_at "go"
  show if (inV .non ((opsF i ts).map oI)) = true then _ else _
  rw [in_none]
  have eC : codeAt i ts = if (opsF i ts).any (·.isNone) = true then none else some ((i : Int) :: fieldsP (formL i) ((opsF i ts).filterMap id)) := rfl
  cases ha : (opsF i ts).any (·.isNone) with
  | true =>
    rw [if_pos rfl]
    walk_at "go"
    rw [if_pos ha] at eC
    exact q1 _ s45 eC
  | false =>
    rw [if_neg (by decide)]
    rw [if_neg (by rw [ha]; decide)] at eC
    rw [all_some _ ha] at g5
    walk_at "go"
    refine ⟨sz, fun B nB => ?_⟩
    have s6 := same_upd (o := HO.lst [V.int (i : Nat)]) nB
    have gB := upd_same (H := H5) (a := B) (o := HO.lst [V.int (i : Nat)])
    have g6 := s6 _ _ g5
    have s46 := s45.trans s6
    generalize upd H5 B (HO.lst [V.int (i : Nat)]) = H6 at *
    walk_at "go"
    refine ⟨formS i, L, (opsF i ts).filterMap id, rfl, g6, by omega, opsF_nn, fun r H7 s7 nr gr => ?_⟩
    change H7 r = some (.lst ((fieldsP (formL i) ((opsF i ts).filterMap id)).map V.int)) at gr
    have cl := code_len eC (by omega)
    rw [List.length_cons] at cl
    refine ⟨B, r, _, _, rfl, rfl, s7 _ _ gB, gr, Nat.le_of_lt (sz5 (by rw [List.length_map]; show 1 + _ ≤ _; omega)), fun p np => ?_⟩
    exact q2 _ eC p _ (s46.trans (s7.trans (same_upd np))) ((s46.trans s7).free np) upd_same
end

end

section

-- a condition of an operator
local macro_rules | `(tactic| walk_at "cond") => `(tactic| first
  | (show (0 : Int) < _; omega)
  | (show CDiv _ _; constructor <;> (first | decide | omega))
  | (show CMul _ _; first | (refine cmul_l ?_; constructor <;> (first | decide | omega)) | (refine cmul_r ?_; constructor <;> (first | decide | omega)))
  | (show CPow _ _; exact (by refine ⟨by decide, by decide, by decide⟩))
  | (show CDivW _ _; exact ⟨by decide, by decide +kernel⟩))
local macro_rules | `(tactic| walk_at "sq") => `(tactic| first | assumption | exact Dh.mono (same_upd (by assumption)) _ _ (by assumption) | exact .inl (.inl (.inl (by assumption))) | exact .inr (.inl (.inl (by assumption))) | exact SqL.of (by assumption) | exact .inl (by assumption) | exact .inl (SqL.of (by assumption)) | exact SqT.of (by assumption) | exact .inr (SqT.of (by assumption)))
local macro_rules | `(tactic| walk_at "st") => `(tactic| first
  | refine ⟨_, rfl, ?_⟩
  | refine ⟨_, _, rfl, rfl, ?_⟩
  | refine .inl ⟨_, rfl, ?_⟩
  | refine ⟨rfl, ?_⟩
  | refine ⟨_, _, rfl, by walk_at "sq", ?_⟩
  | refine ⟨.inl ⟨rfl, _, SqL.of (by assumption)⟩, ?_⟩
  | refine ⟨by walk_at "cond", ?_⟩
  | (refine' ifBT ?hh ?_; (case hh => first | rfl | assumption))
  | (refine' ifBF ?hh ?_; (case hh => first | rfl | assumption)))
local macro_rules | `(tactic| walk_at "go") => `(tactic| repeat walk_at "st")
local macro_rules | `(tactic| walk_at "yes") => `(tactic| (refine' ifT ?hh ?_; (case hh => first | rfl | decide +kernel)))
local macro_rules | `(tactic| walk_at "no") => `(tactic| (refine' ifF ?hh ?_; (case hh => first | decide +kernel | (intro z; cases z; done))))

local macro_rules | `(tactic| walk_at "st") => `(tactic| refine ⟨_, _, _, _, _, rfl, by assumption, by assumption, by omega, by omega, by omega, by omega, by omega, ?_⟩)
local macro_rules | `(tactic| walk_at "st") => `(tactic| refine ⟨_, _, _, _, _, rfl, Same.seq (by assumption) (by assumption), by assumption, by omega, by omega, by omega, by omega, by omega, ?_⟩)

/-! ### assemble -/
abbrev s_assemble : Stmt := topS 14
theorem sc_assemble : FnScope ["lines", "data", "number", "line", "code"] ["lines"] (C8.fnScope s_assemble) := C8.fnScope_by (by decide +kernel)
def asm : List Str → Nat → Nat ⊕ List Int
  | [], _ => .inr []
  | l :: ls, i => match lineF (partsF l) with
    | none => .inl i
    | some bs => match asm ls (i + 1) with
      | .inl p => .inl p
      | .inr xs => .inr (bs ++ xs)
def preB (ds : List Int) : Nat ⊕ List Int → Nat ⊕ List Int
  | .inl p => .inl p
  | .inr xs => .inr (ds ++ xs)
theorem asm_some {l : Str} {ls : List Str} {i : Nat} {bs ds : List Int} (h : lineF (partsF l) = some bs) : preB ds (asm (l :: ls) i) = preB (ds ++ bs) (asm ls (i + 1)) := by
  rw [asm, h]
  cases asm ls (i + 1) with
  | inl p => rfl
  | inr xs => exact congrArg Sum.inr (by rw [List.append_assoc])
theorem asm_none {l : Str} {ls : List Str} {i : Nat} {ds : List Int} (h : lineF (partsF l) = none) : preB ds (asm (l :: ls) i) = .inl i := by
  rw [asm, h]
  rfl
theorem preB_nil (x : Nat ⊕ List Int) : preB [] x = x := by
  cases x <;> rfl
theorem asm_len : ∀ {ls : List Str} {i : Nat} {ds : List Int}, asm ls i = .inr ds → ds.length ≤ 20 * ls.length
  | [], i, ds, h => by
    rw [asm] at h
    obtain rfl := Sum.inr.inj h
    exact Nat.le_refl _
  | l :: ls, i, ds, h => by
    rw [asm] at h
    cases e : lineF (partsF l) with
    | none => rw [e] at h; cases h
    | some bs =>
      rw [e] at h
      cases e2 : asm ls (i + 1) with
      | inl p => rw [e2] at h; cases h
      | inr xs =>
        rw [e2] at h
        obtain rfl := Sum.inr.inj h
        have := asm_len e2
        have := (line_len e).2
        rw [List.length_append, List.length_cons]
        omega
abbrev asm0 (lines : List Str) : Nat ⊕ List Int := asm lines 0
def spAsm (U : Addr) : Sp := fun vs H Q E => ∃ (a : Addr) (lines : List Str), vs = [.ref a] ∧ H a = some (.lst (lines.map V.str)) ∧ (∀ l ∈ lines, l.length ≤ 10000) ∧ lines.length ≤ 1000 ∧
  (∀ ds, asm0 lines = .inr ds → ∀ (p : Addr) (H' : Hp), Same H H' → H p = none → H' p = some (.lst (ds.map V.int)) → Q (.ref p) H') ∧
  (∀ i, asm0 lines = .inl i → ∀ (d : Addr) (H' : Hp), Same H H' → H' d = some (.xd (blF (i : Nat))) → E (.ref U) (some d) H')
section
variable {P : Program} {w : World} {K : PySem.W.Frag} {mg : Str → Option Value} {base : Heap} {FM : Addr}
theorem ok_asm {U f2 : Addr} {fd2 : FuncData} (B : FnOk P w K mg base (L2.CX P w) 1 f2 fd2 ["self", "number"] (spBL U)) (O : OexC K U) (iC : PySem.W.findIn K (.ref U) "__init__" = some (some (.ref f2))) (tI : PySem.W.typeIn K (.ref f2) = some (.type "function"))
    (hb : Binds K fd2 ["self", "number"] []) (mD : mg "BadLine" = some (.ref U)) {f : Addr} {fd : FuncData} (Df : Def K mg "assemble" s_assemble f fd) (b : Binds K fd ["lines"] []) (T : TxtW K mg FM) (c__code_of : Cal P w K mg base 2 "_code_of" spCode []) : CalE P w K mg base 3 "assemble" (spAsm U) := by
  refine calE Df b sc_assemble (fun vs H Q E h => ?_) (fun cdv A outer s H vs Q E hr h => ?_)
  · obtain ⟨a, lines, rfl, _⟩ := h
    rfl
  obtain ⟨a, lines, rfl, ga, hll, hl, q1, q2⟩ := h
  refine ⟨_, (pss_cons (ps_set (i := 1) sc_assemble.nd rfl (.inl rfl) (pe_lst pa_nil))
      (pss_cons (ps_mk (ps_for (passes_of rfl) rfl (pi_enum (by rfl) T.enumerate (pa_cons (pv 0) pa_nil)) (pg_tup rfl (pgs_cons (pg_name (i := 2) sc_assemble.nd rfl (.inl rfl)) (pgs_cons (pg_name (i := 3) sc_assemble.nd rfl (.inl rfl)) pgs_nil)))
      (pss_cons (ps_set (i := 4) sc_assemble.nd rfl (.inl rfl) (C8.pe_c c__code_of hr (by omega) (by rfl) (pa_cons (pv 3) pa_nil)))
      (pss_cons (ps_mk (ps_if (pt_cmpR op_isN (pv 4) pe_non (nomark _))
      (pss_one (ps_raise rfl (takes_of rfl rfl rfl rfl) (pmk_oex O iC tI B hr hb .nil (fun _ _ _ _ e s' _ c => no_fly c) rfl mD (pa_cons (pv 2) pa_nil))))
      pss_nil))
      (pss_one (ps_expr (pe_bm PySem.F.plainAttrs_list PySem.F.slot_list_extend PySem.F.type_list_extend mt_extend (pv 1) (pa_cons (pv 4) pa_nil))))))))
      (pss_one (ps_ret (pv 1))))), ?_⟩
  walk_at "go"
  refine ⟨sz, fun L nL => ?_⟩
  have s1 := same_upd (o := HO.lst []) nL
  have gL := upd_same (H := H) (a := L) (o := HO.lst [])
  have ga1 := s1 _ _ ga
  generalize upd H L (HO.lst []) = H1 at *
  refine jnS (M := fun σ H' => ∃ ds y2 y3 y4, Same H H' ∧ H' L = some (.lst (ds.map V.int)) ∧ asm0 lines = .inr ds ∧ σ = [sR a, sR L, y2, y3, y4]) ?_ (fun N kk => ?_)
  · rintro σ H2 ⟨ds, y2, y3, y4, s2, g2, el, rfl⟩
    walk_at "go"
    exact q1 ds el L _ s2 nL g2
  walk_at "go"
  refine for_it (walk_enum (K := K) (a := a) (xs := lines.map V.str)) (fun i σ H' => Ob (∃ ds y2 y3 y4, Same H H' ∧ H' L = some (.lst (ds.map V.int)) ∧ ds.length ≤ 20 * i ∧ asm0 lines = preB ds (asm (lines.drop i) i) ∧ σ = [sR a, sR L, y2, y3, y4])) (ob ⟨[], none, none, none, s1, gL, Nat.le_refl _, (preB_nil _).symm, rfl⟩) (fun i σ H' _ h => by obtain ⟨ds, _, _, _, s2, _⟩ := unob h; exact SqL.of (s2 _ _ ga)) ?_ ?_
  · intro i v σ H2 H3 hi h hy
    obtain ⟨ds, y2, y3, y4, s2, g2, ll, el, rfl⟩ := unob h
    clear h kk
    obtain ⟨TT, x1, x2, rfl, nT, rfl, e1, e2⟩ := hy
    rw [List.length_map] at hi
    obtain rfl := Option.some.inj e1
    have e2 : (lines.map V.str)[i]? = some x2 := e2
    rw [List.getElem?_map, List.getElem?_eq_getElem hi] at e2
    obtain rfl := Option.some.inj e2
    have hlen := hll _ (List.getElem_mem hi)
    rw [List.drop_eq_getElem_cons hi] at el
    generalize lines[i] = line at *
    have s3 := same_upd (o := HO.tup [V.int (i : Nat), V.str line]) nT
    have gT := upd_same (H := H2) (a := TT) (o := HO.tup [V.int (i : Nat), V.str line])
    have g3 := s3 _ _ g2
    have s23 := s2.trans s3
    clear s3 s2 g2
    generalize upd H2 TT (HO.tup [V.int (i : Nat), V.str line]) = H3 at *
    refine ⟨TT, _, rfl, SqT.of gT, rfl, ?_⟩
    refine ⟨_, _, rfl, ?_⟩
    refine ⟨_, _, rfl, ?_⟩
    refine ⟨rfl, ?_⟩
    walk_at "go"
    refine ⟨hlen, fun H4 s4 en => ?_, fun bs eb p H4 s4 np gp => ?_⟩
    · rw [asm_none en] at el
      have s24 := s23.trans s4
      walk_at "go"
      refine jnS (M := fun σ H' => False) (fun σ H' z => z.elim) (fun N kk => ?_)
      walk_at "go"
      refine ⟨(by show 1 ≤ 1000; decide), fun a na => ⟨a, (i : Nat), rfl, upd_same, log_sm (by omega) (by omega), fun dx nd ne => ⟨rfl, dx, blF (i : Nat), upd_same, ?_, ?_, ?_⟩⟩⟩
      · rw [upd_ne ne]
        exact upd_same
      · rw [upd_ne ne] at nd
        exact nd
      · rw [upd_ne ne] at nd
        have e : upd (del (upd (upd (upd H4 a (exo a U none)) dx (exd dx (blF (i : Nat)))) a (exo a U (some dx))) a) dx (.xd (blF (i : Nat))) = upd H4 dx (.xd (blF (i : Nat))) := by
          funext c
          by_cases h1 : c = dx
          · rw [h1, upd_same, upd_same]
          · rw [upd_ne h1, upd_ne h1]
            by_cases h2 : c = a
            · rw [h2, del_same, na]
            · rw [del_ne h2, upd_ne h2, upd_ne h1, upd_ne h2]
        rw [e]
        exact q2 i el dx _ (s24.trans (same_upd nd)) upd_same
    · rw [asm_some eb] at el
      have g4 := s4 _ _ g3
      have s24 := s23.trans s4
      have lb := (line_len eb).2
      walk_at "go"
      refine jnS (M := fun σ H' => H' = H4 ∧ σ = [sR a, sR L, sI (i : Nat), sS line, sR p]) ?_ (fun N kk => ?_)
      rotate_left
      · walk_at "go"
        exact kk _ _ ⟨rfl, rfl⟩
      rintro σ H5 ⟨rfl, rfl⟩
      walk_at "go"
      refine ⟨L, p, _, _, rfl, rfl, g4, gp, Nat.le_of_lt (sz5 (by rw [List.length_map, List.length_map]; omega)), ?_⟩
      exact ob ⟨ds ++ bs, _, _, _, same_put s24 nL, by rw [upd_same, List.map_append], by rw [List.length_append]; omega, el, rfl⟩
  · intro σ H2 h
    obtain ⟨ds, y2, y3, y4, s2, g2, ll, el, rfl⟩ := unob h
    rw [List.length_map, List.drop_length, asm] at el
    exact kk _ _ ⟨ds, y2, y3, y4, s2, g2, by rw [el, preB, List.append_nil], rfl⟩
end

end

section

-- a condition of an operator
local macro_rules | `(tactic| walk_at "cond") => `(tactic| first
  | (show (0 : Int) < _; omega)
  | (show CDiv _ _; constructor <;> (first | decide | omega))
  | (show CMul _ _; first | (refine cmul_l ?_; constructor <;> (first | decide | omega)) | (refine cmul_r ?_; constructor <;> (first | decide | omega)))
  | (show CPow _ _; exact (by refine ⟨by decide, by decide, by decide⟩))
  | (show CDivW _ _; exact ⟨by decide, by decide +kernel⟩))
local macro_rules | `(tactic| walk_at "sq") => `(tactic| first | assumption | exact Dh.mono (same_upd (by assumption)) _ _ (by assumption) | exact .inl (.inl (.inl (by assumption))) | exact .inr (.inl (.inl (by assumption))) | exact SqL.of (by assumption) | exact .inl (by assumption) | exact .inl (SqL.of (by assumption)) | exact SqT.of (by assumption) | exact .inr (SqT.of (by assumption)))
local macro_rules | `(tactic| walk_at "st") => `(tactic| first
  | refine ⟨_, rfl, ?_⟩
  | refine ⟨_, _, rfl, rfl, ?_⟩
  | refine .inl ⟨_, rfl, ?_⟩
  | refine ⟨rfl, ?_⟩
  | refine ⟨_, _, rfl, by walk_at "sq", ?_⟩
  | refine ⟨.inl ⟨rfl, _, SqL.of (by assumption)⟩, ?_⟩
  | refine ⟨by walk_at "cond", ?_⟩
  | (refine' ifBT ?hh ?_; (case hh => first | rfl | assumption))
  | (refine' ifBF ?hh ?_; (case hh => first | rfl | assumption)))
local macro_rules | `(tactic| walk_at "go") => `(tactic| repeat walk_at "st")
local macro_rules | `(tactic| walk_at "yes") => `(tactic| (refine' ifT ?hh ?_; (case hh => first | rfl | decide +kernel)))
local macro_rules | `(tactic| walk_at "no") => `(tactic| (refine' ifF ?hh ?_; (case hh => first | decide +kernel | (intro z; cases z; done))))

local macro_rules | `(tactic| walk_at "st") => `(tactic| refine ⟨_, _, _, _, _, rfl, by assumption, by assumption, by omega, by omega, by omega, by omega, by omega, ?_⟩)
local macro_rules | `(tactic| walk_at "st") => `(tactic| refine ⟨_, _, _, _, _, rfl, Same.seq (by assumption) (by assumption), by assumption, by omega, by omega, by omega, by omega, by omega, ?_⟩)

/-! ### the law's words and operands -/
section
variable {X : Cx} {j k : Nat} {x : Str} {p pos : Pos} {sp : Sp} {dvs : List V}
theorem pe_cn (c : Cal X.prog X.w X.K X.mg X.base k x sp dvs) (hr : Room j X.A) (hk : k ≤ j) (hg : Gl X x) (hdb : (x == ("__debug__" : Str)) = false := by decide) : PE X (.Call (.Name x p) [] [] pos) (tCall sp dvs E0 tNil) := by
  obtain ⟨f, fd, ps, ds, F, hm, kp, b, d⟩ := c.ex
  exact pe_call0 F (hr.mono hk) hg hm kp b d pass0 hdb
end
abbrev s_words : Stmt := topS 22
theorem sc_words : FnScope [] [] (C8.fnScope s_words) := C8.fnScope_by (by decide +kernel)
abbrev s_operands : Stmt := topS 23
theorem sc_operands : FnScope ["_law_code"] ["_law_code"] (C8.fnScope s_operands) := C8.fnScope_by (by decide +kernel)
theorem range_words : (List.range 11).map (fun c => V.str (wordS c)) = [V.str "halt", V.str "set", V.str "add", V.str "sub", V.str "load", V.str "store", V.str "loadw", V.str "storew", V.str "move", V.str "jump", V.str "fork"] := rfl
theorem range_kinds : (List.range 11).map (fun c => V.str (kindS c)) = [V.str "", V.str "rn", V.str "rrr", V.str "rrr", V.str "rr", V.str "rr", V.str "rr", V.str "rr", V.str "rrr", V.str "rn", V.str "r"] := rfl
def spLW : Sp := fun vs H Q _ => vs = [] ∧ ∀ (p : Addr) (H' : Hp), Same H H' → H p = none → H' p = some (.lst ((List.range 11).map fun c => V.str (wordS c))) → Q (.ref p) H'
def spLO : Sp := fun vs H Q _ => ∃ c : Nat, vs = [.int (c : Nat)] ∧ c ≤ 10 ∧ ∀ H', Same H H' → Q (.str (kindS c)) H'
section
variable {P : Program} {w : World} {K : PySem.W.Frag} {mg : Str → Option Value} {base : Heap} {FM : Addr}
theorem ok_lwords {f : Addr} {fd : FuncData} (D : Def K mg "_law_words" s_words f fd) (b : Binds K fd [] []) (T : Txt mg) : Cal P w K mg base 1 "_law_words" spLW [] := by
  refine cal0 D b .nil sc_words (fun vs H Q E h => ?_) (fun cdv A outer s H vs Q E hr h => ?_)
  · rw [h.1]
    rfl
  obtain ⟨rfl, q⟩ := h
  refine ⟨_, (pss_one (ps_ret (pe_lst (pa_cons pe_str (pa_cons pe_str (pa_cons pe_str (pa_cons pe_str (pa_cons pe_str (pa_cons pe_str (pa_cons pe_str (pa_cons pe_str (pa_cons pe_str (pa_cons pe_str (pa_cons pe_str pa_nil)))))))))))))), ?_⟩
  walk_at "go"
  refine ⟨sz, fun p np => ?_⟩
  rw [← range_words]
  exact q p _ (same_upd np) np upd_same
theorem ok_loper {f : Addr} {fd : FuncData} (D : Def K mg "_law_operands" s_operands f fd) (b : Binds K fd ["_law_code"] []) (T : Txt mg) : Cal P w K mg base 1 "_law_operands" spLO [] := by
  refine cal0 D b .nil sc_operands (fun vs H Q E h => ?_) (fun cdv A outer s H vs Q E hr h => ?_)
  · obtain ⟨c, rfl, _⟩ := h
    rfl
  obtain ⟨c, rfl, hc, q⟩ := h
  refine ⟨_, (pss_one (ps_ret (pe_ix (ixL K rfl) (pe_lst (pa_cons pe_str (pa_cons pe_str (pa_cons pe_str (pa_cons pe_str (pa_cons pe_str (pa_cons pe_str (pa_cons pe_str (pa_cons pe_str (pa_cons pe_str (pa_cons pe_str (pa_cons pe_str pa_nil)))))))))))) (pv 0) (fun _ _ => rfl)))), ?_⟩
  walk_at "go"
  refine ⟨sz, fun p np => ?_⟩
  rw [← range_kinds]
  have s1 := same_upd (o := HO.lst ((List.range 11).map fun c => V.str (kindS c))) np
  have g1 := upd_same (H := H) (a := p) (o := HO.lst ((List.range 11).map fun c => V.str (kindS c)))
  generalize upd H p (HO.lst ((List.range 11).map fun c => V.str (kindS c))) = H1 at *
  walk_at "go"
  refine ⟨p, _, _, _, rfl, rfl, SqL.of g1, atI_nat (v := V.str (kindS c)) (by rw [List.getElem?_map, List.getElem?_range (by omega)]; rfl), ?_⟩
  exact q _ s1
end

end

section

-- a condition of an operator
local macro_rules | `(tactic| walk_at "cond") => `(tactic| first
  | (show (0 : Int) < _; omega)
  | (show CDiv _ _; constructor <;> (first | decide | omega))
  | (show CMul _ _; first | (refine cmul_l ?_; constructor <;> (first | decide | omega)) | (refine cmul_r ?_; constructor <;> (first | decide | omega)))
  | (show CPow _ _; exact (by refine ⟨by decide, by decide, by decide⟩))
  | (show CDivW _ _; exact ⟨by decide, by decide +kernel⟩))
local macro_rules | `(tactic| walk_at "sq") => `(tactic| first | assumption | exact Dh.mono (same_upd (by assumption)) _ _ (by assumption) | exact .inl (.inl (.inl (by assumption))) | exact .inr (.inl (.inl (by assumption))) | exact SqL.of (by assumption) | exact .inl (by assumption) | exact .inl (SqL.of (by assumption)) | exact SqT.of (by assumption) | exact .inr (SqT.of (by assumption)))
local macro_rules | `(tactic| walk_at "st") => `(tactic| first
  | refine ⟨_, rfl, ?_⟩
  | refine ⟨_, _, rfl, rfl, ?_⟩
  | refine .inl ⟨_, rfl, ?_⟩
  | refine ⟨rfl, ?_⟩
  | refine ⟨_, _, rfl, by walk_at "sq", ?_⟩
  | refine ⟨.inl ⟨rfl, _, SqL.of (by assumption)⟩, ?_⟩
  | refine ⟨by walk_at "cond", ?_⟩
  | (refine' ifBT ?hh ?_; (case hh => first | rfl | assumption))
  | (refine' ifBF ?hh ?_; (case hh => first | rfl | assumption)))
local macro_rules | `(tactic| walk_at "go") => `(tactic| repeat walk_at "st")
local macro_rules | `(tactic| walk_at "yes") => `(tactic| (refine' ifT ?hh ?_; (case hh => first | rfl | decide +kernel)))
local macro_rules | `(tactic| walk_at "no") => `(tactic| (refine' ifF ?hh ?_; (case hh => first | decide +kernel | (intro z; cases z; done))))

local macro_rules | `(tactic| walk_at "st") => `(tactic| refine ⟨_, _, _, _, _, rfl, by assumption, by assumption, by omega, by omega, by omega, by omega, by omega, ?_⟩)
local macro_rules | `(tactic| walk_at "st") => `(tactic| refine ⟨_, _, _, _, _, rfl, Same.seq (by assumption) (by assumption), by assumption, by omega, by omega, by omega, by omega, by omega, ?_⟩)

/-! ### the law's word -/
open PySem.NumText PySem.W.KIN
abbrev s_word_value : Stmt := topS 24
theorem sc_word_value : FnScope ["_law_word", "_law_top", "_law_value", "_law_sign", "_law_figure"] ["_law_word", "_law_top"] (C8.fnScope s_word_value) := C8.fnScope_by (by decide +kernel)
theorem digV_snoc {cs : List Nat} {c : Nat} : digitsVal (cs ++ [c]) = digitsVal cs * 10 + (c - 48) := digitsVal_snoc cs c
theorem digB_snoc {cs : List Nat} {c : Nat} : digB (cs ++ [c]) = (digB cs && decide (48 ≤ c ∧ c ≤ 57)) := by
  unfold digB
  rw [List.all_append]
  simp
def spWV : Sp := fun vs H Q _ => ∃ (w : Str) (top : Nat), vs = [.str w, .int (top : Nat)] ∧ top ≤ 65535 ∧ ∀ H', Same H H' → Q (.int (wordV w top)) H'
section
variable {P : Program} {w : World} {K : PySem.W.Frag} {mg : Str → Option Value} {base : Heap}
theorem ok_wval {f : Addr} {fd : FuncData} (D : Def K mg "_law_word_value" s_word_value f fd) (b : Binds K fd ["_law_word", "_law_top"] []) (T : Txt mg) : Cal P w K mg base 1 "_law_word_value" spWV [] := by
  refine cal0 D b .nil sc_word_value (fun vs H Q E h => ?_) (fun cdv A outer s H vs Q E hr h => ?_)
  · obtain ⟨t, top, rfl, _⟩ := h
    rfl
  obtain ⟨t, top, rfl, ht, q⟩ := h
  have lt : t.cps.size = (sgn t).length := Array.length_toList.symm
  refine ⟨_, (pss_cons (ps_set (i := 2) sc_word_value.nd rfl (.inl rfl) pe_int)
      (pss_cons (ps_mk (ps_for PassesOwn.never rfl (pi_str (pv 0)) (pg_name (i := 3) sc_word_value.nd rfl (.inl rfl))
      (pss_cons (ps_set (i := 4) sc_word_value.nd rfl (.inl rfl) (pe_m1 PySem.F.slot_str_find PySem.F.type_str_find mt_find pe_str (pv 3)))
      (pss_cons (ps_mk (ps_if (pt_cmpR op_lt (pv 4) pe_int (nomark _))
      (pss_one (ps_ret (pe_un un_neg pe_int)))
      pss_nil))
      (pss_one (ps_set (i := 2) sc_word_value.nd rfl (.inl rfl) (pe_op op_add (pe_op op_mul pe_int (pv 2)) (pv 4))))))))
      (pss_cons (ps_mk (ps_if (PW.pt (pw_or (pt_cmpR op_eq (pv 0) pe_str (nomark _)) (pw_or (pt_cmpR op_gt (pv 2) (pv 1) (nomark _)) (pw_or1 (pt_cmpR op_ne (pe_callTy call_str_int (by rfl) T.str (by decide +kernel) (pa_cons (pv 2) pa_nil)) (pv 0) (nomark _))))))
      (pss_one (ps_ret (pe_un un_neg pe_int)))
      pss_nil))
      (pss_one (ps_ret (pv 2)))))), ?_⟩
  walk_at "go"
  refine jnS (M := fun σ H' => ∃ y3 y4, H' = H ∧ digB (sgn t) = true ∧ σ = [sS t, sI (top : Nat), sI (valW t : Nat), y3, y4]) ?_ (fun N kk => ?_)
  rotate_left
  · walk_at "go"
    refine for_it (walk_str (z := t)) (fun i σ H' => Ob (∃ y3 y4, H' = H ∧ digB ((sgn t).take i) = true ∧ σ = [sS t, sI (top : Nat), sI (digitsVal ((sgn t).take i) : Nat), y3, y4])) (ob ⟨none, none, rfl, rfl, rfl⟩) (fun _ _ _ _ _ => trivial) ?_ ?_
    · intro i v σ H2 H3 hi h hy
      obtain ⟨y3, y4, rfl, hd, rfl⟩ := unob h
      clear h kk
      obtain ⟨rfl, c, ec, rfl⟩ := hy
      have ec2 : (sgn t)[i]? = some c := by
        show t.cps.toList[i]? = some c
        rw [Array.getElem?_toList]
        exact ec
      have et : (sgn t).take (i + 1) = (sgn t).take i ++ [c] := by
        rw [List.take_add_one, ec2]
        rfl
      have hB := digB_snoc (cs := (sgn t).take i) (c := c)
      have hV := digV_snoc (cs := (sgn t).take i) (c := c)
      rw [← et] at hB hV
      walk_at "go"
      refine ⟨⟨_, rfl⟩, ?_⟩
      refine ⟨_, rfl, ?_⟩
      refine ⟨("0123456789" : Str), ⟨#[c]⟩, rfl, rfl, ?_⟩
      rw [fig_of]
      by_cases hc : 48 ≤ c ∧ c ≤ 57
      · rw [if_pos hc]
        rw [hd, decide_eq_true hc] at hB
        refine jnS (M := fun σ H' => H' = H3 ∧ σ = [sS t, sI (top : Nat), sI (digitsVal ((sgn t).take i) : Nat), some (.str ⟨#[c]⟩), sI (c - 48 : Nat)]) ?_ (fun N kk => ?_)
        rotate_left
        · walk_at "go"
          exact kk _ _ ⟨rfl, rfl⟩
        rintro σ H4 ⟨rfl, rfl⟩
        walk_at "go"
        refine ob ⟨some (.str ⟨#[c]⟩), sI (c - 48 : Nat), rfl, hB, ?_⟩
        rw [hV, show ((digitsVal ((sgn t).take i) * 10 + (c - 48) : Nat) : Int) = 10 * ((digitsVal ((sgn t).take i) : Nat) : Int) + ((c - 48 : Nat) : Int) by omega]
        rfl
      · rw [if_neg hc]
        refine jnS (M := fun σ H' => False) (fun σ H' z => z.elim) (fun N kk => ?_)
        walk_at "go"
        have nd : ¬ digB (sgn t) = true := fun z => hc (of_decide_eq_true (List.all_eq_true.mp z c (List.mem_of_getElem? ec2)))
        have e : wordV t top = -1 := if_neg (fun z => nd z.1)
        rw [e] at q
        exact q _ same_rfl
    · intro σ H2 h
      obtain ⟨y3, y4, rfl, hd, rfl⟩ := unob h
      rw [lt, List.take_length] at hd ⊢
      exact kk _ _ ⟨y3, y4, rfl, hd, rfl⟩
  rintro σ H2 ⟨y3, y4, rfl, hd, rfl⟩
  refine jnS (M := fun σ H' => H' = H2 ∧ wordV t top = (valW t : Nat) ∧ σ = [sS t, sI (top : Nat), sI (valW t : Nat), y3, y4]) ?_ (fun N kk => ?_)
  · rintro σ H3 ⟨rfl, e, rfl⟩
    walk_at "go"
    rw [e] at q
    exact q _ same_rfl
  have neg : ¬ (digB (sgn t) = true ∧ t ≠ "" ∧ valW t ≤ top ∧ tS (valW t : Nat) = t) → Q (.int (-1)) H2 := fun z => by
    have e : wordV t top = -1 := if_neg z
    rw [e] at q
    exact q _ same_rfl
  walk_at "go"
  refine ifD (fun z => ?_) (fun h0 => ?_)
  · walk_at "go"
    exact neg fun y => y.2.1 (V.str.inj z)
  walk_at "go"
  refine ifD (fun z => ?_) (fun h1 => ?_)
  · walk_at "go"
    exact neg fun y => by
      have := y.2.2.1
      omega
  walk_at "go"
  refine ⟨log_sm (by omega) (by omega), ?_⟩
  walk_at "go"
  by_cases e : tS (valW t : Nat) = t
  · show if (!decide (V.str (tS (valW t : Nat)) = V.str t)) = true then _ else _
    rw [if_neg (by rw [e, decide_eq_true rfl]; decide)]
    walk_at "go"
    exact kk _ _ ⟨rfl, if_pos ⟨hd, fun z => h0 (congrArg V.str z), by omega, e⟩, rfl⟩
  · show if (!decide (V.str (tS (valW t : Nat)) = V.str t)) = true then _ else _
    rw [if_pos (by rw [decide_eq_false (fun z => e (V.str.inj z))]; rfl)]
    walk_at "go"
    exact neg fun y => e y.2.2.2
end

end

section

-- a condition of an operator
local macro_rules | `(tactic| walk_at "cond") => `(tactic| first
  | (show (0 : Int) < _; omega)
  | (show CDiv _ _; constructor <;> (first | decide | omega))
  | (show CMul _ _; first | (refine cmul_l ?_; constructor <;> (first | decide | omega)) | (refine cmul_r ?_; constructor <;> (first | decide | omega)))
  | (show CPow _ _; exact (by refine ⟨by decide, by decide, by decide⟩))
  | (show CDivW _ _; exact ⟨by decide, by decide +kernel⟩))
local macro_rules | `(tactic| walk_at "sq") => `(tactic| first | assumption | exact Dh.mono (same_upd (by assumption)) _ _ (by assumption) | exact .inl (.inl (.inl (by assumption))) | exact .inr (.inl (.inl (by assumption))) | exact SqL.of (by assumption) | exact .inl (by assumption) | exact .inl (SqL.of (by assumption)) | exact SqT.of (by assumption) | exact .inr (SqT.of (by assumption)))
local macro_rules | `(tactic| walk_at "st") => `(tactic| first
  | refine ⟨_, rfl, ?_⟩
  | refine ⟨_, _, rfl, rfl, ?_⟩
  | refine .inl ⟨_, rfl, ?_⟩
  | refine ⟨rfl, ?_⟩
  | refine ⟨_, _, rfl, by walk_at "sq", ?_⟩
  | refine ⟨.inl ⟨rfl, _, SqL.of (by assumption)⟩, ?_⟩
  | refine ⟨by walk_at "cond", ?_⟩
  | (refine' ifBT ?hh ?_; (case hh => first | rfl | assumption))
  | (refine' ifBF ?hh ?_; (case hh => first | rfl | assumption)))
local macro_rules | `(tactic| walk_at "go") => `(tactic| repeat walk_at "st")
local macro_rules | `(tactic| walk_at "yes") => `(tactic| (refine' ifT ?hh ?_; (case hh => first | rfl | decide +kernel)))
local macro_rules | `(tactic| walk_at "no") => `(tactic| (refine' ifF ?hh ?_; (case hh => first | decide +kernel | (intro z; cases z; done))))

local macro_rules | `(tactic| walk_at "st") => `(tactic| refine ⟨_, _, _, _, _, rfl, by assumption, by assumption, by omega, by omega, by omega, by omega, by omega, ?_⟩)
local macro_rules | `(tactic| walk_at "st") => `(tactic| refine ⟨_, _, _, _, _, rfl, Same.seq (by assumption) (by assumption), by assumption, by omega, by omega, by omega, by omega, by omega, ?_⟩)

/-! ### the law's parts -/
abbrev s_line_parts : Stmt := topS 25
theorem sc_line_parts : FnScope ["_law_line", "_law_parts", "_law_sign"] ["_law_line"] (C8.fnScope s_line_parts) := C8.fnScope_by (by decide +kernel)
def spLP : Sp := fun vs H Q _ => ∃ (line : Str), vs = [.str line] ∧ line.length ≤ 10000 ∧ ∀ (p : Addr) (H' : Hp), Same H H' → H p = none → H' p = some (.lst ((partsF line).map V.str)) → Q (.ref p) H'
theorem last_at {xs : List V} {y : V} : atI (xs ++ [y]) (-1) = some y := by
  unfold atI ixN
  rw [if_neg (by decide), if_pos (by rw [List.length_append, List.length_singleton]; omega), List.length_append, List.length_singleton]
  show (xs ++ [y])[((-1 : Int) + ((xs.length + 1 : Nat) : Int)).toNat]? = some y
  rw [show ((-1 : Int) + ((xs.length + 1 : Nat) : Int)).toNat = xs.length by omega]
  simp
theorem last_ix {xs : List V} {y : V} : ixN (xs ++ [y]).length (-1) = some xs.length := by
  unfold ixN
  rw [if_neg (by decide), if_pos (by rw [List.length_append, List.length_singleton]; omega), List.length_append, List.length_singleton]
  congr 1
  omega
theorem last_set {xs : List V} {y z : V} : (xs ++ [y]).set xs.length z = xs ++ [z] := by
  rw [List.set_append_right _ _ (Nat.le_refl _), Nat.sub_self]
  rfl
theorem sgn_app (a b : Str) : sgn (a ++ b) = sgn a ++ sgn b := TL.tl_append a b
theorem sign_blank (c : Nat) : V.str ⟨#[c]⟩ = V.str " " ↔ c = 32 := by
  have e : (" " : Str).cps = #[32] := by decide +kernel
  constructor
  · intro h
    have h := V.str.inj h
    have h : (#[c] : Array Nat) = (" " : Str).cps := congrArg Str.cps h
    rw [e] at h
    simpa using h
  · rintro rfl
    exact congrArg V.str (TL.ext_tl (by show [32] = (" " : Str).cps.toList; rw [e]))
section
variable {P : Program} {w : World} {K : PySem.W.Frag} {mg : Str → Option Value} {base : Heap}
theorem ok_lparts {f : Addr} {fd : FuncData} (D : Def K mg "_law_line_parts" s_line_parts f fd) (b : Binds K fd ["_law_line"] []) (T : Txt mg) : Cal P w K mg base 1 "_law_line_parts" spLP [] := by
  refine cal0 D b .nil sc_line_parts (fun vs H Q E h => ?_) (fun cdv A outer s H vs Q E hr h => ?_)
  · obtain ⟨line, rfl, _⟩ := h
    rfl
  obtain ⟨line, rfl, hl, q⟩ := h
  have lt : line.cps.size = (sgn line).length := Array.length_toList.symm
  have lt2 : line.length = (sgn line).length := Array.length_toList.symm
  have ps := parts_spl line
  refine ⟨_, (pss_cons (ps_set (i := 1) sc_line_parts.nd rfl (.inl rfl) (pe_lst (pa_cons pe_str pa_nil)))
      (pss_cons (ps_mk (ps_for PassesOwn.never rfl (pi_str (pv 0)) (pg_name (i := 2) sc_line_parts.nd rfl (.inl rfl))
      (pss_one (ps_mk (ps_if (pt_cmpR op_eq (pv 2) pe_str (nomark _))
      (pss_one (ps_expr (pe_bm PySem.F.plainAttrs_list PySem.F.slot_list_append PySem.F.type_list_append mt_append (pv 1) (pa_cons pe_str pa_nil))))
      (pss_one (ps_asg (pe_op op_add_str (pe_ix (ixL K rfl) (pv 1) (pe_un un_neg pe_int) (fun _ _ => rfl)) (pv 2)) (pg_sub (pv 1) (pe_un un_neg pe_int) set_list))))))))
      (pss_one (ps_ret (pv 1))))), ?_⟩
  walk_at "go"
  refine ⟨sz, fun L nL => ?_⟩
  have s1 := same_upd (o := HO.lst [V.str ""]) nL
  have gL := upd_same (H := H) (a := L) (o := HO.lst [V.str ""])
  generalize upd H L (HO.lst [V.str ""]) = H1 at *
  walk_at "go"
  refine jnS (M := fun σ H' => ∃ y2, Same H H' ∧ H' L = some (.lst ((partsF line).map V.str)) ∧ σ = [sS line, sR L, y2]) ?_ (fun N kk => ?_)
  · rintro σ H2 ⟨y2, s2, g2, rfl⟩
    walk_at "go"
    exact q L _ s2 nL g2
  walk_at "go"
  refine for_it (walk_str (z := line)) (fun i σ H' => Ob (∃ (init : List Str) (last : Str) (y2 : Option V), Same H H' ∧ H' L = some (.lst (init.map V.str ++ [V.str last])) ∧ init.length ≤ i ∧ last.length ≤ i ∧ (partsF line).map sgn = init.map sgn ++ TL.spl [32] 0 (sgn last) ((sgn line).drop i) ∧ σ = [sS line, sR L, y2])) (ob ⟨[], "", none, s1, gL, Nat.le_refl _, by decide +kernel, ps, rfl⟩) (fun _ _ _ _ _ => trivial) ?_ ?_
  · intro i v σ H2 H3 hi h hy
    obtain ⟨init, last, y2, s2, g2, l1, l2, el, rfl⟩ := unob h
    clear h kk
    obtain ⟨rfl, c, ec, rfl⟩ := hy
    have hi2 : i < (sgn line).length := by omega
    have ec2 : (sgn line)[i] = c := by
      have h1 : (sgn line)[i]? = some c := by
        show line.cps.toList[i]? = some c
        rw [Array.getElem?_toList]
        exact ec
      rw [List.getElem?_eq_getElem hi2] at h1
      exact Option.some.inj h1
    rw [List.drop_eq_getElem_cons hi2, ec2] at el
    refine un ?_
    walk_at "go"
    by_cases c1 : c = 32
    · refine ifT ((sign_blank c).mpr c1) ?_
      rw [c1, spl_blank] at el
      walk_at "go"
      refine ⟨L, _, _, rfl, rfl, g2, sz5 (by rw [List.length_append, List.length_map]; show init.length + 1 ≤ _; omega), ?_⟩
      refine ob ⟨init ++ [last], "", _, same_put s2 nL, by rw [upd_same, List.map_append]; rfl, by rw [List.length_append]; show init.length + 1 ≤ _; omega, by rw [show ("" : Str).length = 0 by decide +kernel]; omega, ?_, rfl⟩
      rw [el, List.map_append, List.append_assoc]
      rfl
    · refine ifF (fun z => c1 ((sign_blank c).mp z)) ?_
      rw [spl_sign c1] at el
      walk_at "go"
      refine ⟨L, _, _, _, rfl, rfl, SqL.of g2, last_at, ?_⟩
      walk_at "go"
      have lc : (⟨#[c]⟩ : Str).length = 1 := rfl
      refine ⟨by rw [lc, sizeLine_eq]; omega, ?_⟩
      walk_at "go"
      refine ⟨L, _, _, _, rfl, rfl, g2, last_ix, ?_⟩
      rw [last_set]
      refine ob ⟨init, last ++ ⟨#[c]⟩, some (.str ⟨#[c]⟩), same_put s2 nL, upd_same, by omega, by rw [Str.length_append, lc]; omega, ?_, rfl⟩
      rw [el, sgn_app]
  · intro σ H2 h
    obtain ⟨init, last, y2, s2, g2, l1, l2, el, rfl⟩ := unob h
    rw [lt, List.drop_length, TL.spl_nil] at el
    have e : partsF line = init ++ [last] := by
      have inj : ∀ {a b : List Str}, a.map sgn = b.map sgn → a = b := fun {a b} => by
        induction a generalizing b with
        | nil => cases b <;> simp
        | cons x a ih =>
          cases b with
          | nil => simp
          | cons y b =>
            intro h
            rw [List.map_cons, List.map_cons] at h
            rw [str_ext (List.cons.inj h).1, ih (List.cons.inj h).2]
      refine inj (el.trans ?_)
      rw [List.map_append]
      rfl
    exact kk _ _ ⟨y2, s2, by rw [g2, e, List.map_append]; rfl, rfl⟩
end

end

section

-- a condition of an operator
local macro_rules | `(tactic| walk_at "cond") => `(tactic| first
  | (show (0 : Int) < _; omega)
  | (show CDiv _ _; constructor <;> (first | decide | omega))
  | (show CMul _ _; first | (refine cmul_l ?_; constructor <;> (first | decide | omega)) | (refine cmul_r ?_; constructor <;> (first | decide | omega)))
  | (show CPow _ _; exact (by refine ⟨by decide, by decide, by decide⟩))
  | (show CDivW _ _; exact ⟨by decide, by decide +kernel⟩))
local macro_rules | `(tactic| walk_at "sq") => `(tactic| first | assumption | exact Dh.mono (same_upd (by assumption)) _ _ (by assumption) | exact .inl (.inl (.inl (by assumption))) | exact .inr (.inl (.inl (by assumption))) | exact SqL.of (by assumption) | exact .inl (by assumption) | exact .inl (SqL.of (by assumption)) | exact SqT.of (by assumption) | exact .inr (SqT.of (by assumption)))
local macro_rules | `(tactic| walk_at "st") => `(tactic| first
  | refine ⟨_, rfl, ?_⟩
  | refine ⟨_, _, rfl, rfl, ?_⟩
  | refine .inl ⟨_, rfl, ?_⟩
  | refine ⟨rfl, ?_⟩
  | refine ⟨_, _, rfl, by walk_at "sq", ?_⟩
  | refine ⟨.inl ⟨rfl, _, SqL.of (by assumption)⟩, ?_⟩
  | refine ⟨by walk_at "cond", ?_⟩
  | (refine' ifBT ?hh ?_; (case hh => first | rfl | assumption))
  | (refine' ifBF ?hh ?_; (case hh => first | rfl | assumption)))
local macro_rules | `(tactic| walk_at "go") => `(tactic| repeat walk_at "st")
local macro_rules | `(tactic| walk_at "yes") => `(tactic| (refine' ifT ?hh ?_; (case hh => first | rfl | decide +kernel)))
local macro_rules | `(tactic| walk_at "no") => `(tactic| (refine' ifF ?hh ?_; (case hh => first | decide +kernel | (intro z; cases z; done))))

local macro_rules | `(tactic| walk_at "st") => `(tactic| refine ⟨_, _, _, _, _, rfl, by assumption, by assumption, by omega, by omega, by omega, by omega, by omega, ?_⟩)
local macro_rules | `(tactic| walk_at "st") => `(tactic| refine ⟨_, _, _, _, _, rfl, Same.seq (by assumption) (by assumption), by assumption, by omega, by omega, by omega, by omega, by omega, ?_⟩)

/-! ### the law's bytes of a line -/
abbrev s_line_bytes : Stmt := topS 26
theorem sc_line_bytes : FnScope ["_law_line", "_law_parts", "_law_code", "_law_kinds", "_law_found", "_law_k", "_law_top", "_law_value"] ["_law_line"] (C8.fnScope s_line_bytes) := C8.fnScope_by (by decide +kernel)
abbrev wsV : List V := (List.range 11).map fun c => V.str (wordS c)
theorem flat_ws : wsV.all flatV = true := by decide +kernel
theorem eqV_str (a b : Str) : eqV (.str a) (.str b) = decide (a = b) := by
  show (a == b) = _
  by_cases h : a = b
  · rw [h]
    simp
  · rw [decide_eq_false h]
    simpa using h
theorem ws_get {m : Nat} {z : V} (h : wsV[m]? = some z) : m ≤ 10 ∧ z = .str (wordS m) := by
  unfold wsV at h
  rw [List.getElem?_map] at h
  by_cases hm : m < 11
  · rw [List.getElem?_range hm] at h
    exact ⟨by omega, (Option.some.inj h).symm⟩
  · rw [List.getElem?_eq_none (by rw [List.length_range]; omega)] at h
    cases h
theorem ws_at {c : Nat} (h : c ≤ 10) : wsV[c]? = some (.str (wordS c)) := by
  unfold wsV
  rw [List.getElem?_map, List.getElem?_range (by omega)]
  rfl
theorem in_ws (s : Str) : inV (.str s) wsV = (wIdx s).isSome := by
  cases e : wIdx s with
  | some c =>
    obtain ⟨h1, h2⟩ := wIdx_some e
    unfold inV
    exact List.any_eq_true.mpr ⟨.str (wordS c), List.mem_of_getElem? (ws_at h1), by rw [eqV_str, h2]; exact decide_eq_true rfl⟩
  | none =>
    unfold inV
    refine List.any_eq_false.mpr fun x hx => ?_
    obtain ⟨m, hm⟩ := List.getElem?_of_mem hx
    obtain ⟨h1, rfl⟩ := ws_get hm
    rw [eqV_str, decide_eq_false (wIdx_none e m h1)]
    decide
def wid : List Nat → Nat
  | [] => 0
  | k :: ks => (if k = 110 then 2 else 1) + wid ks
theorem wid_tab {c : Nat} (h : c ≤ 10) : wid (kindL c) ≤ 3 ∧ (kindL c).length ≤ 3 := by
  have hw : ((List.range 11).all fun c => decide (wid (kindL c) ≤ 3 ∧ (kindL c).length ≤ 3)) = true := by decide +kernel
  exact of_decide_eq_true (List.all_eq_true.mp hw c (List.mem_range.mpr (by omega)))
def spLB : Sp := fun vs H Q _ => ∃ (line : Str), vs = [.str line] ∧ line.length ≤ 10000 ∧ ∀ (p : Addr) (H' : Hp), Same H H' → H p = none → H' p = some (.lst (((lineF (partsF line)).getD []).map V.int)) → Q (.ref p) H'
section
variable {P : Program} {w : World} {K : PySem.W.Frag} {mg : Str → Option Value} {base : Heap}
theorem ok_lbytes {f : Addr} {fd : FuncData} (D : Def K mg "_law_line_bytes" s_line_bytes f fd) (b : Binds K fd ["_law_line"] []) (T : Txt mg) (c_words : Cal P w K mg base 1 "_law_words" spLW []) (c_operands : Cal P w K mg base 1 "_law_operands" spLO []) (c_word_value : Cal P w K mg base 1 "_law_word_value" spWV []) (c_line_parts : Cal P w K mg base 1 "_law_line_parts" spLP []) : Cal P w K mg base 2 "_law_line_bytes" spLB [] := by
  refine cal0 D b .nil sc_line_bytes (fun vs H Q E h => ?_) (fun cdv A outer s H vs Q E hr h => ?_)
  · obtain ⟨line, rfl, _⟩ := h
    rfl
  obtain ⟨line, rfl, hl, q⟩ := h
  refine ⟨_, (pss_cons (ps_set (i := 1) sc_line_bytes.nd rfl (.inl rfl) (C8.pe_c c_line_parts hr (by omega) (by rfl) (pa_cons (pv 0) pa_nil)))
      (pss_cons (ps_mk (ps_if (pt_cmpR op_notIn_seq (pe_ix (ixL K rfl) (pv 1) pe_int (fun _ _ => rfl)) ((pe_cn c_words hr (by omega) (by rfl))) (by rfl))
      (pss_one (ps_ret (pe_lst pa_nil)))
      pss_nil))
      (pss_cons (ps_set (i := 2) sc_line_bytes.nd rfl (.inl rfl) (pe_bm PySem.F.plainAttrs_list PySem.F.slot_list_index PySem.F.type_list_index mt_index ((pe_cn c_words hr (by omega) (by rfl))) (pa_cons (pe_ix (ixL K rfl) (pv 1) pe_int (fun _ _ => rfl)) pa_nil)))
      (pss_cons (ps_set (i := 3) sc_line_bytes.nd rfl (.inl rfl) (C8.pe_c c_operands hr (by omega) (by rfl) (pa_cons (pv 2) pa_nil)))
      (pss_cons (ps_mk (ps_if (pt_cmpR op_ne (pe_callB (lenQ K rfl) (by rfl) T.len PySem.boot_len (pa_cons (pv 1) pa_nil)) (pe_op op_add pe_int (pe_callB call_len_str (by rfl) T.len PySem.boot_len (pa_cons (pv 3) pa_nil))) (nomark _))
      (pss_one (ps_ret (pe_lst pa_nil)))
      pss_nil))
      (pss_cons (ps_set (i := 4) sc_line_bytes.nd rfl (.inl rfl) (pe_lst (pa_cons (pv 2) pa_nil)))
      (pss_cons (ps_mk (ps_for PassesOwn.never rfl (pi_range1 (by rfl) T.range (pa_cons (pe_callB call_len_str (by rfl) T.len PySem.boot_len (pa_cons (pv 3) pa_nil)) pa_nil)) (pg_name (i := 5) sc_line_bytes.nd rfl (.inl rfl))
      (pss_cons (ps_set (i := 6) sc_line_bytes.nd rfl (.inl rfl) pe_int)
      (pss_cons (ps_mk (ps_if (pt_cmpR op_eq (pe_ix ix_str (pv 3) (pv 5) (fun _ _ => rfl)) pe_str (nomark _))
      (pss_one (ps_set (i := 6) sc_line_bytes.nd rfl (.inl rfl) pe_int))
      pss_nil))
      (pss_cons (ps_set (i := 7) sc_line_bytes.nd rfl (.inl rfl) (C8.pe_c c_word_value hr (by omega) (by rfl) (pa_cons (pe_ix (ixL K rfl) (pv 1) (pe_op op_add pe_int (pv 5)) (fun _ _ => rfl)) (pa_cons (pv 6) pa_nil))))
      (pss_cons (ps_mk (ps_if (pt_cmpR op_lt (pv 7) pe_int (nomark _))
      (pss_one (ps_ret (pe_lst pa_nil)))
      pss_nil))
      (pss_cons (ps_expr (pe_bm PySem.F.plainAttrs_list PySem.F.slot_list_append PySem.F.type_list_append mt_append (pv 4) (pa_cons (pe_op op_mod (pe_callTy call_int1 (by rfl) T.int (by decide +kernel) (pa_cons (pv 7) pa_nil)) pe_int) pa_nil)))
      (pss_one (ps_mk (ps_if (pt_cmpR op_eq (pe_ix ix_str (pv 3) (pv 5) (fun _ _ => rfl)) pe_str (nomark _))
      (pss_one (ps_expr (pe_bm PySem.F.plainAttrs_list PySem.F.slot_list_append PySem.F.type_list_append mt_append (pv 4) (pa_cons (pe_op op_fdiv (pv 7) pe_int) pa_nil))))
      pss_nil))))))))))
      (pss_one (ps_ret (pe_op op_cat (pv 4) (pe_lc (own := [("_law_k", 5)]) (g := gName 5) (tt := tYes) rfl sc_line_bytes.nd (pi_range1 (by rfl) T.range (pa_cons (pe_op op_sub pe_int (pe_callB (lenQ K rfl) (by rfl) T.len PySem.boot_len (pa_cons (pv 4) pa_nil))) pa_nil)) (blkOk_by (own := [("_law_k", 5)]) (N := ["_law_line", "_law_parts", "_law_code", "_law_kinds", "_law_found", "_law_k", "_law_top", "_law_value"]) (sc := C8.fnScope s_line_bytes) (by decide +kernel)) (fun _ _ _ _ _ => (pg_name (i := 5) sc_line_bytes.nd rfl (.inl rfl))) (fun _ _ _ _ _ => pts_nil) (fun _ _ _ _ _ => pe_int)))))))))))), ?_⟩
  obtain ⟨p0, ts, ep⟩ := parts_ne line
  walk_at "go"
  refine ⟨hl, fun W H1 s1 nW gW => ?_⟩
  rw [ep] at gW q
  have ret0 : lineF (p0 :: ts) = none → ∀ (p : Addr) (H2 : Hp), Same H H2 → H2 p = none → Q (.ref p) (upd H2 p (.lst [])) := fun e p H2 s2 np => q p _ (s2.trans (same_upd np)) (s2.free np) (by rw [upd_same, e]; rfl)
  walk_at "go"
  refine jnS (M := fun σ H' => ∃ c, Same H H' ∧ wIdx p0 = some c ∧ H' W = some (.lst ((p0 :: ts).map V.str)) ∧ σ = [sS line, sR W, none, none, none, none, none, none]) ?_ (fun N kk => ?_)
  rotate_left
  · walk_at "go"
    refine ⟨W, _, _, _, rfl, rfl, SqL.of gW, atI_nat (j := 0) rfl, ?_⟩
    walk_at "go"
    intro A1 H2 s2 nA gA
    refine ⟨A1, _, rfl, .inl (SqL.of gA), rfl, flat_ws, ?_⟩
    walk_at "go"
    show if (!inV (.str p0) wsV) = true then _ else _
    rw [in_ws]
    cases e : wIdx p0 with
    | none =>
      rw [if_pos (show (!(none : Option Nat).isSome) = true from rfl)]
      walk_at "go"
      refine ⟨sz, fun p np => ?_⟩
      refine ret0 ?_ p H2 (s1.trans s2) np
      unfold lineF
      rw [show (p0 :: ts).headD "" = p0 from rfl, e]
    | some c =>
      rw [if_neg (show ¬ ((!(some c).isSome) = true) from fun z => by cases z)]
      walk_at "go"
      exact kk _ _ ⟨c, s1.trans s2, e, s2 _ _ gW, rfl⟩
  clear gW s1
  rintro σ H2 ⟨c, s2, ec, gW, rfl⟩
  obtain ⟨c10, wc⟩ := wIdx_some ec
  have eL : lineF (p0 :: ts) = if (p0 :: ts).length = 1 + (formL c).length then codeAt c ts else none := by
    unfold lineF
    rw [show (p0 :: ts).headD "" = p0 from rfl, ec]
    rfl
  walk_at "go"
  intro A2 H3 s3 nA gA
  have gW3 := s3 _ _ gW
  have s23 := s2.trans s3
  clear gW s2 s3
  try dsimp only
  walk_at "go"
  refine ⟨W, _, _, _, rfl, rfl, SqL.of gW3, atI_nat (j := 0) rfl, ?_⟩
  refine ⟨A2, wsV, .str p0, c, .str (wordS c), rfl, rfl, SqL.of gA, rfl, flat_ws, ws_at c10, by rw [eqV_str, wc]; exact decide_eq_true rfl, fun m z hm hz => ?_, ?_⟩
  · obtain ⟨h1, rfl⟩ := ws_get hz
    rw [eqV_str]
    refine decide_eq_false fun zz => ?_
    have := word_inj h1 c10 (zz.trans wc.symm)
    omega
  clear nA gA
  walk_at "go"
  refine ⟨c10, fun H4 s4 => ?_⟩
  have gW4 := s4 _ _ gW3
  have s24 := s23.trans s4
  clear gW3 s23 s4
  have kfl := kf_len c10
  have kl : (kindL c).length = (kindS c).length := Array.length_toList
  have w3 := (wid_tab c10).2
  try dsimp only
  walk_at "go"
  refine jnS (M := fun σ H' => Same H4 H' ∧ ts.length = (kindL c).length ∧ σ = [sS line, sR W, sI (c : Nat), sS (kindS c), none, none, none, none]) ?_ (fun N kk => ?_)
  rotate_left
  · walk_at "go"
    refine ⟨by rw [sizeLine_eq]; omega, ?_⟩
    walk_at "go"
    rw [List.length_map, List.length_cons]
    show if (!decide (V.int ((ts.length + 1 : Nat) : Int) = V.int (1 + ((kindS c).length : Nat)))) = true then _ else _
    by_cases hk : ts.length = (kindL c).length
    · rw [if_neg (by rw [show ((ts.length + 1 : Nat) : Int) = 1 + ((kindS c).length : Nat) by omega, decide_eq_true rfl]; decide)]
      walk_at "go"
      exact kk _ _ ⟨same_rfl, hk, rfl⟩
    · rw [if_pos (by rw [decide_eq_false (fun z => hk (by have := V.int.inj z; omega))]; rfl)]
      walk_at "go"
      refine ⟨sz, fun p np => ?_⟩
      refine ret0 ?_ p H4 s24 np
      rw [eL, if_neg (fun z => hk (by rw [List.length_cons] at z; omega))]
  rintro σ H5 ⟨s5, lts, rfl⟩
  have gW5 := s5 _ _ gW4
  have s25 := s24.trans s5
  rw [if_pos (by rw [List.length_cons]; omega), ← law_code c10 lts] at eL
  rw [eL] at q
  clear gW4 s24 s5 ret0
  have c8 : (c : Int) < 256 := by omega
  walk_at "go"
  refine ⟨sz, fun F nF => ?_⟩
  have s6 := same_upd (o := HO.lst [V.int (c : Nat)]) nF
  have gF := upd_same (H := H5) (a := F) (o := HO.lst [V.int (c : Nat)])
  have nF0 := s25.free nF
  have hWF : W ≠ F := ne_of_none gW5 nF
  have s26 := s25.trans s6
  have gW6 := s6 _ _ gW5
  generalize upd H5 F (HO.lst [V.int (c : Nat)]) = H6 at *
  clear s6 gW5 nF s25
  try dsimp only
  refine jnS (M := fun σ H' => ∃ found y5 y6 y7, Same H H' ∧ H' F = some (.lst (found.map V.int)) ∧ found.length ≤ 7 ∧ lawFold (kindL c) ts [(c : Int)] = some found ∧ σ = [sS line, sR W, sI (c : Nat), sS (kindS c), sR F, y5, y6, y7]) ?_ (fun N kk => ?_)
  rotate_left
  · walk_at "go"
    refine ⟨by rw [sizeLine_eq]; omega, ?_⟩
    walk_at "go"
    refine ⟨by omega, by omega, for_range (lo := 0) (n := (kindS c).length) (fun k σ H' => Ob (∃ found y5 y6 y7, Same H H' ∧ H' W = some (.lst ((p0 :: ts).map V.str)) ∧ H' F = some (.lst (found.map V.int)) ∧ found.length ≤ 1 + 2 * k ∧ lawFold (kindL c) ts [(c : Int)] = lawFold ((kindL c).drop k) (ts.drop k) found ∧ σ = [sS line, sR W, sI (c : Nat), sS (kindS c), sR F, y5, y6, y7])) (ob ⟨[(c : Int)], none, none, none, s26, gW6, gF, Nat.le_refl _, rfl, rfl⟩) ?_ ?_⟩
    rotate_left
    · intro σ H7 h
      obtain ⟨found, y5, y6, y7, s7, gW, gF, lf, el, rfl⟩ := unob h
      rw [← kl, List.drop_length, lawFold] at el
      exact kk _ _ ⟨found, y5, y6, y7, s7, gF, by omega, el, rfl⟩
    intro k σ H7 hk h
    obtain ⟨found, y5, y6, y7, s7, gW, gF, lf, el, rfl⟩ := unob h
    clear h kk
    have hk1 : k < (kindL c).length := by omega
    have hk2 : k < ts.length := by omega
    rw [List.drop_eq_getElem_cons hk1, List.drop_eq_getElem_cons hk2] at el
    have gk : (kindL c)[k]? = some (kindL c)[k] := List.getElem?_eq_getElem hk1
    have gt : ts[k]? = some ts[k] := List.getElem?_eq_getElem hk2
    generalize (kindL c)[k] = kc at *
    generalize ts[k] = t at *
    rw [lawFold, List.headD_cons, List.tail_cons] at el
    rw [show (0 : Int) + (k : Nat) = (k : Nat) by omega]
    walk_at "go"
    refine jnS (M := fun σ H' => H' = H7 ∧ σ = [sS line, sR W, sI (c : Nat), sS (kindS c), sR F, sI (k : Nat), sI (topC kc : Nat), y7]) ?_ (fun N kk => ?_)
    rotate_left
    · walk_at "go"
      refine ⟨kindS c, _, _, rfl, rfl, by rw [sizeLine_eq]; omega, atI_nat (v := kc) gk, ?_⟩
      walk_at "go"
      by_cases c1 : kc = 110
      · refine ifT ((sign_n kc).mpr c1) ?_
        walk_at "go"
        exact kk _ _ ⟨rfl, by rw [topC, if_pos c1]; rfl⟩
      · refine ifF (fun z => c1 ((sign_n kc).mp z)) ?_
        walk_at "go"
        exact kk _ _ ⟨rfl, by rw [topC, if_neg c1]; rfl⟩
    rintro σ H8 ⟨rfl, rfl⟩
    have tc : topC kc ≤ 65535 := by
      unfold topC
      split <;> omega
    walk_at "go"
    try dsimp only
    have hat : atI ((p0 :: ts).map V.str) (1 + (k : Int)) = some (.str t) := by
      rw [show (1 : Int) + (k : Nat) = ((k + 1 : Nat) : Int) by omega]
      exact atI_nat (by rw [List.getElem?_map, List.getElem?_cons_succ, gt]; rfl)
    refine ⟨W, _, _, .str t, rfl, rfl, SqL.of gW, hat, ?_⟩
    walk_at "go"
    intro H9 s9
    have s79 := s7.trans s9
    have gW9 := s9 _ _ gW
    have gF9 := s9 _ _ gF
    clear gW gF s7 s9
    generalize wordV t (topC kc) = v at *
    walk_at "go"
    refine jnS (M := fun σ H' => H' = H9 ∧ ¬ v < 0 ∧ σ = [sS line, sR W, sI (c : Nat), sS (kindS c), sR F, sI (k : Nat), sI (topC kc : Nat), sI v]) ?_ (fun N kk => ?_)
    rotate_left
    · walk_at "go"
      refine ifD (fun z => ?_) (fun z => ?_)
      · walk_at "go"
        refine ⟨sz, fun p np => ?_⟩
        rw [if_pos z] at el
        rw [el] at q
        exact q p _ (s79.trans (same_upd np)) (s79.free np) upd_same
      · exact kk _ _ ⟨rfl, z, rfl⟩
    rintro σ H10 ⟨rfl, hv, rfl⟩
    rw [if_neg hv] at el
    walk_at "go"
    refine ⟨F, _, _, rfl, rfl, gF9, sz5 (by rw [List.length_map]; omega), ?_⟩
    have g10 := upd_same (H := H10) (a := F) (o := HO.lst (found.map V.int ++ [V.int (v % 256)]))
    have s10 := same_put s79 nF0 (o := HO.lst (found.map V.int ++ [V.int (v % 256)]))
    have gW10 : upd H10 F (HO.lst (found.map V.int ++ [V.int (v % 256)])) W = some (.lst ((p0 :: ts).map V.str)) := by
      rw [upd_ne hWF]
      exact gW9
    generalize upd H10 F (HO.lst (found.map V.int ++ [V.int (v % 256)])) = H11 at *
    have g10 : H11 F = some (.lst ((found ++ [v % 256]).map V.int)) := by
      rw [g10, List.map_append]
      rfl
    refine un ?_
    walk_at "go"
    try dsimp only
    refine ⟨kindS c, _, _, rfl, rfl, by rw [sizeLine_eq]; omega, atI_nat (v := kc) gk, ?_⟩
    walk_at "go"
    by_cases c1 : kc = 110
    · refine ifT ((sign_n kc).mpr c1) ?_
      rw [if_pos c1] at el
      walk_at "go"
      refine ⟨F, _, _, rfl, rfl, g10, sz5 (by rw [List.length_map, List.length_append]; show found.length + 1 ≤ _; omega), ?_⟩
      refine ob ⟨found ++ [v % 256] ++ [v / 256], sI (k : Nat), sI (topC kc : Nat), sI v, same_put s10 nF0, by rw [upd_ne hWF]; exact gW10, by rw [upd_same, List.map_append, List.map_append (l₁ := found ++ [v % 256]), List.map_append]; rfl, by rw [List.length_append, List.length_append]; show found.length + 1 + 1 ≤ _; omega, el, rfl⟩
    · refine ifF (fun z => c1 ((sign_n kc).mp z)) ?_
      rw [if_neg c1, List.append_nil] at el
      walk_at "go"
      refine ob ⟨found ++ [v % 256], sI (k : Nat), sI (topC kc : Nat), sI v, s10, gW10, g10, by rw [List.length_append]; show found.length + 1 ≤ _; omega, el, rfl⟩
  rintro σ H7 ⟨found, y5, y6, y7, s7, gF, lf, el, rfl⟩
  rw [el] at q
  walk_at "go"
  rw [List.length_map]
  refine ⟨by omega, by omega, fun L nL => lc_range (lo := 0) (n := ((4 : Int) - (found.length : Nat)).toNat) (fun j H' => Ob (Same H7 H' ∧ H' L = some (.lst ((List.replicate j (0 : Int)).map V.int)))) (ob ⟨same_upd nL, upd_same⟩) ?_ ?_⟩
  · intro j H8 hj h
    obtain ⟨s8, g8⟩ := unob h
    refine ⟨rfl, ?_⟩
    walk_at "go"
    refine ⟨_, g8, sz5 (by rw [List.length_map, List.length_replicate]; omega), ob ⟨same_put s8 nL, ?_⟩⟩
    rw [upd_same, List.replicate_succ', List.map_append]
    rfl
  intro H8 h
  obtain ⟨s8, g8⟩ := unob h
  have gF8 := s8 _ _ gF
  walk_at "go"
  refine ⟨F, L, _, _, rfl, rfl, gF8, g8, Nat.le_of_lt (sz5 (by rw [List.length_map, List.length_map, List.length_replicate]; omega)), fun p np => ?_⟩
  rw [← List.map_append]
  refine q p _ ((s7.trans s8).trans (same_upd np)) ((s7.trans s8).free np) ?_
  rw [upd_same]
  have e4 : ((4 : Int) - (found.length : Nat)).toNat = 4 - found.length := by omega
  rw [e4]
  rfl
end

end

/-! ### lists of ints as data -/
theorem dh_ints {H : Hp} : ∀ (ns : List Int), DhAll H (ns.map PyData.int) (ns.map V.int)
  | [] => rfl
  | n :: ns => ⟨.int n, ns.map V.int, rfl, rfl, dh_ints ns⟩
theorem lay_ints : ∀ ns : List Int, PyData.canLayAll0 (ns.map PyData.int) = true
  | [] => by simp [PyData.canLayAll0]
  | n :: ns => by
    simp only [List.map_cons, PyData.canLayAll0, PyData.canLay0, lay_ints ns, Bool.and_self]
theorem depth_ints : ∀ ns : List Int, PyData.depthAll (ns.map PyData.int) ≤ 1
  | [] => by simp [PyData.depthAll]
  | n :: ns => by
    have h := depth_ints ns
    simp only [List.map_cons, PyData.depthAll, PyData.depth]
    omega
theorem shaped_ints (ns : List Int) : SeqAt.shaped (.list (ns.map PyData.int)) = true := by
  have h1 := depth_ints ns
  have h2 : PyData.depth (.list (ns.map PyData.int)) ≤ 64 := by
    simp only [PyData.depth]
    omega
  show (PyData.canLay0 (.list (ns.map PyData.int)) && decide (PyData.depth (.list (ns.map PyData.int)) ≤ 64)) = true
  rw [Bool.and_eq_true]
  exact ⟨by simp only [PyData.canLay0]; exact lay_ints ns, decide_eq_true h2⟩
theorem eqvA_ints : ∀ ns : List Int, PyData.eqvAll (ns.map PyData.int) (ns.map PyData.int) = true
  | [] => by simp [PyData.eqvAll]
  | n :: ns => by
    simp only [List.map_cons, PyData.eqvAll, PyData.eqv, eqvA_ints ns, beq_self_eq_true, Bool.and_self]
theorem eqv_ints (ns : List Int) : PyData.eqv (.list (ns.map PyData.int)) (.list (ns.map PyData.int)) = true := by
  rw [PyData.eqv]
  exact eqvA_ints ns

section

-- a condition of an operator
local macro_rules | `(tactic| walk_at "cond") => `(tactic| first
  | (show (0 : Int) < _; omega)
  | (show CDiv _ _; constructor <;> (first | decide | omega))
  | (show CMul _ _; first | (refine cmul_l ?_; constructor <;> (first | decide | omega)) | (refine cmul_r ?_; constructor <;> (first | decide | omega)))
  | (show CPow _ _; exact (by refine ⟨by decide, by decide, by decide⟩))
  | (show CDivW _ _; exact ⟨by decide, by decide +kernel⟩))
local macro_rules | `(tactic| walk_at "sq") => `(tactic| first | assumption | exact Dh.mono (same_upd (by assumption)) _ _ (by assumption) | exact .inl (.inl (.inl (by assumption))) | exact .inr (.inl (.inl (by assumption))) | exact SqL.of (by assumption) | exact .inl (by assumption) | exact .inl (SqL.of (by assumption)) | exact SqT.of (by assumption) | exact .inr (SqT.of (by assumption)))
local macro_rules | `(tactic| walk_at "st") => `(tactic| first
  | refine ⟨_, rfl, ?_⟩
  | refine ⟨_, _, rfl, rfl, ?_⟩
  | refine .inl ⟨_, rfl, ?_⟩
  | refine ⟨rfl, ?_⟩
  | refine ⟨_, _, rfl, by walk_at "sq", ?_⟩
  | refine ⟨.inl ⟨rfl, _, SqL.of (by assumption)⟩, ?_⟩
  | refine ⟨by walk_at "cond", ?_⟩
  | (refine' ifBT ?hh ?_; (case hh => first | rfl | assumption))
  | (refine' ifBF ?hh ?_; (case hh => first | rfl | assumption)))
local macro_rules | `(tactic| walk_at "go") => `(tactic| repeat walk_at "st")
local macro_rules | `(tactic| walk_at "yes") => `(tactic| (refine' ifT ?hh ?_; (case hh => first | rfl | decide +kernel)))
local macro_rules | `(tactic| walk_at "no") => `(tactic| (refine' ifF ?hh ?_; (case hh => first | decide +kernel | (intro z; cases z; done))))

local macro_rules | `(tactic| walk_at "st") => `(tactic| refine ⟨_, _, _, _, _, rfl, by assumption, by assumption, by omega, by omega, by omega, by omega, by omega, ?_⟩)
local macro_rules | `(tactic| walk_at "st") => `(tactic| refine ⟨_, _, _, _, _, rfl, Same.seq (by assumption) (by assumption), by assumption, by omega, by omega, by omega, by omega, by omega, ?_⟩)

/-! ### the law's due -/
abbrev s_bytes_due : Stmt := topS 27
theorem sc_bytes_due : FnScope ["_law_lines", "_law_data", "_law_at", "_law_four"] ["_law_lines"] (C8.fnScope s_bytes_due) := C8.fnScope_by (by decide +kernel)
def dueD : Nat ⊕ List Int → PyData
  | .inl i => .tuple [.str "raises", .str "BadLine", .tuple [.int (i : Nat)]]
  | .inr ds => .tuple [.str "gives", .list (ds.map PyData.int)]
def dueT : Nat ⊕ List Int → Str
  | .inl _ => "raises"
  | .inr _ => "gives"
def spDue : Sp := fun vs H Q _ => ∃ (a : Addr) (lines : List Str), vs = [.ref a] ∧ H a = some (.lst (lines.map V.str)) ∧ (∀ l ∈ lines, l.length ≤ 10000) ∧ lines.length ≤ 1000 ∧
  ∀ (T : Addr) (us : List V) (H' : Hp), Same H H' → H' T = some (.tup us) → us[0]? = some (.str (dueT (asm0 lines))) → Dh H' (dueD (asm0 lines)) (.ref T) → Q (.ref T) H'
section
variable {P : Program} {w : World} {K : PySem.W.Frag} {mg : Str → Option Value} {base : Heap}
theorem ok_bdue {f : Addr} {fd : FuncData} (D : Def K mg "_law_bytes_due" s_bytes_due f fd) (b : Binds K fd ["_law_lines"] []) (T : Txt mg) (c_line_bytes : Cal P w K mg base 2 "_law_line_bytes" spLB []) : Cal P w K mg base 3 "_law_bytes_due" spDue [] := by
  refine cal0 D b .nil sc_bytes_due (fun vs H Q E h => ?_) (fun cdv A outer s H vs Q E hr h => ?_)
  · obtain ⟨a, lines, rfl, _⟩ := h
    rfl
  obtain ⟨a, lines, rfl, ga, hll, hl, q⟩ := h
  refine ⟨_, (pss_cons (ps_set (i := 1) sc_bytes_due.nd rfl (.inl rfl) (pe_lst pa_nil))
      (pss_cons (ps_mk (ps_for PassesOwn.never rfl (pi_range1 (by rfl) T.range (pa_cons (pe_callB (lenQ K rfl) (by rfl) T.len PySem.boot_len (pa_cons (pv 0) pa_nil)) pa_nil)) (pg_name (i := 2) sc_bytes_due.nd rfl (.inl rfl))
      (pss_cons (ps_set (i := 3) sc_bytes_due.nd rfl (.inl rfl) (C8.pe_c c_line_bytes hr (by omega) (by rfl) (pa_cons (pe_ix (ixL K rfl) (pv 0) (pv 2) (fun _ _ => rfl)) pa_nil)))
      (pss_cons (ps_mk (ps_if (pt_cmpR op_eq (pe_callB (lenQ K rfl) (by rfl) T.len PySem.boot_len (pa_cons (pv 3) pa_nil)) pe_int (nomark _))
      (pss_one (ps_ret (pe_tup (pa_cons pe_str (pa_cons pe_str (pa_cons (pe_tup (pa_cons (pv 2) pa_nil)) pa_nil))))))
      pss_nil))
      (pss_one (ps_expr (pe_bm PySem.F.plainAttrs_list PySem.F.slot_list_extend PySem.F.type_list_extend mt_extend (pv 1) (pa_cons (pv 3) pa_nil))))))))
      (pss_one (ps_ret (pe_tup (pa_cons pe_str (pa_cons (pv 1) pa_nil))))))), ?_⟩
  walk_at "go"
  refine ⟨sz, fun L nL => ?_⟩
  have s1 := same_upd (o := HO.lst []) nL
  have gL := upd_same (H := H) (a := L) (o := HO.lst [])
  have ga1 := s1 _ _ ga
  generalize upd H L (HO.lst []) = H1 at *
  refine jnS (M := fun σ H' => ∃ ds y2 y3, Same H H' ∧ H' L = some (.lst (ds.map V.int)) ∧ asm0 lines = .inr ds ∧ σ = [sR a, sR L, y2, y3]) ?_ (fun N kk => ?_)
  · rintro σ H2 ⟨ds, y2, y3, s2, g2, el, rfl⟩
    walk_at "go"
    refine ⟨sz, fun T nT => ?_⟩
    have s3 := same_upd (o := HO.tup [V.str "gives", V.ref L]) nT
    refine q T _ _ (s2.trans s3) upd_same ?_ ?_
    · rw [el]
      rfl
    · rw [el]
      exact ⟨T, _, rfl, upd_same, _, _, rfl, rfl, _, _, rfl, ⟨L, _, rfl, s3 _ _ g2, dh_ints ds⟩, rfl⟩
  walk_at "go"
  rw [List.length_map]
  refine ⟨by omega, by omega, for_range (lo := 0) (n := lines.length) (fun i σ H' => Ob (∃ ds y2 y3, Same H H' ∧ H' L = some (.lst (ds.map V.int)) ∧ ds.length ≤ 20 * i ∧ asm0 lines = preB ds (asm (lines.drop i) i) ∧ σ = [sR a, sR L, y2, y3])) (ob ⟨[], none, none, s1, gL, Nat.le_refl _, (preB_nil _).symm, rfl⟩) ?_ ?_⟩
  rotate_left
  · intro σ H2 h
    obtain ⟨ds, y2, y3, s2, g2, ll, el, rfl⟩ := unob h
    rw [List.drop_length, asm] at el
    exact kk _ _ ⟨ds, y2, y3, s2, g2, by rw [el, preB, List.append_nil], rfl⟩
  intro i σ H2 hi h
  obtain ⟨ds, y2, y3, s2, g2, ll, el, rfl⟩ := unob h
  clear h kk
  have ga2 := s2 _ _ ga
  have hlen := hll _ (List.getElem_mem hi)
  have gl : lines[i]? = some lines[i] := List.getElem?_eq_getElem hi
  rw [List.drop_eq_getElem_cons hi] at el
  generalize lines[i] = line at *
  rw [show (0 : Int) + (i : Nat) = (i : Nat) by omega]
  walk_at "go"
  refine ⟨a, _, _, .str line, rfl, rfl, SqL.of ga2, atI_nat (by rw [List.getElem?_map, gl]; rfl), ?_⟩
  walk_at "go"
  refine ⟨hlen, fun p H3 s3 np gp => ?_⟩
  have g3 := s3 _ _ g2
  have s23 := s2.trans s3
  clear g2 s3
  have fin : lineF (partsF line) = none → asm0 lines = .inl i := fun e => by
    rw [asm_none e] at el
    exact el
  refine jnS (M := fun σ H' => ∃ bs, H' = H3 ∧ lineF (partsF line) = some bs ∧ σ = [sR a, sR L, sI (i : Nat), sR p]) ?_ (fun N kk => ?_)
  rotate_left
  · walk_at "go"
    rw [List.length_map]
    cases e : lineF (partsF line) with
    | none =>
      rw [fin e] at q
      walk_at "go"
      refine ⟨sz, fun U nU => ?_⟩
      have sU := same_upd (o := HO.tup [V.int (i : Nat)]) nU
      have gU := upd_same (H := H3) (a := U) (o := HO.tup [V.int (i : Nat)])
      have sX := s23.trans sU
      generalize upd H3 U (HO.tup [V.int (i : Nat)]) = H6 at *
      walk_at "go"
      refine ⟨sz, fun T nT => ?_⟩
      have sT := same_upd (o := HO.tup [V.str "raises", V.str "BadLine", V.ref U]) nT
      exact q T _ _ (sX.trans sT) upd_same rfl ⟨T, _, rfl, upd_same, _, _, rfl, rfl, _, _, rfl, rfl, _, _, rfl, ⟨U, _, rfl, sT _ _ gU, _, _, rfl, rfl, rfl⟩, rfl⟩
    | some bs =>
      have := (line_len e).1
      refine ifF (fun z => ?_) ?_
      · have z := V.int.inj z
        rw [show (some bs).getD [] = bs from rfl] at z
        omega
      walk_at "go"
      exact kk _ _ ⟨bs, rfl, e, rfl⟩
  rintro σ H4 ⟨bs, rfl, eb, rfl⟩
  rw [asm_some eb] at el
  rw [eb] at gp
  have lb := (line_len eb).2
  walk_at "go"
  refine ⟨L, p, _, _, rfl, rfl, g3, gp, Nat.le_of_lt (sz5 (by rw [List.length_map, List.length_map, show (some bs).getD [] = bs from rfl]; omega)), ?_⟩
  exact ob ⟨ds ++ bs, _, _, same_put s23 nL, by rw [upd_same, List.map_append]; rfl, by rw [List.length_append]; omega, el, rfl⟩
end

end

section

-- a condition of an operator
local macro_rules | `(tactic| walk_at "cond") => `(tactic| first
  | (show (0 : Int) < _; omega)
  | (show CDiv _ _; constructor <;> (first | decide | omega))
  | (show CMul _ _; first | (refine cmul_l ?_; constructor <;> (first | decide | omega)) | (refine cmul_r ?_; constructor <;> (first | decide | omega)))
  | (show CPow _ _; exact (by refine ⟨by decide, by decide, by decide⟩))
  | (show CDivW _ _; exact ⟨by decide, by decide +kernel⟩))
local macro_rules | `(tactic| walk_at "sq") => `(tactic| first | assumption | exact Dh.mono (same_upd (by assumption)) _ _ (by assumption) | exact .inl (.inl (.inl (by assumption))) | exact .inr (.inl (.inl (by assumption))) | exact SqL.of (by assumption) | exact .inl (by assumption) | exact .inl (SqL.of (by assumption)) | exact SqT.of (by assumption) | exact .inr (SqT.of (by assumption)))
local macro_rules | `(tactic| walk_at "st") => `(tactic| first
  | refine ⟨_, rfl, ?_⟩
  | refine ⟨_, _, rfl, rfl, ?_⟩
  | refine .inl ⟨_, rfl, ?_⟩
  | refine ⟨rfl, ?_⟩
  | refine ⟨_, _, rfl, by walk_at "sq", ?_⟩
  | refine ⟨.inl ⟨rfl, _, SqL.of (by assumption)⟩, ?_⟩
  | refine ⟨by walk_at "cond", ?_⟩
  | (refine' ifBT ?hh ?_; (case hh => first | rfl | assumption))
  | (refine' ifBF ?hh ?_; (case hh => first | rfl | assumption)))
local macro_rules | `(tactic| walk_at "go") => `(tactic| repeat walk_at "st")
local macro_rules | `(tactic| walk_at "yes") => `(tactic| (refine' ifT ?hh ?_; (case hh => first | rfl | decide +kernel)))
local macro_rules | `(tactic| walk_at "no") => `(tactic| (refine' ifF ?hh ?_; (case hh => first | decide +kernel | (intro z; cases z; done))))

local macro_rules | `(tactic| walk_at "st") => `(tactic| refine ⟨_, _, _, _, _, rfl, by assumption, by assumption, by omega, by omega, by omega, by omega, by omega, ?_⟩)
local macro_rules | `(tactic| walk_at "st") => `(tactic| refine ⟨_, _, _, _, _, rfl, Same.seq (by assumption) (by assumption), by assumption, by omega, by omega, by omega, by omega, by omega, ?_⟩)

/-! ### the law's try -/
abbrev s_bytes_told : Stmt := topS 33
theorem sc_bytes_told : FnScope ["_law_lines", "_law_handed", "_law_told", "e"] ["_law_lines"] (C8.fnScope s_bytes_told) := C8.fnScope_by (by decide +kernel)
/-- what the top says of the errors -/
structure ETc (K : PySem.W.Frag) (mg : Str → Option Value) (BC CE BL AE LE ME FE PgE : Addr) : Prop where
  mBC : mg "BadCode" = some (.ref BC)
  mCE : mg "CodeError" = some (.ref CE)
  mBL : mg "BadLine" = some (.ref BL)
  mA : mg "AccessError" = some (.ref AE)
  mL : mg "LimitError" = some (.ref LE)
  mM : mg "MissingError" = some (.ref ME)
  mF : mg "FileError" = some (.ref FE)
  mP : mg "PagesError" = some (.ref PgE)
  zV : mg "ValueError" = none
  zI : mg "isinstance" = none
  xc : ExcC K BL
  xf : XfC K BL
  nN : PySem.W.findIn K (.ref BL) "number" = some none
  eBB : PySem.W.exmOne K (.ref BL) (.ref BL) = some true
  eBC : PySem.W.exmOne K (.ref BL) (.ref CE) = some true
  iB1 : PySem.W.kitAny K (.ref BL) [.ref BC, .ref AE] = some false
  iB2 : PySem.W.kitAny K (.ref BL) [.ref LE, .ref ME, .ref FE] = some false
  iBB : PySem.W.kitOne K (.ref BL) (.ref BL) = some true
  iBP : PySem.W.kitOne K (.ref BL) (.ref PgE) = some true
  iBV : PySem.W.kitOne K (.ref BL) (.type "ValueError") = some true
theorem bl_num {i : Int} : (blF i).lookup ("number" : Str) = some (.int i) := by kernel_rfl
theorem dle_ss {n : Nat} {ns : List Str} (h : ns.length ≤ 100000) : Dle (n + 2) (.list (ns.map PyData.str)) := ⟨by rw [List.length_map]; exact h, fun d m => by
  obtain ⟨i, _, rfl⟩ := List.mem_map.mp m
  exact trivial⟩
theorem dh_strs {H : Hp} : ∀ (ls : List Str), DhAll H (ls.map PyData.str) (ls.map V.str)
  | [] => rfl
  | _ :: ls => ⟨_, _, rfl, rfl, dh_strs ls⟩
def spTold : Sp := fun vs H Q _ => ∃ (a : Addr) (data : List Str), vs = [.ref a] ∧ H a = some (.lst (data.map V.str)) ∧ (∀ l ∈ data, l.length ≤ 10000) ∧ data.length ≤ 1000 ∧
  (∀ ls, asm0 data = .inr ls → ∀ (T L : Addr) (H' : Hp), Same H H' → H L = none → H' T = some (.tup [.str "gives", .ref L]) → H' L = some (.lst (ls.map V.int)) → Q (.ref T) H') ∧
  (∀ i, asm0 data = .inl i → ∀ (T U : Addr) (H' : Hp), Same H H' → H' T = some (.tup [.str "raises", .str "BadLine", .ref U]) → H' U = some (.tup [.int (i : Nat)]) → Q (.ref T) H')
section
variable {P : Program} {w : World} {K : PySem.W.Frag} {mg : Str → Option Value} {base : Heap} {FM BC CE BL AE LE ME FE PgE : Addr}
theorem ok_told {f : Addr} {fd : FuncData} (D : Def K mg "_law_bytes_told" s_bytes_told f fd) (b : Binds K fd ["_law_lines"] []) (T : Txt mg) (TE : ETc K mg BC CE BL AE LE ME FE PgE) (e_asm : CalE P w K mg base 3 "assemble" (spAsm BL)) (c_same : Cal P w K mg base 4 "_law_same" (spSame 3) []) : Cal P w K mg base 5 "_law_bytes_told" spTold [] := by
  refine cal0 D b .nil sc_bytes_told (fun vs H Q E h => ?_) (fun cdv A outer s H vs Q E hr h => ?_)
  · obtain ⟨a, data, rfl, _⟩ := h
    rfl
  obtain ⟨a, data, rfl, ga, hby, hl, q1, q2⟩ := h
  refine ⟨_, (pss_cons (ps_set (i := 1) sc_bytes_told.nd rfl (.inl rfl) (pe_callTy (listQ K rfl) (by rfl) T.list (by decide +kernel) (pa_cons (pv 0) pa_nil)))
      (pss_cons (ps_set (i := 2) sc_bytes_told.nd rfl (.inl rfl) pe_non)
      (pss_cons (ps_mk (ps_try_m (i := 3) rfl rfl sc_bytes_told.nd rfl rfl ⟨rfl, by decide, Or.inl TE.mBL⟩ takes0 (fun W pn xe tk _ =>
      (pss_one (ps_set (i := 2) sc_bytes_told.nd rfl (.inl rfl) (pe_tup (pa_cons pe_str (pa_cons (pe_cE e_asm tk hr (by omega) (by rfl) (pa_cons (pv 1) pa_nil)) pa_nil))))))
      (fun a oe cls d pn hz hf =>
      (pss_one (ps_set (i := 2) sc_bytes_told.nd rfl (.inl rfl) (pe_tup (pa_cons pe_str (pa_cons pe_str (pa_cons (pe_tup (pa_cons (pe_xf TE.xf TE.nN hz hf (pv 3)) pa_nil)) pa_nil)))))))))
      (pss_cons (ps_mk (ps_if (pt_not (pt_val (C8.pe_c c_same hr (by omega) (by rfl) (pa_cons (pv 1) (pa_cons (pv 0) pa_nil)))))
      (pss_one (ps_ret pe_non))
      pss_nil))
      (pss_one (ps_ret (pv 2))))))), ?_⟩
  walk_at "go"
  intro h nh
  have s1 := same_upd (o := HO.lst (data.map V.str)) nh
  have gh := upd_same (H := H) (a := h) (o := HO.lst (data.map V.str))
  have ga1 := s1 _ _ ga
  have fr := s1
  generalize upd H h (HO.lst (data.map V.str)) = H1 at *
  try dsimp only
  walk_at "go"
  refine jnS (M := fun σ H' => ∃ v, Same H1 H' ∧ (∀ H'', Same H' H'' → Q v H'') ∧ σ = [sR a, sR h, some v, none]) ?_ (fun N kk => ?_)
  rotate_left
  · intro W hW
    have key : ∀ i, asm0 data = .inl i → ∀ d H2, Same H1 H2 → H2 d = some (.xd (blF (i : Nat))) → W (.ref BL) (some d) [sR a, sR h, some .non, none] H2 := fun i ei d H2 s2 gd => hW _ _ _ _ (catch_yes TE.eBB fun x nx => by
      clear hW
      walk_at "go"
      refine ⟨d, _, .int (i : Nat), rfl, gd, bl_num, ?_⟩
      walk_at "go"
      refine ⟨sz, fun U nU => ?_⟩
      have sU := same_upd (o := HO.tup [V.int (i : Nat)]) nU
      have gU := upd_same (H := H2) (a := U) (o := HO.tup [V.int (i : Nat)])
      have s3 := s2.trans sU
      clear sU nU gd s2
      generalize upd H2 U (HO.tup [V.int (i : Nat)]) = H3 at *
      walk_at "go"
      refine ⟨sz, fun T nT => ?_⟩
      have sT := same_upd (o := HO.tup [V.str "raises", V.str "BadLine", V.ref U]) nT
      have gT := upd_same (H := H3) (a := T) (o := HO.tup [V.str "raises", V.str "BadLine", V.ref U])
      have gU := sT _ _ gU
      have s4 := s3.trans sT
      generalize upd H3 T (HO.tup [V.str "raises", V.str "BadLine", V.ref U]) = H4 at *
      exact kk _ _ ⟨.ref T, s4, fun H5 s5 => q2 i ei T U H5 (s1.trans (s4.trans s5)) (s5 _ _ gT) (s5 _ _ gU), rfl⟩)
    walk_at "go"
    refine ⟨hby, hl, fun ls el p H2 s2 np gp => ?_, fun i ei d H2 s2 gd => key i ei d H2 s2 gd⟩
    walk_at "go"
    refine ⟨sz, fun T nT => ?_⟩
    have sT := same_upd (o := HO.tup [V.str "gives", V.ref p]) nT
    have gT := upd_same (H := H2) (a := T) (o := HO.tup [V.str "gives", V.ref p])
    have gp := sT _ _ gp
    have s3 := s2.trans sT
    clear hW key
    generalize upd H2 T (HO.tup [V.str "gives", V.ref p]) = H3 at *
    exact kk _ _ ⟨.ref T, s3, fun H4 s4 => q1 ls el T p H4 (s1.trans (s3.trans s4)) (s1.free np) (s4 _ _ gT) (s4 _ _ gp), rfl⟩
  rintro σ H2 ⟨v, s2, qv, rfl⟩
  have gh2 := s2 _ _ gh
  have ga2 := s2 _ _ ga1
  have dh : ∀ r, H2 r = some (.lst (data.map V.str)) → Dh H2 (.list (data.map PyData.str)) (.ref r) := fun r g => ⟨r, _, rfl, g, dh_strs data⟩
  walk_at "go"
  refine un ?_
  walk_at "go"
  refine ⟨.ref h, .ref a, _, _, rfl, dh h gh2, dh a ga2, dle_ss (by omega), fun bb H3 hb s3 => ?_⟩
  obtain rfl := hb.mpr rfl
  walk_at "go"
  exact qv _ s3
end

end

section

-- a condition of an operator
local macro_rules | `(tactic| walk_at "cond") => `(tactic| first
  | (show (0 : Int) < _; omega)
  | (show CDiv _ _; constructor <;> (first | decide | omega))
  | (show CMul _ _; first | (refine cmul_l ?_; constructor <;> (first | decide | omega)) | (refine cmul_r ?_; constructor <;> (first | decide | omega)))
  | (show CPow _ _; exact (by refine ⟨by decide, by decide, by decide⟩))
  | (show CDivW _ _; exact ⟨by decide, by decide +kernel⟩))
local macro_rules | `(tactic| walk_at "sq") => `(tactic| first | assumption | exact Dh.mono (same_upd (by assumption)) _ _ (by assumption) | exact .inl (.inl (.inl (by assumption))) | exact .inr (.inl (.inl (by assumption))) | exact SqL.of (by assumption) | exact .inl (by assumption) | exact .inl (SqL.of (by assumption)) | exact SqT.of (by assumption) | exact .inr (SqT.of (by assumption)))
local macro_rules | `(tactic| walk_at "st") => `(tactic| first
  | refine ⟨_, rfl, ?_⟩
  | refine ⟨_, _, rfl, rfl, ?_⟩
  | refine .inl ⟨_, rfl, ?_⟩
  | refine ⟨rfl, ?_⟩
  | refine ⟨_, _, rfl, by walk_at "sq", ?_⟩
  | refine ⟨.inl ⟨rfl, _, SqL.of (by assumption)⟩, ?_⟩
  | refine ⟨by walk_at "cond", ?_⟩
  | (refine' ifBT ?hh ?_; (case hh => first | rfl | assumption))
  | (refine' ifBF ?hh ?_; (case hh => first | rfl | assumption)))
local macro_rules | `(tactic| walk_at "go") => `(tactic| repeat walk_at "st")
local macro_rules | `(tactic| walk_at "yes") => `(tactic| (refine' ifT ?hh ?_; (case hh => first | rfl | decide +kernel)))
local macro_rules | `(tactic| walk_at "no") => `(tactic| (refine' ifF ?hh ?_; (case hh => first | decide +kernel | (intro z; cases z; done))))

local macro_rules | `(tactic| walk_at "st") => `(tactic| refine ⟨_, _, _, _, _, rfl, by assumption, by assumption, by omega, by omega, by omega, by omega, by omega, ?_⟩)
local macro_rules | `(tactic| walk_at "st") => `(tactic| refine ⟨_, _, _, _, _, rfl, Same.seq (by assumption) (by assumption), by assumption, by omega, by omega, by omega, by omega, by omega, ?_⟩)

/-! ### the law's round, and the family of the error -/
abbrev s_bytes_hold : Stmt := topS 34
theorem sc_bytes_hold : FnScope ["_law_lines", "_law_due", "_law_turn", "_law_told"] ["_law_lines"] (C8.fnScope s_bytes_hold) := C8.fnScope_by (by decide +kernel)
abbrev s_line_family : Stmt := topS 35
theorem sc_line_family : FnScope ["_law_lines", "e"] ["_law_lines"] (C8.fnScope s_line_family) := C8.fnScope_by (by decide +kernel)
theorem dle_due : ∀ r : Nat ⊕ List Int, (∀ ls, r = .inr ls → ls.length ≤ 100000) → Dle 3 (dueD r)
  | .inl i, _ => ⟨by show 3 ≤ 100000; decide, fun d hd => by
    simp only [List.mem_cons, List.not_mem_nil, or_false] at hd
    rcases hd with rfl | rfl | rfl
    · exact trivial
    · exact trivial
    · exact ⟨by show 1 ≤ 100000; decide, fun d hd => by
        simp only [List.mem_cons, List.not_mem_nil, or_false] at hd
        obtain rfl := hd
        exact trivial⟩⟩
  | .inr ls, h => ⟨by show 2 ≤ 100000; decide, fun d hd => by
    simp only [List.mem_cons, List.not_mem_nil, or_false] at hd
    rcases hd with rfl | rfl
    · exact trivial
    · exact ⟨by rw [List.length_map]; exact h ls rfl, fun d hd => by
        obtain ⟨i, _, rfl⟩ := List.mem_map.mp hd
        exact trivial⟩⟩
def spHold : Sp := fun vs H Q _ => ∃ (a : Addr) (data : List Str), vs = [.ref a] ∧ H a = some (.lst (data.map V.str)) ∧ (∀ l ∈ data, l.length ≤ 10000) ∧ data.length ≤ 1000 ∧ ∀ H', Same H H' → Q (.bl true) H'
def spFam : Sp := fun vs H Q _ => ∃ (a : Addr) (data : List Str) (i : Nat), vs = [.ref a] ∧ H a = some (.lst (data.map V.str)) ∧ (∀ l ∈ data, l.length ≤ 10000) ∧ data.length ≤ 1000 ∧ asm0 data = .inl i ∧ ∀ H', Same H H' → Q (.bl true) H'
section
variable {P : Program} {w : World} {K : PySem.W.Frag} {mg : Str → Option Value} {base : Heap} {FM BC CE BL AE LE ME FE PgE : Addr}
theorem ok_hold {f : Addr} {fd : FuncData} (D : Def K mg "_law_bytes_hold" s_bytes_hold f fd) (b : Binds K fd ["_law_lines"] []) (T : Txt mg) (c_bytes_due : Cal P w K mg base 3 "_law_bytes_due" spDue []) (c_bytes_told : Cal P w K mg base 5 "_law_bytes_told" spTold []) (c_same : Cal P w K mg base 4 "_law_same" (spSame 3) []) : Cal P w K mg base 6 "_law_bytes_hold" spHold [] := by
  refine cal0 D b .nil sc_bytes_hold (fun vs H Q E h => ?_) (fun cdv A outer s H vs Q E hr h => ?_)
  · obtain ⟨a, data, rfl, _⟩ := h
    rfl
  obtain ⟨a, data, rfl, ga, hby, hl, q⟩ := h
  have dl : Dle 3 (dueD (asm0 data)) := dle_due _ fun ls e => by
    have := asm_len e
    omega
  refine ⟨_, (pss_cons (ps_set (i := 1) sc_bytes_hold.nd rfl (.inl rfl) (C8.pe_c c_bytes_due hr (by omega) (by rfl) (pa_cons (pv 0) pa_nil)))
      (pss_cons (ps_mk (ps_for PassesOwn.never rfl (pi_range1 (by rfl) T.range (pa_cons pe_int pa_nil)) (pg_name (i := 2) sc_bytes_hold.nd rfl (.inl rfl))
      (pss_cons (ps_set (i := 3) sc_bytes_hold.nd rfl (.inl rfl) (C8.pe_c c_bytes_told hr (by omega) (by rfl) (pa_cons (pv 0) pa_nil)))
      (pss_cons (ps_mk (ps_if (pt_not (pt_val (C8.pe_c c_same hr (by omega) (by rfl) (pa_cons (pv 3) (pa_cons (pv 1) pa_nil)))))
      (pss_one (ps_ret pe_bl))
      pss_nil))
      (pss_one (ps_mk (ps_if (pt_cmpR op_eq (pe_ix (ixT K rfl) (pv 3) pe_int (fun _ _ => rfl)) pe_str (nomark _))
      (pss_one (ps_expr (pe_bm PySem.F.plainAttrs_list PySem.F.slot_list_append PySem.F.type_list_append mt_append (pe_ix (ixT K rfl) (pv 3) pe_int (fun _ _ => rfl)) (pa_cons (pv 2) pa_nil))))
      pss_nil)))))))
      (pss_one (ps_ret pe_bl)))), ?_⟩
  walk_at "go"
  refine ⟨hby, hl, fun DT us H1 s1 gD hu dD => ?_⟩
  clear hu gD
  walk_at "go"
  refine jnS (M := fun σ H' => ∃ y2 y3, Same H H' ∧ σ = [sR a, sR DT, y2, y3]) ?_ (fun N kk => ?_)
  · rintro σ H2 ⟨y2, y3, s2, rfl⟩
    walk_at "go"
    exact q _ s2
  walk_at "go"
  refine ⟨by omega, by omega, for_range (lo := 0) (n := 2) (fun i σ H' => Ob (∃ y2 y3, Same H1 H' ∧ σ = [sR a, sR DT, y2, y3])) (ob ⟨none, none, same_rfl, rfl⟩) ?_ ?_⟩
  rotate_left
  · intro σ H2 h
    obtain ⟨y2, y3, s2, rfl⟩ := unob h
    exact kk _ _ ⟨y2, y3, s1.trans s2, rfl⟩
  intro i σ H2 hi h
  obtain ⟨y2, y3, s2, rfl⟩ := unob h
  clear h kk
  have ga2 := s2 _ _ (s1 _ _ ga)
  walk_at "go"
  refine ⟨hby, hl, fun ls el T L H3 s3 nL gT gL => ?_, fun i ei T U H3 s3 gT gU => ?_⟩
  · have dT : Dh H3 (dueD (asm0 data)) (.ref T) := by
      rw [el]
      exact ⟨T, _, rfl, gT, _, _, rfl, rfl, _, _, rfl, ⟨L, _, rfl, gL, dh_ints ls⟩, rfl⟩
    have dD3 := Dh.mono (s2.trans s3) _ _ dD
    walk_at "go"
    refine jnS (M := fun σ H' => Same H3 H' ∧ σ = [sR a, sR DT, sI (0 + (i : Int)), sR T]) ?_ (fun N kk => ?_)
    rotate_left
    · walk_at "go"
      refine ⟨.ref T, .ref DT, _, _, rfl, dT, dD3, dl, fun bb H4 hb s4 => ?_⟩
      obtain rfl := hb.mpr rfl
      walk_at "go"
      exact kk _ _ ⟨s4, rfl⟩
    rintro σ H4 ⟨s4, rfl⟩
    have gT4 := s4 _ _ gT
    have gL4 := s4 _ _ gL
    refine un ?_
    walk_at "go"
    refine ⟨T, _, _, _, rfl, rfl, SqT.of gT4, atI_nat (j := 0) rfl, ?_⟩
    walk_at "go"
    refine ⟨T, _, _, _, rfl, rfl, SqT.of gT4, atI_nat (j := 1) rfl, ?_⟩
    walk_at "go"
    refine ⟨L, _, _, rfl, rfl, gL4, sz5 (by rw [List.length_map]; have := asm_len el; omega), ?_⟩
    exact ob ⟨_, _, same_put (s2.trans (s3.trans s4)) (s2.free nL), rfl⟩
  · have dT : Dh H3 (dueD (asm0 data)) (.ref T) := by
      rw [ei]
      exact ⟨T, _, rfl, gT, _, _, rfl, rfl, _, _, rfl, rfl, _, _, rfl, ⟨U, _, rfl, gU, _, _, rfl, rfl, rfl⟩, rfl⟩
    have dD3 := Dh.mono (s2.trans s3) _ _ dD
    try dsimp only
    walk_at "go"
    refine jnS (M := fun σ H' => ∃ y2, Same H3 H' ∧ σ = [sR a, sR DT, y2, sR T]) ?_ (fun N kk => ?_)
    rotate_left
    · walk_at "go"
      refine ⟨.ref T, .ref DT, _, _, rfl, dT, dD3, dl, fun bb H4 hb s4 => ?_⟩
      obtain rfl := hb.mpr rfl
      walk_at "go"
      exact kk _ _ ⟨_, s4, rfl⟩
    rintro σ H4 ⟨y2', s4, rfl⟩
    have gT4 := s4 _ _ gT
    refine un ?_
    walk_at "go"
    refine ⟨T, _, _, _, rfl, rfl, SqT.of gT4, atI_nat (j := 0) rfl, ?_⟩
    walk_at "go"
    exact ob ⟨_, _, s2.trans (s3.trans s4), rfl⟩
theorem ok_fam {f : Addr} {fd : FuncData} (D : Def K mg "_law_line_family" s_line_family f fd) (b : Binds K fd ["_law_lines"] []) (T : Txt mg) (TE : ETc K mg BC CE BL AE LE ME FE PgE) (e_asm : CalE P w K mg base 3 "assemble" (spAsm BL)) : Cal P w K mg base 4 "_law_line_family" spFam [] := by
  refine cal0 D b .nil sc_line_family (fun vs H Q E h => ?_) (fun cdv A outer s H vs Q E hr h => ?_)
  · obtain ⟨a, data, i, rfl, _⟩ := h
    rfl
  obtain ⟨a, data, i, rfl, ga, hby, hl, ei, q⟩ := h
  refine ⟨_, (pss_cons (ps_mk (ps_try_m (i := 1) rfl rfl sc_line_family.nd rfl rfl ⟨rfl, by decide, Or.inl TE.mCE⟩ takes0 (fun W pn xe tk _ =>
      (pss_one (ps_expr (pe_cE e_asm tk hr (by omega) (by rfl) (pa_cons (pe_callTy (listQ K rfl) (by rfl) T.list (by decide +kernel) (pa_cons (pv 0) pa_nil)) pa_nil)))))
      (fun a oe cls d pn hz hf =>
      (pss_cons (ps_mk (ps_if (PW.pt (pw_or (pt_val (pe_callB (call_isXT K rfl TE.xc hz hf) (by rfl) T.isinstance (by decide +kernel) (pa_cons (pv 1) (pa_cons (pe_tup (pa_cons (pe_glob (v := V.ref BC) (by rfl) TE.mBC rfl) (pa_cons (pe_glob (v := V.ref AE) (by rfl) TE.mA rfl) pa_nil))) pa_nil)))) (pw_or1 (pt_val (pe_callB (call_isXT K rfl TE.xc hz hf) (by rfl) T.isinstance (by decide +kernel) (pa_cons (pv 1) (pa_cons (pe_tup (pa_cons (pe_glob (v := V.ref LE) (by rfl) TE.mL rfl) (pa_cons (pe_glob (v := V.ref ME) (by rfl) TE.mM rfl) (pa_cons (pe_glob (v := V.ref FE) (by rfl) TE.mF rfl) pa_nil)))) pa_nil)))))))
      (pss_one (ps_ret pe_bl))
      pss_nil))
      (pss_one (ps_ret (pe_and (pe_callB (call_isX K rfl TE.xc hz hf) (by rfl) T.isinstance (by decide +kernel) (pa_cons (pv 1) (pa_cons (pe_glob (v := V.ref BL) (by rfl) TE.mBL rfl) pa_nil))) (pe_and (pe_callB (call_isX K rfl TE.xc hz hf) (by rfl) T.isinstance (by decide +kernel) (pa_cons (pv 1) (pa_cons (pe_glob (v := V.ref PgE) (by rfl) TE.mP rfl) pa_nil))) (pe_one (pe_callB (call_isX K rfl TE.xc hz hf) (by rfl) T.isinstance (by decide +kernel) (pa_cons (pv 1) (pa_cons (pe_bltn (v := .ty "ValueError") (by rfl) TE.zV (by decide +kernel) rfl) pa_nil))))))))))))
      (pss_one (ps_ret pe_bl))), ?_⟩
  walk_at "go"
  refine jnS (M := fun σ H' => False) (fun σ H' z => z.elim) (fun N kk => ?_)
  intro W hW
  have key : ∀ d H2, Same H H2 → H2 d = some (.xd (blF (i : Nat))) → W (.ref BL) (some d) [sR a, none] H2 := fun d H2 s2 gd => hW _ _ _ _ (catch_yes TE.eBC fun x nx => by
    clear hW
    walk_at "go"
    refine jnS (M := fun σ H' => Same H2 H' ∧ σ = [sR a, some (.ref x)]) ?_ (fun N k2 => ?_)
    rotate_left
    · walk_at "go"
      refine ⟨sz, fun tp ntp => ?_⟩
      have st := same_upd (o := HO.tup [V.ref BC, V.ref AE]) ntp
      walk_at "go"
      refine ⟨d, tp, _, _, false, _, rfl, rfl, upd_same, .cons (.own BC) (.cons (.own AE) .nil), st _ _ gd, TE.iB1, ?_⟩
      have gd := st _ _ gd
      generalize upd H2 tp (HO.tup [V.ref BC, V.ref AE]) = H3 at *
      walk_at "go"
      refine ⟨sz, fun tp ntp => ?_⟩
      have st2 := same_upd (o := HO.tup [V.ref LE, V.ref ME, V.ref FE]) ntp
      walk_at "go"
      refine ⟨d, tp, _, _, false, _, rfl, rfl, upd_same, .cons (.own LE) (.cons (.own ME) (.cons (.own FE) .nil)), st2 _ _ gd, TE.iB2, ?_⟩
      walk_at "go"
      exact k2 _ _ ⟨st.trans st2, rfl⟩
    rintro σ H3 ⟨s3, rfl⟩
    have gd := s3 _ _ gd
    walk_at "go"
    refine ⟨d, _, _, true, _, rfl, rfl, .own BL, gd, TE.iBB, ?_⟩
    walk_at "go"
    refine ⟨d, _, _, true, _, rfl, rfl, .own PgE, gd, TE.iBP, ?_⟩
    walk_at "go"
    refine ⟨d, _, _, true, _, rfl, rfl, .ty "ValueError", gd, TE.iBV, ?_⟩
    walk_at "go"
    exact q _ (s2.trans s3))
  walk_at "go"
  intro l nl
  have s1 := same_upd (o := HO.lst (data.map V.str)) nl
  have gl := upd_same (H := H) (a := l) (o := HO.lst (data.map V.str))
  generalize upd H l (HO.lst (data.map V.str)) = H1 at *
  refine ⟨l, data, rfl, gl, hby, hl, fun ls el => ?_, fun j ej d H2 s2 gd => ?_⟩
  · have : asm0 data = .inr ls := el
    rw [ei] at this
    cases this
  · have : asm0 data = .inl j := ej
    rw [ei] at this
    obtain rfl := Sum.inl.inj this
    exact key d H2 (s1.trans s2) gd
end

end

section

-- a condition of an operator
local macro_rules | `(tactic| walk_at "cond") => `(tactic| first
  | (show (0 : Int) < _; omega)
  | (show CDiv _ _; constructor <;> (first | decide | omega))
  | (show CMul _ _; first | (refine cmul_l ?_; constructor <;> (first | decide | omega)) | (refine cmul_r ?_; constructor <;> (first | decide | omega)))
  | (show CPow _ _; exact (by refine ⟨by decide, by decide, by decide⟩))
  | (show CDivW _ _; exact ⟨by decide, by decide +kernel⟩))
local macro_rules | `(tactic| walk_at "sq") => `(tactic| first | assumption | exact Dh.mono (same_upd (by assumption)) _ _ (by assumption) | exact .inl (.inl (.inl (by assumption))) | exact .inr (.inl (.inl (by assumption))) | exact SqL.of (by assumption) | exact .inl (by assumption) | exact .inl (SqL.of (by assumption)) | exact SqT.of (by assumption) | exact .inr (SqT.of (by assumption)))
local macro_rules | `(tactic| walk_at "st") => `(tactic| first
  | refine ⟨_, rfl, ?_⟩
  | refine ⟨_, _, rfl, rfl, ?_⟩
  | refine .inl ⟨_, rfl, ?_⟩
  | refine ⟨rfl, ?_⟩
  | refine ⟨_, _, rfl, by walk_at "sq", ?_⟩
  | refine ⟨.inl ⟨rfl, _, SqL.of (by assumption)⟩, ?_⟩
  | refine ⟨by walk_at "cond", ?_⟩
  | (refine' ifBT ?hh ?_; (case hh => first | rfl | assumption))
  | (refine' ifBF ?hh ?_; (case hh => first | rfl | assumption)))
local macro_rules | `(tactic| walk_at "go") => `(tactic| repeat walk_at "st")
local macro_rules | `(tactic| walk_at "yes") => `(tactic| (refine' ifT ?hh ?_; (case hh => first | rfl | decide +kernel)))
local macro_rules | `(tactic| walk_at "no") => `(tactic| (refine' ifF ?hh ?_; (case hh => first | decide +kernel | (intro z; cases z; done))))

local macro_rules | `(tactic| walk_at "st") => `(tactic| refine ⟨_, _, _, _, _, rfl, by assumption, by assumption, by omega, by omega, by omega, by omega, by omega, ?_⟩)
local macro_rules | `(tactic| walk_at "st") => `(tactic| refine ⟨_, _, _, _, _, rfl, Same.seq (by assumption) (by assumption), by assumption, by omega, by omega, by omega, by omega, by omega, ?_⟩)

/-! ### the law's good line -/
abbrev s_good_line : Stmt := topS 28
theorem sc_good_line : FnScope ["_law_script", "_law_at", "_law_code", "_law_words_here", "_law_k", "_law_value"] ["_law_script", "_law_at"] (C8.fnScope s_good_line) := C8.fnScope_by (by decide +kernel)
def GoodW (ws : List Str) : Prop := ∃ c ts, ws = wordS c :: ts ∧ c ≤ 10 ∧ ts.length = (kindL c).length ∧ ∀ t ∈ ts, t.length ≤ 20
theorem tS_short {i : Int} (h0 : 0 ≤ i) (h1 : i < 100000) : (tS i).length ≤ 20 := by
  have h := PySem.int_text_length_le10 (a := i) (k := 5) (by decide) (by omega)
  show (Str.ofString (toString i)).length ≤ 20
  rw [PySem.ofString_length]
  omega
def spGood (K : PySem.W.Frag) : Sp := fun vs H Q _ => ∃ (a : Addr) (ns : List Int) (i : Int), vs = [.ref a, .int i] ∧ SqL K H a (ns.map V.int) ∧ ns.length ≤ 63 ∧ 0 ≤ i ∧ i ≤ 1000000 ∧
  ∀ (p : Addr) (ws : List Str) (H' : Hp), Same H H' → H p = none → H' p = some (.lst (ws.map V.str)) → GoodW ws → Q (.ref p) H'
theorem pick10 {i : Int} (h0 : 0 ≤ i) (h1 : i < 10) : ∃ j : Int, atI [V.int 0, V.int 9, V.int 10, V.int 99, V.int 100, V.int 999, V.int 1000, V.int 9999, V.int 10000, V.int 65535] i = some (V.int j) ∧ 0 ≤ j ∧ j ≤ 65535 := by
  have h : i = 0 ∨ i = 1 ∨ i = 2 ∨ i = 3 ∨ i = 4 ∨ i = 5 ∨ i = 6 ∨ i = 7 ∨ i = 8 ∨ i = 9 := by omega
  rcases h with rfl | rfl | rfl | rfl | rfl | rfl | rfl | rfl | rfl | rfl
  all_goals exact ⟨_, rfl, by decide, by decide⟩
section
variable {P : Program} {w : World} {K : PySem.W.Frag} {mg : Str → Option Value} {base : Heap}
theorem ok_good {f : Addr} {fd : FuncData} (D : Def K mg "_law_good_line" s_good_line f fd) (b : Binds K fd ["_law_script", "_law_at"] []) (T : Txt mg) (c_number : Cal P w K mg base 1 "_law_number" (spNum K) []) (c_words : Cal P w K mg base 1 "_law_words" spLW []) (c_operands : Cal P w K mg base 1 "_law_operands" spLO []) : Cal P w K mg base 2 "_law_good_line" (spGood K) [] := by
  refine cal0 D b .nil sc_good_line (fun vs H Q E h => ?_) (fun cdv A outer s H vs Q E hr h => ?_)
  · obtain ⟨a, ns, i, rfl, _⟩ := h
    rfl
  obtain ⟨a, ns, i, rfl, hS, hl, i0, i1, q⟩ := h
  refine ⟨_, (pss_cons (ps_set (i := 2) sc_good_line.nd rfl (.inl rfl) (C8.pe_c c_number hr (by omega) (by rfl) (pa_cons (pv 0) (pa_cons (pv 1) (pa_cons pe_int (pa_cons pe_int pa_nil))))))
      (pss_cons (ps_set (i := 3) sc_good_line.nd rfl (.inl rfl) (pe_lst (pa_cons (pe_ix (ixL K rfl) ((pe_cn c_words hr (by omega) (by rfl))) (pv 2) (fun _ _ => rfl)) pa_nil)))
      (pss_cons (ps_mk (ps_for PassesOwn.never rfl (pi_range1 (by rfl) T.range (pa_cons (pe_callB call_len_str (by rfl) T.len PySem.boot_len (pa_cons (C8.pe_c c_operands hr (by omega) (by rfl) (pa_cons (pv 2) pa_nil)) pa_nil)) pa_nil)) (pg_name (i := 4) sc_good_line.nd rfl (.inl rfl))
      (pss_cons (ps_set (i := 5) sc_good_line.nd rfl (.inl rfl) (C8.pe_c c_number hr (by omega) (by rfl) (pa_cons (pv 0) (pa_cons (pv 1) (pa_cons (pe_op op_add pe_int (pv 4)) (pa_cons pe_int pa_nil))))))
      (pss_cons (ps_mk (ps_if (pt_cmpR op_eq (pe_ix ix_str (C8.pe_c c_operands hr (by omega) (by rfl) (pa_cons (pv 2) pa_nil)) (pv 4) (fun _ _ => rfl)) pe_str (nomark _))
      (pss_cons (ps_set (i := 5) sc_good_line.nd rfl (.inl rfl) (pe_op op_add (C8.pe_c c_number hr (by omega) (by rfl) (pa_cons (pv 0) (pa_cons (pv 1) (pa_cons pe_int (pa_cons pe_int pa_nil))))) (pe_op op_mul pe_int (C8.pe_c c_number hr (by omega) (by rfl) (pa_cons (pv 0) (pa_cons (pv 1) (pa_cons pe_int (pa_cons pe_int pa_nil))))))))
      (pss_one (ps_mk (ps_if (pt_cmpR op_eq (C8.pe_c c_number hr (by omega) (by rfl) (pa_cons (pv 0) (pa_cons (pv 1) (pa_cons pe_int (pa_cons pe_int pa_nil))))) pe_int (nomark _))
      (pss_one (ps_set (i := 5) sc_good_line.nd rfl (.inl rfl) (pe_ix (ixL K rfl) (pe_lst (pa_cons pe_int (pa_cons pe_int (pa_cons pe_int (pa_cons pe_int (pa_cons pe_int (pa_cons pe_int (pa_cons pe_int (pa_cons pe_int (pa_cons pe_int (pa_cons pe_int pa_nil))))))))))) (C8.pe_c c_number hr (by omega) (by rfl) (pa_cons (pv 0) (pa_cons (pv 1) (pa_cons pe_int (pa_cons pe_int pa_nil))))) (fun _ _ => rfl))))
      pss_nil))))
      pss_nil))
      (pss_one (ps_expr (pe_bm PySem.F.plainAttrs_list PySem.F.slot_list_append PySem.F.type_list_append mt_append (pv 3) (pa_cons (pe_callTy call_str_int (by rfl) T.str (by decide +kernel) (pa_cons (pv 5) pa_nil)) pa_nil))))))))
      (pss_one (ps_ret (pv 3)))))), ?_⟩
  walk_at "go"
  have r0 : 0 ≤ num ns i 0 11 := num_nn (by decide)
  have r1 : num ns i 0 11 < 11 := num_lt (by decide)
  obtain ⟨c, ec⟩ : ∃ c : Nat, num ns i 0 11 = (c : Int) := ⟨(num ns i 0 11).toNat, by omega⟩
  rw [ec] at r0 r1 ⊢
  have fl := wid_tab (c := c) (by omega)
  have kl : (kindL c).length = (kindS c).length := Array.length_toList
  intro A1 H1 s1 nA gA
  try dsimp only
  walk_at "go"
  refine ⟨A1, _, _, .str (wordS c), rfl, rfl, SqL.of gA, atI_nat (ws_at (by omega)), ?_⟩
  refine ⟨sz, fun L nL => ?_⟩
  have s2 := s1.trans (same_upd (o := HO.lst [V.str (wordS c)]) nL)
  have gL := upd_same (H := H1) (a := L) (o := HO.lst [V.str (wordS c)])
  have nL0 := s1.free nL
  clear gA nA nL s1
  generalize upd H1 L (HO.lst [V.str (wordS c)]) = H2 at *
  walk_at "go"
  refine jnS (M := fun σ H' => ∃ ts y4 y5, Same H H' ∧ H' L = some (.lst ((wordS c :: ts).map V.str)) ∧ ts.length = (kindL c).length ∧ (∀ t ∈ ts, t.length ≤ 20) ∧ σ = [sR a, sI i, sI (c : Nat), sR L, y4, y5]) ?_ (fun N kk => ?_)
  · rintro σ H3 ⟨ts, y4, y5, s3, g3, lt, ht, rfl⟩
    walk_at "go"
    exact q L _ _ s3 nL0 g3 ⟨c, ts, rfl, by omega, lt, ht⟩
  walk_at "go"
  refine ⟨by omega, fun H3 s3 => ?_⟩
  have s23 := s2.trans s3
  have gL3 := s3 _ _ gL
  clear gL s2 s3
  walk_at "go"
  refine ⟨by rw [sizeLine_eq]; omega, ?_⟩
  walk_at "go"
  refine ⟨by omega, by omega, for_range (lo := 0) (n := (kindS c).length) (fun j σ H' => Ob (∃ ts y4 y5, Same H H' ∧ H' L = some (.lst ((wordS c :: ts).map V.str)) ∧ ts.length = j ∧ (∀ t ∈ ts, t.length ≤ 20) ∧ σ = [sR a, sI i, sI (c : Nat), sR L, y4, y5])) (ob ⟨[], none, none, s23, gL3, rfl, (fun _ z => by cases z), rfl⟩) ?_ ?_⟩
  rotate_left
  · intro σ H4 h
    obtain ⟨ts, y4, y5, s3, g3, lt, ht, rfl⟩ := unob h
    exact kk _ _ ⟨ts, y4, y5, s3, g3, by omega, ht, rfl⟩
  intro j σ H4 hj h
  obtain ⟨ts, y4, y5, s4, g4, lt, ht, rfl⟩ := unob h
  clear h kk
  have hS4 := s4.seq hS
  have x0 : 0 ≤ num ns i (1 + (j : Int)) 8 := num_nn (by decide)
  have x1 : num ns i (1 + (j : Int)) 8 < 8 := num_lt (by decide)
  rw [show (0 : Int) + (j : Nat) = (j : Nat) by omega]
  walk_at "go"
  refine jnS (M := fun σ H' => ∃ v : Int, Same H4 H' ∧ 0 ≤ v ∧ v < 100000 ∧ σ = [sR a, sI i, sI (c : Nat), sR L, sI (j : Nat), sI v]) ?_ (fun N kk => ?_)
  · rintro σ H5 ⟨v, s5, v0, v1, rfl⟩
    have g5 := s5 _ _ g4
    walk_at "go"
    refine ⟨log_sm v0 (by omega), ?_⟩
    refine ⟨L, _, _, rfl, rfl, g5, sz5 (by rw [List.length_map, List.length_cons]; omega), ?_⟩
    refine ob ⟨ts ++ [tS v], sI (j : Nat), sI v, same_put (s4.trans s5) nL0, ?_, by rw [List.length_append, lt]; rfl, fun t h => ?_, rfl⟩
    · rw [upd_same, ← List.cons_append, List.map_append]
      rfl
    · rcases List.mem_append.mp h with z | z
      · exact ht t z
      · obtain rfl := List.mem_singleton.mp z
        exact tS_short v0 v1
  walk_at "go"
  refine ⟨by omega, fun H5 s5 => ?_⟩
  have hS5 := s5.seq hS4
  walk_at "go"
  try dsimp only
  have hjk : j < (kindL c).length := by omega
  refine ⟨kindS c, _, _, rfl, rfl, by rw [sizeLine_eq]; omega, atI_nat (v := (kindL c)[j]) (List.getElem?_eq_getElem hjk), ?_⟩
  generalize (kindL c)[j] = ch
  walk_at "go"
  by_cases ce : ch = 110
  rotate_left
  · refine ifF (fun z => ce ((sign_n ch).mp z)) ?_
    walk_at "go"
    exact kk _ _ ⟨num ns i (1 + (j : Int)) 8, s5, x0, by omega, rfl⟩
  refine ifT ((sign_n ch).mpr ce) ?_
  have u0 : 0 ≤ num ns i 4 256 := num_nn (by decide)
  have u1 : num ns i 4 256 < 256 := num_lt (by decide)
  have v0 : 0 ≤ num ns i 5 256 := num_nn (by decide)
  have v1 : num ns i 5 256 < 256 := num_lt (by decide)
  have w0 : 0 ≤ num ns i 7 10 := num_nn (by decide)
  have w1 : num ns i 7 10 < 10 := num_lt (by decide)
  walk_at "go"
  refine un ?_
  walk_at "go"
  refine ifEq (fun z => ?_) (fun z => ?_)
  · walk_at "go"
    refine ⟨sz, fun p np => ?_⟩
    have s6 := same_upd (o := HO.lst [V.int 0, V.int 9, V.int 10, V.int 99, V.int 100, V.int 999, V.int 1000, V.int 9999, V.int 10000, V.int 65535]) np
    have g6 := upd_same (H := H5) (a := p) (o := HO.lst [V.int 0, V.int 9, V.int 10, V.int 99, V.int 100, V.int 999, V.int 1000, V.int 9999, V.int 10000, V.int 65535])
    have hS6 := s6.seq hS5
    generalize upd H5 p (HO.lst [V.int 0, V.int 9, V.int 10, V.int 99, V.int 100, V.int 999, V.int 1000, V.int 9999, V.int 10000, V.int 65535]) = H6 at *
    walk_at "go"
    obtain ⟨z, ez, z0, z1⟩ := pick10 w0 w1
    refine ⟨p, _, _, _, rfl, rfl, SqL.of g6, ez, ?_⟩
    exact kk _ _ ⟨z, s5.trans s6, z0, by omega, rfl⟩
  · walk_at "go"
    exact kk _ _ ⟨num ns i 4 256 + 256 * num ns i 5 256, s5, by omega, by omega, rfl⟩
end

end

section

-- a condition of an operator
local macro_rules | `(tactic| walk_at "cond") => `(tactic| first
  | (show (0 : Int) < _; omega)
  | (show CDiv _ _; constructor <;> (first | decide | omega))
  | (show CMul _ _; first | (refine cmul_l ?_; constructor <;> (first | decide | omega)) | (refine cmul_r ?_; constructor <;> (first | decide | omega)))
  | (show CPow _ _; exact (by refine ⟨by decide, by decide, by decide⟩))
  | (show CDivW _ _; exact ⟨by decide, by decide +kernel⟩))
local macro_rules | `(tactic| walk_at "sq") => `(tactic| first | assumption | exact Dh.mono (same_upd (by assumption)) _ _ (by assumption) | exact .inl (.inl (.inl (by assumption))) | exact .inr (.inl (.inl (by assumption))) | exact SqL.of (by assumption) | exact .inl (by assumption) | exact .inl (SqL.of (by assumption)) | exact SqT.of (by assumption) | exact .inr (SqT.of (by assumption)))
local macro_rules | `(tactic| walk_at "st") => `(tactic| first
  | refine ⟨_, rfl, ?_⟩
  | refine ⟨_, _, rfl, rfl, ?_⟩
  | refine .inl ⟨_, rfl, ?_⟩
  | refine ⟨rfl, ?_⟩
  | refine ⟨_, _, rfl, by walk_at "sq", ?_⟩
  | refine ⟨.inl ⟨rfl, _, SqL.of (by assumption)⟩, ?_⟩
  | refine ⟨by walk_at "cond", ?_⟩
  | (refine' ifBT ?hh ?_; (case hh => first | rfl | assumption))
  | (refine' ifBF ?hh ?_; (case hh => first | rfl | assumption)))
local macro_rules | `(tactic| walk_at "go") => `(tactic| repeat walk_at "st")
local macro_rules | `(tactic| walk_at "yes") => `(tactic| (refine' ifT ?hh ?_; (case hh => first | rfl | decide +kernel)))
local macro_rules | `(tactic| walk_at "no") => `(tactic| (refine' ifF ?hh ?_; (case hh => first | decide +kernel | (intro z; cases z; done))))

local macro_rules | `(tactic| walk_at "st") => `(tactic| refine ⟨_, _, _, _, _, rfl, by assumption, by assumption, by omega, by omega, by omega, by omega, by omega, ?_⟩)
local macro_rules | `(tactic| walk_at "st") => `(tactic| refine ⟨_, _, _, _, _, rfl, Same.seq (by assumption) (by assumption), by assumption, by omega, by omega, by omega, by omega, by omega, ?_⟩)

/-! ### odd words -/
abbrev s_odd : Stmt := topS 29
theorem sc_odd : FnScope ["_law_number_here", "_law_odd_here"] ["_law_number_here"] (C8.fnScope s_odd) := C8.fnScope_by (by decide +kernel)
abbrev s_odd_word : Stmt := topS 30
theorem sc_odd_word : FnScope ["_law_number_here", "_law_odd_here"] ["_law_number_here"] (C8.fnScope s_odd_word) := C8.fnScope_by (by decide +kernel)
def spOdd : Sp := fun vs H Q _ => ∃ (i : Int), vs = [.int i] ∧ 0 ≤ i ∧ i < 20 ∧ ∀ (s : Str) (H' : Hp), Same H H' → s.length ≤ 100 → Q (.str s) H'
theorem pick_short {L : List V} {n : Nat} (hl : L.length = n) (h : L.all (fun v => match v with | .str s => decide (s.length ≤ 100) | _ => false) = true) {i : Int} (h0 : 0 ≤ i) (h1 : i < n) : ∃ s : Str, atI L i = some (.str s) ∧ s.length ≤ 100 := by
  obtain ⟨k, rfl⟩ : ∃ k : Nat, i = (k : Int) := ⟨i.toNat, by omega⟩
  have hk : k < L.length := by omega
  have hm := List.all_eq_true.mp h L[k] (List.getElem_mem hk)
  cases e : L[k] with
  | str s =>
    rw [e] at hm
    exact ⟨s, atI_nat (by rw [List.getElem?_eq_getElem hk, e]), of_decide_eq_true hm⟩
  | _ => rw [e] at hm; cases hm
theorem odd_fin {K : PySem.W.Frag} {N : Addr} {L : List V} {H : Hp} {i : Int} {Q : VK} (hN : SqL K H N L) (hl : L.length = 20) (h : L.all (fun v => match v with | .str s => decide (s.length ≤ 100) | _ => false) = true) (h0 : 0 ≤ i) (h1 : i < 20) (q : ∀ s : Str, s.length ≤ 100 → Q (.str s) H) : rIxL K (.ref N) (.int i) H Q := by
  obtain ⟨s, es, ls⟩ := pick_short (n := 20) hl h h0 h1
  exact ⟨N, _, _, _, rfl, rfl, hN, es, q s ls⟩
section
variable {P : Program} {w : World} {K : PySem.W.Frag} {mg : Str → Option Value} {base : Heap}
theorem ok_odd {f : Addr} {fd : FuncData} (D : Def K mg "_law_odd" s_odd f fd) (b : Binds K fd ["_law_number_here"] []) (T : Txt mg) : Cal P w K mg base 1 "_law_odd" spOdd [] := by
  refine cal0 D b .nil sc_odd (fun vs H Q E h => ?_) (fun cdv A outer s H vs Q E hr h => ?_)
  · obtain ⟨i, rfl, _⟩ := h
    rfl
  obtain ⟨i, rfl, i0, i1, q⟩ := h
  refine ⟨_, (pss_cons (ps_set (i := 1) sc_odd.nd rfl (.inl rfl) (pe_lst (pa_cons pe_str (pa_cons pe_str (pa_cons pe_str (pa_cons pe_str (pa_cons pe_str (pa_cons pe_str (pa_cons pe_str (pa_cons pe_str (pa_cons pe_str (pa_cons (pe_callTy call_str_int (by rfl) T.str (by decide +kernel) (pa_cons (pe_op op_add (pe_op op_pow pe_int pe_int) pe_int) pa_nil)) (pa_cons pe_str (pa_cons pe_str (pa_cons pe_str (pa_cons pe_str pa_nil))))))))))))))))
      (pss_one (ps_ret (pe_ix (ixL K rfl) (pe_op op_cat (pv 1) (pe_lst (pa_cons pe_str (pa_cons pe_str (pa_cons pe_str (pa_cons pe_str (pa_cons pe_str (pa_cons pe_str pa_nil)))))))) (pv 0) (fun _ _ => rfl))))), ?_⟩
  walk_at "go"
  refine ⟨by decide +kernel, ?_⟩
  walk_at "go"
  refine ⟨sz, fun L nL => ?_⟩
  walk_at "go"
  refine ⟨sz, fun M nM => ?_⟩
  refine ⟨L, M, _, _, rfl, rfl, same_upd nM _ _ upd_same, upd_same, sz, fun N nN => ?_⟩
  walk_at "go"
  exact odd_fin (SqL.of upd_same) rfl (by decide +kernel) i0 i1 fun s ls => q s _ (((same_upd nL).trans (same_upd nM)).trans (same_upd nN)) ls
theorem ok_oddw {f : Addr} {fd : FuncData} (D : Def K mg "_law_odd_word" s_odd_word f fd) (b : Binds K fd ["_law_number_here"] []) (T : Txt mg) : Cal P w K mg base 1 "_law_odd_word" spOdd [] := by
  refine cal0 D b .nil sc_odd_word (fun vs H Q E h => ?_) (fun cdv A outer s H vs Q E hr h => ?_)
  · obtain ⟨i, rfl, _⟩ := h
    rfl
  obtain ⟨i, rfl, i0, i1, q⟩ := h
  refine ⟨_, (pss_cons (ps_set (i := 1) sc_odd_word.nd rfl (.inl rfl) (pe_lst (pa_cons pe_str (pa_cons pe_str (pa_cons pe_str (pa_cons pe_str (pa_cons pe_str (pa_cons pe_str (pa_cons pe_str (pa_cons pe_str (pa_cons pe_str (pa_cons pe_str (pa_cons pe_str (pa_cons pe_str (pa_cons pe_str (pa_cons pe_str (pa_cons pe_str pa_nil)))))))))))))))))
      (pss_one (ps_ret (pe_ix (ixL K rfl) (pe_op op_cat (pv 1) (pe_lst (pa_cons pe_str (pa_cons pe_str (pa_cons pe_str (pa_cons pe_str (pa_cons pe_str pa_nil))))))) (pv 0) (fun _ _ => rfl))))), ?_⟩
  walk_at "go"
  refine ⟨sz, fun L nL => ?_⟩
  walk_at "go"
  refine ⟨sz, fun M nM => ?_⟩
  refine ⟨L, M, _, _, rfl, rfl, same_upd nM _ _ upd_same, upd_same, sz, fun N nN => ?_⟩
  walk_at "go"
  exact odd_fin (SqL.of upd_same) rfl (by decide +kernel) i0 i1 fun s ls => q s _ (((same_upd nL).trans (same_upd nM)).trans (same_upd nN)) ls
end

end

section

-- a condition of an operator
local macro_rules | `(tactic| walk_at "cond") => `(tactic| first
  | (show (0 : Int) < _; omega)
  | (show CDiv _ _; constructor <;> (first | decide | omega))
  | (show CMul _ _; first | (refine cmul_l ?_; constructor <;> (first | decide | omega)) | (refine cmul_r ?_; constructor <;> (first | decide | omega)))
  | (show CPow _ _; exact (by refine ⟨by decide, by decide, by decide⟩))
  | (show CDivW _ _; exact ⟨by decide, by decide +kernel⟩))
local macro_rules | `(tactic| walk_at "sq") => `(tactic| first | assumption | exact Dh.mono (same_upd (by assumption)) _ _ (by assumption) | exact .inl (.inl (.inl (by assumption))) | exact .inr (.inl (.inl (by assumption))) | exact SqL.of (by assumption) | exact .inl (by assumption) | exact .inl (SqL.of (by assumption)) | exact SqT.of (by assumption) | exact .inr (SqT.of (by assumption)))
local macro_rules | `(tactic| walk_at "st") => `(tactic| first
  | refine ⟨_, rfl, ?_⟩
  | refine ⟨_, _, rfl, rfl, ?_⟩
  | refine .inl ⟨_, rfl, ?_⟩
  | refine ⟨rfl, ?_⟩
  | refine ⟨_, _, rfl, by walk_at "sq", ?_⟩
  | refine ⟨.inl ⟨rfl, _, SqL.of (by assumption)⟩, ?_⟩
  | refine ⟨by walk_at "cond", ?_⟩
  | (refine' ifBT ?hh ?_; (case hh => first | rfl | assumption))
  | (refine' ifBF ?hh ?_; (case hh => first | rfl | assumption)))
local macro_rules | `(tactic| walk_at "go") => `(tactic| repeat walk_at "st")
local macro_rules | `(tactic| walk_at "yes") => `(tactic| (refine' ifT ?hh ?_; (case hh => first | rfl | decide +kernel)))
local macro_rules | `(tactic| walk_at "no") => `(tactic| (refine' ifF ?hh ?_; (case hh => first | decide +kernel | (intro z; cases z; done))))

local macro_rules | `(tactic| walk_at "st") => `(tactic| refine ⟨_, _, _, _, _, rfl, by assumption, by assumption, by omega, by omega, by omega, by omega, by omega, ?_⟩)
local macro_rules | `(tactic| walk_at "st") => `(tactic| refine ⟨_, _, _, _, _, rfl, Same.seq (by assumption) (by assumption), by assumption, by omega, by omega, by omega, by omega, by omega, ?_⟩)

/-! ### beyond -/
abbrev s_beyond : Stmt := topS 31
theorem sc_beyond : FnScope ["_law_words_here", "_law_at", "_law_far", "_law_kinds"] ["_law_words_here", "_law_at", "_law_far"] (C8.fnScope s_beyond) := C8.fnScope_by (by decide +kernel)
def spBey : Sp := fun vs H Q _ => ∃ (p : Addr) (ws : List Str) (i j : Int), vs = [.ref p, .int i, .int j] ∧ H p = some (.lst (ws.map V.str)) ∧ GoodW ws ∧ 0 ≤ i ∧ i < ws.length ∧ 0 ≤ j ∧ j < 2 ∧ ∀ (s : Str) (H' : Hp), Same H H' → s.length ≤ 100 → Q (.str s) H'
theorem two_fin {K : PySem.W.Frag} {N : Addr} {x y : Str} {H : Hp} {i : Int} {Q : VK} (hN : SqL K H N [.str x, .str y]) (hx : x.length ≤ 100) (hy : y.length ≤ 100) (h0 : 0 ≤ i) (h1 : i < 2) (q : ∀ s : Str, s.length ≤ 100 → Q (.str s) H) : rIxL K (.ref N) (.int i) H Q := by
  have h : i = 0 ∨ i = 1 := by omega
  rcases h with rfl | rfl
  · exact ⟨N, _, _, .str x, rfl, rfl, hN, rfl, q x hx⟩
  · exact ⟨N, _, _, .str y, rfl, rfl, hN, rfl, q y hy⟩
section
variable {P : Program} {w : World} {K : PySem.W.Frag} {mg : Str → Option Value} {base : Heap}
theorem ok_bey {f : Addr} {fd : FuncData} (D : Def K mg "_law_beyond" s_beyond f fd) (b : Binds K fd ["_law_words_here", "_law_at", "_law_far"] []) (T : Txt mg) (c_words : Cal P w K mg base 1 "_law_words" spLW []) (c_operands : Cal P w K mg base 1 "_law_operands" spLO []) : Cal P w K mg base 2 "_law_beyond" spBey [] := by
  refine cal0 D b .nil sc_beyond (fun vs H Q E h => ?_) (fun cdv A outer s H vs Q E hr h => ?_)
  · obtain ⟨p, ws, i, j, rfl, _⟩ := h
    rfl
  obtain ⟨p, ws, i, j, rfl, gp, ⟨c, ts, rfl, c10, lt, ht⟩, i0, i1, j0, j1, q⟩ := h
  have kl : (kindL c).length = (kindS c).length := Array.length_toList
  have w3 := (wid_tab c10).2
  rw [List.length_cons] at i1
  refine ⟨_, (pss_cons (ps_mk (ps_if (pt_cmpR op_eq (pv 1) pe_int (nomark _))
      (pss_one (ps_ret (pe_ix (ixL K rfl) (pv 0) pe_int (fun _ _ => rfl))))
      pss_nil))
      (pss_cons (ps_set (i := 3) sc_beyond.nd rfl (.inl rfl) (C8.pe_c c_operands hr (by omega) (by rfl) (pa_cons (pe_bm PySem.F.plainAttrs_list PySem.F.slot_list_index PySem.F.type_list_index mt_index ((pe_cn c_words hr (by omega) (by rfl))) (pa_cons (pe_ix (ixL K rfl) (pv 0) pe_int (fun _ _ => rfl)) pa_nil)) pa_nil)))
      (pss_cons (ps_mk (ps_if (pt_cmpR op_eq (pe_ix ix_str (pv 3) (pe_op op_sub (pv 1) pe_int) (fun _ _ => rfl)) pe_str (nomark _))
      (pss_one (ps_ret (pe_ix (ixL K rfl) (pe_lst (pa_cons pe_str (pa_cons pe_str pa_nil))) (pv 2) (fun _ _ => rfl))))
      pss_nil))
      (pss_one (ps_ret (pe_ix (ixL K rfl) (pe_lst (pa_cons pe_str (pa_cons pe_str pa_nil))) (pv 2) (fun _ _ => rfl))))))), ?_⟩
  walk_at "go"
  refine jnS (M := fun σ H' => H' = H ∧ ¬ i = 0 ∧ σ = [sR p, sI i, sI j, none]) ?_ (fun N kk => ?_)
  rotate_left
  · walk_at "go"
    refine ifEq (fun z => ?_) (fun z => ?_)
    · walk_at "go"
      refine ⟨p, _, _, .str (wordS c), rfl, rfl, SqL.of gp, atI_nat (j := 0) rfl, ?_⟩
      exact q _ _ same_rfl (Nat.le_trans (form_len c10).2.2 (by decide))
    · walk_at "go"
      exact kk _ _ ⟨rfl, z, rfl⟩
  rintro σ H1 ⟨rfl, iz, rfl⟩
  walk_at "go"
  intro A2 H3 s3 nA gA
  have gp3 := s3 _ _ gp
  try dsimp only
  walk_at "go"
  refine ⟨p, _, _, .str (wordS c), rfl, rfl, SqL.of gp3, atI_nat (j := 0) rfl, ?_⟩
  refine ⟨A2, wsV, .str (wordS c), c, .str (wordS c), rfl, rfl, SqL.of gA, rfl, flat_ws, ws_at c10, by rw [eqV_str]; exact decide_eq_true rfl, fun m z hm hz => ?_, ?_⟩
  · obtain ⟨h1, rfl⟩ := ws_get hz
    rw [eqV_str]
    refine decide_eq_false fun zz => ?_
    have := word_inj h1 c10 zz
    omega
  walk_at "go"
  refine ⟨c10, fun H4 s4 => ?_⟩
  have s34 := s3.trans s4
  clear gA nA gp3
  walk_at "go"
  have e : ∃ k : Nat, i - 1 = (k : Int) ∧ k < (kindL c).length := ⟨(i - 1).toNat, by omega, by omega⟩
  obtain ⟨k, ek, hk⟩ := e
  refine jnS (M := fun σ H' => Same H1 H' ∧ σ = [sR p, sI i, sI j, sS (kindS c)]) ?_ (fun N kk => ?_)
  rotate_left
  · walk_at "go"
    try dsimp only
    rw [ek]
    refine ⟨kindS c, _, _, rfl, rfl, by rw [sizeLine_eq]; omega, atI_nat (v := (kindL c)[k]) (List.getElem?_eq_getElem hk), ?_⟩
    generalize (kindL c)[k] = ch
    walk_at "go"
    by_cases ce : ch = 110
    · refine ifT ((sign_n ch).mpr ce) ?_
      walk_at "go"
      refine ⟨sz, fun N nN => ?_⟩
      walk_at "go"
      exact two_fin (SqL.of upd_same) (by decide +kernel) (by decide +kernel) j0 j1 fun s ls => q s _ (s34.trans (same_upd nN)) ls
    · refine ifF (fun z => ce ((sign_n ch).mp z)) ?_
      walk_at "go"
      exact kk _ _ ⟨s34, rfl⟩
  rintro σ H5 ⟨s5, rfl⟩
  walk_at "go"
  refine ⟨sz, fun N nN => ?_⟩
  walk_at "go"
  exact two_fin (SqL.of upd_same) (by decide +kernel) (by decide +kernel) j0 j1 fun s ls => q s _ (s5.trans (same_upd nN)) ls
end

end

section

-- a condition of an operator
local macro_rules | `(tactic| walk_at "cond") => `(tactic| first
  | (show (0 : Int) < _; omega)
  | (show CDiv _ _; constructor <;> (first | decide | omega))
  | (show CMul _ _; first | (refine cmul_l ?_; constructor <;> (first | decide | omega)) | (refine cmul_r ?_; constructor <;> (first | decide | omega)))
  | (show CPow _ _; exact (by refine ⟨by decide, by decide, by decide⟩))
  | (show CDivW _ _; exact ⟨by decide, by decide +kernel⟩))
local macro_rules | `(tactic| walk_at "sq") => `(tactic| first | assumption | exact Dh.mono (same_upd (by assumption)) _ _ (by assumption) | exact .inl (.inl (.inl (by assumption))) | exact .inr (.inl (.inl (by assumption))) | exact SqL.of (by assumption) | exact .inl (by assumption) | exact .inl (SqL.of (by assumption)) | exact SqT.of (by assumption) | exact .inr (SqT.of (by assumption)))
local macro_rules | `(tactic| walk_at "st") => `(tactic| first
  | refine ⟨_, rfl, ?_⟩
  | refine ⟨_, _, rfl, rfl, ?_⟩
  | refine .inl ⟨_, rfl, ?_⟩
  | refine ⟨rfl, ?_⟩
  | refine ⟨_, _, rfl, by walk_at "sq", ?_⟩
  | refine ⟨.inl ⟨rfl, _, SqL.of (by assumption)⟩, ?_⟩
  | refine ⟨by walk_at "cond", ?_⟩
  | (refine' ifBT ?hh ?_; (case hh => first | rfl | assumption))
  | (refine' ifBF ?hh ?_; (case hh => first | rfl | assumption)))
local macro_rules | `(tactic| walk_at "go") => `(tactic| repeat walk_at "st")
local macro_rules | `(tactic| walk_at "yes") => `(tactic| (refine' ifT ?hh ?_; (case hh => first | rfl | decide +kernel)))
local macro_rules | `(tactic| walk_at "no") => `(tactic| (refine' ifF ?hh ?_; (case hh => first | decide +kernel | (intro z; cases z; done))))

local macro_rules | `(tactic| walk_at "st") => `(tactic| refine ⟨_, _, _, _, _, rfl, by assumption, by assumption, by omega, by omega, by omega, by omega, by omega, ?_⟩)
local macro_rules | `(tactic| walk_at "st") => `(tactic| refine ⟨_, _, _, _, _, rfl, Same.seq (by assumption) (by assumption), by assumption, by omega, by omega, by omega, by omega, by omega, ?_⟩)

/-! ### the law's spoilt line -/
abbrev s_spoilt : Stmt := topS 32
theorem sc_spoilt : FnScope ["_law_words_here", "_law_way", "_law_place", "_law_odd_here", "_law_at", "_law_line"] ["_law_words_here", "_law_way", "_law_place", "_law_odd_here"] (C8.fnScope s_spoilt) := C8.fnScope_by (by decide +kernel)
theorem join_len {sep : Str} (hs : sep.length = 1) : ∀ {ls : List Str}, (∀ s ∈ ls, s.length ≤ 300) → (Str.join sep ls).length ≤ 301 * ls.length
  | [], _ => Nat.le_refl _
  | [x], h => by
    have := h x (by simp)
    show x.length ≤ 301 * 1
    omega
  | x :: y :: r, h => by
    have h1 := h x (by simp)
    have h2 := join_len hs (ls := y :: r) (fun s m => h s (List.mem_cons_of_mem _ m))
    show (x ++ sep ++ Str.join sep (y :: r)).length ≤ _
    rw [Str.length_append, Str.length_append, hs, List.length_cons]
    rw [List.length_cons] at h2 ⊢
    omega
theorem sum_len : ∀ {ls : List Str}, (∀ s ∈ ls, s.length ≤ 300) → ((ls.map (·.length)).sum : Nat) ≤ 300 * ls.length
  | [], _ => Nat.le_refl _
  | x :: r, h => by
    have h1 := h x (by simp)
    have h2 := sum_len (ls := r) (fun s m => h s (List.mem_cons_of_mem _ m))
    rw [List.map_cons, List.sum_cons, List.length_cons]
    omega
theorem up_len {c : Nat} (h : c ≤ 10) : (Txt.upper (wordS c)).length ≤ 100 := by
  have hw : ((List.range 11).all fun c => decide ((Txt.upper (wordS c)).length ≤ 100)) = true := by decide +kernel
  exact of_decide_eq_true (List.all_eq_true.mp hw c (List.mem_range.mpr (by omega)))
theorem three_fin {K : PySem.W.Frag} {N : Addr} {x y z : Str} {H : Hp} {i : Int} {Q : VK} (hN : SqL K H N [.str x, .str y, .str z]) (hx : x.length ≤ 100) (hy : y.length ≤ 100) (hz : z.length ≤ 100) (h0 : 0 ≤ i) (h1 : i < 3) (q : ∀ s : Str, s.length ≤ 100 → Q (.str s) H) : rIxL K (.ref N) (.int i) H Q := by
  have h : i = 0 ∨ i = 1 ∨ i = 2 := by omega
  rcases h with rfl | rfl | rfl
  · exact ⟨N, _, _, .str x, rfl, rfl, hN, rfl, q x hx⟩
  · exact ⟨N, _, _, .str y, rfl, rfl, hN, rfl, q y hy⟩
  · exact ⟨N, _, _, .str z, rfl, rfl, hN, rfl, q z hz⟩
def spSpoilt : Sp := fun vs H Q _ => ∃ (p : Addr) (ws : List Str) (way place odd : Int), vs = [.ref p, .int way, .int place, .int odd] ∧ H p = some (.lst (ws.map V.str)) ∧ GoodW ws ∧ 0 ≤ way ∧ way < 15 ∧ 0 ≤ place ∧ place ≤ 1000 ∧ 0 ≤ odd ∧ odd < 20 ∧ ∀ (s : Str) (H' : Hp), Same H H' → s.length ≤ 10000 → Q (.str s) H'
section
variable {P : Program} {w : World} {K : PySem.W.Frag} {mg : Str → Option Value} {base : Heap}
theorem ok_spoilt {f : Addr} {fd : FuncData} (D : Def K mg "_law_spoilt" s_spoilt f fd) (b : Binds K fd ["_law_words_here", "_law_way", "_law_place", "_law_odd_here"] []) (T : Txt mg) (c_odd : Cal P w K mg base 1 "_law_odd" spOdd []) (c_odd_word : Cal P w K mg base 1 "_law_odd_word" spOdd []) (c_beyond : Cal P w K mg base 2 "_law_beyond" spBey []) : Cal P w K mg base 3 "_law_spoilt" spSpoilt [] := by
  refine cal0 D b .nil sc_spoilt (fun vs H Q E h => ?_) (fun cdv A outer s H vs Q E hr h => ?_)
  · obtain ⟨p, ws, way, place, odd, rfl, _⟩ := h
    rfl
  obtain ⟨p, ws, way, place, odd, rfl, gp, hg, y0, y1, l0, l1, o0, o1, q⟩ := h
  obtain ⟨c, ts, ew, c10, lt, ht⟩ := id hg
  have w3 := (wid_tab c10).2
  have lw : ws.length = ts.length + 1 := by rw [ew]; rfl
  have hw : ∀ s ∈ ws, s.length ≤ 20 := fun s m => by
    rw [ew] at m
    rcases List.mem_cons.mp m with rfl | m
    · exact Nat.le_trans (form_len c10).2.2 (by decide)
    · exact ht s m
  refine ⟨_, (pss_cons (ps_set (i := 4) sc_spoilt.nd rfl (.inl rfl) (pe_op op_mod (pe_callTy call_int1 (by rfl) T.int (by decide +kernel) (pa_cons (pv 2) pa_nil)) (pe_callB (lenQ K rfl) (by rfl) T.len PySem.boot_len (pa_cons (pv 0) pa_nil))))
      (pss_cons (ps_set (i := 5) sc_spoilt.nd rfl (.inl rfl) (pe_callTy (listQ K rfl) (by rfl) T.list (by decide +kernel) (pa_cons (pv 0) pa_nil)))
      (pss_cons (ps_mk (ps_if (pt_cmpR op_eq (pv 1) pe_int (nomark _))
      (pss_one (ps_asg (pe_op op_add_str (pe_ix (ixL K rfl) (pv 5) (pv 4) (fun _ _ => rfl)) pe_str) (pg_sub (pv 5) (pv 4) set_list)))
      (pss_one (ps_mk (ps_if (pt_cmpR op_eq (pv 1) pe_int (nomark _))
      (pss_one (ps_asg (pe_op op_add_str pe_str (pe_ix (ixL K rfl) (pv 5) (pv 4) (fun _ _ => rfl))) (pg_sub (pv 5) (pv 4) set_list)))
      (pss_one (ps_mk (ps_if (pt_cmpR op_lt (pv 1) pe_int (nomark _))
      (pss_one (ps_asg (pe_op op_add_str (pe_ix (ixL K rfl) (pe_lst (pa_cons pe_str (pa_cons pe_str (pa_cons pe_str pa_nil)))) (pe_op op_sub (pv 1) pe_int) (fun _ _ => rfl)) (pe_ix (ixL K rfl) (pv 5) (pv 4) (fun _ _ => rfl))) (pg_sub (pv 5) (pv 4) set_list)))
      (pss_one (ps_mk (ps_if (pt_cmpR op_eq (pv 1) pe_int (nomark _))
      (pss_one (ps_asg (pe_op op_add_str (pe_ix (ixL K rfl) (pv 5) (pv 4) (fun _ _ => rfl)) pe_str) (pg_sub (pv 5) (pv 4) set_list)))
      (pss_one (ps_mk (ps_if (pt_cmpR op_eq (pv 1) pe_int (nomark _))
      (pss_one (ps_asg (pe_upper (pe_ix (ixL K rfl) (pv 5) pe_int (fun _ _ => rfl))) (pg_sub (pv 5) pe_int set_list)))
      (pss_one (ps_mk (ps_if (pt_cmpR op_eq (pv 1) pe_int (nomark _))
      (pss_one (ps_expr (pe_bm0 PySem.F.plainAttrs_list PySem.F.slot_list_pop PySem.F.type_list_pop mt_pop (pv 5))))
      (pss_one (ps_mk (ps_if (pt_cmpR op_eq (pv 1) pe_int (nomark _))
      (pss_one (ps_expr (pe_bm PySem.F.plainAttrs_list PySem.F.slot_list_append PySem.F.type_list_append mt_append (pv 5) (pa_cons (C8.pe_c c_odd hr (by omega) (by rfl) (pa_cons (pv 3) pa_nil)) pa_nil))))
      (pss_one (ps_mk (ps_if (pt_cmpR op_eq (pv 1) pe_int (nomark _))
      (pss_one (ps_asg (C8.pe_c c_odd hr (by omega) (by rfl) (pa_cons (pv 3) pa_nil)) (pg_sub (pv 5) (pv 4) set_list)))
      (pss_one (ps_mk (ps_if (pt_cmpR op_eq (pv 1) pe_int (nomark _))
      (pss_one (ps_asg (C8.pe_c c_odd_word hr (by omega) (by rfl) (pa_cons (pv 3) pa_nil)) (pg_sub (pv 5) pe_int set_list)))
      (pss_one (ps_mk (ps_if (pt_cmpR op_eq (pv 1) pe_int (nomark _))
      (pss_one (ps_ret (pe_join pe_str (pv 5))))
      (pss_one (ps_mk (ps_if (pt_cmpR op_eq (pv 1) pe_int (nomark _))
      (pss_one (ps_expr (pe_bm PySem.F.plainAttrs_list PySem.F.slot_list_insert PySem.F.type_list_insert mt_insert (pv 5) (pa_cons (pv 4) (pa_cons (pe_ix (ixL K rfl) (pv 5) (pv 4) (fun _ _ => rfl)) pa_nil)))))
      (pss_one (ps_asg (C8.pe_c c_beyond hr (by omega) (by rfl) (pa_cons (pv 0) (pa_cons (pv 4) (pa_cons (pe_op op_sub (pv 1) pe_int) pa_nil)))) (pg_sub (pv 5) (pv 4) set_list)))))))))))))))))))))))))))))))))))
      (pss_one (ps_ret (pe_join pe_str (pv 5))))))), ?_⟩
  walk_at "go"
  rw [List.length_map]
  refine ⟨by show (0 : Int) < _; omega, ?_⟩
  have a0 : 0 ≤ place % (ws.length : Nat) := Int.emod_nonneg _ (by omega)
  have a1 : place % (ws.length : Nat) < (ws.length : Nat) := Int.emod_lt_of_pos _ (by omega)
  try dsimp only
  generalize place % (ws.length : Nat) = at_ at *
  obtain ⟨k, rfl⟩ : ∃ k : Nat, at_ = (k : Int) := ⟨at_.toNat, by omega⟩
  have hk : k < ws.length := by omega
  walk_at "go"
  intro L nL
  have s1 := same_upd (o := HO.lst (ws.map V.str)) nL
  have gL := upd_same (H := H) (a := L) (o := HO.lst (ws.map V.str))
  have gp1 := s1 _ _ gp
  generalize upd H L (HO.lst (ws.map V.str)) = H1 at *
  have hix : ixN (ws.map V.str).length (k : Int) = some k := by
    unfold ixN
    rw [List.length_map, if_pos (by omega), if_pos (by omega), Int.toNat_natCast]
  have hix0 : ixN (ws.map V.str).length 0 = some 0 := by
    unfold ixN
    rw [List.length_map, if_pos (by omega), if_pos (by omega)]
    rfl
  have hat : atI (ws.map V.str) (k : Int) = some (.str ws[k]) := atI_nat (by rw [List.getElem?_map, List.getElem?_eq_getElem hk]; rfl)
  have hat0 : atI (ws.map V.str) 0 = some (.str (wordS c)) := by
    rw [ew]
    exact atI_nat (j := 0) rfl
  have lk := hw _ (List.getElem_mem hk)
  generalize ws[k] = wk at *
  have l1' : (" " : Str).length = 1 := by decide +kernel
  have l2' : ("\n" : Str).length = 1 := by decide +kernel
  have l3' : ("\t" : Str).length = 1 := by decide +kernel
  have sl := sizeLine_eq
  try dsimp only
  refine jnS (M := fun σ H' => ∃ ls : List Str, Same H H' ∧ H' L = some (.lst (ls.map V.str)) ∧ ls.length ≤ 6 ∧ (∀ s ∈ ls, s.length ≤ 300) ∧ σ = [sR p, sI way, sI place, sI odd, sI (k : Nat), sR L]) ?_ (fun N kk => ?_)
  · rintro σ H2 ⟨ls, s2, g2, l2, h2, rfl⟩
    walk_at "go"
    refine ⟨⟨_, rfl⟩, ?_⟩
    refine ⟨_, rfl, ?_⟩
    refine ⟨" ", L, ls, rfl, rfl, .inl (SqL.of g2), ?_, ?_⟩
    · have := sum_len h2
      rw [l1']
      omega
    · rw [TL.join_eq]
      exact q _ _ s2 (Nat.le_trans (join_len l1' h2) (by omega))
  have put : ∀ (H2 : Hp) (ls : List Str), Same H1 H2 → ls.length ≤ 6 → (∀ s ∈ ls, s.length ≤ 300) → N [sR p, sI way, sI place, sI odd, sI (k : Nat), sR L] (upd H2 L (.lst (ls.map V.str))) := fun H2 ls s2 h1 h2 => kk _ _ ⟨ls, same_put (s1.trans s2) nL, upd_same, h1, h2, rfl⟩
  have set : ∀ (H2 : Hp) (j : Nat) (x : Str), Same H1 H2 → x.length ≤ 300 → N [sR p, sI way, sI place, sI odd, sI (k : Nat), sR L] (upd H2 L (.lst ((ws.map V.str).set j (V.str x)))) := fun H2 j x s2 hx => by
    rw [show (ws.map V.str).set j (V.str x) = (ws.set j x).map V.str from List.map_set.symm]
    refine put H2 _ s2 (by rw [List.length_set]; omega) fun y hy => ?_
    rcases List.mem_or_eq_of_mem_set hy with z | rfl
    · exact Nat.le_trans (hw y z) (by decide)
    · exact hx
  walk_at "go"
  refine ifEq (fun z => ?_) (fun z => ?_)
  · walk_at "go"
    refine ⟨L, _, _, _, rfl, rfl, SqL.of gL, hat, ?_⟩
    walk_at "go"
    refine ⟨by omega, ?_⟩
    walk_at "go"
    refine ⟨L, _, _, k, rfl, rfl, gL, hix, ?_⟩
    exact set _ _ _ same_rfl (by rw [Str.length_append]; omega)
  refine un ?_
  walk_at "go"
  refine ifEq (fun z => ?_) (fun z => ?_)
  · walk_at "go"
    refine ⟨L, _, _, _, rfl, rfl, SqL.of gL, hat, ?_⟩
    walk_at "go"
    refine ⟨by omega, ?_⟩
    walk_at "go"
    refine ⟨L, _, _, k, rfl, rfl, gL, hix, ?_⟩
    exact set _ _ _ same_rfl (by rw [Str.length_append]; omega)
  refine un ?_
  walk_at "go"
  refine ifD (fun z => ?_) (fun z => ?_)
  · walk_at "go"
    refine ⟨sz, fun M nM => ?_⟩
    walk_at "go"
    refine three_fin (SqL.of upd_same) (by decide +kernel) (by decide +kernel) (by decide +kernel) (by omega) (by omega) fun s ls => ?_
    have sM := same_upd (o := HO.lst [V.str "0", V.str "+", V.str "-"]) nM
    have gM := sM _ _ gL
    walk_at "go"
    refine ⟨L, _, _, _, rfl, rfl, SqL.of gM, hat, ?_⟩
    walk_at "go"
    refine ⟨by omega, ?_⟩
    walk_at "go"
    refine ⟨L, _, _, k, rfl, rfl, gM, hix, ?_⟩
    exact set _ _ _ sM (by rw [Str.length_append]; omega)
  refine un ?_
  walk_at "go"
  refine ifEq (fun z => ?_) (fun z => ?_)
  · walk_at "go"
    refine ⟨L, _, _, _, rfl, rfl, SqL.of gL, hat, ?_⟩
    walk_at "go"
    refine ⟨by omega, ?_⟩
    walk_at "go"
    refine ⟨L, _, _, k, rfl, rfl, gL, hix, ?_⟩
    exact set _ _ _ same_rfl (by rw [Str.length_append]; omega)
  refine un ?_
  walk_at "go"
  refine ifEq (fun z => ?_) (fun z => ?_)
  · walk_at "go"
    try dsimp only
    walk_at "go"
    refine ⟨L, _, _, _, rfl, rfl, SqL.of gL, hat0, ?_⟩
    refine ⟨⟨_, rfl⟩, ?_⟩
    have l4 := (form_len c10).2.2
    refine ⟨wordS c, rfl, rfl, by omega, ?_⟩
    walk_at "go"
    refine ⟨L, _, _, 0, rfl, rfl, gL, hix0, ?_⟩
    exact set _ _ _ same_rfl (Nat.le_trans (up_len c10) (by decide))
  refine un ?_
  walk_at "go"
  refine ifEq (fun z => ?_) (fun z => ?_)
  · walk_at "go"
    refine ⟨L, ws.map V.str, .str (ws[ws.length - 1]'(by omega)), rfl, rfl, gL, by rw [List.length_map, List.getElem?_map, List.getElem?_eq_getElem (by omega)]; rfl, ?_⟩
    rw [← List.map_dropLast]
    exact put _ _ same_rfl (by rw [List.length_dropLast]; omega) fun s m => Nat.le_trans (hw s (List.dropLast_subset _ m)) (by decide)
  refine un ?_
  walk_at "go"
  refine ifEq (fun z => ?_) (fun z => ?_)
  · walk_at "go"
    refine ⟨o0, o1, fun s H2 s2 ls => ?_⟩
    refine ⟨L, _, _, rfl, rfl, s2 _ _ gL, sz5 (by rw [List.length_map]; omega), ?_⟩
    rw [show ws.map V.str ++ [V.str s] = (ws ++ [s]).map V.str by rw [List.map_append]; rfl]
    refine put _ _ s2 (by rw [List.length_append]; show ws.length + 1 ≤ 6; omega) fun y hy => ?_
    rcases List.mem_append.mp hy with z | z
    · exact Nat.le_trans (hw y z) (by decide)
    · obtain rfl := List.mem_singleton.mp z
      omega
  refine un ?_
  walk_at "go"
  refine ifEq (fun z => ?_) (fun z => ?_)
  · walk_at "go"
    refine ⟨o0, o1, fun s H2 s2 ls => ?_⟩
    walk_at "go"
    refine ⟨L, _, _, k, rfl, rfl, s2 _ _ gL, hix, ?_⟩
    exact set _ _ _ s2 (by omega)
  refine un ?_
  walk_at "go"
  refine ifEq (fun z => ?_) (fun z => ?_)
  · walk_at "go"
    refine ⟨o0, o1, fun s H2 s2 ls => ?_⟩
    walk_at "go"
    refine ⟨L, _, _, 0, rfl, rfl, s2 _ _ gL, hix0, ?_⟩
    exact set _ _ _ s2 (by omega)
  refine un ?_
  walk_at "go"
  refine ifEq (fun z => ?_) (fun z => ?_)
  · walk_at "go"
    refine ⟨⟨_, rfl⟩, ?_⟩
    refine ⟨_, rfl, ?_⟩
    have h2 : ∀ s ∈ ws, s.length ≤ 300 := fun s m => Nat.le_trans (hw s m) (by decide)
    refine ⟨"\t", L, ws, rfl, rfl, .inl (SqL.of gL), ?_, ?_⟩
    · have := sum_len h2
      rw [l3']
      omega
    · rw [TL.join_eq]
      exact q _ _ s1 (Nat.le_trans (join_len l3' h2) (by omega))
  refine un ?_
  walk_at "go"
  refine ifEq (fun z => ?_) (fun z => ?_)
  · walk_at "go"
    try dsimp only
    walk_at "go"
    refine ⟨L, _, _, _, rfl, rfl, SqL.of gL, hat, ?_⟩
    refine ⟨L, _, _, _, rfl, rfl, gL, sz5 (by rw [List.length_map]; omega), by omega, by omega, ?_⟩
    rw [Int.toNat_natCast, ← List.map_take, ← List.map_drop, show [V.str wk] = [wk].map V.str from rfl, ← List.map_append, ← List.map_append]
    refine put _ _ same_rfl (by rw [List.length_append, List.length_append, List.length_take, List.length_drop]; show _ + 1 + _ ≤ _; omega) fun x hx => ?_
    rcases List.mem_append.mp hx with z | z
    · rcases List.mem_append.mp z with z | z
      · exact Nat.le_trans (hw x (List.mem_of_mem_take z)) (by decide)
      · obtain rfl := List.mem_singleton.mp z
        omega
    · exact Nat.le_trans (hw x (List.mem_of_mem_drop z)) (by decide)
  walk_at "go"
  try dsimp only
  walk_at "go"
  refine ⟨p, ws, k, way - 13, rfl, gp1, hg, by omega, by omega, by omega, by omega, fun s H2 s2 ls => ?_⟩
  walk_at "go"
  refine ⟨L, _, _, k, rfl, rfl, s2 _ _ gL, hix, ?_⟩
  exact set _ _ _ s2 (by omega)
end

end

section

-- a condition of an operator
local macro_rules | `(tactic| walk_at "cond") => `(tactic| first
  | (show (0 : Int) < _; omega)
  | (show CDiv _ _; constructor <;> (first | decide | omega))
  | (show CMul _ _; first | (refine cmul_l ?_; constructor <;> (first | decide | omega)) | (refine cmul_r ?_; constructor <;> (first | decide | omega)))
  | (show CPow _ _; exact (by refine ⟨by decide, by decide, by decide⟩))
  | (show CDivW _ _; exact ⟨by decide, by decide +kernel⟩))
local macro_rules | `(tactic| walk_at "sq") => `(tactic| first | assumption | exact Dh.mono (same_upd (by assumption)) _ _ (by assumption) | exact .inl (.inl (.inl (by assumption))) | exact .inr (.inl (.inl (by assumption))) | exact SqL.of (by assumption) | exact .inl (by assumption) | exact .inl (SqL.of (by assumption)) | exact SqT.of (by assumption) | exact .inr (SqT.of (by assumption)))
local macro_rules | `(tactic| walk_at "st") => `(tactic| first
  | refine ⟨_, rfl, ?_⟩
  | refine ⟨_, _, rfl, rfl, ?_⟩
  | refine .inl ⟨_, rfl, ?_⟩
  | refine ⟨rfl, ?_⟩
  | refine ⟨_, _, rfl, by walk_at "sq", ?_⟩
  | refine ⟨.inl ⟨rfl, _, SqL.of (by assumption)⟩, ?_⟩
  | refine ⟨by walk_at "cond", ?_⟩
  | (refine' ifBT ?hh ?_; (case hh => first | rfl | assumption))
  | (refine' ifBF ?hh ?_; (case hh => first | rfl | assumption)))
local macro_rules | `(tactic| walk_at "go") => `(tactic| repeat walk_at "st")
local macro_rules | `(tactic| walk_at "yes") => `(tactic| (refine' ifT ?hh ?_; (case hh => first | rfl | decide +kernel)))
local macro_rules | `(tactic| walk_at "no") => `(tactic| (refine' ifF ?hh ?_; (case hh => first | decide +kernel | (intro z; cases z; done))))

local macro_rules | `(tactic| walk_at "st") => `(tactic| refine ⟨_, _, _, _, _, rfl, by assumption, by assumption, by omega, by omega, by omega, by omega, by omega, ?_⟩)
local macro_rules | `(tactic| walk_at "st") => `(tactic| refine ⟨_, _, _, _, _, rfl, Same.seq (by assumption) (by assumption), by assumption, by omega, by omega, by omega, by omega, by omega, ?_⟩)

/-! ### the law -/
theorem pe_joinK {X : Cx} (K : PySem.W.Frag) (hK : X.K = K) {o e : Expr} {to te : TE} {apos pos : Pos} (ho : PE X o to) (he : PE X e te) (hs : starEach [e] X.env = [(false, eval e X.env)] := by rfl) (hbase : attributeBase o "join" X.env (eval o X.env) = eval o X.env := by rfl) (hline : (apos.endLine == pos.line) = true := by rfl) :
    PE X (.Call (.Attribute o "join" apos) [e] [] pos) (tM1 (fun x xs H Q => ∃ a p, ∃ ys : List Str, x = .str a ∧ xs = [.ref p] ∧ (SqL K H p (ys.map V.str) ∨ SqT K H p (ys.map V.str)) ∧ (ys.map (·.length)).sum + ys.length * a.length ≤ 16777216 ∧ Q (.str (Txt.join a ys)) H) to te) := by
  subst hK
  exact pe_join ho he hs hbase hline
abbrev s_law : Stmt := topS 36
theorem sc_law : FnScope ["_law_script", "_law_kind", "_law_many", "_law_rows", "_law_k", "_law_good", "_law_words_here", "_law_lines", "_law_turn", "_law_where", "_law_way", "_law_place"] ["_law_script"] (C8.fnScope s_law) := C8.fnScope_by (by decide +kernel)
def spLaw (K : PySem.W.Frag) : Sp := fun vs H Q _ => ∃ (a : Addr) (ns : List Int), vs = [.ref a] ∧ SqL K H a (ns.map V.int) ∧ ns.length ≤ 63 ∧ ∀ H', Q (.bl true) H'
theorem pick6 {i : Int} (h0 : 0 ≤ i) (h1 : i < 6) : ∃ j : Int, atI [V.int 0, V.int 0, V.int 1, V.int 1, V.int 2, V.int 1] i = some (V.int j) ∧ 0 ≤ j ∧ j ≤ 2 := by
  have h : i = 0 ∨ i = 1 ∨ i = 2 ∨ i = 3 ∨ i = 4 ∨ i = 5 := by omega
  rcases h with rfl | rfl | rfl | rfl | rfl | rfl
  · exact ⟨0, rfl, by decide, by decide⟩
  · exact ⟨0, rfl, by decide, by decide⟩
  · exact ⟨1, rfl, by decide, by decide⟩
  · exact ⟨1, rfl, by decide, by decide⟩
  · exact ⟨2, rfl, by decide, by decide⟩
  · exact ⟨1, rfl, by decide, by decide⟩
/-- rows of good words -/
def RowsOk (H : Hp) (rs : List Addr) : Prop := ∀ r ∈ rs, ∃ ws, H r = some (.lst (ws.map V.str)) ∧ GoodW ws
theorem RowsOk.mono {H H' : Hp} {rs : List Addr} (h : RowsOk H rs) (s : Same H H') : RowsOk H' rs := fun r m => by
  obtain ⟨ws, g, o⟩ := h r m
  exact ⟨ws, s _ _ g, o⟩
theorem GoodW.short {ws : List Str} (h : GoodW ws) : ws.length ≤ 4 ∧ ∀ s ∈ ws, s.length ≤ 300 := by
  obtain ⟨c, ts, rfl, c10, lt, ht⟩ := h
  have w3 := (wid_tab c10).2
  refine ⟨by rw [List.length_cons]; omega, fun s m => ?_⟩
  rcases List.mem_cons.mp m with rfl | m
  · exact Nat.le_trans (form_len c10).2.2 (by decide)
  · exact Nat.le_trans (ht s m) (by decide)
section
variable {P : Program} {w : World} {K : PySem.W.Frag} {mg : Str → Option Value} {base : Heap} {FM BC CE BL AE LE ME FE PgE : Addr}
theorem ok_law {f : Addr} {fd : FuncData} (D : Def K mg "law" s_law f fd) (T : Txt mg) (c_number : Cal P w K mg base 1 "_law_number" (spNum K) []) (c_good_line : Cal P w K mg base 2 "_law_good_line" (spGood K) []) (c_spoilt : Cal P w K mg base 3 "_law_spoilt" spSpoilt [])
    (c_bytes_hold : Cal P w K mg base 6 "_law_bytes_hold" spHold []) (c_bytes_due : Cal P w K mg base 3 "_law_bytes_due" spDue []) (c_line_family : Cal P w K mg base 4 "_law_line_family" spFam []) : FnOk P w K mg base C8.CX0 7 f fd ["_law_script"] (spLaw K) := by
  refine C8.fn0 D.fn sc_law (fun vs H Q E h => ?_) (fun cdv A0 outer s H vs Q E hr h => ?_)
  · obtain ⟨a, ns, rfl, _⟩ := h
    rfl
  obtain ⟨a, ns, rfl, hS, hl, q⟩ := h
  refine ⟨_, (pss_cons (ps_set (i := 1) sc_law.nd rfl (.inl rfl) (C8.pe_c c_number hr (by omega) (by rfl) (pa_cons (pv 0) (pa_cons pe_int (pa_cons pe_int (pa_cons pe_int pa_nil))))))
      (pss_cons (ps_set (i := 2) sc_law.nd rfl (.inl rfl) (pe_op op_mod (pe_callTy call_int1 (by rfl) T.int (by decide +kernel) (pa_cons (pe_op op_add (C8.pe_c c_number hr (by omega) (by rfl) (pa_cons (pv 0) (pa_cons pe_int (pa_cons pe_int (pa_cons pe_int pa_nil))))) pe_int) pa_nil)) pe_int))
      (pss_cons (ps_setLc (i := 3) (own := [("_law_k", 4)]) (g := gName 4) (tt := tYes) rfl sc_law.nd rfl rfl (sw_true rfl rfl rfl (by decide +kernel)) (pi_range1 (by rfl) T.range (pa_cons (pv 2) pa_nil)) (blkOk_by (own := [("_law_k", 4)]) (N := ["_law_script", "_law_kind", "_law_many", "_law_rows", "_law_k", "_law_good", "_law_words_here", "_law_lines", "_law_turn", "_law_where", "_law_way", "_law_place"]) (sc := C8.fnScope s_law) (by decide +kernel)) (fun _ _ _ _ _ => (pg_name (i := 4) sc_law.nd rfl (.inl rfl))) (fun _ _ _ _ _ => pts_nil) (fun _ _ _ _ _ => (C8.pe_c c_good_line hr (by omega) (by rfl) (pa_cons (pv 0) (pa_cons (pe_op op_add pe_int (pv 4)) pa_nil)))))
      (pss_cons (ps_mk (ps_if (pt_cmpR op_eq (pv 1) pe_int (nomark _))
      (pss_one (ps_set (i := 3) sc_law.nd rfl (.inl rfl) (pe_op op_rep (pv 3) pe_int)))
      pss_nil))
      (pss_cons (ps_setLc (i := 5) (own := [("_law_words_here", 6)]) (g := gName 6) (tt := tYes) rfl sc_law.nd rfl rfl (sw_true rfl rfl rfl (by decide +kernel)) (pi_list (pv 3)) (blkOk_by (own := [("_law_words_here", 6)]) (N := ["_law_script", "_law_kind", "_law_many", "_law_rows", "_law_k", "_law_good", "_law_words_here", "_law_lines", "_law_turn", "_law_where", "_law_way", "_law_place"]) (sc := C8.fnScope s_law) (by decide +kernel)) (fun _ _ _ _ _ => (pg_name (i := 6) sc_law.nd rfl (.inl rfl))) (fun _ _ _ _ _ => pts_nil) (fun _ _ _ _ _ => (pe_joinK K rfl pe_str (pv 6))))
      (pss_cons (ps_set (i := 7) sc_law.nd rfl (.inl rfl) (pe_callTy (listQ K rfl) (by rfl) T.list (by decide +kernel) (pa_cons (pv 5) pa_nil)))
      (pss_cons (ps_mk (ps_for PassesOwn.never rfl (pi_range1 (by rfl) T.range (pa_cons (pe_ix (ixL K rfl) (pe_lst (pa_cons pe_int (pa_cons pe_int (pa_cons pe_int (pa_cons pe_int (pa_cons pe_int (pa_cons pe_int pa_nil))))))) (pv 1) (fun _ _ => rfl)) pa_nil)) (pg_name (i := 8) sc_law.nd rfl (.inl rfl))
      (pss_one (ps_mk (ps_if (pt_cmpR op_gt (pe_callB (lenQ K rfl) (by rfl) T.len PySem.boot_len (pa_cons (pv 3) pa_nil)) pe_int (nomark _))
      (pss_cons (ps_set (i := 9) sc_law.nd rfl (.inl rfl) (pe_op op_mod (pe_callTy call_int1 (by rfl) T.int (by decide +kernel) (pa_cons (C8.pe_c c_number hr (by omega) (by rfl) (pa_cons (pv 0) (pa_cons pe_int (pa_cons (pe_op op_add pe_int (pe_op op_mul pe_int (pv 8))) (pa_cons pe_int pa_nil))))) pa_nil)) (pe_callB (lenQ K rfl) (by rfl) T.len PySem.boot_len (pa_cons (pv 3) pa_nil))))
      (pss_cons (ps_set (i := 10) sc_law.nd rfl (.inl rfl) (C8.pe_c c_number hr (by omega) (by rfl) (pa_cons (pv 0) (pa_cons pe_int (pa_cons (pe_op op_add pe_int (pe_op op_mul pe_int (pv 8))) (pa_cons pe_int pa_nil))))))
      (pss_cons (ps_set (i := 11) sc_law.nd rfl (.inl rfl) (C8.pe_c c_number hr (by omega) (by rfl) (pa_cons (pv 0) (pa_cons pe_int (pa_cons (pe_op op_add pe_int (pe_op op_mul pe_int (pv 8))) (pa_cons pe_int pa_nil))))))
      (pss_one (ps_asg (C8.pe_c c_spoilt hr (by omega) (by rfl) (pa_cons (pe_ix (ixL K rfl) (pv 3) (pv 9) (fun _ _ => rfl)) (pa_cons (pv 10) (pa_cons (pv 11) (pa_cons (C8.pe_c c_number hr (by omega) (by rfl) (pa_cons (pv 0) (pa_cons pe_int (pa_cons (pe_op op_add pe_int (pe_op op_mul pe_int (pv 8))) (pa_cons pe_int pa_nil))))) pa_nil))))) (pg_sub (pv 7) (pv 9) set_list))))))
      pss_nil)))))
      (pss_cons (ps_mk (ps_if (PW.pt (pw_or (pt_not (pt_val (C8.pe_c c_bytes_hold hr (by omega) (by rfl) (pa_cons (pv 5) pa_nil)))) (pw_or (pt_not (pt_val (C8.pe_c c_bytes_hold hr (by omega) (by rfl) (pa_cons (pv 7) pa_nil)))) (pw_or1 (pt_not (pt_val (C8.pe_c c_bytes_hold hr (by omega) (by rfl) (pa_cons (pv 5) pa_nil))))))))
      (pss_one (ps_ret pe_bl))
      pss_nil))
      (pss_cons (ps_mk (ps_if (pt_cmpR op_eq (pe_ix (ixT K rfl) (C8.pe_c c_bytes_due hr (by omega) (by rfl) (pa_cons (pv 7) pa_nil)) pe_int (fun _ _ => rfl)) pe_str (nomark _))
      (pss_one (ps_ret (C8.pe_c c_line_family hr (by omega) (by rfl) (pa_cons (pv 7) pa_nil))))
      pss_nil))
      (pss_one (ps_ret pe_bl))))))))))), ?_⟩
  have k0 : 0 ≤ num ns 0 0 6 := num_nn (by decide)
  have k1 : num ns 0 0 6 < 6 := num_lt (by decide)
  have m0 : 0 ≤ (num ns 0 1 13 + 1) % 13 := Int.emod_nonneg _ (by decide)
  have m1 : (num ns 0 1 13 + 1) % 13 < 13 := Int.emod_lt_of_pos _ (by decide)
  walk_at "go"
  generalize num ns 0 0 6 = kind at *
  try dsimp only
  generalize (num ns 0 1 13 + 1) % 13 = many at *
  walk_at "go"
  refine ⟨by omega, by omega, fun R nR => lc_range (lo := 0) (n := many.toNat) (fun j H' => Ob (∃ rs : List Addr, Same H H' ∧ H' R = some (.lst (rs.map V.ref)) ∧ rs.length = j ∧ RowsOk H' rs ∧ R ∉ rs)) (ob ⟨[], same_upd nR, upd_same, rfl, (fun _ z => by cases z), (fun z => by cases z)⟩) ?_ ?_⟩
  · intro j H1 hj h
    obtain ⟨rs, s1, g1, lr, ho, nm⟩ := unob h
    clear h
    have hS1 := s1.seq hS
    refine ⟨rfl, ?_⟩
    walk_at "go"
    refine ⟨a, ns, _, rfl, hS1, hl, by omega, by omega, fun p ws H2 s2 np gp hw => ?_⟩
    refine ⟨_, s2 _ _ g1, sz5 (by rw [List.length_map]; omega), ?_⟩
    have npR : p ≠ R := fun z => by
      rw [z, g1] at np
      cases np
    refine ob ⟨rs ++ [p], same_put (s1.trans s2) nR, by rw [upd_same, List.map_append]; rfl, by rw [List.length_append, lr]; rfl, fun r m => ?_, fun m => ?_⟩
    · rcases List.mem_append.mp m with z | z
      · have hr : r ≠ R := fun zz => nm (zz ▸ z)
        obtain ⟨ws', g', o'⟩ := ho r z
        exact ⟨ws', by rw [upd_ne hr]; exact s2 _ _ g', o'⟩
      · obtain rfl := List.mem_singleton.mp z
        exact ⟨ws, by rw [upd_ne npR]; exact gp, hw⟩
    · rcases List.mem_append.mp m with z | z
      · exact nm z
      · exact npR (List.mem_singleton.mp z).symm
  intro H1 h
  obtain ⟨rs, s1, g1, lr, ho, nm⟩ := unob h
  clear h nm nR
  try dsimp only
  refine jnS (M := fun σ H' => ∃ R rs, Same H1 H' ∧ H' R = some (.lst (rs.map V.ref)) ∧ rs.length ≤ 72 ∧ RowsOk H' rs ∧ σ = [sR a, sI kind, sI many, sR R, none, none, none, none, none, none, none, none]) ?_ (fun N kk => ?_)
  rotate_left
  · walk_at "go"
    refine ifEq (fun c => ?_) (fun c => ?_)
    · walk_at "go"
      try dsimp only
      refine ⟨R, _, rs.map V.ref, rfl, rfl, g1, by omega, by omega, Nat.le_of_lt (sz5 (by rw [List.length_map, show (6 : Int).toNat = 6 from rfl]; omega)), fun r nr => ?_⟩
      have e0 : (List.replicate (6 : Int).toNat (rs.map V.ref)).flatten = ((List.replicate 6 rs).flatten).map V.ref := by
        rw [List.map_flatten, List.map_replicate]
        rfl
      rw [e0]
      refine kk _ _ ⟨r, _, same_upd nr, upd_same, ?_, ?_, rfl⟩
      · rw [List.length_flatten, List.map_replicate, List.sum_replicate_nat]
        omega
      · refine RowsOk.mono (fun x hx => ?_) (same_upd nr)
        obtain ⟨l, h1, h2⟩ := List.mem_flatten.mp hx
        obtain rfl := List.eq_of_mem_replicate h1
        exact ho x h2
    · walk_at "go"
      exact kk _ _ ⟨R, rs, same_rfl, g1, by omega, ho, rfl⟩
  clear g1 lr ho
  rintro σ H2 ⟨R, rs, s2, gR, lr, ho, rfl⟩
  have s12 := s1.trans s2
  walk_at "go"
  refine ⟨⟨_, SqL.of gR⟩, fun G nG => lc_list (K := K) (a := R) (xs := rs.map V.ref) (fun i H' => Ob (Same H2 H' ∧ ∃ gs : List Str, H' G = some (.lst (gs.map V.str)) ∧ gs.length = i ∧ ∀ l ∈ gs, l.length ≤ 10000)) (ob ⟨same_upd nG, [], upd_same, rfl, fun _ z => by cases z⟩) (fun i H' _ h => SqL.of ((unob h).1 _ _ gR)) ?_ ?_⟩
  · intro i v H3 hi h
    obtain ⟨s3, gs, g3, lg, hg⟩ := unob h
    clear h
    have hil : i < rs.length := by
      have := (List.getElem?_eq_some_iff.mp hi).1
      rwa [List.length_map] at this
    rw [List.getElem?_map, List.getElem?_eq_getElem hil] at hi
    obtain rfl := Option.some.inj hi
    obtain ⟨ws, gw, ow⟩ := ho _ (List.getElem_mem hil)
    generalize rs[i] = r at *
    have gw3 := s3 _ _ gw
    obtain ⟨w4, w300⟩ := ow.short
    walk_at "go"
    refine ⟨⟨_, rfl⟩, ?_⟩
    refine ⟨_, rfl, ?_⟩
    have l1' : (" " : Str).length = 1 := by decide +kernel
    refine ⟨" ", r, ws, rfl, rfl, .inl (SqL.of gw3), ?_, ?_⟩
    · have := sum_len w300
      rw [l1']
      omega
    rw [TL.join_eq]
    refine ⟨_, g3, sz5 (by rw [List.length_map]; omega), ?_⟩
    refine ob ⟨same_put s3 nG, gs ++ [Str.join " " ws], by rw [upd_same, List.map_append]; rfl, by rw [List.length_append, lg]; rfl, fun l m => ?_⟩
    rcases List.mem_append.mp m with z | z
    · exact hg l z
    · obtain rfl := List.mem_singleton.mp z
      exact Nat.le_trans (join_len l1' w300) (by omega)
  intro H3 h
  obtain ⟨s3, gs, g3, lg, hg⟩ := unob h
  clear h
  rw [List.length_map] at lg
  have gR3 := s3 _ _ gR
  have ho3 := ho.mono s3
  have s13 := s12.trans s3
  clear gR ho s12 s3 s1 s2 nG
  try dsimp only
  walk_at "go"
  intro L nL
  have s14 := s13.trans (same_upd (o := HO.lst (gs.map V.str)) nL)
  have sL := same_upd (o := HO.lst (gs.map V.str)) nL
  have gL := upd_same (H := H3) (a := L) (o := HO.lst (gs.map V.str))
  generalize upd H3 L (HO.lst (gs.map V.str)) = H4 at *
  have lgs : gs.length ≤ 72 := by omega
  clear s14
  refine jnS (M := fun σ H' => ∃ (ls : List Str) (y8 y9 y10 y11 : Option V), Same H3 H' ∧ H' L = some (.lst (ls.map V.str)) ∧ ls.length ≤ 72 ∧ (∀ l ∈ ls, l.length ≤ 10000) ∧ σ = [sR a, sI kind, sI many, sR R, none, sR G, none, sR L, y8, y9, y10, y11]) ?_ (fun N kk => ?_)
  rotate_left
  · walk_at "go"
    refine ⟨sz, fun p np => ?_⟩
    have s5 := sL.trans (same_upd (o := HO.lst [V.int 0, V.int 0, V.int 1, V.int 1, V.int 2, V.int 1]) np)
    have g5 := upd_same (H := H4) (a := p) (o := HO.lst [V.int 0, V.int 0, V.int 1, V.int 1, V.int 2, V.int 1])
    have gL5 := same_upd (o := HO.lst [V.int 0, V.int 0, V.int 1, V.int 1, V.int 2, V.int 1]) np _ _ gL
    generalize upd H4 p (HO.lst [V.int 0, V.int 0, V.int 1, V.int 1, V.int 2, V.int 1]) = H5 at *
    walk_at "go"
    obtain ⟨j, ej, j0, j2⟩ := pick6 k0 k1
    refine ⟨p, _, _, _, rfl, rfl, SqL.of g5, ej, ?_⟩
    walk_at "go"
    refine ⟨by omega, by omega, for_range (lo := 0) (n := j.toNat) (fun i σ H' => Ob (∃ (ls : List Str) (y8 y9 y10 y11 : Option V), Same H3 H' ∧ H' L = some (.lst (ls.map V.str)) ∧ ls.length = gs.length ∧ (∀ l ∈ ls, l.length ≤ 10000) ∧ σ = [sR a, sI kind, sI many, sR R, none, sR G, none, sR L, y8, y9, y10, y11])) (ob ⟨gs, none, none, none, none, s5, gL5, rfl, hg, rfl⟩) ?_ ?_⟩
    rotate_left
    · intro σ H7 h
      obtain ⟨ls, y8, y9, y10, y11, s7, g7, l7, h7, rfl⟩ := unob h
      exact kk _ _ ⟨ls, _, _, _, _, s7, g7, by omega, h7, rfl⟩
    intro i σ H7 hi h
    obtain ⟨ls, y8, y9, y10, y11, s7, g7, l7, h7, rfl⟩ := unob h
    clear h kk
    have hS7 := (s13.trans s7).seq hS
    have gR7 := s7 _ _ gR3
    have ho7 := ho3.mono s7
    rw [show (0 : Int) + (i : Nat) = (i : Nat) by omega]
    refine un ?_
    walk_at "go"
    rw [List.length_map]
    refine ifD (fun z => ?_) (fun z => ?_)
    rotate_left
    · walk_at "go"
      exact ob ⟨ls, _, _, _, _, s7, g7, l7, h7, rfl⟩
    walk_at "go"
    rw [List.length_map]
    refine ⟨by show (0 : Int) < _; omega, ?_⟩
    have a0 : 0 ≤ num ns 0 (2 + 4 * (i : Int)) 72 % (rs.length : Nat) := Int.emod_nonneg _ (by omega)
    have a1 : num ns 0 (2 + 4 * (i : Int)) 72 % (rs.length : Nat) < (rs.length : Nat) := Int.emod_lt_of_pos _ (by omega)
    have y0 : 0 ≤ num ns 0 (3 + 4 * (i : Int)) 15 := num_nn (by decide)
    have y1 : num ns 0 (3 + 4 * (i : Int)) 15 < 15 := num_lt (by decide)
    have p0 : 0 ≤ num ns 0 (4 + 4 * (i : Int)) 12 := num_nn (by decide)
    have p1 : num ns 0 (4 + 4 * (i : Int)) 12 < 12 := num_lt (by decide)
    have o0 : 0 ≤ num ns 0 (5 + 4 * (i : Int)) 20 := num_nn (by decide)
    have o1 : num ns 0 (5 + 4 * (i : Int)) 20 < 20 := num_lt (by decide)
    try dsimp only
    generalize num ns 0 (2 + 4 * (i : Int)) 72 % (rs.length : Nat) = at_ at *
    obtain ⟨k, rfl⟩ : ∃ k : Nat, at_ = (k : Int) := ⟨at_.toNat, by omega⟩
    have hk : k < rs.length := by omega
    obtain ⟨ws, gw, ow⟩ := ho7 _ (List.getElem_mem hk)
    have hat : atI (rs.map V.ref) (k : Int) = some (.ref rs[k]) := atI_nat (by rw [List.getElem?_map, List.getElem?_eq_getElem hk]; rfl)
    generalize rs[k] = r at *
    have hix : ixN (ls.map V.str).length (k : Int) = some k := by
      unfold ixN
      rw [List.length_map, if_pos (by omega), if_pos (by omega), Int.toNat_natCast]
    walk_at "go"
    refine ⟨R, _, _, .ref r, rfl, rfl, SqL.of gR7, hat, ?_⟩
    walk_at "go"
    refine ⟨o1, fun s H8 s8 hs => ?_⟩
    walk_at "go"
    refine ⟨L, _, _, k, rfl, rfl, s8 _ _ g7, hix, ?_⟩
    rw [show (ls.map V.str).set k (V.str s) = (ls.set k s).map V.str from List.map_set.symm]
    refine ob ⟨ls.set k s, _, _, _, _, same_put (s7.trans s8) nL, upd_same, by rw [List.length_set]; exact l7, fun y hy => ?_, rfl⟩
    rcases List.mem_or_eq_of_mem_set hy with z | rfl
    · exact h7 y z
    · exact hs
  rintro σ H5 ⟨ls, y8, y9, y10, y11, s5, g5, l5, h5, rfl⟩
  have gG5 := s5 _ _ g3
  walk_at "go"
  refine jnS (M := fun σ H' => Same H5 H' ∧ σ = [sR a, sI kind, sI many, sR R, none, sR G, none, sR L, y8, y9, y10, y11]) ?_ (fun N kk => ?_)
  rotate_left
  · walk_at "go"
    refine ⟨hg, by omega, fun H7 s7 => ?_⟩
    have gL7 := s7 _ _ g5
    have gG7 := s7 _ _ gG5
    walk_at "go"
    refine ⟨h5, by omega, fun H8 s8 => ?_⟩
    have gG8 := s8 _ _ gG7
    walk_at "go"
    refine ⟨hg, by omega, fun H9 s9 => ?_⟩
    walk_at "go"
    exact kk _ _ ⟨s7.trans (s8.trans s9), rfl⟩
  rintro σ H7 ⟨s7, rfl⟩
  have gL7 := s7 _ _ g5
  clear gG5 g5 gR3 gL g3
  refine jnS (M := fun σ H' => True) (fun σ H' _ => by walk_at "go"; exact q _) (fun N kk => ?_)
  walk_at "go"
  refine ⟨h5, by omega, fun T us H8 s8 gT hu dT => ?_⟩
  have gL8 := s8 _ _ gL7
  walk_at "go"
  refine ⟨T, us, _, _, rfl, rfl, SqT.of gT, atI_nat (j := 0) hu, ?_⟩
  cases e : asm0 ls with
  | inl i =>
    walk_at "go"
    exact ⟨L, ls, i, rfl, gL8, h5, by omega, e, fun H9 _ => q H9⟩
  | inr ds =>
    walk_at "go"
    exact kk _ _ trivial
end

end

/-! ### a table of tuples, as the top keeps it -/
theorem top_tab {K : PySem.W.Frag} {H : Hp} {FM : Addr} {d : Option Addr} {its : Array Value} {n : Nat} {sl : Array (Option Value)} {rs : List Addr} (l : K.lookup FM = some ⟨.type "tuple", d, .seq its n, sl⟩) (e : its.toList = rs.map Value.ref) (h : rs.length ≤ 1000) : SqT K H FM (rs.map V.ref) := by
  refine .inr ⟨_, its, n, l, rfl, rfl, ?_, ?_⟩
  · rw [← Array.length_toList, e, List.length_map, sizeLine_eq]
    omega
  · rw [e]
    clear l e h
    induction rs with
    | nil => exact .nil
    | cons r rs ih => exact .cons rfl ih
theorem row_tab {K : PySem.W.Frag} {FM : Addr} {d : Option Addr} {its : Array Value} {n : Nat} {sl : Array (Option Value)} {x y : Str} {t u : Tok} (l : K.lookup FM = some ⟨.type "tuple", d, .seq its n, sl⟩) (e : its.toList = [.str x t, .str y u]) : ∀ H, SqT K H FM [.str x, .str y] := fun H => by
  refine .inr ⟨_, its, n, l, rfl, rfl, ?_, ?_⟩
  · rw [← Array.length_toList, e, sizeLine_eq]
    show 2 ≤ 16777216
    decide
  · rw [e]
    exact .cons ⟨_, rfl⟩ (.cons ⟨_, rfl⟩ .nil)

/-- what the written part says, asked one by one -/
theorem own_mk {P : Program} {K : PySem.W.Frag} {h : Heap} {mg : Str → Option Value} (X : K.In h) (G : h.Ns mainGlobals mg) {st : Stmt} {qn : Str} {D f cc c N : Addr} {oc ccl cl dV kV doc pm ctv : Value} {od an cdd cld dd : Option Addr} {osl ccs csl : Array (Option Value)} {vs : Array Value} {file : Str} {tf : Tok}
    {nm q : Str} {bs bm : List Value} {sn : List Str} {sub : List Value} {ab : Bool} {col : Option Bool} {k0 k1 k2 k3 k5 : Option Value} {ar : Arg}
    (iC : PySem.W.findIn K (.ref D) "__init__" = some (some (.ref f))) (tI : PySem.W.typeIn K (.ref f) = some (.type "function"))
    (lF : K.lookup f = some ⟨oc, od, .func (PySem.W.fnX "__init__" qn (C8.fnArgs st) (C8.fnBody st) (C8.fnScope st) [("__class__", cc)] dV kV doc pm an (.ref c) ctv), osl⟩)
    (cF : PySem.W.codeIn K (.ref c) qn = true) (lc : K.lookup c = some ⟨ccl, cdd, .fields vs, ccs⟩) (hv : vs[2]? = some (.str file tf)) (hf : ((P.main.file : Str) == file) = true) (tp : (P.main.scope.names.lookup ("super" : Str)).isSome = false)
    (lcc : K.lookup cc = some ⟨cl, cld, .cell (some (.ref D)), csl⟩) (zs : PySem.W.nsIn K mainGlobals "super" = some none) (hp : ((C8.fnArgs st).posonlyargs ++ (C8.fnArgs st).args).head? = some ar) (ha : ar.arg = "self")
    (sk : (C8.fnScope st).names.lookup ("super" : Str) = some .globalImplicit)
    (lD : K.lookup D = some (excClassObj nm q D N bs bm true sn sub ab col dd k0 k1 k2 k3 k5 "ValueError.__new__")) (rb : PySem.HandSPX.refsVE bm = true)
    (sa : PySem.W.findIn K (.ref D) "__setattr__" = some (some (.builtin "object.__setattr__"))) (ex : PySem.W.subIn K (.ref D) (.type "BaseException") = some true) (ty : PySem.W.typeIn K (.ref D) = some (.type "type")) (kC : PySem.W.keepIn K (.ref D) = true)
    (mr : PySem.W.mroIn K D (.ref D) = some true) (ini : PySem.W.ks_superIn K D D "__init__" = some (some (.builtin "ValueError.__init__"))) (ve : PySem.W.subIn K (.ref D) (.type "ValueError") = some true) (any : PySem.W.nsIn K cStatics "thirdparty.any" = some none) :
    SupAt P K mg (NF.of st "__init__" qn [("__class__", cc)] c) f D cc "self" dV kV doc pm ctv an ∧ OexC K D := by
  have O : OexC K D := ⟨⟨nm, q, N, bs, bm, sn, sub, ab, col, dd, k0, k1, k2, k3, k5, lD, rb⟩, sa, ex, ty, kC⟩
  exact ⟨⟨⟨_, _, _, lF⟩, rfl, cF, ⟨_, _, _, _, _, _, lc, hv, hf⟩, tp, ⟨_, _, _, lcc⟩, PySem.W.mg_none_of X G zs, ⟨ar, hp, ha⟩, sk, O, mr, ini, ve, any⟩, O⟩

section

-- a condition of an operator
local macro_rules | `(tactic| walk_at "cond") => `(tactic| first
  | (show (0 : Int) < _; omega)
  | (show CDiv _ _; constructor <;> (first | decide | omega))
  | (show CMul _ _; first | (refine cmul_l ?_; constructor <;> (first | decide | omega)) | (refine cmul_r ?_; constructor <;> (first | decide | omega)))
  | (show CPow _ _; exact (by refine ⟨by decide, by decide, by decide⟩))
  | (show CDivW _ _; exact ⟨by decide, by decide +kernel⟩))
local macro_rules | `(tactic| walk_at "sq") => `(tactic| first | assumption | exact Dh.mono (same_upd (by assumption)) _ _ (by assumption) | exact .inl (.inl (.inl (by assumption))) | exact .inr (.inl (.inl (by assumption))) | exact SqL.of (by assumption) | exact .inl (by assumption) | exact .inl (SqL.of (by assumption)) | exact SqT.of (by assumption) | exact .inr (SqT.of (by assumption)))
local macro_rules | `(tactic| walk_at "st") => `(tactic| first
  | refine ⟨_, rfl, ?_⟩
  | refine ⟨_, _, rfl, rfl, ?_⟩
  | refine .inl ⟨_, rfl, ?_⟩
  | refine ⟨rfl, ?_⟩
  | refine ⟨_, _, rfl, by walk_at "sq", ?_⟩
  | refine ⟨.inl ⟨rfl, _, SqL.of (by assumption)⟩, ?_⟩
  | refine ⟨by walk_at "cond", ?_⟩
  | (refine' ifBT ?hh ?_; (case hh => first | rfl | assumption))
  | (refine' ifBF ?hh ?_; (case hh => first | rfl | assumption)))
local macro_rules | `(tactic| walk_at "go") => `(tactic| repeat walk_at "st")
local macro_rules | `(tactic| walk_at "yes") => `(tactic| (refine' ifT ?hh ?_; (case hh => first | rfl | decide +kernel)))
local macro_rules | `(tactic| walk_at "no") => `(tactic| (refine' ifF ?hh ?_; (case hh => first | decide +kernel | (intro z; cases z; done))))

theorem all_mk {l : PySem.W.OpenLaw} {w : World} {K : PySem.W.Frag} {h : Heap} {mg : Str → Option Value} {fa : Addr} (X : K.In h) (G : h.Ns mainGlobals mg) (hfa : mg "law" = some (.ref fa))
    {tkR tkW tkD : Tok} (aREG : PySem.W.nsIn K mainGlobals "REGISTERS" = some (some (.int 8 tkR))) (aWL : PySem.W.nsIn K mainGlobals "WORD_LIMIT" = some (some (.int 65536 tkW))) (aDIG : PySem.W.nsIn K mainGlobals "DIGITS" = some (some (.str "0123456789" tkD)))
    {FM fr0 fr1 fr2 fr3 fr4 fr5 fr6 fr7 fr8 fr9 fr10 : Addr} {dFM : Option Addr} {itsFM : Array Value} {nFM : Nat} {slFM : Array (Option Value)}
    (aFM : PySem.W.nsIn K mainGlobals "FORMS" = some (some (.ref FM))) (lFM : K.lookup FM = some ⟨.type "tuple", dFM, .seq itsFM nFM, slFM⟩) (x_FM : itsFM.toList = [.ref fr0, .ref fr1, .ref fr2, .ref fr3, .ref fr4, .ref fr5, .ref fr6, .ref fr7, .ref fr8, .ref fr9, .ref fr10])
    {dfr0 : Option Addr} {itsfr0 : Array Value} {nfr0 : Nat} {slfr0 : Array (Option Value)} {twfr0 tffr0 : Tok}
    (lfr0 : K.lookup fr0 = some ⟨.type "tuple", dfr0, .seq itsfr0 nfr0, slfr0⟩) (x_fr0 : itsfr0.toList = [.str "halt" twfr0, .str "" tffr0])
    {dfr1 : Option Addr} {itsfr1 : Array Value} {nfr1 : Nat} {slfr1 : Array (Option Value)} {twfr1 tffr1 : Tok}
    (lfr1 : K.lookup fr1 = some ⟨.type "tuple", dfr1, .seq itsfr1 nfr1, slfr1⟩) (x_fr1 : itsfr1.toList = [.str "set" twfr1, .str "an" tffr1])
    {dfr2 : Option Addr} {itsfr2 : Array Value} {nfr2 : Nat} {slfr2 : Array (Option Value)} {twfr2 tffr2 : Tok}
    (lfr2 : K.lookup fr2 = some ⟨.type "tuple", dfr2, .seq itsfr2 nfr2, slfr2⟩) (x_fr2 : itsfr2.toList = [.str "add" twfr2, .str "abc" tffr2])
    {dfr3 : Option Addr} {itsfr3 : Array Value} {nfr3 : Nat} {slfr3 : Array (Option Value)} {twfr3 tffr3 : Tok}
    (lfr3 : K.lookup fr3 = some ⟨.type "tuple", dfr3, .seq itsfr3 nfr3, slfr3⟩) (x_fr3 : itsfr3.toList = [.str "sub" twfr3, .str "abc" tffr3])
    {dfr4 : Option Addr} {itsfr4 : Array Value} {nfr4 : Nat} {slfr4 : Array (Option Value)} {twfr4 tffr4 : Tok}
    (lfr4 : K.lookup fr4 = some ⟨.type "tuple", dfr4, .seq itsfr4 nfr4, slfr4⟩) (x_fr4 : itsfr4.toList = [.str "load" twfr4, .str "ab" tffr4])
    {dfr5 : Option Addr} {itsfr5 : Array Value} {nfr5 : Nat} {slfr5 : Array (Option Value)} {twfr5 tffr5 : Tok}
    (lfr5 : K.lookup fr5 = some ⟨.type "tuple", dfr5, .seq itsfr5 nfr5, slfr5⟩) (x_fr5 : itsfr5.toList = [.str "store" twfr5, .str "ab" tffr5])
    {dfr6 : Option Addr} {itsfr6 : Array Value} {nfr6 : Nat} {slfr6 : Array (Option Value)} {twfr6 tffr6 : Tok}
    (lfr6 : K.lookup fr6 = some ⟨.type "tuple", dfr6, .seq itsfr6 nfr6, slfr6⟩) (x_fr6 : itsfr6.toList = [.str "loadw" twfr6, .str "ab" tffr6])
    {dfr7 : Option Addr} {itsfr7 : Array Value} {nfr7 : Nat} {slfr7 : Array (Option Value)} {twfr7 tffr7 : Tok}
    (lfr7 : K.lookup fr7 = some ⟨.type "tuple", dfr7, .seq itsfr7 nfr7, slfr7⟩) (x_fr7 : itsfr7.toList = [.str "storew" twfr7, .str "ab" tffr7])
    {dfr8 : Option Addr} {itsfr8 : Array Value} {nfr8 : Nat} {slfr8 : Array (Option Value)} {twfr8 tffr8 : Tok}
    (lfr8 : K.lookup fr8 = some ⟨.type "tuple", dfr8, .seq itsfr8 nfr8, slfr8⟩) (x_fr8 : itsfr8.toList = [.str "move" twfr8, .str "abc" tffr8])
    {dfr9 : Option Addr} {itsfr9 : Array Value} {nfr9 : Nat} {slfr9 : Array (Option Value)} {twfr9 tffr9 : Tok}
    (lfr9 : K.lookup fr9 = some ⟨.type "tuple", dfr9, .seq itsfr9 nfr9, slfr9⟩) (x_fr9 : itsfr9.toList = [.str "jump" twfr9, .str "an" tffr9])
    {dfr10 : Option Addr} {itsfr10 : Array Value} {nfr10 : Nat} {slfr10 : Array (Option Value)} {twfr10 tffr10 : Tok}
    (lfr10 : K.lookup fr10 = some ⟨.type "tuple", dfr10, .seq itsfr10 nfr10, slfr10⟩) (x_fr10 : itsfr10.toList = [.str "fork" twfr10, .str "a" tffr10])
    (hgs : PySem.W.specialIn K (.builtin "object.__class__") "__get__" = some (some (.builtin "getset_descriptor.__get__"))) (htk : PySem.W.takesIn K (.builtin "object.__class__") = some true)
    {BL fBL ccBL cBL NBL : Addr} {ocBL cclBL clBL kVBL docBL pmBL ctvBL : Value} {odBL anBL cddBL cldBL ddBL : Option Addr} {oslBL ccsBL cslBL : Array (Option Value)} {vsBL : Array Value} {fileBL : Str} {tfBL : Tok}
    {nmBL qBL : Str} {bsBL bmBL : List Value} {snBL : List Str} {subBL : List Value} {abBL : Bool} {colBL : Option Bool} {k0BL k1BL k2BL k3BL k5BL : Option Value}
    (aBL : PySem.W.nsIn K mainGlobals "BadLine" = some (some (.ref BL)))
    (iCBL : PySem.W.findIn K (.ref BL) "__init__" = some (some (.ref fBL))) (tIBL : PySem.W.typeIn K (.ref fBL) = some (.type "function"))
    (lFBL : K.lookup fBL = some ⟨ocBL, odBL, .func (PySem.W.fnX "__init__" "BadLine.__init__" (C8.fnArgs s_BadLine_init) (C8.fnBody s_BadLine_init) (C8.fnScope s_BadLine_init) [("__class__", ccBL)] .none kVBL docBL pmBL anBL (.ref cBL) ctvBL), oslBL⟩)
    (cFBL : PySem.W.codeIn K (.ref cBL) "BadLine.__init__" = true) (lcBL : K.lookup cBL = some ⟨cclBL, cddBL, .fields vsBL, ccsBL⟩) (x_hvBL : vsBL[2]? = some (.str fileBL tfBL)) (x_hfBL : ((l.prog.main.file : Str) == fileBL) = true) (x_tpBL : (l.prog.main.scope.names.lookup ("super" : Str)).isSome = false)
    (lccBL : K.lookup ccBL = some ⟨clBL, cldBL, .cell (some (.ref BL)), cslBL⟩) (zsuperBL : PySem.W.nsIn K mainGlobals "super" = some none)
    (lDBL : K.lookup BL = some (excClassObj nmBL qBL BL NBL bsBL bmBL true snBL subBL abBL colBL ddBL k0BL k1BL k2BL k3BL k5BL "ValueError.__new__")) (x_rbBL : PySem.HandSPX.refsVE bmBL = true)
    (saBL : PySem.W.findIn K (.ref BL) "__setattr__" = some (some (.builtin "object.__setattr__"))) (exBL : PySem.W.subIn K (.ref BL) (.type "BaseException") = some true) (tyBL : PySem.W.typeIn K (.ref BL) = some (.type "type")) (kCBL : PySem.W.keepIn K (.ref BL) = true)
    (mrBL : PySem.W.mroIn K BL (.ref BL) = some true) (x_iniBL : PySem.W.ks_superIn K BL BL "__init__" = some (some (.builtin "ValueError.__init__"))) (veBL : PySem.W.subIn K (.ref BL) (.type "ValueError") = some true) (anyBL : PySem.W.nsIn K cStatics "thirdparty.any" = some none)
    (nBL_number : PySem.W.findIn K (.ref BL) "number" = some none)
    (hgaBL : PySem.W.findIn K (.ref BL) "__getattribute__" = some (some (.builtin "BaseException.__getattribute__")))
    (hgtBL : PySem.W.findIn K (.ref BL) "__getattr__" = some none)
    (hclBL : PySem.W.findIn K (.ref BL) "__class__" = some (some (.builtin "object.__class__")))
    (hhdBL : PySem.W.hasDictIn K BL = true) (hobBL : PySem.W.mroIn K BL (.type "object") = some true)
    {CE BC AE LE ME FE PgE : Addr}
    (aCE : PySem.W.nsIn K mainGlobals "CodeError" = some (some (.ref CE)))
    (aBC : PySem.W.nsIn K mainGlobals "BadCode" = some (some (.ref BC)))
    (aAE : PySem.W.nsIn K mainGlobals "AccessError" = some (some (.ref AE)))
    (aLE : PySem.W.nsIn K mainGlobals "LimitError" = some (some (.ref LE)))
    (aME : PySem.W.nsIn K mainGlobals "MissingError" = some (some (.ref ME)))
    (aFE : PySem.W.nsIn K mainGlobals "FileError" = some (some (.ref FE)))
    (aPgE : PySem.W.nsIn K mainGlobals "PagesError" = some (some (.ref PgE)))
    (zValueError : PySem.W.nsIn K mainGlobals "ValueError" = some none)
    (x_eBB : PySem.W.exmOne K (.ref BL) (.ref BL) = some true)
    (x_eBC : PySem.W.exmOne K (.ref BL) (.ref CE) = some true)
    (x_iB1 : PySem.W.kitAny K (.ref BL) [.ref BC, .ref AE] = some false)
    (x_iB2 : PySem.W.kitAny K (.ref BL) [.ref LE, .ref ME, .ref FE] = some false)
    (x_iBB : PySem.W.kitOne K (.ref BL) (.ref BL) = some true)
    (x_iBP : PySem.W.kitOne K (.ref BL) (.ref PgE) = some true)
    (x_iBV : PySem.W.kitOne K (.ref BL) (.type "ValueError") = some true)
    {od_assemble an_assemble : Option Addr} {sl_assemble : Array (Option Value)} {f_assemble : Addr} {oc_assemble kV_assemble dc_assemble pm_assemble cd_assemble ct_assemble : Value}
    (a_assemble : PySem.W.nsIn K mainGlobals "assemble" = some (some (.ref f_assemble)))
    (l_assemble : K.lookup f_assemble = some ⟨oc_assemble, od_assemble, .func (PySem.W.fnOf "assemble" "assemble" (C8.fnArgs s_assemble) (C8.fnBody s_assemble) (C8.fnScope s_assemble) .none kV_assemble dc_assemble pm_assemble an_assemble cd_assemble ct_assemble), sl_assemble⟩)
    (c_assemble : PySem.W.codeIn K cd_assemble "assemble" = true) (k_assemble : PySem.W.keepIn K (.ref f_assemble) = true)
    {od_code_of an_code_of : Option Addr} {sl_code_of : Array (Option Value)} {f_code_of : Addr} {oc_code_of kV_code_of dc_code_of pm_code_of cd_code_of ct_code_of : Value}
    (a_code_of : PySem.W.nsIn K mainGlobals "_code_of" = some (some (.ref f_code_of)))
    (l_code_of : K.lookup f_code_of = some ⟨oc_code_of, od_code_of, .func (PySem.W.fnOf "_code_of" "_code_of" (C8.fnArgs s_code_of) (C8.fnBody s_code_of) (C8.fnScope s_code_of) .none kV_code_of dc_code_of pm_code_of an_code_of cd_code_of ct_code_of), sl_code_of⟩)
    (c_code_of : PySem.W.codeIn K cd_code_of "_code_of" = true) (k_code_of : PySem.W.keepIn K (.ref f_code_of) = true)
    {od_operand an_operand : Option Addr} {sl_operand : Array (Option Value)} {f_operand : Addr} {oc_operand kV_operand dc_operand pm_operand cd_operand ct_operand : Value}
    (a_operand : PySem.W.nsIn K mainGlobals "_operand" = some (some (.ref f_operand)))
    (l_operand : K.lookup f_operand = some ⟨oc_operand, od_operand, .func (PySem.W.fnOf "_operand" "_operand" (C8.fnArgs s_operand) (C8.fnBody s_operand) (C8.fnScope s_operand) .none kV_operand dc_operand pm_operand an_operand cd_operand ct_operand), sl_operand⟩)
    (c_operand : PySem.W.codeIn K cd_operand "_operand" = true) (k_operand : PySem.W.keepIn K (.ref f_operand) = true)
    {od_fields an_fields : Option Addr} {sl_fields : Array (Option Value)} {f_fields : Addr} {oc_fields kV_fields dc_fields pm_fields cd_fields ct_fields : Value}
    (a_fields : PySem.W.nsIn K mainGlobals "_fields" = some (some (.ref f_fields)))
    (l_fields : K.lookup f_fields = some ⟨oc_fields, od_fields, .func (PySem.W.fnOf "_fields" "_fields" (C8.fnArgs s_fields) (C8.fnBody s_fields) (C8.fnScope s_fields) .none kV_fields dc_fields pm_fields an_fields cd_fields ct_fields), sl_fields⟩)
    (c_fields : PySem.W.codeIn K cd_fields "_fields" = true) (k_fields : PySem.W.keepIn K (.ref f_fields) = true)
    {od_number an_number : Option Addr} {sl_number : Array (Option Value)} {f_number : Addr} {oc_number kV_number dc_number pm_number cd_number ct_number : Value}
    (a_number : PySem.W.nsIn K mainGlobals "_law_number" = some (some (.ref f_number)))
    (l_number : K.lookup f_number = some ⟨oc_number, od_number, .func (PySem.W.fnOf "_law_number" "_law_number" (C8.fnArgs s_number) (C8.fnBody s_number) (C8.fnScope s_number) .none kV_number dc_number pm_number an_number cd_number ct_number), sl_number⟩)
    (c_number : PySem.W.codeIn K cd_number "_law_number" = true) (k_number : PySem.W.keepIn K (.ref f_number) = true)
    {od_is_whole an_is_whole : Option Addr} {sl_is_whole : Array (Option Value)} {f_is_whole : Addr} {oc_is_whole kV_is_whole dc_is_whole pm_is_whole cd_is_whole ct_is_whole : Value}
    (a_is_whole : PySem.W.nsIn K mainGlobals "_law_is_whole" = some (some (.ref f_is_whole)))
    (l_is_whole : K.lookup f_is_whole = some ⟨oc_is_whole, od_is_whole, .func (PySem.W.fnOf "_law_is_whole" "_law_is_whole" (C8.fnArgs s_is_whole) (C8.fnBody s_is_whole) (C8.fnScope s_is_whole) .none kV_is_whole dc_is_whole pm_is_whole an_is_whole cd_is_whole ct_is_whole), sl_is_whole⟩)
    (c_is_whole : PySem.W.codeIn K cd_is_whole "_law_is_whole" = true) (k_is_whole : PySem.W.keepIn K (.ref f_is_whole) = true)
    {od_same an_same : Option Addr} {sl_same : Array (Option Value)} {f_same : Addr} {oc_same kV_same dc_same pm_same cd_same ct_same : Value}
    (a_same : PySem.W.nsIn K mainGlobals "_law_same" = some (some (.ref f_same)))
    (l_same : K.lookup f_same = some ⟨oc_same, od_same, .func (PySem.W.fnOf "_law_same" "_law_same" (C8.fnArgs s_same) (C8.fnBody s_same) (C8.fnScope s_same) .none kV_same dc_same pm_same an_same cd_same ct_same), sl_same⟩)
    (c_same : PySem.W.codeIn K cd_same "_law_same" = true) (k_same : PySem.W.keepIn K (.ref f_same) = true)
    {od_words an_words : Option Addr} {sl_words : Array (Option Value)} {f_words : Addr} {oc_words kV_words dc_words pm_words cd_words ct_words : Value}
    (a_words : PySem.W.nsIn K mainGlobals "_law_words" = some (some (.ref f_words)))
    (l_words : K.lookup f_words = some ⟨oc_words, od_words, .func (PySem.W.fnOf "_law_words" "_law_words" (C8.fnArgs s_words) (C8.fnBody s_words) (C8.fnScope s_words) .none kV_words dc_words pm_words an_words cd_words ct_words), sl_words⟩)
    (c_words : PySem.W.codeIn K cd_words "_law_words" = true) (k_words : PySem.W.keepIn K (.ref f_words) = true)
    {od_operands an_operands : Option Addr} {sl_operands : Array (Option Value)} {f_operands : Addr} {oc_operands kV_operands dc_operands pm_operands cd_operands ct_operands : Value}
    (a_operands : PySem.W.nsIn K mainGlobals "_law_operands" = some (some (.ref f_operands)))
    (l_operands : K.lookup f_operands = some ⟨oc_operands, od_operands, .func (PySem.W.fnOf "_law_operands" "_law_operands" (C8.fnArgs s_operands) (C8.fnBody s_operands) (C8.fnScope s_operands) .none kV_operands dc_operands pm_operands an_operands cd_operands ct_operands), sl_operands⟩)
    (c_operands : PySem.W.codeIn K cd_operands "_law_operands" = true) (k_operands : PySem.W.keepIn K (.ref f_operands) = true)
    {od_word_value an_word_value : Option Addr} {sl_word_value : Array (Option Value)} {f_word_value : Addr} {oc_word_value kV_word_value dc_word_value pm_word_value cd_word_value ct_word_value : Value}
    (a_word_value : PySem.W.nsIn K mainGlobals "_law_word_value" = some (some (.ref f_word_value)))
    (l_word_value : K.lookup f_word_value = some ⟨oc_word_value, od_word_value, .func (PySem.W.fnOf "_law_word_value" "_law_word_value" (C8.fnArgs s_word_value) (C8.fnBody s_word_value) (C8.fnScope s_word_value) .none kV_word_value dc_word_value pm_word_value an_word_value cd_word_value ct_word_value), sl_word_value⟩)
    (c_word_value : PySem.W.codeIn K cd_word_value "_law_word_value" = true) (k_word_value : PySem.W.keepIn K (.ref f_word_value) = true)
    {od_line_parts an_line_parts : Option Addr} {sl_line_parts : Array (Option Value)} {f_line_parts : Addr} {oc_line_parts kV_line_parts dc_line_parts pm_line_parts cd_line_parts ct_line_parts : Value}
    (a_line_parts : PySem.W.nsIn K mainGlobals "_law_line_parts" = some (some (.ref f_line_parts)))
    (l_line_parts : K.lookup f_line_parts = some ⟨oc_line_parts, od_line_parts, .func (PySem.W.fnOf "_law_line_parts" "_law_line_parts" (C8.fnArgs s_line_parts) (C8.fnBody s_line_parts) (C8.fnScope s_line_parts) .none kV_line_parts dc_line_parts pm_line_parts an_line_parts cd_line_parts ct_line_parts), sl_line_parts⟩)
    (c_line_parts : PySem.W.codeIn K cd_line_parts "_law_line_parts" = true) (k_line_parts : PySem.W.keepIn K (.ref f_line_parts) = true)
    {od_line_bytes an_line_bytes : Option Addr} {sl_line_bytes : Array (Option Value)} {f_line_bytes : Addr} {oc_line_bytes kV_line_bytes dc_line_bytes pm_line_bytes cd_line_bytes ct_line_bytes : Value}
    (a_line_bytes : PySem.W.nsIn K mainGlobals "_law_line_bytes" = some (some (.ref f_line_bytes)))
    (l_line_bytes : K.lookup f_line_bytes = some ⟨oc_line_bytes, od_line_bytes, .func (PySem.W.fnOf "_law_line_bytes" "_law_line_bytes" (C8.fnArgs s_line_bytes) (C8.fnBody s_line_bytes) (C8.fnScope s_line_bytes) .none kV_line_bytes dc_line_bytes pm_line_bytes an_line_bytes cd_line_bytes ct_line_bytes), sl_line_bytes⟩)
    (c_line_bytes : PySem.W.codeIn K cd_line_bytes "_law_line_bytes" = true) (k_line_bytes : PySem.W.keepIn K (.ref f_line_bytes) = true)
    {od_bytes_due an_bytes_due : Option Addr} {sl_bytes_due : Array (Option Value)} {f_bytes_due : Addr} {oc_bytes_due kV_bytes_due dc_bytes_due pm_bytes_due cd_bytes_due ct_bytes_due : Value}
    (a_bytes_due : PySem.W.nsIn K mainGlobals "_law_bytes_due" = some (some (.ref f_bytes_due)))
    (l_bytes_due : K.lookup f_bytes_due = some ⟨oc_bytes_due, od_bytes_due, .func (PySem.W.fnOf "_law_bytes_due" "_law_bytes_due" (C8.fnArgs s_bytes_due) (C8.fnBody s_bytes_due) (C8.fnScope s_bytes_due) .none kV_bytes_due dc_bytes_due pm_bytes_due an_bytes_due cd_bytes_due ct_bytes_due), sl_bytes_due⟩)
    (c_bytes_due : PySem.W.codeIn K cd_bytes_due "_law_bytes_due" = true) (k_bytes_due : PySem.W.keepIn K (.ref f_bytes_due) = true)
    {od_good_line an_good_line : Option Addr} {sl_good_line : Array (Option Value)} {f_good_line : Addr} {oc_good_line kV_good_line dc_good_line pm_good_line cd_good_line ct_good_line : Value}
    (a_good_line : PySem.W.nsIn K mainGlobals "_law_good_line" = some (some (.ref f_good_line)))
    (l_good_line : K.lookup f_good_line = some ⟨oc_good_line, od_good_line, .func (PySem.W.fnOf "_law_good_line" "_law_good_line" (C8.fnArgs s_good_line) (C8.fnBody s_good_line) (C8.fnScope s_good_line) .none kV_good_line dc_good_line pm_good_line an_good_line cd_good_line ct_good_line), sl_good_line⟩)
    (c_good_line : PySem.W.codeIn K cd_good_line "_law_good_line" = true) (k_good_line : PySem.W.keepIn K (.ref f_good_line) = true)
    {od_odd an_odd : Option Addr} {sl_odd : Array (Option Value)} {f_odd : Addr} {oc_odd kV_odd dc_odd pm_odd cd_odd ct_odd : Value}
    (a_odd : PySem.W.nsIn K mainGlobals "_law_odd" = some (some (.ref f_odd)))
    (l_odd : K.lookup f_odd = some ⟨oc_odd, od_odd, .func (PySem.W.fnOf "_law_odd" "_law_odd" (C8.fnArgs s_odd) (C8.fnBody s_odd) (C8.fnScope s_odd) .none kV_odd dc_odd pm_odd an_odd cd_odd ct_odd), sl_odd⟩)
    (c_odd : PySem.W.codeIn K cd_odd "_law_odd" = true) (k_odd : PySem.W.keepIn K (.ref f_odd) = true)
    {od_odd_word an_odd_word : Option Addr} {sl_odd_word : Array (Option Value)} {f_odd_word : Addr} {oc_odd_word kV_odd_word dc_odd_word pm_odd_word cd_odd_word ct_odd_word : Value}
    (a_odd_word : PySem.W.nsIn K mainGlobals "_law_odd_word" = some (some (.ref f_odd_word)))
    (l_odd_word : K.lookup f_odd_word = some ⟨oc_odd_word, od_odd_word, .func (PySem.W.fnOf "_law_odd_word" "_law_odd_word" (C8.fnArgs s_odd_word) (C8.fnBody s_odd_word) (C8.fnScope s_odd_word) .none kV_odd_word dc_odd_word pm_odd_word an_odd_word cd_odd_word ct_odd_word), sl_odd_word⟩)
    (c_odd_word : PySem.W.codeIn K cd_odd_word "_law_odd_word" = true) (k_odd_word : PySem.W.keepIn K (.ref f_odd_word) = true)
    {od_beyond an_beyond : Option Addr} {sl_beyond : Array (Option Value)} {f_beyond : Addr} {oc_beyond kV_beyond dc_beyond pm_beyond cd_beyond ct_beyond : Value}
    (a_beyond : PySem.W.nsIn K mainGlobals "_law_beyond" = some (some (.ref f_beyond)))
    (l_beyond : K.lookup f_beyond = some ⟨oc_beyond, od_beyond, .func (PySem.W.fnOf "_law_beyond" "_law_beyond" (C8.fnArgs s_beyond) (C8.fnBody s_beyond) (C8.fnScope s_beyond) .none kV_beyond dc_beyond pm_beyond an_beyond cd_beyond ct_beyond), sl_beyond⟩)
    (c_beyond : PySem.W.codeIn K cd_beyond "_law_beyond" = true) (k_beyond : PySem.W.keepIn K (.ref f_beyond) = true)
    {od_spoilt an_spoilt : Option Addr} {sl_spoilt : Array (Option Value)} {f_spoilt : Addr} {oc_spoilt kV_spoilt dc_spoilt pm_spoilt cd_spoilt ct_spoilt : Value}
    (a_spoilt : PySem.W.nsIn K mainGlobals "_law_spoilt" = some (some (.ref f_spoilt)))
    (l_spoilt : K.lookup f_spoilt = some ⟨oc_spoilt, od_spoilt, .func (PySem.W.fnOf "_law_spoilt" "_law_spoilt" (C8.fnArgs s_spoilt) (C8.fnBody s_spoilt) (C8.fnScope s_spoilt) .none kV_spoilt dc_spoilt pm_spoilt an_spoilt cd_spoilt ct_spoilt), sl_spoilt⟩)
    (c_spoilt : PySem.W.codeIn K cd_spoilt "_law_spoilt" = true) (k_spoilt : PySem.W.keepIn K (.ref f_spoilt) = true)
    {od_bytes_told an_bytes_told : Option Addr} {sl_bytes_told : Array (Option Value)} {f_bytes_told : Addr} {oc_bytes_told kV_bytes_told dc_bytes_told pm_bytes_told cd_bytes_told ct_bytes_told : Value}
    (a_bytes_told : PySem.W.nsIn K mainGlobals "_law_bytes_told" = some (some (.ref f_bytes_told)))
    (l_bytes_told : K.lookup f_bytes_told = some ⟨oc_bytes_told, od_bytes_told, .func (PySem.W.fnOf "_law_bytes_told" "_law_bytes_told" (C8.fnArgs s_bytes_told) (C8.fnBody s_bytes_told) (C8.fnScope s_bytes_told) .none kV_bytes_told dc_bytes_told pm_bytes_told an_bytes_told cd_bytes_told ct_bytes_told), sl_bytes_told⟩)
    (c_bytes_told : PySem.W.codeIn K cd_bytes_told "_law_bytes_told" = true) (k_bytes_told : PySem.W.keepIn K (.ref f_bytes_told) = true)
    {od_bytes_hold an_bytes_hold : Option Addr} {sl_bytes_hold : Array (Option Value)} {f_bytes_hold : Addr} {oc_bytes_hold kV_bytes_hold dc_bytes_hold pm_bytes_hold cd_bytes_hold ct_bytes_hold : Value}
    (a_bytes_hold : PySem.W.nsIn K mainGlobals "_law_bytes_hold" = some (some (.ref f_bytes_hold)))
    (l_bytes_hold : K.lookup f_bytes_hold = some ⟨oc_bytes_hold, od_bytes_hold, .func (PySem.W.fnOf "_law_bytes_hold" "_law_bytes_hold" (C8.fnArgs s_bytes_hold) (C8.fnBody s_bytes_hold) (C8.fnScope s_bytes_hold) .none kV_bytes_hold dc_bytes_hold pm_bytes_hold an_bytes_hold cd_bytes_hold ct_bytes_hold), sl_bytes_hold⟩)
    (c_bytes_hold : PySem.W.codeIn K cd_bytes_hold "_law_bytes_hold" = true) (k_bytes_hold : PySem.W.keepIn K (.ref f_bytes_hold) = true)
    {od_line_family an_line_family : Option Addr} {sl_line_family : Array (Option Value)} {f_line_family : Addr} {oc_line_family kV_line_family dc_line_family pm_line_family cd_line_family ct_line_family : Value}
    (a_line_family : PySem.W.nsIn K mainGlobals "_law_line_family" = some (some (.ref f_line_family)))
    (l_line_family : K.lookup f_line_family = some ⟨oc_line_family, od_line_family, .func (PySem.W.fnOf "_law_line_family" "_law_line_family" (C8.fnArgs s_line_family) (C8.fnBody s_line_family) (C8.fnScope s_line_family) .none kV_line_family dc_line_family pm_line_family an_line_family cd_line_family ct_line_family), sl_line_family⟩)
    (c_line_family : PySem.W.codeIn K cd_line_family "_law_line_family" = true) (k_line_family : PySem.W.keepIn K (.ref f_line_family) = true)
    {od_law an_law : Option Addr} {sl_law : Array (Option Value)} {f_law : Addr} {oc_law kV_law dc_law pm_law cd_law ct_law : Value}
    (a_law : PySem.W.nsIn K mainGlobals "law" = some (some (.ref f_law)))
    (l_law : K.lookup f_law = some ⟨oc_law, od_law, .func (PySem.W.fnOf "law" "law" (C8.fnArgs s_law) (C8.fnBody s_law) (C8.fnScope s_law) .none kV_law dc_law pm_law an_law cd_law ct_law), sl_law⟩)
    (c_law : PySem.W.codeIn K cd_law "law" = true) (k_law : PySem.W.keepIn K (.ref f_law) = true)
    (z_len : PySem.W.nsIn K mainGlobals "len" = some none)
    (z_abs : PySem.W.nsIn K mainGlobals "abs" = some none)
    (z_int : PySem.W.nsIn K mainGlobals "int" = some none)
    (z_range : PySem.W.nsIn K mainGlobals "range" = some none)
    (z_isinstance : PySem.W.nsIn K mainGlobals "isinstance" = some none)
    (z_bool : PySem.W.nsIn K mainGlobals "bool" = some none)
    (z_str : PySem.W.nsIn K mainGlobals "str" = some none)
    (z_list : PySem.W.nsIn K mainGlobals "list" = some none)
    (z_tuple : PySem.W.nsIn K mainGlobals "tuple" = some none)
    (z_all : PySem.W.nsIn K mainGlobals "all" = some none)
    (z_zip : PySem.W.nsIn K mainGlobals "zip" = some none)
    (z_enumerate : PySem.W.nsIn K mainGlobals "enumerate" = some none) :
    ∃ fd : FuncData, (∀ (s : Shared) (v : Value), BindsTo s fd ⟨[v], []⟩ [("_law_script", v)]) ∧ ∀ base : Heap, K.In base → base.Ns mainGlobals mg → FnOk l.prog w K mg base C8.CX0 7 fa fd ["_law_script"] (spLaw K) := by
  have e := hfa.symm.trans (PySem.W.mg_of X G a_law)
  cases e
  have T : Txt mg := ⟨PySem.W.mg_none_of X G z_len, PySem.W.mg_none_of X G z_abs, PySem.W.mg_none_of X G z_int, PySem.W.mg_none_of X G z_range, PySem.W.mg_none_of X G z_isinstance, PySem.W.mg_none_of X G z_bool, PySem.W.mg_none_of X G z_str, PySem.W.mg_none_of X G z_list, PySem.W.mg_none_of X G z_tuple⟩
  have TW : TxtW K mg FM := ⟨T, PySem.W.mg_none_of X G z_all, PySem.W.mg_none_of X G z_zip, PySem.W.mg_none_of X G z_enumerate, ⟨tkR, PySem.W.mg_of X G aREG⟩, ⟨tkW, PySem.W.mg_of X G aWL⟩, ⟨tkD, PySem.W.mg_of X G aDIG⟩, PySem.W.mg_of X G aFM, [fr0, fr1, fr2, fr3, fr4, fr5, fr6, fr7, fr8, fr9, fr10], rfl, fun H => top_tab lFM (rs := [fr0, fr1, fr2, fr3, fr4, fr5, fr6, fr7, fr8, fr9, fr10]) x_FM (by show 11 ≤ 1000; decide), fun i r e => by
    match i, e with
    | 0, e => obtain rfl := Option.some.inj e; exact row_tab lfr0 x_fr0
    | 1, e => obtain rfl := Option.some.inj e; exact row_tab lfr1 x_fr1
    | 2, e => obtain rfl := Option.some.inj e; exact row_tab lfr2 x_fr2
    | 3, e => obtain rfl := Option.some.inj e; exact row_tab lfr3 x_fr3
    | 4, e => obtain rfl := Option.some.inj e; exact row_tab lfr4 x_fr4
    | 5, e => obtain rfl := Option.some.inj e; exact row_tab lfr5 x_fr5
    | 6, e => obtain rfl := Option.some.inj e; exact row_tab lfr6 x_fr6
    | 7, e => obtain rfl := Option.some.inj e; exact row_tab lfr7 x_fr7
    | 8, e => obtain rfl := Option.some.inj e; exact row_tab lfr8 x_fr8
    | 9, e => obtain rfl := Option.some.inj e; exact row_tab lfr9 x_fr9
    | 10, e => obtain rfl := Option.some.inj e; exact row_tab lfr10 x_fr10
    | i + 11, e => cases e⟩
  obtain ⟨U_BL, O_BL⟩ := own_mk (P := l.prog) X G iCBL tIBL lFBL cFBL lcBL x_hvBL x_hfBL x_tpBL lccBL zsuperBL rfl rfl rfl lDBL x_rbBL saBL exBL tyBL kCBL mrBL x_iniBL veBL anyBL
  have b_BL : Binds K (PySem.W.fnX "__init__" "BadLine.__init__" (C8.fnArgs s_BadLine_init) (C8.fnBody s_BadLine_init) (C8.fnScope s_BadLine_init) [("__class__", ccBL)] .none kVBL docBL pmBL anBL (.ref cBL) ctvBL) ["self", "number"] [] := .all fun us hl => match us, hl with | [_, _], _ => rfl
  have xc_BL : ExcC K BL := ⟨hgaBL, hgtBL, exBL, hhdBL, hclBL, hgs, htk, hobBL⟩
  have xf_BL : XfC K BL := ⟨hgaBL, hgtBL, exBL, hhdBL⟩
  have TE : ETc K mg BC CE BL AE LE ME FE PgE := ⟨PySem.W.mg_of X G aBC, PySem.W.mg_of X G aCE, PySem.W.mg_of X G aBL, PySem.W.mg_of X G aAE, PySem.W.mg_of X G aLE, PySem.W.mg_of X G aME, PySem.W.mg_of X G aFE, PySem.W.mg_of X G aPgE, PySem.W.mg_none_of X G zValueError, PySem.W.mg_none_of X G z_isinstance, xc_BL, xf_BL, nBL_number, x_eBB, x_eBC, x_iB1, x_iB2, x_iBB, x_iBP, x_iBV⟩
  have D_assemble : Def K mg "assemble" s_assemble f_assemble _ := ⟨⟨oc_assemble, od_assemble, .none, kV_assemble, dc_assemble, pm_assemble, an_assemble, cd_assemble, ct_assemble, sl_assemble, rfl, l_assemble, c_assemble⟩, PySem.W.mg_of X G a_assemble, k_assemble⟩
  have b_assemble := D_assemble.fn.binds (ps := ["lines"]) rfl fun _ _ _ _ _ _ us hl => match us, hl with | [_], _ => rfl
  have D_code_of : Def K mg "_code_of" s_code_of f_code_of _ := ⟨⟨oc_code_of, od_code_of, .none, kV_code_of, dc_code_of, pm_code_of, an_code_of, cd_code_of, ct_code_of, sl_code_of, rfl, l_code_of, c_code_of⟩, PySem.W.mg_of X G a_code_of, k_code_of⟩
  have b_code_of := D_code_of.fn.binds (ps := ["line"]) rfl fun _ _ _ _ _ _ us hl => match us, hl with | [_], _ => rfl
  have D_operand : Def K mg "_operand" s_operand f_operand _ := ⟨⟨oc_operand, od_operand, .none, kV_operand, dc_operand, pm_operand, an_operand, cd_operand, ct_operand, sl_operand, rfl, l_operand, c_operand⟩, PySem.W.mg_of X G a_operand, k_operand⟩
  have b_operand := D_operand.fn.binds (ps := ["letter", "text"]) rfl fun _ _ _ _ _ _ us hl => match us, hl with | [_, _], _ => rfl
  have D_fields : Def K mg "_fields" s_fields f_fields _ := ⟨⟨oc_fields, od_fields, .none, kV_fields, dc_fields, pm_fields, an_fields, cd_fields, ct_fields, sl_fields, rfl, l_fields, c_fields⟩, PySem.W.mg_of X G a_fields, k_fields⟩
  have b_fields := D_fields.fn.binds (ps := ["form", "operands"]) rfl fun _ _ _ _ _ _ us hl => match us, hl with | [_, _], _ => rfl
  have D_number : Def K mg "_law_number" s_number f_number _ := ⟨⟨oc_number, od_number, .none, kV_number, dc_number, pm_number, an_number, cd_number, ct_number, sl_number, rfl, l_number, c_number⟩, PySem.W.mg_of X G a_number, k_number⟩
  have b_number := D_number.fn.binds (ps := ["_law_script", "_law_at", "_law_k", "_law_size"]) rfl fun _ _ _ _ _ _ us hl => match us, hl with | [_, _, _, _], _ => rfl
  have D_is_whole : Def K mg "_law_is_whole" s_is_whole f_is_whole _ := ⟨⟨oc_is_whole, od_is_whole, .none, kV_is_whole, dc_is_whole, pm_is_whole, an_is_whole, cd_is_whole, ct_is_whole, sl_is_whole, rfl, l_is_whole, c_is_whole⟩, PySem.W.mg_of X G a_is_whole, k_is_whole⟩
  have b_is_whole := D_is_whole.fn.binds (ps := ["_law_told"]) rfl fun _ _ _ _ _ _ us hl => match us, hl with | [_], _ => rfl
  have D_same : Def K mg "_law_same" s_same f_same _ := ⟨⟨oc_same, od_same, .none, kV_same, dc_same, pm_same, an_same, cd_same, ct_same, sl_same, rfl, l_same, c_same⟩, PySem.W.mg_of X G a_same, k_same⟩
  have b_same := D_same.fn.binds (ps := ["_law_told", "_law_due"]) rfl fun _ _ _ _ _ _ us hl => match us, hl with | [_, _], _ => rfl
  have D_words : Def K mg "_law_words" s_words f_words _ := ⟨⟨oc_words, od_words, .none, kV_words, dc_words, pm_words, an_words, cd_words, ct_words, sl_words, rfl, l_words, c_words⟩, PySem.W.mg_of X G a_words, k_words⟩
  have b_words := D_words.fn.binds (ps := []) rfl fun _ _ _ _ _ _ us hl => match us, hl with | [], _ => rfl
  have D_operands : Def K mg "_law_operands" s_operands f_operands _ := ⟨⟨oc_operands, od_operands, .none, kV_operands, dc_operands, pm_operands, an_operands, cd_operands, ct_operands, sl_operands, rfl, l_operands, c_operands⟩, PySem.W.mg_of X G a_operands, k_operands⟩
  have b_operands := D_operands.fn.binds (ps := ["_law_code"]) rfl fun _ _ _ _ _ _ us hl => match us, hl with | [_], _ => rfl
  have D_word_value : Def K mg "_law_word_value" s_word_value f_word_value _ := ⟨⟨oc_word_value, od_word_value, .none, kV_word_value, dc_word_value, pm_word_value, an_word_value, cd_word_value, ct_word_value, sl_word_value, rfl, l_word_value, c_word_value⟩, PySem.W.mg_of X G a_word_value, k_word_value⟩
  have b_word_value := D_word_value.fn.binds (ps := ["_law_word", "_law_top"]) rfl fun _ _ _ _ _ _ us hl => match us, hl with | [_, _], _ => rfl
  have D_line_parts : Def K mg "_law_line_parts" s_line_parts f_line_parts _ := ⟨⟨oc_line_parts, od_line_parts, .none, kV_line_parts, dc_line_parts, pm_line_parts, an_line_parts, cd_line_parts, ct_line_parts, sl_line_parts, rfl, l_line_parts, c_line_parts⟩, PySem.W.mg_of X G a_line_parts, k_line_parts⟩
  have b_line_parts := D_line_parts.fn.binds (ps := ["_law_line"]) rfl fun _ _ _ _ _ _ us hl => match us, hl with | [_], _ => rfl
  have D_line_bytes : Def K mg "_law_line_bytes" s_line_bytes f_line_bytes _ := ⟨⟨oc_line_bytes, od_line_bytes, .none, kV_line_bytes, dc_line_bytes, pm_line_bytes, an_line_bytes, cd_line_bytes, ct_line_bytes, sl_line_bytes, rfl, l_line_bytes, c_line_bytes⟩, PySem.W.mg_of X G a_line_bytes, k_line_bytes⟩
  have b_line_bytes := D_line_bytes.fn.binds (ps := ["_law_line"]) rfl fun _ _ _ _ _ _ us hl => match us, hl with | [_], _ => rfl
  have D_bytes_due : Def K mg "_law_bytes_due" s_bytes_due f_bytes_due _ := ⟨⟨oc_bytes_due, od_bytes_due, .none, kV_bytes_due, dc_bytes_due, pm_bytes_due, an_bytes_due, cd_bytes_due, ct_bytes_due, sl_bytes_due, rfl, l_bytes_due, c_bytes_due⟩, PySem.W.mg_of X G a_bytes_due, k_bytes_due⟩
  have b_bytes_due := D_bytes_due.fn.binds (ps := ["_law_lines"]) rfl fun _ _ _ _ _ _ us hl => match us, hl with | [_], _ => rfl
  have D_good_line : Def K mg "_law_good_line" s_good_line f_good_line _ := ⟨⟨oc_good_line, od_good_line, .none, kV_good_line, dc_good_line, pm_good_line, an_good_line, cd_good_line, ct_good_line, sl_good_line, rfl, l_good_line, c_good_line⟩, PySem.W.mg_of X G a_good_line, k_good_line⟩
  have b_good_line := D_good_line.fn.binds (ps := ["_law_script", "_law_at"]) rfl fun _ _ _ _ _ _ us hl => match us, hl with | [_, _], _ => rfl
  have D_odd : Def K mg "_law_odd" s_odd f_odd _ := ⟨⟨oc_odd, od_odd, .none, kV_odd, dc_odd, pm_odd, an_odd, cd_odd, ct_odd, sl_odd, rfl, l_odd, c_odd⟩, PySem.W.mg_of X G a_odd, k_odd⟩
  have b_odd := D_odd.fn.binds (ps := ["_law_number_here"]) rfl fun _ _ _ _ _ _ us hl => match us, hl with | [_], _ => rfl
  have D_odd_word : Def K mg "_law_odd_word" s_odd_word f_odd_word _ := ⟨⟨oc_odd_word, od_odd_word, .none, kV_odd_word, dc_odd_word, pm_odd_word, an_odd_word, cd_odd_word, ct_odd_word, sl_odd_word, rfl, l_odd_word, c_odd_word⟩, PySem.W.mg_of X G a_odd_word, k_odd_word⟩
  have b_odd_word := D_odd_word.fn.binds (ps := ["_law_number_here"]) rfl fun _ _ _ _ _ _ us hl => match us, hl with | [_], _ => rfl
  have D_beyond : Def K mg "_law_beyond" s_beyond f_beyond _ := ⟨⟨oc_beyond, od_beyond, .none, kV_beyond, dc_beyond, pm_beyond, an_beyond, cd_beyond, ct_beyond, sl_beyond, rfl, l_beyond, c_beyond⟩, PySem.W.mg_of X G a_beyond, k_beyond⟩
  have b_beyond := D_beyond.fn.binds (ps := ["_law_words_here", "_law_at", "_law_far"]) rfl fun _ _ _ _ _ _ us hl => match us, hl with | [_, _, _], _ => rfl
  have D_spoilt : Def K mg "_law_spoilt" s_spoilt f_spoilt _ := ⟨⟨oc_spoilt, od_spoilt, .none, kV_spoilt, dc_spoilt, pm_spoilt, an_spoilt, cd_spoilt, ct_spoilt, sl_spoilt, rfl, l_spoilt, c_spoilt⟩, PySem.W.mg_of X G a_spoilt, k_spoilt⟩
  have b_spoilt := D_spoilt.fn.binds (ps := ["_law_words_here", "_law_way", "_law_place", "_law_odd_here"]) rfl fun _ _ _ _ _ _ us hl => match us, hl with | [_, _, _, _], _ => rfl
  have D_bytes_told : Def K mg "_law_bytes_told" s_bytes_told f_bytes_told _ := ⟨⟨oc_bytes_told, od_bytes_told, .none, kV_bytes_told, dc_bytes_told, pm_bytes_told, an_bytes_told, cd_bytes_told, ct_bytes_told, sl_bytes_told, rfl, l_bytes_told, c_bytes_told⟩, PySem.W.mg_of X G a_bytes_told, k_bytes_told⟩
  have b_bytes_told := D_bytes_told.fn.binds (ps := ["_law_lines"]) rfl fun _ _ _ _ _ _ us hl => match us, hl with | [_], _ => rfl
  have D_bytes_hold : Def K mg "_law_bytes_hold" s_bytes_hold f_bytes_hold _ := ⟨⟨oc_bytes_hold, od_bytes_hold, .none, kV_bytes_hold, dc_bytes_hold, pm_bytes_hold, an_bytes_hold, cd_bytes_hold, ct_bytes_hold, sl_bytes_hold, rfl, l_bytes_hold, c_bytes_hold⟩, PySem.W.mg_of X G a_bytes_hold, k_bytes_hold⟩
  have b_bytes_hold := D_bytes_hold.fn.binds (ps := ["_law_lines"]) rfl fun _ _ _ _ _ _ us hl => match us, hl with | [_], _ => rfl
  have D_line_family : Def K mg "_law_line_family" s_line_family f_line_family _ := ⟨⟨oc_line_family, od_line_family, .none, kV_line_family, dc_line_family, pm_line_family, an_line_family, cd_line_family, ct_line_family, sl_line_family, rfl, l_line_family, c_line_family⟩, PySem.W.mg_of X G a_line_family, k_line_family⟩
  have b_line_family := D_line_family.fn.binds (ps := ["_law_lines"]) rfl fun _ _ _ _ _ _ us hl => match us, hl with | [_], _ => rfl
  have D_law : Def K mg "law" s_law fa _ := ⟨⟨oc_law, od_law, .none, kV_law, dc_law, pm_law, an_law, cd_law, ct_law, sl_law, rfl, l_law, c_law⟩, PySem.W.mg_of X G a_law, k_law⟩
  refine ⟨PySem.W.fnOf "law" "law" (C8.fnArgs s_law) (C8.fnBody s_law) (C8.fnScope s_law) .none kV_law dc_law pm_law an_law cd_law ct_law, fun s v => .of_eq rfl, fun base _ _ => ?_⟩
  have F_BL := ok_BadLine (w := w) (base := base) (F := NF.of s_BadLine_init "__init__" "BadLine.__init__" [("__class__", ccBL)] cBL) U_BL nBL_number
  have c_number := ok_number (P := l.prog) (w := w) (base := base) D_number b_number T
  have c_whole := ok_whole (P := l.prog) (w := w) (base := base) D_is_whole b_is_whole T
  have c_same := ok_same D_same b_same T c_whole 3
  have c_flds := ok_flds (P := l.prog) (w := w) (base := base) D_fields b_fields TW
  have c_oper := ok_oper (P := l.prog) (w := w) (base := base) D_operand b_operand TW
  have c_code := ok_code D_code_of b_code_of TW c_oper c_flds
  have e_asm := ok_asm F_BL O_BL iCBL tIBL b_BL (PySem.W.mg_of X G aBL) D_assemble b_assemble TW c_code
  have c_words := ok_lwords (P := l.prog) (w := w) (base := base) D_words b_words T
  have c_opers := ok_loper (P := l.prog) (w := w) (base := base) D_operands b_operands T
  have c_wval := ok_wval (P := l.prog) (w := w) (base := base) D_word_value b_word_value T
  have c_parts := ok_lparts (P := l.prog) (w := w) (base := base) D_line_parts b_line_parts T
  have c_bytes := ok_lbytes D_line_bytes b_line_bytes T c_words c_opers c_wval c_parts
  have c_due := ok_bdue D_bytes_due b_bytes_due T c_bytes
  have c_good := ok_good D_good_line b_good_line T c_number c_words c_opers
  have c_odd := ok_odd (P := l.prog) (w := w) (base := base) D_odd b_odd T
  have c_oddw := ok_oddw (P := l.prog) (w := w) (base := base) D_odd_word b_odd_word T
  have c_bey := ok_bey D_beyond b_beyond T c_words c_opers
  have c_spoilt := ok_spoilt D_spoilt b_spoilt T c_odd c_oddw c_bey
  have c_told := ok_told D_bytes_told b_bytes_told T TE e_asm c_same
  have c_hold := ok_hold D_bytes_hold b_bytes_hold T c_due c_told c_same
  have c_fam := ok_fam D_line_family b_line_family T TE e_asm
  exact ok_law D_law T c_number c_good c_spoilt c_hold c_due c_fam

end

end Lw
open PySem PySem.W PyProof.Rows
set_option maxRecDepth 100000 in
set_option maxHeartbeats 0 in
theorem PySem.Challenge.cw_lentpages_k46_assemble_holds : PySem.Challenge.rw_lentpages_k46_assemble.Holds := by
  w_on; o_law; k_head; (case hw => w_witness2)
  k_fill
  refine L2.walk_of (l := PySem.Challenge.rw_lentpages_k46_assemble) (n := 63) (k := 7) (x := "_law_script") (CX := fun _ => C8.CX0) (sp := fun w => Lw.spLaw _) rfl (by decide) rfl ⟨rfl, by decide, by decide⟩ (fun w h Y => by first | exact PySem.W.kIn_of Y | exact PySem.W.km_in_of Y) ?F (fun _ _ a ns hl _ hS => ⟨a, ns, rfl, hS, hl, fun _ => rfl⟩) (fun _ _ _ _ _ h => h)
  case F =>
    intro w mg fa h KX G hmg
    refine' Lw.all_mk KX G hmg ?aREG ?aWL ?aDIG ?aFM ?lFM ?x_FM ?lfr0 ?x_fr0 ?lfr1 ?x_fr1 ?lfr2 ?x_fr2 ?lfr3 ?x_fr3 ?lfr4 ?x_fr4 ?lfr5 ?x_fr5 ?lfr6 ?x_fr6 ?lfr7 ?x_fr7 ?lfr8 ?x_fr8 ?lfr9 ?x_fr9 ?lfr10 ?x_fr10 ?hgs ?htk ?aBL ?iCBL ?tIBL ?lFBL ?cFBL ?lcBL ?x_hvBL ?x_hfBL ?x_tpBL ?lccBL ?zsuperBL ?lDBL ?x_rbBL ?saBL ?exBL ?tyBL ?kCBL ?mrBL ?x_iniBL ?veBL ?anyBL ?nBL_number ?hgaBL ?hgtBL ?hclBL ?hhdBL ?hobBL ?aCE ?aBC ?aAE ?aLE ?aME ?aFE ?aPgE ?zValueError ?x_eBB ?x_eBC ?x_iB1 ?x_iB2 ?x_iBB ?x_iBP ?x_iBV ?a_assemble ?l_assemble ?c_assemble ?k_assemble ?a_code_of ?l_code_of ?c_code_of ?k_code_of ?a_operand ?l_operand ?c_operand ?k_operand ?a_fields ?l_fields ?c_fields ?k_fields ?a_number ?l_number ?c_number ?k_number ?a_is_whole ?l_is_whole ?c_is_whole ?k_is_whole ?a_same ?l_same ?c_same ?k_same ?a_words ?l_words ?c_words ?k_words ?a_operands ?l_operands ?c_operands ?k_operands ?a_word_value ?l_word_value ?c_word_value ?k_word_value ?a_line_parts ?l_line_parts ?c_line_parts ?k_line_parts ?a_line_bytes ?l_line_bytes ?c_line_bytes ?k_line_bytes ?a_bytes_due ?l_bytes_due ?c_bytes_due ?k_bytes_due ?a_good_line ?l_good_line ?c_good_line ?k_good_line ?a_odd ?l_odd ?c_odd ?k_odd ?a_odd_word ?l_odd_word ?c_odd_word ?k_odd_word ?a_beyond ?l_beyond ?c_beyond ?k_beyond ?a_spoilt ?l_spoilt ?c_spoilt ?k_spoilt ?a_bytes_told ?l_bytes_told ?c_bytes_told ?k_bytes_told ?a_bytes_hold ?l_bytes_hold ?c_bytes_hold ?k_bytes_hold ?a_line_family ?l_line_family ?c_line_family ?k_line_family ?a_law ?l_law ?c_law ?k_law ?z_len ?z_abs ?z_int ?z_range ?z_isinstance ?z_bool ?z_str ?z_list ?z_tuple ?z_all ?z_zip ?z_enumerate
    (case aREG => k_is)
    (case aWL => k_is)
    (case aDIG => k_is)
    (case aFM => k_is)
    (case lFM => k_is)
    (case x_FM => first | k_is | rfl | decide +kernel)
    (case lfr0 => k_is)
    (case x_fr0 => first | k_is | rfl | decide +kernel)
    (case lfr1 => k_is)
    (case x_fr1 => first | k_is | rfl | decide +kernel)
    (case lfr2 => k_is)
    (case x_fr2 => first | k_is | rfl | decide +kernel)
    (case lfr3 => k_is)
    (case x_fr3 => first | k_is | rfl | decide +kernel)
    (case lfr4 => k_is)
    (case x_fr4 => first | k_is | rfl | decide +kernel)
    (case lfr5 => k_is)
    (case x_fr5 => first | k_is | rfl | decide +kernel)
    (case lfr6 => k_is)
    (case x_fr6 => first | k_is | rfl | decide +kernel)
    (case lfr7 => k_is)
    (case x_fr7 => first | k_is | rfl | decide +kernel)
    (case lfr8 => k_is)
    (case x_fr8 => first | k_is | rfl | decide +kernel)
    (case lfr9 => k_is)
    (case x_fr9 => first | k_is | rfl | decide +kernel)
    (case lfr10 => k_is)
    (case x_fr10 => first | k_is | rfl | decide +kernel)
    (case hgs => k_is)
    (case htk => k_is)
    (case aBL => k_is)
    (case iCBL => k_is)
    (case tIBL => k_is)
    (case lFBL => k_is)
    (case cFBL => k_is)
    (case lcBL => k_is)
    (case x_hvBL => first | k_is | rfl | decide +kernel)
    (case x_hfBL => first | k_is | rfl | decide +kernel)
    (case x_tpBL => first | k_is | rfl | decide +kernel)
    (case lccBL => k_is)
    (case zsuperBL => k_is)
    (case lDBL => k_is)
    (case x_rbBL => first | k_is | rfl | decide +kernel)
    (case saBL => k_is)
    (case exBL => k_is)
    (case tyBL => k_is)
    (case kCBL => k_is)
    (case mrBL => k_is)
    (case x_iniBL => first | k_is | rfl | decide +kernel)
    (case veBL => k_is)
    (case anyBL => k_is)
    (case nBL_number => k_is)
    (case hgaBL => k_is)
    (case hgtBL => k_is)
    (case hclBL => k_is)
    (case hhdBL => k_is)
    (case hobBL => k_is)
    (case aCE => k_is)
    (case aBC => k_is)
    (case aAE => k_is)
    (case aLE => k_is)
    (case aME => k_is)
    (case aFE => k_is)
    (case aPgE => k_is)
    (case zValueError => k_is)
    (case x_eBB => first | k_is | rfl | decide +kernel)
    (case x_eBC => first | k_is | rfl | decide +kernel)
    (case x_iB1 => first | k_is | rfl | decide +kernel)
    (case x_iB2 => first | k_is | rfl | decide +kernel)
    (case x_iBB => first | k_is | rfl | decide +kernel)
    (case x_iBP => first | k_is | rfl | decide +kernel)
    (case x_iBV => first | k_is | rfl | decide +kernel)
    (case a_assemble => k_is)
    (case l_assemble => k_is)
    (case c_assemble => k_is)
    (case k_assemble => k_is)
    (case a_code_of => k_is)
    (case l_code_of => k_is)
    (case c_code_of => k_is)
    (case k_code_of => k_is)
    (case a_operand => k_is)
    (case l_operand => k_is)
    (case c_operand => k_is)
    (case k_operand => k_is)
    (case a_fields => k_is)
    (case l_fields => k_is)
    (case c_fields => k_is)
    (case k_fields => k_is)
    (case a_number => k_is)
    (case l_number => k_is)
    (case c_number => k_is)
    (case k_number => k_is)
    (case a_is_whole => k_is)
    (case l_is_whole => k_is)
    (case c_is_whole => k_is)
    (case k_is_whole => k_is)
    (case a_same => k_is)
    (case l_same => k_is)
    (case c_same => k_is)
    (case k_same => k_is)
    (case a_words => k_is)
    (case l_words => k_is)
    (case c_words => k_is)
    (case k_words => k_is)
    (case a_operands => k_is)
    (case l_operands => k_is)
    (case c_operands => k_is)
    (case k_operands => k_is)
    (case a_word_value => k_is)
    (case l_word_value => k_is)
    (case c_word_value => k_is)
    (case k_word_value => k_is)
    (case a_line_parts => k_is)
    (case l_line_parts => k_is)
    (case c_line_parts => k_is)
    (case k_line_parts => k_is)
    (case a_line_bytes => k_is)
    (case l_line_bytes => k_is)
    (case c_line_bytes => k_is)
    (case k_line_bytes => k_is)
    (case a_bytes_due => k_is)
    (case l_bytes_due => k_is)
    (case c_bytes_due => k_is)
    (case k_bytes_due => k_is)
    (case a_good_line => k_is)
    (case l_good_line => k_is)
    (case c_good_line => k_is)
    (case k_good_line => k_is)
    (case a_odd => k_is)
    (case l_odd => k_is)
    (case c_odd => k_is)
    (case k_odd => k_is)
    (case a_odd_word => k_is)
    (case l_odd_word => k_is)
    (case c_odd_word => k_is)
    (case k_odd_word => k_is)
    (case a_beyond => k_is)
    (case l_beyond => k_is)
    (case c_beyond => k_is)
    (case k_beyond => k_is)
    (case a_spoilt => k_is)
    (case l_spoilt => k_is)
    (case c_spoilt => k_is)
    (case k_spoilt => k_is)
    (case a_bytes_told => k_is)
    (case l_bytes_told => k_is)
    (case c_bytes_told => k_is)
    (case k_bytes_told => k_is)
    (case a_bytes_hold => k_is)
    (case l_bytes_hold => k_is)
    (case c_bytes_hold => k_is)
    (case k_bytes_hold => k_is)
    (case a_line_family => k_is)
    (case l_line_family => k_is)
    (case c_line_family => k_is)
    (case k_line_family => k_is)
    (case a_law => k_is)
    (case l_law => k_is)
    (case c_law => k_is)
    (case k_law => k_is)
    (case z_len => k_is)
    (case z_abs => k_is)
    (case z_int => k_is)
    (case z_range => k_is)
    (case z_isinstance => k_is)
    (case z_bool => k_is)
    (case z_str => k_is)
    (case z_list => k_is)
    (case z_tuple => k_is)
    (case z_all => k_is)
    (case z_zip => k_is)
    (case z_enumerate => k_is)
