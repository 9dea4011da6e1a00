import PyProof.Rows.All
import Wide.All
import OpenK.AllK
import Wide.FinOn
import HandS.ForMost
import HandS.Codes
import HandS.IsInst
import HandS.Wide
import HandS.DictTup
import PyProof.DictMoreH
import HandS.TupLen
import HandS.Nested
import HandS.ExcInit
import HandS.FStr
import HandS.ExcOwn
import HandS.ExcIs
import HandS.ExcField
import KE.KExcIs
import HandS.WordsExc
import HandS.Rev
import HandS.Style
import HandS.Zip
import HandS.Walk
import HandS.TryOnly
import HandS.TryMany
import HandS.MakeKwOnly
import HandS.Conv
import HandS.More
import KE.KExcSuper
import KE.KExcMake
import KE.GoesZip
import KE.GoesMore
import HandS.Lambda
import HandS.EndTab
import HandS.NestedK
import HandS.SortKw
import KE.KMinKey
import PySem.Challenge.RW_lentpages_k25_pager_contents
set_option Elab.async false
set_option linter.all false
set_option maxRecDepth 100000
set_option maxHeartbeats 4000000
namespace Lw
open PySem PySem.Spec PyProof.Rows L2 NdefX LamX
open C8 (Def Cal cal0 pe_c)
def topS (i : Nat) : Stmt := PySem.Challenge.pw_lentpages_k25_pager_contents.main.body.getD i (.Pass ⟨0, 0, 0, 0⟩)

/-! ### data in the heap, tracked -/
mutual
def Dh (H : Hp) : PyData → V → Prop
  | .none, x => x = .non
  | .bool b, x => x = .bl b
  | .int i, x => x = .int i
  | .str s, x => x = .str s
  | .list ds, x => ∃ a xs, x = .ref a ∧ H a = some (.lst xs) ∧ DhAll H ds xs
  | .tuple ds, x => ∃ a xs, x = .ref a ∧ H a = some (.tup xs) ∧ DhAll H ds xs
  | .dict _, _ => False
def DhAll (H : Hp) : List PyData → List V → Prop
  | [], xs => xs = []
  | d :: ds, xs => ∃ v vs, xs = v :: vs ∧ Dh H d v ∧ DhAll H ds vs
end
mutual
theorem Dh.mono {H H' : Hp} (s : Same H H') : ∀ (d : PyData) (x : V), Dh H d x → Dh H' d x
  | .none, x, h => h
  | .bool b, x, h => h
  | .int i, x, h => h
  | .str i, x, h => h
  | .list ds, x, h => by
    obtain ⟨a, xs, e, g, r⟩ := h
    exact ⟨a, xs, e, s _ _ g, DhAll.mono s ds xs r⟩
  | .tuple ds, x, h => by
    obtain ⟨a, xs, e, g, r⟩ := h
    exact ⟨a, xs, e, s _ _ g, DhAll.mono s ds xs r⟩
  | .dict _, x, h => False.elim h
theorem DhAll.mono {H H' : Hp} (s : Same H H') : ∀ (ds : List PyData) (xs : List V), DhAll H ds xs → DhAll H' ds xs
  | [], xs, h => h
  | d :: ds, xs, h => by
    obtain ⟨v, vs, e, g, r⟩ := h
    exact ⟨v, vs, e, Dh.mono s d v g, DhAll.mono s ds vs r⟩
end
theorem DhAll.len {H : Hp} : ∀ {ds : List PyData} {xs : List V}, DhAll H ds xs → xs.length = ds.length
  | [], xs, h => by
    cases (show xs = [] from h)
    rfl
  | d :: ds, xs, h => by
    obtain ⟨v, vs, e, g, r⟩ := h
    rw [e, List.length_cons, List.length_cons, DhAll.len r]
theorem DhAll.get {H : Hp} : ∀ {ds : List PyData} {xs : List V} {i : Nat} {d : PyData}, DhAll H ds xs → ds[i]? = some d → ∃ x, xs[i]? = some x ∧ Dh H d x
  | [], xs, i, d, h, e => by simp at e
  | d' :: ds, xs, 0, d, h, e => by
    obtain ⟨v, vs, e', g, r⟩ := h
    simp at e
    subst e
    exact ⟨v, by rw [e']; rfl, g⟩
  | d' :: ds, xs, i + 1, d, h, e => by
    obtain ⟨v, vs, e', g, r⟩ := h
    obtain ⟨x, h1, h2⟩ := DhAll.get (i := i) (d := d) r (by simpa using e)
    exact ⟨x, by rw [e']; simpa using h1, h2⟩
mutual
theorem Dh.dp {K : PySem.W.Frag} {H : Hp} : ∀ (d : PyData) (x : V), Dh H d x → Dp K H x d
  | .none, x, h => by
    cases (show x = .non from h)
    exact .non
  | .bool b, x, h => by
    cases (show x = .bl b from h)
    exact .bl b
  | .int i, x, h => by
    cases (show x = .int i from h)
    exact .int i
  | .str i, x, h => by
    cases (show x = .str i from h)
    exact .str i
  | .list ds, x, h => by
    obtain ⟨a, xs, e, g, r⟩ := h
    rw [e]
    exact .lst (SqL.of g) (DhAll.dp ds xs r)
  | .tuple ds, x, h => by
    obtain ⟨a, xs, e, g, r⟩ := h
    rw [e]
    exact .tup (SqT.of g) (DhAll.dp ds xs r)
  | .dict _, x, h => False.elim h
theorem DhAll.dp {K : PySem.W.Frag} {H : Hp} : ∀ (ds : List PyData) (xs : List V), DhAll H ds xs → DpAll K H xs ds
  | [], xs, h => by
    cases (show xs = [] from h)
    exact .nil
  | d :: ds, xs, h => by
    obtain ⟨v, vs, e, g, r⟩ := h
    rw [e]
    exact .cons (Dh.dp d v g) (DhAll.dp ds vs r)
end
/-- a datum's type -/
def tyN : PyData → String
  | .none => "NoneType"
  | .bool _ => "bool"
  | .int _ => "int"
  | .str _ => "str"
  | .list _ => "list"
  | .tuple _ => "tuple"
  | .dict _ => "dict"
theorem Dh.ty {K : PySem.W.Frag} {H : Hp} : ∀ {d : PyData} {x : V}, Dh H d x → TyX K H x (.type (tyN d))
  | .none, x, h => by
    cases (show x = .non from h)
    exact .base .non
  | .bool b, x, h => by
    cases (show x = .bl b from h)
    exact .base (.bl b)
  | .int i, x, h => by
    cases (show x = .int i from h)
    exact .base (.int i)
  | .str i, x, h => by
    cases (show x = .str i from h)
    exact .base (.str i)
  | .list ds, x, h => by
    obtain ⟨a, xs, e, g, r⟩ := h
    rw [e]
    exact .base (.lst g)
  | .tuple ds, x, h => by
    obtain ⟨a, xs, e, g, r⟩ := h
    rw [e]
    exact .base (.tup g)
  | .dict _, x, h => False.elim h
/-- at most n lists and tuples in one another, none of them long -/
def Dle : Nat → PyData → Prop
  | 0, _ => False
  | n + 1, .list ds => ds.length ≤ 100000 ∧ ∀ d ∈ ds, Dle n d
  | n + 1, .tuple ds => ds.length ≤ 100000 ∧ ∀ d ∈ ds, Dle n d
  | _, .dict _ => False
  | _, _ => True
theorem same_upd {H : Hp} {p : Addr} {o : HO} (h : H p = none) : Same H (upd H p o) := fun b x e => by
  rw [upd_ne (ne_of_none e h)]
  exact e
theorem same_rfl {H : Hp} : Same H H := fun _ _ e => e
/-- what is asked of the top's names -/
structure Txt (mg : Str → Option Value) : Prop where
  len : mg "len" = none
  abs : mg "abs" = none
  int : mg "int" = none
  range : mg "range" = none
  isinstance : mg "isinstance" = none
  bool : mg "bool" = none
  str : mg "str" = none
  list : mg "list" = none
  tuple : mg "tuple" = none
abbrev sI (i : Int) : Option V := some (.int i)
abbrev sR (a : Addr) : Option V := some (.ref a)
abbrev sS (x : Str) : Option V := some (.str x)
abbrev sB (b : Bool) : Option V := some (.bl b)

/-! ### steps of a reading -/
theorem ifD {p : Prop} [Decidable p] {A B : Prop} (a : p → A) (b : ¬ p → B) : if decide p = true then A else B := by
  by_cases h : p
  · rw [if_pos (decide_eq_true h)]
    exact a h
  · rw [if_neg (fun z => h (of_decide_eq_true z))]
    exact b h
theorem ifEq {x y : Int} {A B : Prop} (a : x = y → A) (b : x ≠ y → B) : if decide (V.int x = V.int y) = true then A else B :=
  ifD (fun h => a (V.int.inj h)) (fun h => b (fun z => h (congrArg V.int z)))
theorem ifT {p : Prop} [Decidable p] {A B : Prop} (h : p) (a : A) : if decide p = true then A else B := by
  rw [if_pos (decide_eq_true h)]
  exact a
theorem ifF {p : Prop} [Decidable p] {A B : Prop} (h : ¬ p) (b : B) : if decide p = true then A else B := by
  rw [if_neg (fun z => h (of_decide_eq_true z))]
  exact b
theorem ifEqT {x y : Int} {A B : Prop} (h : x = y) (a : A) : if decide (V.int x = V.int y) = true then A else B := ifT (congrArg V.int h) a
theorem ifEqF {x y : Int} {A B : Prop} (h : x ≠ y) (b : B) : if decide (V.int x = V.int y) = true then A else B := ifF (fun z => h (V.int.inj z)) b
theorem cmul_l {i j : Int} (h : -(2 ^ 64) < i ∧ i < 2 ^ 64) : CMul i j := .inl h
theorem cmul_r {i j : Int} (h : -(2 ^ 64) < j ∧ j < 2 ^ 64) : CMul i j := .inr h
/-- a statement that the steps stop at -/
@[irreducible] def tMk (t : TS) : TS := t
theorem tMk_eq (t : TS) : tMk t = t := by
  unfold tMk
  rfl
theorem ps_mk {X : Cx} {s : Stmt} {t : TS} (h : PS X s t) : PS X s (tMk t) := by
  rw [tMk_eq]
  exact h
theorem un {t : TS} {D : Ends} {σ : L2.St} {H : Hp} (h : t D σ H) : tMk t D σ H := by
  rw [tMk_eq]
  exact h
/-- what follows, said once -/
theorem jn {t : TS} {D : Ends} {σ : L2.St} {H : Hp} (M : L2.St → Hp → Prop) (h2 : ∀ σ H, M σ H → D.nx σ H) (h1 : ∀ N : L2.St → Hp → Prop, (∀ σ H, M σ H → N σ H) → t { D with nx := N } σ H) : tMk t D σ H := by
  rw [tMk_eq]
  exact h1 D.nx h2
/-- a wish that the steps stop at -/
@[irreducible] def Ob (p : Prop) : Prop := p
theorem ob {p : Prop} (h : p) : Ob p := by
  unfold Ob
  exact h
theorem unob {p : Prop} (h : Ob p) : p := by
  unfold Ob at h
  exact h
theorem atI_getD {ns : List Int} {j : Int} (h0 : 0 ≤ j) (h1 : j < (ns.length : Int)) : atI (ns.map V.int) j = some (.int (ns.getD j.toNat 0)) := by
  have e : j = ((j.toNat : Nat) : Int) := by omega
  have hj : j.toNat < ns.length := by omega
  have q : atI (ns.map V.int) ((j.toNat : Nat) : Int) = some (.int (ns.getD j.toNat 0)) := atI_nat (by
    rw [List.getElem?_map, List.getElem?_eq_getElem hj, List.getD_eq_getElem?_getD, List.getElem?_eq_getElem hj]
    rfl)
  rw [← e] at q
  exact q
theorem sz {n : Nat} (h : n ≤ 1000 := by first | decide | simp) : n ≤ sizeLine := Nat.le_of_lt (small1000 h)
theorem sz5 {n : Nat} (h : n ≤ 1000000) : n < sizeLine := by
  rw [sizeLine_eq]
  omega
theorem take_succ_eq {α : Type} {xs ys : List α} {i : Nat} {x y : α} (hx : xs[i]? = some x) (hy : ys[i]? = some y) : xs.take (i + 1) = ys.take (i + 1) ↔ xs.take i = ys.take i ∧ x = y := by
  rw [List.take_add_one, List.take_add_one, hx, hy]
  constructor
  · intro h
    have h1 := List.append_inj' h rfl
    refine ⟨h1.1, ?_⟩
    have h2 := h1.2
    simpa using h2
  · rintro ⟨h1, rfl⟩
    rw [h1]
-- size2
theorem ifN {b : Bool} {A B : Prop} (h : if b = true then B else A) : if (!b) = true then A else B := by
  cases b
  · exact h
  · exact h
theorem ifNe {x y : Int} {A B : Prop} (a : x ≠ y → A) (b : x = y → B) : if (!decide (V.int x = V.int y)) = true then A else B := ifN (ifEq b a)
theorem ixAny {K : PySem.W.Frag} {H : Hp} {a : Addr} {xs : List V} {i : Int} {v : V} {Q : VK} (h : SqL K H a xs ∨ SqT K H a xs) (e : atI xs i = some v) (q : Q v H) : rIx K (.ref a) (.int i) H Q := by
  rcases h with h | h
  · exact .inl ⟨a, xs, i, v, rfl, rfl, h, e, q⟩
  · exact .inr (.inl ⟨a, xs, i, v, rfl, rfl, h, e, q⟩)
theorem sameT {K : PySem.W.Frag} {H H' : Hp} {a : Addr} {xs : List V} (s : Same H H') (h : SqT K H a xs) : SqT K H' a xs := by
  rcases h with (g | ⟨o, g⟩) | g
  · exact .inl (.inl (s _ _ g))
  · exact .inl (.inr ⟨o, s _ _ g⟩)
  · exact .inr g
theorem sqAny {K : PySem.W.Frag} {H H' : Hp} {a : Addr} {xs : List V} (s : Same H H') (h : SqL K H a xs ∨ SqT K H a xs) : SqL K H' a xs ∨ SqT K H' a xs := h.imp (fun z => s.seq z) (fun z => sameT s z)
theorem same_put {H H1 : Hp} {D : Addr} {o : HO} (s : Same H H1) (h : H D = none) : Same H (upd H1 D o) := fun b x e => by
  rw [upd_ne (ne_of_none e h)]
  exact s b x e

/-! ### rules that say the written part by a letter -/
theorem ixL {X : Cx} (K : PySem.W.Frag) (h : X.K = K) : IxR X (rIxL K) := by
  subst h
  exact ix_list
theorem ixT {X : Cx} (K : PySem.W.Frag) (h : X.K = K) : IxR X (rIxT K) := by
  subst h
  exact ix_tup
theorem ixA {X : Cx} (K : PySem.W.Frag) (h : X.K = K) : IxR X (rIx K) := by
  subst h
  exact ix_seq
def rLen (K : PySem.W.Frag) : List V → Hp → VK → Prop := fun xs H Q => ∃ p ys, xs = [.ref p] ∧ (SqL K H p ys ∨ SqT K H p ys) ∧ Q (.int ys.length) H
theorem lenQ {X : Cx} (K : PySem.W.Frag) (h : X.K = K) : CallR X (.builtin "len") (rLen K) := by
  subst h
  exact call_len_seq
def isB : PyData → Bool
  | .bool _ => true
  | _ => false
def isI : PyData → Bool
  | .int _ => true
  | _ => false
def isS : PyData → Bool
  | .str _ => true
  | _ => false
def isL : PyData → Bool
  | .list _ => true
  | _ => false
def isT : PyData → Bool
  | .tuple _ => true
  | _ => false
theorem kit_B {K : PySem.W.Frag} : ∀ (d : PyData), PySem.W.kitOne K (.type (tyN d)) (.type "bool") = some (isB d)
  | .none => kit_ty (show kitB "NoneType" "bool" = some false by decide +kernel)
  | .bool _ => kit_ty (show kitB "bool" "bool" = some true by decide +kernel)
  | .int _ => kit_ty (show kitB "int" "bool" = some false by decide +kernel)
  | .str _ => kit_ty (show kitB "str" "bool" = some false by decide +kernel)
  | .list _ => kit_ty (show kitB "list" "bool" = some false by decide +kernel)
  | .tuple _ => kit_ty (show kitB "tuple" "bool" = some false by decide +kernel)
  | .dict _ => kit_ty (show kitB "dict" "bool" = some false by decide +kernel)
theorem kit_I {K : PySem.W.Frag} : ∀ (d : PyData), PySem.W.kitOne K (.type (tyN d)) (.type "int") = some (isI d || isB d)
  | .none => kit_ty (show kitB "NoneType" "int" = some false by decide +kernel)
  | .bool _ => kit_ty (show kitB "bool" "int" = some true by decide +kernel)
  | .int _ => kit_ty (show kitB "int" "int" = some true by decide +kernel)
  | .str _ => kit_ty (show kitB "str" "int" = some false by decide +kernel)
  | .list _ => kit_ty (show kitB "list" "int" = some false by decide +kernel)
  | .tuple _ => kit_ty (show kitB "tuple" "int" = some false by decide +kernel)
  | .dict _ => kit_ty (show kitB "dict" "int" = some false by decide +kernel)
theorem kit_S {K : PySem.W.Frag} : ∀ (d : PyData), PySem.W.kitOne K (.type (tyN d)) (.type "str") = some (isS d)
  | .none => kit_ty (show kitB "NoneType" "str" = some false by decide +kernel)
  | .bool _ => kit_ty (show kitB "bool" "str" = some false by decide +kernel)
  | .int _ => kit_ty (show kitB "int" "str" = some false by decide +kernel)
  | .str _ => kit_ty (show kitB "str" "str" = some true by decide +kernel)
  | .list _ => kit_ty (show kitB "list" "str" = some false by decide +kernel)
  | .tuple _ => kit_ty (show kitB "tuple" "str" = some false by decide +kernel)
  | .dict _ => kit_ty (show kitB "dict" "str" = some false by decide +kernel)
theorem kit_L {K : PySem.W.Frag} : ∀ (d : PyData), PySem.W.kitOne K (.type (tyN d)) (.type "list") = some (isL d)
  | .none => kit_ty (show kitB "NoneType" "list" = some false by decide +kernel)
  | .bool _ => kit_ty (show kitB "bool" "list" = some false by decide +kernel)
  | .int _ => kit_ty (show kitB "int" "list" = some false by decide +kernel)
  | .str _ => kit_ty (show kitB "str" "list" = some false by decide +kernel)
  | .list _ => kit_ty (show kitB "list" "list" = some true by decide +kernel)
  | .tuple _ => kit_ty (show kitB "tuple" "list" = some false by decide +kernel)
  | .dict _ => kit_ty (show kitB "dict" "list" = some false by decide +kernel)
theorem kit_T {K : PySem.W.Frag} : ∀ (d : PyData), PySem.W.kitOne K (.type (tyN d)) (.type "tuple") = some (isT d)
  | .none => kit_ty (show kitB "NoneType" "tuple" = some false by decide +kernel)
  | .bool _ => kit_ty (show kitB "bool" "tuple" = some false by decide +kernel)
  | .int _ => kit_ty (show kitB "int" "tuple" = some false by decide +kernel)
  | .str _ => kit_ty (show kitB "str" "tuple" = some false by decide +kernel)
  | .list _ => kit_ty (show kitB "list" "tuple" = some false by decide +kernel)
  | .tuple _ => kit_ty (show kitB "tuple" "tuple" = some true by decide +kernel)
  | .dict _ => kit_ty (show kitB "dict" "tuple" = some false by decide +kernel)
theorem kit_LT {K : PySem.W.Frag} (d : PyData) : PySem.W.kitAny K (.type (tyN d)) [.type "list", .type "tuple"] = some (isL d || isT d) := by
  refine kitAny_cons (kit_L d) (fun h => ?_) (fun h => by rw [h]; rfl)
  rw [h]
  refine kitAny_cons (kit_T d) (fun h => by rw [h]; rfl) (fun h => by rw [h]; rfl)
/-- isinstance of a datum -/
def rIsD (T : String) (g : PyData → Bool) : List V → Hp → VK → Prop := fun xs H Q => ∃ x d, xs = [x, .ty T] ∧ Dh H d x ∧ Q (.bl (g d)) H
theorem isOf {X : Cx} {T : String} {g : PyData → Bool} (h : ∀ d, PySem.W.kitOne X.K (.type (tyN d)) (.type T) = some (g d)) : CallR X (.builtin "isinstance") (rIsD T g) := by
  intro pins s σ H xs us Q I r z
  obtain ⟨x, d, rfl, hx, q⟩ := z
  exact call_isi pins s σ H _ us Q I r ⟨_, _, _, _, _, rfl, .ty T, hx.ty, h d, q⟩
theorem is_bool {X : Cx} : CallR X (.builtin "isinstance") (rIsD "bool" isB) := isOf kit_B
theorem is_int {X : Cx} : CallR X (.builtin "isinstance") (rIsD "int" fun d => isI d || isB d) := isOf kit_I
theorem is_str {X : Cx} : CallR X (.builtin "isinstance") (rIsD "str" isS) := isOf kit_S
theorem is_list {X : Cx} : CallR X (.builtin "isinstance") (rIsD "list" isL) := isOf kit_L
theorem is_tuple {X : Cx} : CallR X (.builtin "isinstance") (rIsD "tuple" isT) := isOf kit_T
/-- isinstance(x, (list, tuple)) of a datum -/
def rIsLT : List V → Hp → VK → Prop := fun xs H Q => ∃ x d p, xs = [x, .ref p] ∧ H p = some (.tup [.ty "list", .ty "tuple"]) ∧ Dh H d x ∧ Q (.bl (isL d || isT d)) H
theorem is_lt {X : Cx} : CallR X (.builtin "isinstance") rIsLT := by
  intro pins s σ H xs us Q I r z
  obtain ⟨x, d, p, rfl, hp, hx, q⟩ := z
  exact call_isiT pins s σ H _ us Q I r ⟨_, _, _, _, _, _, rfl, hp, .cons (.ty "list") (.cons (.ty "tuple") .nil), hx.ty, kit_LT d, q⟩
theorem ifBT {b : Bool} {A B : Prop} (h : b = true) (a : A) : if b = true then A else B := by
  rw [if_pos h]
  exact a
theorem ifBF {b : Bool} {A B : Prop} (h : b = false) (q : B) : if b = true then A else B := by
  rw [h, if_neg Bool.false_ne_true]
  exact q
theorem inQ {X : Cx} (K : PySem.W.Frag) (h : X.K = K) : OpR X (compareOp .In) (rIn K false) := by
  subst h
  exact op_in_seq
theorem notInQ {X : Cx} (K : PySem.W.Frag) (h : X.K = K) : OpR X (compareOp .NotIn) (rIn K true) := by
  subst h
  exact op_notIn_seq
theorem eqQ {X : Cx} (K : PySem.W.Frag) (h : X.K = K) (hu : X.A.units + 64 < cLine) : OpR X (compareOp .Eq) (rEqD K) := by
  subst h
  exact op_eqD hu
theorem neQ {X : Cx} (K : PySem.W.Frag) (h : X.K = K) (hu : X.A.units + 64 < cLine) : OpR X (compareOp .NotEq) (rNeD K) := by
  subst h
  exact op_neD hu
def rLst (K : PySem.W.Frag) : List V → Hp → VK → Prop := fun xs H Q => ∃ p ys, xs = [.ref p] ∧ (SqL K H p ys ∨ SqT K H p ys) ∧ ∀ l, H l = none → Q (.ref l) (upd H l (.lst ys))
theorem listQ {X : Cx} (K : PySem.W.Frag) (h : X.K = K) : CallR X (.type "list") (rLst K) := by
  subst h
  exact call_list_of

/-! ### an own error (over ValueError, by any own classes) whose __init__ begins with super().__init__(text) -/
section
variable {prog : Program} {w : World} {A : Around} {E : Value → Shared → Prop} {h : Heap} {g : Array GenState} {d : Drawn} {t : Nat} {os : OsState}
theorem mw_call {u a C N t1 : Addr} {dv : Option Addr} {ws : List Value} {Q : Value → Shared → Prop} {nm q : Str} {bs bm : List Value} {hdct : Bool} {sn : List Str} {sub : List Value} {ab : Bool} {col : Option Bool} {dd : Option Addr} {k0 k1 k2 k3 k5 : Option Value}
    (hC : h.get? C = some (excClassObj nm q C N bs bm hdct sn sub ab col dd k0 k1 k2 k3 k5 "ValueError.__new__")) (he : h.get? a = some (PySem.W.excObj C t1 dv .none)) (hu : h.get? u = some (PySem.W.kxs_mw "ValueError.__init__" a)) (hl : ws.length ≤ sizeLine)
    (hq : ∀ h' t2, (∀ b o, b ≠ a → h.get? b = some o → h'.get? b = some o) → h'.get? a = some (PySem.W.excObj C t2 dv .none) → Q .none ⟨h', g, d, t, os⟩) : wpAny (model prog w) A (call (.ref u) ws) Q E ⟨h, g, d, t, os⟩ := by
  have FB := F.excBase_ValueError
  refine (wpAny_call (codeAny_of_tree ?_)); show wpAny _ A.in1 (callAny (.ref u) ⟨ws, []⟩) _ _ _; simp only [callAny]
  refine (wpAny_bind (wpAny_load hu ?_)); simp only [PySem.W.kxs_mw]; refine (PySem.W.KFB.if_so (by decide) (wpAny_bind (PySem.W.check_bound_init FB.toExcCallFacts hC he rfl (wpAny_bind (wpAny_pure (wpAny_pure ⟨plainId_quiet FB.init.plain _, codeAny_builtin FB.initEntry ?_⟩))))))
  exact PySem.W.exc_init_tree (cls := .ref C) (t0 := t1) (dv := dv) (c2 := .none) (c3 := .none) (b4 := .bool false) he hl fun h' k e _ => hq h' _ k e
end
/-- what the written part and the text say of the def F at f, an __init__ of the class at D -/
structure SupAt (P : Program) (K : PySem.W.Frag) (mg : Str → Option Value) (F : NF) (f D cc : Addr) (me : Str) (dV kV doc pm ctv : Value) (an : Option Addr) : Prop where
  fn : ∃ oc od osl, K.lookup f = some ⟨oc, od, .func (PySem.W.fnX F.name F.qual F.params F.body F.scope F.cl dV kV doc pm an (.ref F.c) ctv), osl⟩
  cl : F.cl = [(("__class__" : Str), cc)]
  code : PySem.W.codeIn K (.ref F.c) F.qual = true
  file : ∃ ccl cdd vs ccs file tf, K.lookup F.c = some ⟨ccl, cdd, .fields vs, ccs⟩ ∧ vs[2]? = some (.str file tf) ∧ ((P.main.file : Str) == file) = true
  top : (P.main.scope.names.lookup ("super" : Str)).isSome = false
  cell : ∃ cl cld csl, K.lookup cc = some ⟨cl, cld, .cell (some (.ref D)), csl⟩
  sup : mg "super" = none
  par : ∃ ar : Arg, (F.params.posonlyargs ++ F.params.args).head? = some ar ∧ ar.arg = me
  sk : F.scope.names.lookup ("super" : Str) = some .globalImplicit
  exc : OexC K D
  mro : PySem.W.mroIn K D (.ref D) = some true
  ini : PySem.W.ks_superIn K D D "__init__" = some (some (.builtin "ValueError.__init__"))
  ve : PySem.W.subIn K (.ref D) (.type "ValueError") = some true
  any : PySem.W.nsIn K cStatics "thirdparty.any" = some none
section
variable {CX : CXT} {P : Program} {w : World} {K : PySem.W.Frag} {mg : Str → Option Value} {base : Heap} {N ps : List Str} {F : NF} {f D cc : Addr} {k : Nat} {sp : Sp} {me : Str} {dV kV doc pm ctv : Value} {an : Option Addr} {msg : Expr} {rest : List Stmt} {p0 p1 p2 p3 p4 : Pos}
theorem fn_sup (S : NScope N ps ["__class__"] F.scope) (U : SupAt P K mg F f D cc me dV kV doc pm ctv an) (hps : ps[0]? = some me) (hF : F.body = .Expr (.Call (.Attribute (.Call (.Name "super" p0) [] [] p1) "__init__" p2) [msg] [] p3) p4 :: rest)
    (len : ∀ vs H Q E, sp vs H Q E → vs.length = ps.length)
    (hbody : ∀ (A : Around) (outer : List Env) (s : Shared) (H : Hp) (vs : List V) (Q : VK) (E : XK), Room k (A.deeper (envF F f s.heap.objs.size)) → sp vs H Q E →
      ∃ ta t, PA (ncx CX P w K mg base N F f A outer s H E) [msg] ta ∧ PSs (ncx CX P w K mg base N F f A outer s H E) rest t ∧
        ∃ a, vs[0]? = some (.ref a) ∧ H a = some (exo a D none) ∧ ta (startF N vs [none]) H fun xs H1 => xs.length ≤ 1000 ∧ H1 a = some (exo a D none) ∧ t { nx := fun _ H' => Q .non H', rt := Q } (startF N vs [none]) H1)
    {pl : Env → Sem Bool} (he : ∀ env : Env, eval (.Call (.Attribute (.Call (.Name "super" p0) [] [] p1) "__init__" p2) [msg] [] p3) env = (do
      let ov ← attributeBase (.Call (.Name "super" p0) [] [] p1) "__init__" env (eval (.Call (.Name "super" p0) [] [] p1) env)
      standAt p2.atName
      let (f, first) ← holding [ov] (getMethod ov "__init__" (pl env))
      callWith p3 f first (backTo p3 (starEach [msg] env)) []) := by intro _; rfl)
    (hm : ∀ env : Env, starEach [msg] env = [(false, eval msg env)] := by intro _; rfl) (hs : ∀ env : Env, swapsWith (.Call (.Attribute (.Call (.Name "super" p0) [] [] p1) "__init__" p2) [msg] [] p3) none p4.line env = pure false := by intro _; rfl) :
    FnOk P w K mg base CX (k + 1) f (PySem.W.fnX F.name F.qual F.params F.body F.scope F.cl dV kV doc pm an (.ref F.c) ctv) ps sp := by
  refine ⟨len, fun A outer s H args us vs Q E hr e0 hb r hsp => ?_⟩
  have hl := len _ _ _ _ hsp
  have KX : K.In s.heap := e0.mod.kin.keeps fun b o e => (e0.bs b o e).1
  have lim : s.heap.NoLimit := e0.mod.nolimit.keeps fun b o e => (e0.bs b o e).1
  obtain ⟨oc, od, osl, lk⟩ := U.fn
  obtain ⟨cl, cld, csl, hcc⟩ := U.cell
  have CA : CellsAt F.cl ["__class__"] [none] s.heap H := by
    rw [U.cl]
    have one : ∀ {y : Str} {c : Addr}, ([("__class__", cc)] : List (Str × Addr)).lookup y = some c → y = "__class__" ∧ c = cc := fun {y c} e => by
      have m := PySem.mem_of_lookup e
      rcases List.mem_singleton.mp m with z
      cases z
      exact ⟨rfl, rfl⟩
    refine ⟨rfl, fun y c e => ?_, fun x y c e1 e2 => ?_, fun i y e => ?_⟩
    · obtain ⟨rfl, rfl⟩ := one e
      exact ⟨(e0.bs _ _ (e0.mod.kin _ _ hcc)).2, _, _, KX _ _ hcc, rfl⟩
    · rw [(one e1).1, (one e2).1]
    · have hy : y = "__class__" := by
        have m := List.mem_of_getElem? e
        exact List.mem_singleton.mp m
      rw [hy]
      refine ⟨cc, by simp [List.lookup], fun v hv => ?_⟩
      cases i with
      | zero => simp at hv
      | succ i => simp at hv
  refine ks_codeAny_call_defAt (binds := ps.zip us) hr.depth (KX _ _ lk) rfl lim (PySem.W.codeRec_of KX U.code) rfl hb S.nocell (fun ⟨n, _⟩ hy => S.par n (List.of_mem_zip hy).1) (fun h₁ hns kp => ?_) S.co S.gen S.kind
  obtain ⟨ta, t, hta, ht, a, ha0, ha, q⟩ := hbody A outer s H vs Q E (hr.deeper _) hsp
  have I : Inv (ncx CX P w K mg base N F f A outer s H E) [] (startF N vs [none]) H { s with heap := h₁, toks := s.toks + (ps.zip us).length } := inv_startN S hr.hd e0 hl r CA hns kp
  show PySem.wpAt _ (A.deeper (envF F f s.heap.objs.size)) (.func F.body (envF F f s.heap.objs.size)) (execs F.body (envF F f s.heap.objs.size)) _ _ _
  rw [hF]
  refine ks_wpAt_execs_cons (ks_wpAt_mono (Q := fun fl s' => fl = .next ∧ ∃ H1, Inv (ncx CX P w K mg base N F f A outer s H E) [] (startF N vs [none]) H1 s' ∧ t { nx := fun _ H' => Q .non H', rt := Q } (startF N vs [none]) H1) ?one ?two fun _ _ z => z)
  case two =>
    rintro fl s' ⟨rfl, H1, J, q1⟩
    refine wpAt_of_wpAny (wpAny_mono (ht.run [] s' (startF N vs [none]) H1 _ J q1) (fun fl s2 hs => ?_) fun e s2 hs => hs)
    have fin : ∀ {σ' : L2.St} {H' : Hp} {v : V} {u : Value}, Inv (ncx CX P w K mg base N F f A outer s H E) [] σ' H' s2 → RelV v u → Q v H' → CE outer P w H s Q u s2 := fun {σ' H' v u} J2 rv q2 => ⟨v, H', J2.os, J2.bare, J2.base, J2.hok, rv, q2⟩
    cases fl with
    | ret u =>
      obtain ⟨v, σ', H', J2, rv, q2⟩ := hs
      exact fin J2 rv q2
    | next =>
      obtain ⟨σ', H', J2, q2⟩ := hs
      exact fin (v := V.non) (u := Value.none) J2 rfl q2
    | brk =>
      obtain ⟨_, _, _, q2⟩ := hs
      exact q2.elim
    | cont =>
      obtain ⟨_, _, _, q2⟩ := hs
      exact q2.elim
  case one =>
    have IX := I
    obtain ⟨oD, cdD, hD0, hD1, hD2⟩ : ∃ oD cdD, PySem.W.clsIn K D = some cdD ∧ K.lookup D = some oD ∧ oD.data = .cls cdD := by
      obtain ⟨nm, qq, NN, bs, bm, sn, sub, ab, col, dd, k0, k1, k2, k3, k5, hC, _⟩ := U.exc.cls
      exact ⟨_, _, by unfold PySem.W.clsIn; rw [hC] <;> rfl, hC, rfl⟩
    obtain ⟨ccl, cdd, vsc, ccs, file, tf, hfc, hv2, hfile⟩ := U.file
    obtain ⟨ar, har, harm⟩ := U.par
    obtain ⟨t1, ho⟩ := exo_at I.hok ha
    have K1 := I.kIn
    have hN0 : N[0]? = some me := by
      have z : (N.take (ps.length + [("__class__" : Str)].length))[0]? = (ps ++ [("__class__" : Str)])[0]? := by rw [S.pre]
      rw [List.getElem?_take_of_lt (by simp)] at z
      rw [z, List.getElem?_append_left (List.getElem?_eq_some_iff.mp hps).1, hps]
    have hme : F.scope.names.lookup me = some .local := S.par _ (List.mem_of_getElem? hps)
    have hs0 : (startF N vs [none])[0]? = some (some (.ref a)) := by
      have hlt : 0 < vs.length := (List.getElem?_eq_some_iff.mp ha0).1
      unfold startF
      rw [List.getElem?_append_left (by rw [List.length_map]; exact hlt), List.getElem?_map, ha0]
      rfl
    refine ks_wpAt_Expr_any (ks_wpAt_MethodCall ?_ (he _)) (hi := I.quiet) (hs := hs _)
    refine ks_wpAt_super_base (env := envF F f s.heap.objs.size) U.sk (S.frk _ (List.mem_singleton.mpr rfl)) (by decide) rfl (K1 _ _ lk) rfl har rfl (K1 _ _ hfc) rfl hv2 hfile U.top ?_
    obtain ⟨mb, hb1, hb2⟩ := I.mod.blt
    refine PySem.W.ks_loadName_global S.kind U.sk (Calls.loadGlobal_builtin (I.mod.glob.keeps I.bk) U.sup (hb1.keeps I.bk) ((hb2 "super" (by decide)).trans (show bootBuiltins "super" = some (.type "super") from by first | rfl | kernel_rfl)) ⟨rfl, ?_⟩)
    refine wpAny_loadName_free (c := cc) (v := .ref D) S.kind (S.frk _ (List.mem_singleton.mpr rfl)) (by show F.cl.lookup _ = _; rw [U.cl]; simp [List.lookup]) ⟨_, K1 _ _ hcc, rfl⟩ ?_
    obtain ⟨m, hns1, hlook⟩ := I.loc
    obtain ⟨u, hu, hL⟩ := hlook 0 me (.ref a) hN0 hs0 (.inl hme)
    obtain rfl : u = Value.ref a := hu
    have hmu : m me = some (.ref a) := by
      rcases hL with ⟨_, z⟩ | ⟨z, _⟩
      · exact z
      · have z2 : F.scope.names.lookup me = some .cell ∨ F.scope.names.lookup me = some .free := z
        rw [hme] at z2
        rcases z2 with z2 | z2 <;> cases z2
    rw [harm]
    refine wpAny_loadName_local S.kind hme hns1 hmu ?_
    refine ks_wpAny_isType_cls (K1 _ _ hD1) hD2 ⟨rfl, ?_⟩
    refine ks_wpAny_call_super (K1 _ _ hD1) hD2 ho rfl (fun c z => by cases z) (PySem.W.looks_mroIn K1 U.mro) (fun h2 e2 kk2 => ?_)
    have I2 := I.kept (t' := s.toks + (ps.zip us).length) kk2
    have K2 := I2.kIn
    have ia : PySem.W.InstAt h2 a (PySem.W.excObj D t1 none .none) D none := ⟨kk2 _ _ ho, rfl, rfl, trivial⟩
    have aD : a ≠ D := fun z => by
      have z2 := K1 _ _ hD1
      rw [← z, ho] at z2
      have z3 := Option.some.inj z2
      rw [← z3] at hD2
      cases hD2
    have ini := U.ini
    unfold PySem.W.ks_superIn at ini
    rw [hD0] at ini
    refine PySem.W.kxs_getMethod PySem.W.kxs_ValueError e2 (PySem.W.looks_opaque K2 U.any) (l₀ := cdD.mro) (fun A' Q' E' s' k' q' => wpAny_bind ((PySem.W.looks_clsIn K2 hD0) A' _ E' s' k' (wpAny_pure q'))) rfl K2 ini (ia.type.andThen (PySem.W.looks_subIn K2 U.ve)) aD (by decide) ?_
    have I3 := I2.kept (t' := s.toks + (ps.zip us).length + 1) (h' := h2.push (PySem.W.kxs_mw "ValueError.__init__" a)) (fun b o e => Heap.get?_push_of_some _ e)
    have I4 : Inv (ncx CX P w K mg base N F f A outer s H E) ([] ++ [(h2.objs.size, PySem.W.kxs_mw "ValueError.__init__" a)]) (startF N vs [none]) H _ := I3.pins_of (fun p hp => by
      obtain rfl := List.mem_singleton.mp hp
      exact ⟨Heap.get?_push_at rfl rfl, I2.hok.fresh (Nat.le_refl _), Nat.ne_of_gt I2.lt, I2.nofs (Nat.le_refl _), fun v z => by cases z⟩)
    show wpAny _ _ (callWith p3 (.ref h2.objs.size) [] (backTo p3 (starEach [msg] (envF F f s.heap.objs.size))) []) _ _ _
    have hsp2 := hta.run p3 _ _ _ _ _ I4 q
    have hst : starEach [msg] (ncx CX P w K mg base N F f A outer s H E).env = [(false, eval msg (envF F f s.heap.objs.size))] := hm _
    rw [hst] at hsp2
    rw [hm]
    refine PySem.W.kxs_callWith (i := "ValueError.__init__") (x := a) rfl (Calls.evalArgs_plain (thn hsp2 fun us2 s7 ⟨xs, H1, I8, r8, hl8, ea, q8⟩ => ?_))
    obtain ⟨nm, qq, NN, bs, bm, sn, sub, ab, col, dd, k0, k1, k2, k3, k5, hC, _⟩ := U.exc.cls
    obtain ⟨h7, g7, d7, t7, os7⟩ := s7
    have pn := (I8.pin (h2.objs.size, PySem.W.kxs_mw "ValueError.__init__" a) (List.mem_append_right _ (List.mem_append_right _ (List.mem_singleton.mpr rfl)))).1
    obtain ⟨t8, ho8⟩ := exo_at I8.hok ea
    refine ⟨pn, mw_call (I8.kIn _ _ hC) ho8 pn (by show us2.length ≤ sizeLine; rw [← r8.length, sizeLine_eq]; omega) fun h9 t9 k9 e9 => ⟨rfl, H1, ?_, q8⟩⟩
    have J := I8.write (t' := t7) (x := a) (e := a) (o := exo a D none) (by rw [ea]; exact True.intro) (.inl rfl) k9 ⟨_, e9⟩ (exo_ok e9)
    have eu : upd H1 a (exo a D none) = H1 := by
      funext b
      by_cases hb : b = a
      · rw [hb, upd_same, ea]
      · rw [upd_ne hb]
    rw [eu] at J
    exact J.unpinned
end

/-! ### a chain of three comparisons -/
section
variable {X : Cx} {a b c d : Expr} {ta tb tc td : TE} {r r2 r3 : R2} {op op2 op3 : CmpOp} {pos : Pos}
def tChain3 (r r2 r3 : R2) (ta tb tc td : TE) : TE := fun σ H Q => ta σ H fun x H1 => tb σ H1 fun y H2 => r x y H2 fun z H3 => ∃ k, z = .bl k ∧
  (if k = true then tc σ H3 fun u H4 => r2 y u H4 fun z2 H5 => ∃ k2, z2 = .bl k2 ∧ (if k2 = true then td σ H5 fun v H6 => r3 u v H6 Q else Q (.bl false) H5) else Q (.bl false) H3)
theorem if_ff {A B : Prop} (h : B) : if (false : Bool) = true then A else B := by
  rw [if_neg (by decide)]
  exact h
theorem if_tt {A B : Prop} (h : A) : if (true : Bool) = true then A else B := by
  rw [if_pos rfl]
  exact h
theorem pt_chain3 (h1 : OpR X (compareOp op) r) (h2 : OpR X (compareOp op2) r2) (h3 : OpR X (compareOp op3) r3) (ha : PE X a ta) (hb : PE X b tb) (hc : PE X c tc) (hd : PE X d td)
    (hm : lastMarks [op, op2, op3] [b, c, d] = false := by with_unfolding_all rfl) : PT X (.Compare a [op, op2, op3] [b, c, d] pos) (tTest (tChain3 r r2 r3 ta tb tc td)) := by
  refine ⟨fun pins s σ H Q I h => ?_⟩
  refine isTrue_chain (thn (ha.run pins s σ H _ I h) fun v s1 ⟨x, H1, I1, e1, q1⟩ => test_link (thn (hb.run pins s1 σ H1 _ I1 q1) fun u s2 ⟨y, H2, I2, e2, q2⟩ => thn (h1 pins s2 σ H2 x y v u _ I2 e1 e2 q2) fun dv s3 ⟨z, H3, I3, e3, k, ek, q3⟩ => ?_)) hm
  subst ek
  cases e3
  refine wpAny_truthy_bool ?_
  cases k with
  | false =>
    obtain ⟨k', e', q'⟩ := q3
    cases e'
    exact if_ff ⟨H3, I3, q'⟩
  | true =>
    refine if_tt (test_link (thn (hc.run pins s3 σ H3 _ I3 (if_pos rfl ▸ q3)) fun w4 s4 ⟨z4, H4, I4, e4, q4⟩ => thn (h2 pins s4 σ H4 y z4 u w4 _ I4 e2 e4 q4) fun d5 s5 ⟨z5, H5, I5, e5, k2, ek2, q5⟩ => ?_))
    subst ek2
    cases e5
    refine wpAny_truthy_bool ?_
    cases k2 with
    | false =>
      obtain ⟨k', e', q'⟩ := q5
      cases e'
      exact if_ff ⟨H5, I5, q'⟩
    | true =>
      refine if_tt (test_last (thn (hd.run pins s5 σ H5 _ I5 q5) fun w6 s6 ⟨z6, H6, I6, e6, q6⟩ => thn (h3 pins s6 σ H6 z4 z6 w4 w6 _ I6 e4 e6 q6) fun d7 s7 ⟨z7, H7, I7, e7, k3, ek3, q7⟩ => ?_))
      subst ek3
      cases e7
      exact wpAny_truthy_bool ⟨H7, I7, q7⟩
end

/-! ### defs that may raise, called -/
/-- the def under its name, which may let out what sp says -/
structure CalE (P : Program) (w : World) (K : PySem.W.Frag) (mg : Str → Option Value) (base : Heap) (k : Nat) (x : Str) (sp : Sp) : Prop where
  ex : ∃ (f : Addr) (fd : FuncData) (ps : List Str), FnOk P w K mg base (L2.CX P w) k f fd ps sp ∧ mg x = some (.ref f) ∧ PySem.W.keepIn K (.ref f) = true ∧ Binds K fd ps []
section
variable {P : Program} {w : World} {K : PySem.W.Frag} {mg : Str → Option Value} {base : Heap}
theorem fnE {x qual : Str} {st : Stmt} {f : Addr} {fd : FuncData} {N ps : List Str} {k : Nat} {sp : Sp} (F : C8.Fun K x qual st f fd) (S : FnScope N ps (C8.fnScope st)) (len : ∀ vs H Q E, sp vs H Q E → vs.length = ps.length)
    (hb : ∀ (cdv : Value) (A : Around) (outer : List Env) (s : Shared) (H : Hp) (vs : List V) (Q : VK) (E : XK), Room k (A.deeper (envOfC qual (C8.fnScope st) s.heap.objs.size f cdv)) → sp vs H Q E →
      ∃ t, PSs (cxOf (L2.CX P w) P w K mg base N qual (C8.fnScope st) f cdv A outer s H E) (C8.fnBody st) t ∧ t { nx := fun _ H' => Q .non H', rt := Q } (start N vs) H) : FnOk P w K mg base (L2.CX P w) (k + 1) f fd ps sp := by
  obtain ⟨oc, od, dV, kV, doc, pm, an, cdv, ct, osl, rfl, lk, hcd⟩ := F.ex
  exact fn_of lk hcd S len fun A outer s H vs Q E hr hs => hb cdv A outer s H vs Q E hr hs
theorem calE {x : Str} {st : Stmt} {f : Addr} {fd : FuncData} {N ps : List Str} {k : Nat} {sp : Sp} (D : Def K mg x st f fd) (b : Binds K fd ps []) (S : FnScope N ps (C8.fnScope st)) (len : ∀ vs H Q E, sp vs H Q E → vs.length = ps.length)
    (hb : ∀ (cdv : Value) (A : Around) (outer : List Env) (s : Shared) (H : Hp) (vs : List V) (Q : VK) (E : XK), Room k (A.deeper (envOfC x (C8.fnScope st) s.heap.objs.size f cdv)) → sp vs H Q E →
      ∃ t, PSs (cxOf (L2.CX P w) P w K mg base N x (C8.fnScope st) f cdv A outer s H E) (C8.fnBody st) t ∧ t { nx := fun _ H' => Q .non H', rt := Q } (start N vs) H) : CalE P w K mg base (k + 1) x sp :=
  ⟨f, fd, ps, fnE D.fn S len hb, D.mgf, D.kp, b⟩
end
section
variable {X : Cx} {x : Str} {p pos : Pos} {e : Expr} {es : List Expr} {ta : TA} {sp : Sp} {k j : Nat}
/-- its call where exceptions go to W -/
theorem pe_cE (c : CalE X.prog X.w X.K X.mg X.base k x sp) {W : WX} (tk : Takes X W) (hr : Room j X.A) (hk : k ≤ j) (hg : Gl X x) (ha : PA X (e :: es) ta) (hdb : (x == ("__debug__" : Str)) = false := by decide)
    (he : starEach (e :: es) X.env = (false, eval e X.env) :: starEach es X.env := by rfl) (hpl : (backTo pos (starEach es X.env)).any (·.1) = false := by rfl) : PE X (.Call (.Name x p) (e :: es) [] pos) (tCallS sp (WE W) ta) := by
  obtain ⟨f, fd, ps, F, m, kp, b⟩ := c.ex
  exact pe_callS (F.mono hk) hr hg m kp b (passAt tk) ha hdb he hpl
end
/-- a method that may raise -/
structure MetE (P : Program) (w : World) (K : PySem.W.Frag) (mg : Str → Option Value) (base : Heap) (k : Nat) (C : Addr) (m : Str) (sp : Sp) : Prop where
  ex : ∃ (f : Addr) (fd : FuncData) (ps : List Str), Cls K C ∧ Meth K C m f ∧ FnOk P w K mg base (L2.CX P w) k f fd ps sp ∧ Binds K fd ps []
def tMtE (C : Addr) (m : Str) (sp : Sp) (E : L2.St → XK) (ta : TE) (t : TA) : TE := fun σ H Q => ta σ H fun x H1 => ∃ a dx fs, x = .ref a ∧ H1 a = some (.ins C dx fs) ∧ fs.lookup m = none ∧ t σ H1 fun vs H2 => sp (x :: vs) H2 Q (E σ)
section
variable {P : Program} {w : World} {K : PySem.W.Frag} {mg : Str → Option Value} {base : Heap}
theorem metE {m qual : Str} {C : Addr} {st : Stmt} {f : Addr} {fd : FuncData} {N ps : List Str} {k : Nat} {sp : Sp} (c : Cls K C) (me : Meth K C m f) (F : C8.Fun K m qual st f fd) (b : Binds K fd ps []) (S : FnScope N ps (C8.fnScope st)) (len : ∀ vs H Q E, sp vs H Q E → vs.length = ps.length)
    (hb : ∀ (cdv : Value) (A : Around) (outer : List Env) (s : Shared) (H : Hp) (vs : List V) (Q : VK) (E : XK), Room k (A.deeper (envOfC qual (C8.fnScope st) s.heap.objs.size f cdv)) → sp vs H Q E →
      ∃ t, PSs (cxOf (L2.CX P w) P w K mg base N qual (C8.fnScope st) f cdv A outer s H E) (C8.fnBody st) t ∧ t { nx := fun _ H' => Q .non H', rt := Q } (start N vs) H) : MetE P w K mg base (k + 1) C m sp :=
  ⟨f, fd, ps, c, me, fnE F S len hb, b⟩
end
section
variable {X : Cx} {m : Str} {C : Addr} {pos apos : Pos} {e o : Expr} {es : List Expr} {ta : TE} {t : TA} {sp : Sp} {k j : Nat}
theorem pe_mE {pl : Sem Bool} (c : MetE X.prog X.w X.K X.mg X.base k C m sp) {W : WX} (tk : Takes X W) (hr : Room j X.A) (hk : k ≤ j) (he : PE X o ta) (ha : PA X (e :: es) t)
    (hst : starEach (e :: es) X.env = (false, eval e X.env) :: starEach es X.env := by rfl) (hpl : (backTo pos (starEach es X.env)).any (·.1) = false := by rfl)
    (ht : eval (.Call (.Attribute o m apos) (e :: es) [] pos) X.env = (do
      let ov ← eval o X.env
      standAt apos.atName
      let (f, first) ← holding [ov] (getMethod ov m pl)
      callWith pos f first (backTo pos (starEach (e :: es) X.env)) (backToKw pos (keywordEach [] X.env))) := by rfl) : PE X (.Call (.Attribute o m apos) (e :: es) [] pos) (tMtE C m sp (WE W) ta t) := by
  obtain ⟨f, fd, ps, hc, hm, F, b⟩ := c.ex
  refine ⟨fun pins s σ H Q I h => PySem.W.methodCall_KW (pl := pl) (thn (he.run pins s σ H _ I h) fun u s1 ⟨x, H1, I1, rx, a, dx, fs, ex, ea, l, q⟩ => ?_) ht⟩
  subst ex
  cases (show u = Value.ref a from rx)
  exact getmeth_ok I1 ea hc hm l (PySem.W.callWith_K (first := [.ref a]) (h₀ := X.base) I.ok.mod.kin hm.kp (thn (ha.run pos pins s1 σ H1 _ I1 q) fun us s2 ⟨vs, H2, I2, r, q2⟩ => ⟨I2.kIn, run_fnS (us := .ref a :: us) (vs := .ref a :: vs) (F.mono hk) hr b (passAt tk σ) I2 (.cons rfl r) q2⟩) hst hpl)
end

/-! ### isinstance of the exception that a suite holds, with its fields -/
def rIsX (K : PySem.W.Frag) (D a : Addr) (cls : Value) (d0 : Option Addr) : List V → Hp → VK → Prop := fun xs H Q => cls = .ref D ∧ ∃ (d : Addr) (c : V) (u : Value) (b : Bool) (fs : List (Str × V)), d0 = some d ∧ xs = [.ref a, c] ∧ ClsV c u ∧ H d = some (.xd fs) ∧ PySem.W.kitOne K (.ref D) u = some b ∧ Q (.bl b) H
def rIsXT (K : PySem.W.Frag) (D a : Addr) (cls : Value) (d0 : Option Addr) : List V → Hp → VK → Prop := fun xs H Q => cls = .ref D ∧ ∃ (d tp : Addr) (cs : List V) (us : List Value) (b : Bool) (fs : List (Str × V)), d0 = some d ∧ xs = [.ref a, .ref tp] ∧ H tp = some (.tup cs) ∧ Paired ClsV cs us ∧ H d = some (.xd fs) ∧ PySem.W.kitAny K (.ref D) us = some b ∧ Q (.bl b) H
section
variable {X : Cx} {a D : Addr} {cls : Value} {d0 : Option Addr} {oe : Obj} {pn : List (Addr × Obj)}
theorem exx_at {d : Addr} {pins : List (Addr × Obj)} {σ : L2.St} {H : Hp} {s : Shared} {fs : List (Str × V)} (hz : Zc (.ref D) (some d) oe) (hf : ∃ vs, oe.data = .fields vs) (I : Inv (X.suite a ((a, oe) :: pn)) pins σ H s) (hd : H d = some (.xd fs)) : ∃ od, PySem.W.InstAt s.heap a oe D (some od) := by
  obtain ⟨hget, _⟩ := I.pin (a, oe) (List.mem_append.mpr (.inl List.mem_cons_self))
  obtain ⟨mA, hns, _⟩ := (show ObjOk X.prog X.w H s.heap d (.xd fs) from I.hok d _ hd)
  obtain ⟨od, _, _, hod, _⟩ := hns
  obtain ⟨vs, hv⟩ := hf
  refine ⟨od, hget, hz.1, ?_, ?_⟩
  · obtain ⟨oc, od2, oda, osl⟩ := oe
    dsimp only at hv
    subst hv
    rfl
  · rw [hz.2]
    exact hod
theorem call_isX (K : PySem.W.Frag) (hK : X.K = K) (C : ExcC K D) (hz : Zc cls d0 oe) (hf : ∃ vs, oe.data = .fields vs) : CallR (X.suite a ((a, oe) :: pn)) (.builtin "isinstance") (rIsX K D a cls d0) := by
  intro pins s σ H xs us Q I r h
  obtain ⟨rfl, d, c, u, b, fs, rfl, rfl, hc, hd, e, q⟩ := h
  subst hK
  obtain ⟨u1, u2, rfl, r1, r2⟩ := vals2 r
  cases (show u1 = Value.ref a from r1)
  obtain rfl := hc.eq r2
  obtain ⟨od, J⟩ := exx_at hz hf I hd
  have hcl : (PySem.W.clsIn X.K D).isSome = true := by
    obtain ⟨cd, hcd, _⟩ := PySem.W.any_some C.hd
    rw [hcd]
    rfl
  exact PySem.W.kia_one (PySem.W.kitx_exc hcl C.hg C.hk C.hs C.ha C.hn C.ht C.hm) I.kIn J e (fun z => nomatch z) fun tk => ⟨.bl b, H, I.tok tk, rfl, q⟩
theorem call_isXT (K : PySem.W.Frag) (hK : X.K = K) (C : ExcC K D) (hz : Zc cls d0 oe) (hf : ∃ vs, oe.data = .fields vs) : CallR (X.suite a ((a, oe) :: pn)) (.builtin "isinstance") (rIsXT K D a cls d0) := by
  intro pins s σ H xs us Q I r h
  obtain ⟨rfl, d, tp, cs, ws, b, fs, rfl, rfl, hT, hk, hd, e, q⟩ := h
  subst hK
  obtain ⟨u1, u2, rfl, r1, r2⟩ := vals2 r
  cases (show u1 = Value.ref a from r1)
  cases (show u2 = Value.ref tp from r2)
  obtain ⟨od, J⟩ := exx_at hz hf I hd
  obtain ⟨_, its, rv, o, g1, g2, n, g3⟩ := (show ObjOk X.prog X.w H s.heap tp (.tup cs) from I.hok tp _ hT)
  obtain rfl := ClsV.all hk rv
  obtain ⟨oc, od2, dt, sl⟩ := o
  simp only at g2 g3
  subst g2 g3
  have hcl : (PySem.W.clsIn X.K D).isSome = true := by
    obtain ⟨cd, hcd, _⟩ := PySem.W.any_some C.hd
    rw [hcd]
    rfl
  exact PySem.W.kia_tup (PySem.W.kitx_exc hcl C.hg C.hk C.hs C.ha C.hn C.ht C.hm) I.kIn J g1 e (fun z => nomatch z) fun tk => ⟨.bl b, H, I.tok tk, rfl, q⟩
end

/-- what follows a wrapped statement, said once -/
theorem jnS {a b : TS} {D : Ends} {σ : L2.St} {H : Hp} (M : L2.St → Hp → Prop) (h2 : ∀ σ H, M σ H → b D σ H) (h1 : ∀ N : L2.St → Hp → Prop, (∀ σ H, M σ H → N σ H) → a { D with nx := N } σ H) : tSeq (tMk a) b D σ H := by
  rw [tMk_eq]
  exact h1 (b D) h2

mutual
/-- no lists inside -/
def noL : PyData → Bool
  | .list _ => false
  | .dict _ => false
  | .tuple ds => noLs ds
  | _ => true
def noLs : List PyData → Bool
  | [] => true
  | d :: ds => noL d && noLs ds
end
mutual
theorem Dh.tups {H H' : Hp} (s : ∀ a us, H a = some (.tup us) → H' a = some (.tup us)) : ∀ (d : PyData) (x : V), noL d = true → Dh H d x → Dh H' d x
  | .none, x, _, h => h
  | .bool b, x, _, h => h
  | .int i, x, _, h => h
  | .str i, x, _, h => h
  | .list ds, x, n, h => by cases n
  | .tuple ds, x, n, h => by
    obtain ⟨a, xs, e, g, r⟩ := h
    exact ⟨a, xs, e, s _ _ g, DhAll.tups s ds xs n r⟩
  | .dict _, x, n, h => by cases n
theorem DhAll.tups {H H' : Hp} (s : ∀ a us, H a = some (.tup us) → H' a = some (.tup us)) : ∀ (ds : List PyData) (xs : List V), noLs ds = true → DhAll H ds xs → DhAll H' ds xs
  | [], xs, _, h => h
  | d :: ds, xs, n, h => by
    obtain ⟨v, vs, e, g, r⟩ := h
    have n2 : noL d = true ∧ noLs ds = true := Bool.and_eq_true_iff.mp n
    exact ⟨v, vs, e, Dh.tups s d v n2.1 g, DhAll.tups s ds vs n2.2 r⟩
end
theorem DhAll.snoc {H : Hp} : ∀ {ds : List PyData} {xs : List V} {d : PyData} {x : V}, DhAll H ds xs → Dh H d x → DhAll H (ds ++ [d]) (xs ++ [x])
  | [], xs, d, x, h, hx => by
    cases (show xs = [] from h)
    exact ⟨x, [], rfl, hx, rfl⟩
  | d' :: ds, xs, d, x, h, hx => by
    obtain ⟨v, vs, rfl, h1, h2⟩ := h
    exact ⟨v, vs ++ [x], rfl, h1, DhAll.snoc h2 hx⟩

section

-- a condition of an operator
local macro_rules | `(tactic| walk_at "cond") => `(tactic| first
  | (show (0 : Int) < _; omega)
  | (show CDiv _ _; constructor <;> (first | decide | omega))
  | (show CMul _ _; first | (refine cmul_l ?_; constructor <;> (first | decide | omega)) | (refine cmul_r ?_; constructor <;> (first | decide | omega)))
  | (show CPow _ _; exact (by refine ⟨by decide, by decide, by decide⟩))
  | (show CDivW _ _; exact ⟨by decide, by decide +kernel⟩))
local macro_rules | `(tactic| walk_at "sq") => `(tactic| first | assumption | exact Dh.mono (same_upd (by assumption)) _ _ (by assumption) | exact .inl (.inl (.inl (by assumption))) | exact .inr (.inl (.inl (by assumption))) | exact SqL.of (by assumption) | exact .inl (by assumption) | exact .inl (SqL.of (by assumption)) | exact SqT.of (by assumption) | exact .inr (SqT.of (by assumption)))
local macro_rules | `(tactic| walk_at "st") => `(tactic| first
  | refine ⟨_, rfl, ?_⟩
  | refine ⟨_, _, rfl, rfl, ?_⟩
  | refine .inl ⟨_, rfl, ?_⟩
  | refine ⟨rfl, ?_⟩
  | refine ⟨_, _, rfl, by walk_at "sq", ?_⟩
  | refine ⟨.inl ⟨rfl, _, SqL.of (by assumption)⟩, ?_⟩
  | refine ⟨by walk_at "cond", ?_⟩
  | (refine' ifBT ?hh ?_; (case hh => first | rfl | assumption))
  | (refine' ifBF ?hh ?_; (case hh => first | rfl | assumption)))
local macro_rules | `(tactic| walk_at "go") => `(tactic| repeat walk_at "st")
local macro_rules | `(tactic| walk_at "yes") => `(tactic| (refine' ifT ?hh ?_; (case hh => first | rfl | decide +kernel)))
local macro_rules | `(tactic| walk_at "no") => `(tactic| (refine' ifF ?hh ?_; (case hh => first | decide +kernel | (intro z; cases z; done))))

/-! ### a lambda of one parameter, called in the def that made it -/
/-- its names: the parameter, captured ones, globals -/
structure Lam1 (sc scope : Scope) (a : Str) : Prop where
  kind : scope.kind = .function
  co : scope.isCoroutine = false
  gen : scope.isGenerator = false
  par : scope.names.lookup a = some .local
  own : ∀ y ∈ scope.names, (y.2 = .local → y.1 = a) ∧ y.2 ≠ .cell
  free : ∀ y ∈ scope.names, y.2 = .free → sc.names.lookup y.1 = some .cell ∨ sc.names.lookup y.1 = some .free
def oneCx (X : Cx) (s : Shared) (H : Hp) (scope : Scope) (f c' : Addr) (a : Str) : Cx := { lamCx X X.A.in1 X.stack s H C8.E0 scope f c' with N := X.N ++ [a] }
section
variable {X : Cx} {pins : List (Addr × Obj)} {σ : L2.St} {H : Hp} {s : Shared} {scope : Scope} {a : Str}
theorem Lam1.has (L : Lam1 X.env.scope scope a) (ok : X.Ok) (y : Str × NameKind) (hy : y ∈ scope.names) (e : y.2 = .free) : ∃ c, X.env.cells.lookup y.1 = some c :=
  ok.has _ ((L.free y hy e).elim .inl .inr)
theorem Lam1.cell_of (L : Lam1 X.env.scope scope a) (ok : X.Ok) {y : Str} {c : Addr} (e : (cloFrom X.env.cells scope.names []).lookup y = some c) : X.env.cells.lookup y = some c := by
  rcases cloFrom_mem (PySem.mem_of_lookup e) with hm | ⟨h1, h2⟩
  · cases hm
  · obtain ⟨c1, hc⟩ := L.has ok _ h1 rfl
    have hc : X.env.cells.lookup y = some c1 := hc
    rw [h2, hc]
    rfl
theorem one_start {f c' : Addr} {v : V} {u : Value} {h₁ : Heap} {tk : Nat} (I : Inv X pins σ H s) (L : Lam1 X.env.scope scope a) (na : a ∉ X.N) (hd : X.A.handled = none) (rv : RelV v u)
    (hns : h₁.Ns s.heap.objs.size fun y => ([(a, u)] : List (Str × Value)).reverse.lookup y) (kp : ∀ b o, s.heap.get? b = some o → h₁.get? b = some o) : Inv (oneCx X s H scope f c' a) [] (σ ++ [some v]) H { s with heap := h₁, toks := tk } := by
  have e0 := I.env0.in1
  have has : ∀ {y}, scope.names.lookup y = some .free → ∃ c, (cloFrom X.env.cells scope.names []).lookup y = some c := fun {y} hl => mem_lookup (cloFrom_has (cells := X.env.cells) (acc := []) (show (y, NameKind.free) ∈ scope.names from PySem.mem_of_lookup hl))
  have ce : ∀ {c : Addr} {w : Option Value}, s.heap.IsCell c w → h₁.IsCell c w := fun ⟨o, ho, hd⟩ => ⟨o, kp _ _ ho, hd⟩
  have nx : ∀ b : Addr, b ∉ (oneCx X s H scope f c' a).ex := fun b z => absurd (show b ∈ ([] : List Addr) from z) (by simp)
  refine { ok := ⟨?mod, ?kind, rfl, rfl, ?above, ?inj, ?has, ?cab, ?hd, ?frames, .inr ⟨rfl, rfl⟩, ?exf, ?bs, ?bsz, ?noex, ?exfs, ?funs, ?frf⟩, os := rfl, bare := e0.bare, base := Un.kept kp, loc := ⟨_, hns, ?loc⟩, cell := ?cell, free := ?free, freeC := ?freeC, pin := ?pin, hok := e0.hok.kept kp, len := ?len }
  case mod => exact e0.mod
  case kind => exact L.kind
  case above => exact Nat.le_refl _
  case inj => exact fun x y c e1 e2 => I.ok.inj x y c (L.cell_of I.ok e1) (L.cell_of I.ok e2)
  case has =>
    intro y hy
    rcases (show scope.names.lookup y = some .cell ∨ scope.names.lookup y = some .free from hy) with hy | hy
    · exact absurd rfl (L.own _ (PySem.mem_of_lookup hy)).2
    · exact has hy
  case cab =>
    intro y c z _
    have z : false = true := z
    cases z
  case hd => exact fun _ => hd
  case frames => exact Around.frames_deeper e0.frames
  case exf => exact fun b z => absurd z (nx b)
  case bs => exact e0.bs
  case bsz => exact e0.bsz
  case noex => exact fun b _ _ => nx b
  case exfs => exact fun b z => absurd z (nx b)
  case funs => exact e0.funs
  case frf => exact e0.frf
  case loc =>
    intro i x v' e1 e2 e3
    have e1 : (X.N ++ [a])[i]? = some x := e1
    have ln := I.len
    by_cases hi : i < X.N.length
    · rw [List.getElem?_append_left hi] at e1
      rw [List.getElem?_append_left (by omega)] at e2
      have xa : x ≠ a := fun z => na (by rw [← z]; exact List.mem_of_getElem? e1)
      have k : scope.names.lookup x = some .free := by
        rcases (show scope.names.lookup x = some .local ∨ scope.names.lookup x = some .cell ∨ scope.names.lookup x = some .free from e3) with k | k | k
        · exact absurd ((L.own _ (PySem.mem_of_lookup k)).1 rfl) xa
        · exact absurd rfl (L.own _ (PySem.mem_of_lookup k)).2
        · exact k
      have fr := L.free _ (PySem.mem_of_lookup k) rfl
      obtain ⟨m, hn, hl⟩ := I.loc
      obtain ⟨w', r, q⟩ := hl i x v' e1 e2 (fr.elim (fun z => .inr (.inl z)) fun z => .inr (.inr z))
      obtain ⟨c2, h2⟩ := has k
      refine ⟨w', r, .inr ⟨.inr k, c2, h2, ?_⟩⟩
      rcases q with ⟨k', _⟩ | ⟨_, c3, e', z⟩
      · have k' : X.env.scope.names.lookup x = some .local := k'
        rcases fr with k2 | k2 <;> rw [show X.env.scope.names.lookup x = _ from k2] at k' <;> cases k'
      · rw [L.cell_of I.ok h2] at e'
        cases e'
        exact ce z
    · rw [List.getElem?_append_right (by omega)] at e1 e2
      rw [ln] at e2
      have hz : i - X.N.length = 0 := by
        have := (List.getElem?_eq_some_iff.mp e1).1
        simp at this
        omega
      rw [hz] at e1 e2
      cases e1
      cases e2
      refine ⟨u, rv, .inl ⟨L.par, ?_⟩⟩
      show List.lookup a [(a, u)] = some u
      simp
  case cell =>
    intro y c e
    obtain ⟨w', z⟩ := I.cell y c (L.cell_of I.ok e)
    exact ⟨w', ce z⟩
  case free => exact e0.hok.fresh (Nat.le_refl _)
  case freeC => exact fun y c e => I.freeC y c (L.cell_of I.ok e)
  case pin => exact fun q hq => absurd (show q ∈ ([] : List (Addr × Obj)) ++ [] from hq) (by simp)
  case len =>
    show (σ ++ [some v]).length = (X.N ++ [a]).length
    rw [List.length_append, List.length_append, I.len]
    rfl
end

end

section

-- a condition of an operator
local macro_rules | `(tactic| walk_at "cond") => `(tactic| first
  | (show (0 : Int) < _; omega)
  | (show CDiv _ _; constructor <;> (first | decide | omega))
  | (show CMul _ _; first | (refine cmul_l ?_; constructor <;> (first | decide | omega)) | (refine cmul_r ?_; constructor <;> (first | decide | omega)))
  | (show CPow _ _; exact (by refine ⟨by decide, by decide, by decide⟩))
  | (show CDivW _ _; exact ⟨by decide, by decide +kernel⟩))
local macro_rules | `(tactic| walk_at "sq") => `(tactic| first | assumption | exact Dh.mono (same_upd (by assumption)) _ _ (by assumption) | exact .inl (.inl (.inl (by assumption))) | exact .inr (.inl (.inl (by assumption))) | exact SqL.of (by assumption) | exact .inl (by assumption) | exact .inl (SqL.of (by assumption)) | exact SqT.of (by assumption) | exact .inr (SqT.of (by assumption)))
local macro_rules | `(tactic| walk_at "st") => `(tactic| first
  | refine ⟨_, rfl, ?_⟩
  | refine ⟨_, _, rfl, rfl, ?_⟩
  | refine .inl ⟨_, rfl, ?_⟩
  | refine ⟨rfl, ?_⟩
  | refine ⟨_, _, rfl, by walk_at "sq", ?_⟩
  | refine ⟨.inl ⟨rfl, _, SqL.of (by assumption)⟩, ?_⟩
  | refine ⟨by walk_at "cond", ?_⟩
  | (refine' ifBT ?hh ?_; (case hh => first | rfl | assumption))
  | (refine' ifBF ?hh ?_; (case hh => first | rfl | assumption)))
local macro_rules | `(tactic| walk_at "go") => `(tactic| repeat walk_at "st")
local macro_rules | `(tactic| walk_at "yes") => `(tactic| (refine' ifT ?hh ?_; (case hh => first | rfl | decide +kernel)))
local macro_rules | `(tactic| walk_at "no") => `(tactic| (refine' ifF ?hh ?_; (case hh => first | decide +kernel | (intro z; cases z; done))))

section
variable {X : Cx} {pins : List (Addr × Obj)} {σ : L2.St} {H : Hp} {s : Shared} {scope : Scope} {a : Str}
/-- the lambda called by a built-in of the def that made it -/
theorem one_call {f c' : Addr} {params : Arguments} {body : Expr} {pm ctv u : Value} {v : V} {k : Nat} {tb : TE} {Q : VK} (I : Inv X pins σ H s) (L : Lam1 X.env.scope scope a) (na : a ∉ X.N) (hr : Room (k + 1) X.A)
    (hf : s.heap.get? f = some (PySem.W.kla_obj "<lambda>" (X.env.qual ++ "<lambda>") params body scope (cloFrom X.env.cells scope.names []) pm c' ctv)) (hco : H c' = some (CodeO c' (X.env.qual ++ "<lambda>")))
    (hbind : bindArgs (PySem.W.kla_fn "<lambda>" (X.env.qual ++ "<lambda>") params body scope (cloFrom X.env.cells scope.names []) pm (.ref c') ctv) ⟨[u], []⟩ = pure [(a, u)]) (rv : RelV v u)
    (hbody : PE (oneCx X s H scope f c' a) body tb) (h : tb (σ ++ [some v]) H Q) : wpAny (model X.prog X.w) X.A.in1 (call (.ref f) [u]) (fun r s' => EP X pins σ Q r s') (fun _ _ => False) s := by
  obtain ⟨⟨oc, vs, t, g1, g2, g3⟩, _, _⟩ := I.hok c' _ hco
  have rc : codeAny (model X.prog X.w) X.A.in1 (.call (.ref f) ⟨[u], []⟩) (CR (L2.CX X.prog X.w) X.stack X.prog X.w H s Q C8.E0) s := by
    refine PySem.W.kla_callFunE (hr.in1).depth hf rfl L.co L.gen rfl ⟨c', oc, vs, t, rfl, g1, g2, g3⟩ ?_
    rw [hbind]
    refine wpAny_pure (wpAny_newFunctionEnv (fun y hy => (L.own y hy).2) (fun y hy => ?_) (fun h₁ hns hsb => ⟨I.nolimit.fresh _ hsb, ?_⟩) L.kind)
    · rw [List.mem_singleton.mp hy]
      exact L.par
    · show codeAny _ _ (.expr body (lamEnv X scope s.heap.objs.size f c')) _ _
      have kp : ∀ b o, s.heap.get? b = some o → h₁.get? b = some o := fun b o e => hsb.extBut b o (Nat.ne_of_lt (Heap.lt_size e)) (Heap.get?_push_of_some _ e)
      have J := one_start (f := f) (c' := c') (tk := s.toks + ([(a, u)] : List (Str × Value)).length) I L na hr.hd rv hns kp
      refine PySem.W.kla_codeExpr (wpAny_mono (hbody.run [] _ _ H Q J h) (fun v s' hq => ?_) fun e s' hq => hq)
      obtain ⟨w', H', J', rv, q⟩ := hq
      exact ⟨w', H', J'.os, J'.bare, J'.base, J'.hok, rv, q⟩
  refine wpAny_call (codeAny_mono rc fun r s' hq => ?_)
  cases r with
  | error e =>
    obtain ⟨_, _, _, _, _, _, _, _, _, _, _, _, z⟩ := hq
    exact z.elim
  | ok fl =>
    cases fl with
    | ret u => exact I.after hq
    | next => exact False.elim hq
    | brk => exact False.elim hq
    | cont => exact False.elim hq
end

end

section

-- a condition of an operator
local macro_rules | `(tactic| walk_at "cond") => `(tactic| first
  | (show (0 : Int) < _; omega)
  | (show CDiv _ _; constructor <;> (first | decide | omega))
  | (show CMul _ _; first | (refine cmul_l ?_; constructor <;> (first | decide | omega)) | (refine cmul_r ?_; constructor <;> (first | decide | omega)))
  | (show CPow _ _; exact (by refine ⟨by decide, by decide, by decide⟩))
  | (show CDivW _ _; exact ⟨by decide, by decide +kernel⟩))
local macro_rules | `(tactic| walk_at "sq") => `(tactic| first | assumption | exact Dh.mono (same_upd (by assumption)) _ _ (by assumption) | exact .inl (.inl (.inl (by assumption))) | exact .inr (.inl (.inl (by assumption))) | exact SqL.of (by assumption) | exact .inl (by assumption) | exact .inl (SqL.of (by assumption)) | exact SqT.of (by assumption) | exact .inr (SqT.of (by assumption)))
local macro_rules | `(tactic| walk_at "st") => `(tactic| first
  | refine ⟨_, rfl, ?_⟩
  | refine ⟨_, _, rfl, rfl, ?_⟩
  | refine .inl ⟨_, rfl, ?_⟩
  | refine ⟨rfl, ?_⟩
  | refine ⟨_, _, rfl, by walk_at "sq", ?_⟩
  | refine ⟨.inl ⟨rfl, _, SqL.of (by assumption)⟩, ?_⟩
  | refine ⟨by walk_at "cond", ?_⟩
  | (refine' ifBT ?hh ?_; (case hh => first | rfl | assumption))
  | (refine' ifBF ?hh ?_; (case hh => first | rfl | assumption)))
local macro_rules | `(tactic| walk_at "go") => `(tactic| repeat walk_at "st")
local macro_rules | `(tactic| walk_at "yes") => `(tactic| (refine' ifT ?hh ?_; (case hh => first | rfl | decide +kernel)))
local macro_rules | `(tactic| walk_at "no") => `(tactic| (refine' ifF ?hh ?_; (case hh => first | decide +kernel | (intro z; cases z; done))))

/-! ### min and max of whole numbers by a key -/
section
variable {X : Cx} {pins : List (Addr × Obj)} {σ : L2.St} {H : Hp} {s : Shared} {l q I S : Addr} {oq : Obj} {ns : List Int}
/-- the key function, called by a built-in: whole numbers, nothing else changed -/
def KTurn (X : Cx) (σ : L2.St) (H : Hp) (q : Addr) (oq : Obj) (ns : List Int) (kf : Nat → Int) : Prop := ∀ (i : Nat) (v : Value) (pn : List (Addr × Obj)) (s : Shared), (q, oq) ∈ pn → i < ns.length → RelV (.int (ns.getD i 0)) v → Inv X pn σ H s →
  wpAny (model X.prog X.w) X.A.in1 (call (.ref q) [v]) (fun r s' => EP X pn σ (fun x H' => x = .int (kf i) ∧ H' = H) r s') (fun _ _ => False) s
def Bestmin (kf : Nat → Int) (n i : Nat) : Prop := ∀ j, j < n → kf i ≤ kf j ∧ (j < i → kf i < kf j)
def Bestmax (kf : Nat → Int) (n i : Nat) : Prop := ∀ j, j < n → kf i ≥ kf j ∧ (j < i → kf i > kf j)
theorem fp_turn {I : Addr} {h' : Heap} {t' : Nat} (J : Inv X pins σ H s) (f : FpOk X pins H I) (k : ∀ b o, b ≠ I → s.heap.get? b = some o → h'.get? b = some o) : Inv X pins σ H { s with heap := h', toks := t' } :=
  J.turned k f.1 f.2.1 f.2.2.2.1 f.2.2.2.2.1 f.2.2.2.2.2
theorem iter_ne {h : Heap} {its : Array Value} {n : Nat} (p : PlainL h l its) (hit : h.IsListIter I l n) : l ≠ I := fun z => by
  obtain ⟨o, g, _, d⟩ := hit
  obtain ⟨c, n, hc, _, _, dc⟩ := p
  rw [z, g] at hc
  rw [Option.some.inj hc, dc] at d
  cases d
theorem item_rel {its : List Value} {i : Nat} {v : Value} (rv : Vals (ns.map V.int) its) (hi : i < ns.length) (hv : its.toArray[i]? = some v) : RelV (.int (ns.getD i 0)) v := by
  obtain ⟨u, hu, ru⟩ := rv.get (i := i) (x := .int (ns.getD i 0)) (by rw [List.getElem?_map, List.getElem?_eq_getElem hi, List.getD_eq_getElem?_getD, List.getElem?_eq_getElem hi]; rfl)
  have e : its[i]? = some v := by simpa using hv
  rw [e] at hu
  cases hu
  exact ru
theorem pin_two {oI oS : Obj} (J : Inv X pins σ H s) (fI : FpOk X pins H I) (fS : FpOk X pins H S) (gI : s.heap.get? I = some oI) (cI : ∀ v, oI.data ≠ .cell v) (gS : s.heap.get? S = some oS) (cS : ∀ v, oS.data ≠ .cell v) : Inv X ((I, oI) :: (S, oS) :: pins) σ H s :=
  J.pins_of fun p hp => by
    rcases List.mem_cons.mp hp with e | hp
    · rw [e]
      exact ⟨gI, fI.1, fI.2.1, fI.2.2.1, cI⟩
    · rcases List.mem_cons.mp hp with e | hp
      · rw [e]
        exact ⟨gS, fS.1, fS.2.1, fS.2.2.1, cS⟩
      · exact J.pin p (List.mem_append_right _ hp)
theorem unpin_two {oI oS : Obj} (J : Inv X ((I, oI) :: (S, oS) :: pins) σ H s) : Inv X pins σ H s ∧ s.heap.get? I = some oI ∧ s.heap.get? S = some oS :=
  ⟨J.pins_of fun r hr => J.pin r (List.mem_append_right _ (List.mem_cons_of_mem _ (List.mem_cons_of_mem _ hr))), (J.pin (I, oI) (List.mem_append_right _ List.mem_cons_self)).1, (J.pin (S, oS) (List.mem_append_right _ (List.mem_cons_of_mem _ List.mem_cons_self))).1⟩

theorem kl_min_loop {kf : Nat → Int} {R : Result → Shared → Prop} (hh : X.A.handled = none) (hl : SqL X.K H l (ns.map V.int)) (turn : KTurn X σ H q oq ns kf) (hq : (q, oq) ∈ pins) (fI : FpOk X pins H I) (fS : FpOk X pins H S) (ne : S ≠ I)
    (hR : ∀ i v s', i < ns.length → Bestmin kf ns.length i → RelV (.int (ns.getD i 0)) v → Inv X pins σ H s' → R (.ok (.ret v)) s') :
    ∀ (r j i : Nat) (s : Shared) (vb : Value) (tb : Tok) (c : Nat), ns.length - (j + 1) = r → j + 1 ≤ ns.length → Inv X pins σ H s → s.heap.IsListIter I l (j + 1) → s.heap.get? S = some (seqObj "list" #[vb, .int (kf i) tb] c) → RelV (.int (ns.getD i 0)) vb → i ≤ j →
      Bestmin kf (j + 1) i → codeAny (model X.prog X.w) X.A (.builtin "min.loop" ⟨[.ref I, .ref q, .ref S], []⟩) R s := by
  have en : (toString "min" ++ toString ".loop" : String) = "min.loop" := by decide
  intro r
  induction r with
  | zero =>
    intro j i s vb tb c hr hj J hit hS hvb hij hbest
    obtain ⟨its, rv, p, _⟩ := J.list hl
    have ll : its.length = ns.length := by have := rv.length; simpa using this.symm
    have hlI := iter_ne p hit
    have W := Walks.list (prog := X.prog) (w := X.w) (A := X.A.in1) hh I l hlI its.toArray
    refine codeAny_builtin PySem.F.entry_min_loop (by
      rw [Around.under_plainId PySem.F.plain_min_loop _]
      show wpAny _ X.A.in1 (seqItems? (.ref S) >>= _) _ _ _
      refine wpAny_bind (wpAny_seqItems hS rfl (wpAny_bind (wpAny_tryCatch (W.done s _ _ ⟨by rw [List.size_toArray, ll, show ns.length = j + 1 by omega]; exact hit, p.isList⟩ fun h' tk' hk' => ?_))))
      have J1 : Inv X pins σ H { s with heap := h', toks := tk' } := fp_turn J fI fun b o hb e => hk' b o (by simpa using hb) e
      have hS1 := hk' S _ (by simpa using ne) hS
      have sb := Heap.SameBut.update h' S (Obj.mapSeq fun _ => (#[] : Array Value))
      refine wpAny_bind (wpAny_updateSeq hS1 rfl (wpAny_bind (wpAny_letGo (wpAny_pure (hR i vb _ (by omega) ?_ hvb ?_)))))
      · rw [show ns.length = j + 1 by omega]
        exact hbest
      · exact fp_turn (t' := tk') J1 fS fun b o hb e => (sb.2 b hb).trans e)
  | succ r ih =>
    intro j i s vb tb c hr hj J hit hS hvb hij hbest
    have hlt : j + 1 < ns.length := by omega
    obtain ⟨its, rv, p, _⟩ := J.list hl
    have ll : its.length = ns.length := by have := rv.length; simpa using this.symm
    have hlI := iter_ne p hit
    have W := Walks.list (prog := X.prog) (w := X.w) (A := X.A.in1) hh I l hlI its.toArray
    refine codeAny_builtin PySem.F.entry_min_loop (by
      rw [Around.under_plainId PySem.F.plain_min_loop _]
      show wpAny _ X.A.in1 (seqItems? (.ref S) >>= _) _ _ _
      refine wpAny_bind (wpAny_seqItems hS rfl (wpAny_bind (wpAny_tryCatch (W.item (j + 1) s _ _ (by rw [List.size_toArray, ll]; exact hlt) ⟨hit, p.isList⟩ fun v h' tk' hP st' hk' => ?_))))
      have rvv := item_rel rv hlt hP
      have J1 : Inv X pins σ H { s with heap := h', toks := tk' } := fp_turn J fI fun b o hb e => hk' b o (by simpa using hb) e
      have hS1 := hk' S _ (by simpa using ne) hS
      obtain ⟨oI, gI, cI, dI⟩ := st'.1
      have J2 := pin_two J1 fI fS gI (by rw [dI]; intro z q; cases q) hS1 (by intro z q; cases q)
      refine wpAny_bind (wpAny_tryCatch (wpAny_holding (wpAny_mono (turn (j + 1) v _ _ (List.mem_cons_of_mem _ (List.mem_cons_of_mem _ hq)) hlt rvv J2) (fun x s2 he => ?_) fun _ _ z => z.elim)))
      obtain ⟨vx, H2, J3, rx, ex, eH⟩ := he
      subst ex eH
      obtain ⟨t2, rfl⟩ := rx
      obtain ⟨J4, gI3, hS3⟩ := unpin_two J3
      refine wpAny_bind (wpAny_tryCatch (wpAny_holding (wpAny_bind (CmpOf.ints_lt (prog := X.prog) (w := X.w) (A := X.A.in1) (P := fun i v => ∃ t, v = .int (kf i) t) kf (fun i v h => h) (j + 1) i _ _ s2 _ _ ⟨t2, rfl⟩ ⟨tb, rfl⟩ (wpAny_bind (wpAny_holding (wpAny_truthy_bool (wpAny_bind (wpAny_letGo (wpAny_pure ?_))))))))))
      by_cases better : kf (j + 1) < kf i
      · have sb := Heap.SameBut.update s2.heap S (Obj.mapSeq fun _ => #[v, .int (kf (j + 1)) t2])
        obtain ⟨c2, hc2⟩ : ∃ c2, (s2.heap.update S (Obj.mapSeq fun _ => #[v, .int (kf (j + 1)) t2])).get? S = some (seqObj "list" #[v, .int (kf (j + 1)) t2] c2) := ⟨_, get?_update_seq hS3 fun _ => #[v, .int (kf (j + 1)) t2]⟩
        simp only [better, decide_true, if_true]
        refine wpAny_bind (wpAny_updateSeq hS3 rfl (wpAny_bind (wpAny_letGo ?_)))
        rw [en]
        refine wpAny_pure ⟨plainId_quiet PySem.F.plain_min_loop _, ih (j + 1) (j + 1) _ v t2 c2 (by omega) hlt (fp_turn (t' := s2.toks) J4 fS fun b o hb e => (sb.2 b hb).trans e) ⟨oI, (sb.2 I ne.symm).trans gI3, cI, dI⟩ hc2 rvv (Nat.le_refl _) fun j' hj' => ?_⟩
        by_cases e : j' = j + 1
        · subst e
          exact ⟨by omega, fun _ => by omega⟩
        · have b1 := hbest j' (by omega)
          exact ⟨by omega, fun _ => by omega⟩
      · simp only [better, decide_false, Bool.false_eq_true, if_false]
        refine wpAny_bind (wpAny_letGo ?_)
        rw [en]
        refine wpAny_pure ⟨plainId_quiet PySem.F.plain_min_loop _, ih (j + 1) i _ vb tb c (by omega) hlt J4 ⟨oI, gI3, cI, dI⟩ hS3 hvb (by omega) fun j' hj' => ?_⟩
        by_cases e : j' = j + 1
        · subst e
          exact ⟨by omega, fun _ => by omega⟩
        · exact hbest j' (by omega))

theorem kl_max_loop {kf : Nat → Int} {R : Result → Shared → Prop} (hh : X.A.handled = none) (hl : SqL X.K H l (ns.map V.int)) (turn : KTurn X σ H q oq ns kf) (hq : (q, oq) ∈ pins) (fI : FpOk X pins H I) (fS : FpOk X pins H S) (ne : S ≠ I)
    (hR : ∀ i v s', i < ns.length → Bestmax kf ns.length i → RelV (.int (ns.getD i 0)) v → Inv X pins σ H s' → R (.ok (.ret v)) s') :
    ∀ (r j i : Nat) (s : Shared) (vb : Value) (tb : Tok) (c : Nat), ns.length - (j + 1) = r → j + 1 ≤ ns.length → Inv X pins σ H s → s.heap.IsListIter I l (j + 1) → s.heap.get? S = some (seqObj "list" #[vb, .int (kf i) tb] c) → RelV (.int (ns.getD i 0)) vb → i ≤ j →
      Bestmax kf (j + 1) i → codeAny (model X.prog X.w) X.A (.builtin "max.loop" ⟨[.ref I, .ref q, .ref S], []⟩) R s := by
  have en : (toString "max" ++ toString ".loop" : String) = "max.loop" := by decide
  intro r
  induction r with
  | zero =>
    intro j i s vb tb c hr hj J hit hS hvb hij hbest
    obtain ⟨its, rv, p, _⟩ := J.list hl
    have ll : its.length = ns.length := by have := rv.length; simpa using this.symm
    have hlI := iter_ne p hit
    have W := Walks.list (prog := X.prog) (w := X.w) (A := X.A.in1) hh I l hlI its.toArray
    refine codeAny_builtin PySem.F.entry_max_loop (by
      rw [Around.under_plainId PySem.F.plain_max_loop _]
      show wpAny _ X.A.in1 (seqItems? (.ref S) >>= _) _ _ _
      refine wpAny_bind (wpAny_seqItems hS rfl (wpAny_bind (wpAny_tryCatch (W.done s _ _ ⟨by rw [List.size_toArray, ll, show ns.length = j + 1 by omega]; exact hit, p.isList⟩ fun h' tk' hk' => ?_))))
      have J1 : Inv X pins σ H { s with heap := h', toks := tk' } := fp_turn J fI fun b o hb e => hk' b o (by simpa using hb) e
      have hS1 := hk' S _ (by simpa using ne) hS
      have sb := Heap.SameBut.update h' S (Obj.mapSeq fun _ => (#[] : Array Value))
      refine wpAny_bind (wpAny_updateSeq hS1 rfl (wpAny_bind (wpAny_letGo (wpAny_pure (hR i vb _ (by omega) ?_ hvb ?_)))))
      · rw [show ns.length = j + 1 by omega]
        exact hbest
      · exact fp_turn (t' := tk') J1 fS fun b o hb e => (sb.2 b hb).trans e)
  | succ r ih =>
    intro j i s vb tb c hr hj J hit hS hvb hij hbest
    have hlt : j + 1 < ns.length := by omega
    obtain ⟨its, rv, p, _⟩ := J.list hl
    have ll : its.length = ns.length := by have := rv.length; simpa using this.symm
    have hlI := iter_ne p hit
    have W := Walks.list (prog := X.prog) (w := X.w) (A := X.A.in1) hh I l hlI its.toArray
    refine codeAny_builtin PySem.F.entry_max_loop (by
      rw [Around.under_plainId PySem.F.plain_max_loop _]
      show wpAny _ X.A.in1 (seqItems? (.ref S) >>= _) _ _ _
      refine wpAny_bind (wpAny_seqItems hS rfl (wpAny_bind (wpAny_tryCatch (W.item (j + 1) s _ _ (by rw [List.size_toArray, ll]; exact hlt) ⟨hit, p.isList⟩ fun v h' tk' hP st' hk' => ?_))))
      have rvv := item_rel rv hlt hP
      have J1 : Inv X pins σ H { s with heap := h', toks := tk' } := fp_turn J fI fun b o hb e => hk' b o (by simpa using hb) e
      have hS1 := hk' S _ (by simpa using ne) hS
      obtain ⟨oI, gI, cI, dI⟩ := st'.1
      have J2 := pin_two J1 fI fS gI (by rw [dI]; intro z q; cases q) hS1 (by intro z q; cases q)
      refine wpAny_bind (wpAny_tryCatch (wpAny_holding (wpAny_mono (turn (j + 1) v _ _ (List.mem_cons_of_mem _ (List.mem_cons_of_mem _ hq)) hlt rvv J2) (fun x s2 he => ?_) fun _ _ z => z.elim)))
      obtain ⟨vx, H2, J3, rx, ex, eH⟩ := he
      subst ex eH
      obtain ⟨t2, rfl⟩ := rx
      obtain ⟨J4, gI3, hS3⟩ := unpin_two J3
      refine wpAny_bind (wpAny_tryCatch (wpAny_holding (wpAny_bind (CmpOf.ints_gt (prog := X.prog) (w := X.w) (A := X.A.in1) (P := fun i v => ∃ t, v = .int (kf i) t) kf (fun i v h => h) (j + 1) i _ _ s2 _ _ ⟨t2, rfl⟩ ⟨tb, rfl⟩ (wpAny_bind (wpAny_holding (wpAny_truthy_bool (wpAny_bind (wpAny_letGo (wpAny_pure ?_))))))))))
      by_cases better : kf (j + 1) > kf i
      · have sb := Heap.SameBut.update s2.heap S (Obj.mapSeq fun _ => #[v, .int (kf (j + 1)) t2])
        obtain ⟨c2, hc2⟩ : ∃ c2, (s2.heap.update S (Obj.mapSeq fun _ => #[v, .int (kf (j + 1)) t2])).get? S = some (seqObj "list" #[v, .int (kf (j + 1)) t2] c2) := ⟨_, get?_update_seq hS3 fun _ => #[v, .int (kf (j + 1)) t2]⟩
        simp only [better, decide_true, if_true]
        refine wpAny_bind (wpAny_updateSeq hS3 rfl (wpAny_bind (wpAny_letGo ?_)))
        rw [en]
        refine wpAny_pure ⟨plainId_quiet PySem.F.plain_max_loop _, ih (j + 1) (j + 1) _ v t2 c2 (by omega) hlt (fp_turn (t' := s2.toks) J4 fS fun b o hb e => (sb.2 b hb).trans e) ⟨oI, (sb.2 I ne.symm).trans gI3, cI, dI⟩ hc2 rvv (Nat.le_refl _) fun j' hj' => ?_⟩
        by_cases e : j' = j + 1
        · subst e
          exact ⟨by omega, fun _ => by omega⟩
        · have b1 := hbest j' (by omega)
          exact ⟨by omega, fun _ => by omega⟩
      · simp only [better, decide_false, Bool.false_eq_true, if_false]
        refine wpAny_bind (wpAny_letGo ?_)
        rw [en]
        refine wpAny_pure ⟨plainId_quiet PySem.F.plain_max_loop _, ih (j + 1) i _ vb tb c (by omega) hlt J4 ⟨oI, gI3, cI, dI⟩ hS3 hvb (by omega) fun j' hj' => ?_⟩
        by_cases e : j' = j + 1
        · subst e
          exact ⟨by omega, fun _ => by omega⟩
        · exact hbest j' (by omega))

theorem kl_min_first {kf : Nat → Int} {R : Result → Shared → Prop} {c : Nat} (hh : X.A.handled = none) (hl : SqL X.K H l (ns.map V.int)) (hne : 0 < ns.length) (turn : KTurn X σ H q oq ns kf) (hq : (q, oq) ∈ pins) (fI : FpOk X pins H I) (fS : FpOk X pins H S) (ne : S ≠ I)
    (hR : ∀ i v s', i < ns.length → Bestmin kf ns.length i → RelV (.int (ns.getD i 0)) v → Inv X pins σ H s' → R (.ok (.ret v)) s') (J : Inv X pins σ H s) (hit : s.heap.IsListIter I l 0) (hS : s.heap.get? S = some (seqObj "list" #[] c)) :
    codeAny (model X.prog X.w) X.A (.builtin "min.loop" ⟨[.ref I, .ref q, .ref S], []⟩) R s := by
  have en : (toString "min" ++ toString ".loop" : String) = "min.loop" := by decide
  obtain ⟨its, rv, p, _⟩ := J.list hl
  have ll : its.length = ns.length := by have := rv.length; simpa using this.symm
  have hlI := iter_ne p hit
  have W := Walks.list (prog := X.prog) (w := X.w) (A := X.A.in1) hh I l hlI its.toArray
  refine codeAny_builtin PySem.F.entry_min_loop (by
    rw [Around.under_plainId PySem.F.plain_min_loop _]
    show wpAny _ X.A.in1 (seqItems? (.ref S) >>= _) _ _ _
    refine wpAny_bind (wpAny_seqItems hS rfl (wpAny_bind (wpAny_tryCatch (W.item 0 s _ _ (by rw [List.size_toArray, ll]; exact hne) ⟨hit, p.isList⟩ fun v h' tk' hP st' hk' => ?_))))
    have rvv := item_rel rv hne hP
    have J1 : Inv X pins σ H { s with heap := h', toks := tk' } := fp_turn J fI fun b o hb e => hk' b o (by simpa using hb) e
    have hS1 := hk' S _ (by simpa using ne) hS
    obtain ⟨oI, gI, cI, dI⟩ := st'.1
    have J2 := pin_two J1 fI fS gI (by rw [dI]; intro z q; cases q) hS1 (by intro z q; cases q)
    refine wpAny_bind (wpAny_tryCatch (wpAny_holding (wpAny_mono (turn 0 v _ _ (List.mem_cons_of_mem _ (List.mem_cons_of_mem _ hq)) hne rvv J2) (fun x s2 he => ?_) fun _ _ z => z.elim)))
    obtain ⟨vx, H2, J3, rx, ex, eH⟩ := he
    subst ex eH
    obtain ⟨t2, rfl⟩ := rx
    obtain ⟨J4, gI3, hS3⟩ := unpin_two J3
    have sb := Heap.SameBut.update s2.heap S (Obj.mapSeq fun _ => #[v, .int (kf 0) t2])
    obtain ⟨c2, hc2⟩ : ∃ c2, (s2.heap.update S (Obj.mapSeq fun _ => #[v, .int (kf 0) t2])).get? S = some (seqObj "list" #[v, .int (kf 0) t2] c2) := ⟨_, get?_update_seq hS3 fun _ => #[v, .int (kf 0) t2]⟩
    show wpAny _ X.A.in1 (updateSeq S (fun _ => #[v, .int (kf 0) t2]) >>= _) _ _ _
    refine wpAny_bind (wpAny_updateSeq hS3 rfl ?_)
    rw [en]
    refine wpAny_pure ⟨plainId_quiet PySem.F.plain_min_loop _, kl_min_loop hh hl turn hq fI fS ne hR _ 0 0 _ v t2 c2 rfl hne (fp_turn (t' := s2.toks) J4 fS fun b o hb e => (sb.2 b hb).trans e) ⟨oI, (sb.2 I ne.symm).trans gI3, cI, dI⟩ hc2 rvv (Nat.le_refl _) fun j' hj' => ?_⟩
    have : j' = 0 := by omega
    subst this
    exact ⟨by omega, fun z => by omega⟩)

theorem kl_max_first {kf : Nat → Int} {R : Result → Shared → Prop} {c : Nat} (hh : X.A.handled = none) (hl : SqL X.K H l (ns.map V.int)) (hne : 0 < ns.length) (turn : KTurn X σ H q oq ns kf) (hq : (q, oq) ∈ pins) (fI : FpOk X pins H I) (fS : FpOk X pins H S) (ne : S ≠ I)
    (hR : ∀ i v s', i < ns.length → Bestmax kf ns.length i → RelV (.int (ns.getD i 0)) v → Inv X pins σ H s' → R (.ok (.ret v)) s') (J : Inv X pins σ H s) (hit : s.heap.IsListIter I l 0) (hS : s.heap.get? S = some (seqObj "list" #[] c)) :
    codeAny (model X.prog X.w) X.A (.builtin "max.loop" ⟨[.ref I, .ref q, .ref S], []⟩) R s := by
  have en : (toString "max" ++ toString ".loop" : String) = "max.loop" := by decide
  obtain ⟨its, rv, p, _⟩ := J.list hl
  have ll : its.length = ns.length := by have := rv.length; simpa using this.symm
  have hlI := iter_ne p hit
  have W := Walks.list (prog := X.prog) (w := X.w) (A := X.A.in1) hh I l hlI its.toArray
  refine codeAny_builtin PySem.F.entry_max_loop (by
    rw [Around.under_plainId PySem.F.plain_max_loop _]
    show wpAny _ X.A.in1 (seqItems? (.ref S) >>= _) _ _ _
    refine wpAny_bind (wpAny_seqItems hS rfl (wpAny_bind (wpAny_tryCatch (W.item 0 s _ _ (by rw [List.size_toArray, ll]; exact hne) ⟨hit, p.isList⟩ fun v h' tk' hP st' hk' => ?_))))
    have rvv := item_rel rv hne hP
    have J1 : Inv X pins σ H { s with heap := h', toks := tk' } := fp_turn J fI fun b o hb e => hk' b o (by simpa using hb) e
    have hS1 := hk' S _ (by simpa using ne) hS
    obtain ⟨oI, gI, cI, dI⟩ := st'.1
    have J2 := pin_two J1 fI fS gI (by rw [dI]; intro z q; cases q) hS1 (by intro z q; cases q)
    refine wpAny_bind (wpAny_tryCatch (wpAny_holding (wpAny_mono (turn 0 v _ _ (List.mem_cons_of_mem _ (List.mem_cons_of_mem _ hq)) hne rvv J2) (fun x s2 he => ?_) fun _ _ z => z.elim)))
    obtain ⟨vx, H2, J3, rx, ex, eH⟩ := he
    subst ex eH
    obtain ⟨t2, rfl⟩ := rx
    obtain ⟨J4, gI3, hS3⟩ := unpin_two J3
    have sb := Heap.SameBut.update s2.heap S (Obj.mapSeq fun _ => #[v, .int (kf 0) t2])
    obtain ⟨c2, hc2⟩ : ∃ c2, (s2.heap.update S (Obj.mapSeq fun _ => #[v, .int (kf 0) t2])).get? S = some (seqObj "list" #[v, .int (kf 0) t2] c2) := ⟨_, get?_update_seq hS3 fun _ => #[v, .int (kf 0) t2]⟩
    show wpAny _ X.A.in1 (updateSeq S (fun _ => #[v, .int (kf 0) t2]) >>= _) _ _ _
    refine wpAny_bind (wpAny_updateSeq hS3 rfl ?_)
    rw [en]
    refine wpAny_pure ⟨plainId_quiet PySem.F.plain_max_loop _, kl_max_loop hh hl turn hq fI fS ne hR _ 0 0 _ v t2 c2 rfl hne (fp_turn (t' := s2.toks) J4 fS fun b o hb e => (sb.2 b hb).trans e) ⟨oI, (sb.2 I ne.symm).trans gI3, cI, dI⟩ hc2 rvv (Nat.le_refl _) fun j' hj' => ?_⟩
    have : j' = 0 := by omega
    subst this
    exact ⟨by omega, fun z => by omega⟩)

theorem kl_min {kf : Nat → Int} {Q : Value → Shared → Prop} {E : Value → Shared → Prop} (hh : X.A.handled = none) (hl : SqL X.K H l (ns.map V.int)) (hne : 0 < ns.length) (turn : KTurn X σ H q oq ns kf) (hq : (q, oq) ∈ pins) (J : Inv X pins σ H s)
    (hQ : ∀ i v s', i < ns.length → Bestmin kf ns.length i → RelV (.int (ns.getD i 0)) v → Inv X pins σ H s' → Q v s') : wpAny (model X.prog X.w) X.A (call (.builtin "min") [.ref l] [(Str.ofString "key", .ref q)]) Q E s := by
  have en : (toString "min" ++ toString ".loop" : String) = "min.loop" := by decide
  obtain ⟨_, _, p0, _⟩ := J.list hl
  refine kmk_tree PySem.F.kind_min PySem.F.plain_min PySem.F.entry_min (kmk_min_key _ _) (by
    show wpAny _ X.A.in1 (Builtin.Builtins.bindParams "min" ["key", "default"] 0 ⟨[], [(Str.ofString "key", .ref q)]⟩ >>= _) _ _ s
    refine wpAny_bind (wpAny_of_eq (show Builtin.Builtins.bindParams "min" ["key", "default"] 0 ⟨[], [(Str.ofString "key", .ref q)]⟩ = pure [some (.ref q), none] from rfl) (wpAny_bind (wpAny_pure (wpAny_bind (wpAny_pyIter_list p0.isList (wpAny_bind (wpAny_newList ?_ (Nat.zero_le _))))))))
    rw [en]
    obtain ⟨I, eI⟩ : ∃ I, I = s.heap.objs.size := ⟨_, rfl⟩
    have sz1 : (s.heap.push { cls := .type "list_iterator", data := .fields #[.ref l, .int 0 0] }).objs.size = I + 1 := by rw [eI]; exact size_push' ..
    have gI : ((s.heap.push { cls := .type "list_iterator", data := .fields #[.ref l, .int 0 0] }).push (seqObj "list" #[] 0)).get? I = some { cls := .type "list_iterator", data := .fields #[.ref l, .int 0 0] } := by rw [eI]; exact Heap.get?_push_of_some _ (Heap.get?_push_size _ rfl)
    have gS : ((s.heap.push { cls := .type "list_iterator", data := .fields #[.ref l, .int 0 0] }).push (seqObj "list" #[] 0)).get? (I + 1) = some (seqObj "list" #[] 0) := by rw [← sz1]; exact Heap.get?_push_size _ rfl
    have J1 : Inv X pins σ H { s with heap := (s.heap.push { cls := .type "list_iterator", data := .fields #[.ref l, .int 0 0] }).push (seqObj "list" #[] 0), toks := s.toks } := J.kept fun b o e => Heap.get?_push_of_some _ (Heap.get?_push_of_some _ e)
    have fI : FpOk X pins H I := J.fpOk (Nat.le_of_eq eI.symm) (J.hok.fresh (Nat.le_of_eq eI.symm))
    have fS : FpOk X pins H (I + 1) := J.fpOk (by rw [eI]; exact Nat.le_succ _) (J.hok.fresh (by rw [eI]; exact Nat.le_succ _))
    have ne : I + 1 ≠ I := Nat.succ_ne_self I
    show wpAny _ X.A.in1 (pure (Fin.again (.builtin "min.loop" ⟨[.ref s.heap.objs.size, .ref q, .ref (s.heap.push { cls := .type "list_iterator", data := .fields #[.ref l, .int 0 0] }).objs.size], []⟩))) _ _ { s with heap := (s.heap.push { cls := .type "list_iterator", data := .fields #[.ref l, .int 0 0] }).push (seqObj "list" #[] 0), toks := s.toks }
    rw [sz1, ← eI]
    exact wpAny_pure ⟨plainId_quiet PySem.F.plain_min_loop _, kl_min_first hh hl hne turn hq fI fS ne hQ J1 ⟨_, gI, rfl, rfl⟩ gS⟩)

theorem kl_max {kf : Nat → Int} {Q : Value → Shared → Prop} {E : Value → Shared → Prop} (hh : X.A.handled = none) (hl : SqL X.K H l (ns.map V.int)) (hne : 0 < ns.length) (turn : KTurn X σ H q oq ns kf) (hq : (q, oq) ∈ pins) (J : Inv X pins σ H s)
    (hQ : ∀ i v s', i < ns.length → Bestmax kf ns.length i → RelV (.int (ns.getD i 0)) v → Inv X pins σ H s' → Q v s') : wpAny (model X.prog X.w) X.A (call (.builtin "max") [.ref l] [(Str.ofString "key", .ref q)]) Q E s := by
  have en : (toString "max" ++ toString ".loop" : String) = "max.loop" := by decide
  obtain ⟨_, _, p0, _⟩ := J.list hl
  refine kmk_tree PySem.F.kind_max PySem.F.plain_max PySem.F.entry_max (kmk_max_key _ _) (by
    show wpAny _ X.A.in1 (Builtin.Builtins.bindParams "max" ["key", "default"] 0 ⟨[], [(Str.ofString "key", .ref q)]⟩ >>= _) _ _ s
    refine wpAny_bind (wpAny_of_eq (show Builtin.Builtins.bindParams "max" ["key", "default"] 0 ⟨[], [(Str.ofString "key", .ref q)]⟩ = pure [some (.ref q), none] from rfl) (wpAny_bind (wpAny_pure (wpAny_bind (wpAny_pyIter_list p0.isList (wpAny_bind (wpAny_newList ?_ (Nat.zero_le _))))))))
    rw [en]
    obtain ⟨I, eI⟩ : ∃ I, I = s.heap.objs.size := ⟨_, rfl⟩
    have sz1 : (s.heap.push { cls := .type "list_iterator", data := .fields #[.ref l, .int 0 0] }).objs.size = I + 1 := by rw [eI]; exact size_push' ..
    have gI : ((s.heap.push { cls := .type "list_iterator", data := .fields #[.ref l, .int 0 0] }).push (seqObj "list" #[] 0)).get? I = some { cls := .type "list_iterator", data := .fields #[.ref l, .int 0 0] } := by rw [eI]; exact Heap.get?_push_of_some _ (Heap.get?_push_size _ rfl)
    have gS : ((s.heap.push { cls := .type "list_iterator", data := .fields #[.ref l, .int 0 0] }).push (seqObj "list" #[] 0)).get? (I + 1) = some (seqObj "list" #[] 0) := by rw [← sz1]; exact Heap.get?_push_size _ rfl
    have J1 : Inv X pins σ H { s with heap := (s.heap.push { cls := .type "list_iterator", data := .fields #[.ref l, .int 0 0] }).push (seqObj "list" #[] 0), toks := s.toks } := J.kept fun b o e => Heap.get?_push_of_some _ (Heap.get?_push_of_some _ e)
    have fI : FpOk X pins H I := J.fpOk (Nat.le_of_eq eI.symm) (J.hok.fresh (Nat.le_of_eq eI.symm))
    have fS : FpOk X pins H (I + 1) := J.fpOk (by rw [eI]; exact Nat.le_succ _) (J.hok.fresh (by rw [eI]; exact Nat.le_succ _))
    have ne : I + 1 ≠ I := Nat.succ_ne_self I
    show wpAny _ X.A.in1 (pure (Fin.again (.builtin "max.loop" ⟨[.ref s.heap.objs.size, .ref q, .ref (s.heap.push { cls := .type "list_iterator", data := .fields #[.ref l, .int 0 0] }).objs.size], []⟩))) _ _ { s with heap := (s.heap.push { cls := .type "list_iterator", data := .fields #[.ref l, .int 0 0] }).push (seqObj "list" #[] 0), toks := s.toks }
    rw [sz1, ← eI]
    exact wpAny_pure ⟨plainId_quiet PySem.F.plain_max_loop _, kl_max_first hh hl hne turn hq fI fS ne hQ J1 ⟨_, gI, rfl, rfl⟩ gS⟩)

/-- min(xs, key=lambda a: body) of whole numbers -/
def rKeymin (K : PySem.W.Frag) (T : List (Addr × Str)) (tb : TE) (σ : L2.St) (Q : VK) (x : V) (H1 : Hp) : Prop := Tabs T H1 ∧ ∀ H2, ExtN H1 H2 → Tabs T H2 → ∃ (l : Addr) (ns : List Int) (kf : Nat → Int), x = .ref l ∧ SqL K H2 l (ns.map V.int) ∧ 0 < ns.length ∧
  (∀ i, i < ns.length → tb (σ ++ [some (.int (ns.getD i 0))]) H2 fun y H3 => y = .int (kf i) ∧ H3 = H2) ∧ ∀ i, i < ns.length → Bestmin kf ns.length i → Q (.int (ns.getD i 0)) H2
def tKeymin (K : PySem.W.Frag) (T : List (Addr × Str)) (to tb : TE) : TE := fun σ H Q => to σ H fun x H1 => rKeymin K T tb σ Q x H1
theorem pe_keymin {T : List (Addr × Str)} {c P : Addr} {o : Expr} {to tb : TE} {a : Str} {k : Nat} {params : Arguments} {body : Expr} {scope : Scope} {p lpos kpos pos : Pos} (hg : Gl X "min") (hm : X.mg "min" = none) (TB : TabB X.base X.mg c P) (hcode : X.env.code = .ref c)
    (hmT : (P, X.env.qual ++ "<lambda>") ∈ T) (hu : ∀ p ∈ T, p.1 = P → p.2 = X.env.qual ++ "<lambda>") (hr : Room (k + 1) X.A) (L : Lam1 X.env.scope scope a) (na : a ∉ X.N) (hst : X.stack = X.env :: X.outer ∧ X.env.frame = some X.env.locals) (hdef : defaultsOf params X.env = ([], []))
    (hbind : ∀ (q : Str) (cl : List (Str × Addr)) (pm cv ctv u : Value), bindArgs (PySem.W.kla_fn "<lambda>" q params body scope cl pm cv ctv) ⟨[u], []⟩ = pure [(a, u)]) (ha : PA X [o] (tCons to tNil))
    (hbody : ∀ (s : Shared) (H : Hp) (f c' : Addr), PE (oneCx X s H scope f c' a) body tb)
    (he : backTo pos (starEach [o] X.env) = (false, eval o X.env) :: backTo pos (starEach [] X.env) := by rfl) (hpl : (backTo pos (starEach [o] X.env)).any (·.1) = false := by rfl)
    (hall : (backToKw pos (keywordEach [⟨some "key", .Lambda params body scope lpos, kpos⟩] X.env)).all (·.1.isSome) = true := by rfl) (hnone : (backToKw pos (keywordEach [⟨some "key", .Lambda params body scope lpos, kpos⟩] X.env)).any (·.1.isNone) = false := by rfl)
    (hks : (backToKw pos (keywordEach [⟨some "key", .Lambda params body scope lpos, kpos⟩] X.env)).filterMap (·.1) = [Str.ofString "key"] := by rfl) :
    PE X (.Call (.Name "min" p) [o] [⟨some "key", .Lambda params body scope lpos, kpos⟩] pos) (tKeymin X.K T to tb) := by
  refine ⟨fun pins s σ H Q I h => ?_⟩
  refine wpAny_Call_Name_kw (ld_blt I hg hm boot_min ?_ (by decide) (by decide))
  refine PyProof.Rows.callWith_kw (thn (ha.run pos pins s σ H (fun vs H1 => match vs with | [x] => rKeymin X.K T tb σ Q x H1 | _ => False) I h) fun us s1 ⟨vs, H1, I1, r1, q1⟩ => ?_) he hpl hall hnone
  cases r1 with
  | nil => exact q1.elim
  | cons ru rr =>
    cases rr with
    | cons _ _ => exact q1.elim
    | nil =>
      obtain ⟨hT, q1⟩ := q1
      show wpAny _ _ (evalAll ((do let v ← eval (.Lambda params body scope lpos) X.env; standAt pos; pure v) :: (backToKw pos (keywordEach [] X.env)).map (·.2))) _ _ s1
      refine wpAny_evalAll_cons (wpAny_bind (lam_make2 I1 TB hcode hmT hu hT hdef (L.has I1.ok) fun f c' pm ctv H2 s2 I2 eN T2 hf hfn hfr hco => ?_))
      obtain ⟨l, ns, kf, ex, hl, hne, hb, hq⟩ := q1 H2 eN T2
      subst ex
      obtain rfl := ru
      refine wpAny_bind (wpAny_standAt (wpAny_pure (wpAny_evalAll_nil ?_)))
      rw [hks]
      have nL : f ≠ X.env.locals ∧ f ∉ X.fs := by
        have hfr : f ∉ frs (X.env :: X.outer) := by rw [← hst.1]; exact hfr
        have e : frs (X.env :: X.outer) = X.env.locals :: frs X.outer := by
          unfold frs
          rw [List.filterMap_cons, hst.2]
        rw [e] at hfr
        exact ⟨fun z => hfr (by rw [z]; exact List.mem_cons_self), fun z => hfr (List.mem_cons_of_mem _ z)⟩
      obtain ⟨of, eof⟩ : ∃ of, of = PySem.W.kla_obj "<lambda>" (X.env.qual ++ "<lambda>") params body scope (cloFrom X.env.cells scope.names []) pm c' ctv := ⟨_, rfl⟩
      rw [← eof] at hf
      have I3 : Inv X ((f, of) :: pins) σ H2 s2 := I2.pins_of fun p hp => by
        rcases List.mem_cons.mp hp with e | hp
        · rw [e]
          exact ⟨hf, hfn, nL.1, nL.2, by rw [eof]; intro z q; cases q⟩
        · exact I2.pin p (List.mem_append_right _ hp)
      refine kl_min (s := s2) (ns := ns) (kf := kf) (oq := of) hr.hd hl hne (fun i v pn s' hm hi rv J => ?_) List.mem_cons_self I3 fun i v s' hi hbst rv J => ⟨_, H2, J.pins_of fun r hr => J.pin r (List.mem_append_right _ (List.mem_cons_of_mem _ hr)), rv, hq i hi hbst⟩
      have g := (J.pin (f, of) (List.mem_append_right _ hm)).1
      rw [eof] at g
      exact one_call (k := k) J L na hr g hco (hbind _ _ _ _ _ _) rv (hbody s' H2 f c') (hb i hi)

/-- max(xs, key=lambda a: body) of whole numbers -/
def rKeymax (K : PySem.W.Frag) (T : List (Addr × Str)) (tb : TE) (σ : L2.St) (Q : VK) (x : V) (H1 : Hp) : Prop := Tabs T H1 ∧ ∀ H2, ExtN H1 H2 → Tabs T H2 → ∃ (l : Addr) (ns : List Int) (kf : Nat → Int), x = .ref l ∧ SqL K H2 l (ns.map V.int) ∧ 0 < ns.length ∧
  (∀ i, i < ns.length → tb (σ ++ [some (.int (ns.getD i 0))]) H2 fun y H3 => y = .int (kf i) ∧ H3 = H2) ∧ ∀ i, i < ns.length → Bestmax kf ns.length i → Q (.int (ns.getD i 0)) H2
def tKeymax (K : PySem.W.Frag) (T : List (Addr × Str)) (to tb : TE) : TE := fun σ H Q => to σ H fun x H1 => rKeymax K T tb σ Q x H1
theorem pe_keymax {T : List (Addr × Str)} {c P : Addr} {o : Expr} {to tb : TE} {a : Str} {k : Nat} {params : Arguments} {body : Expr} {scope : Scope} {p lpos kpos pos : Pos} (hg : Gl X "max") (hm : X.mg "max" = none) (TB : TabB X.base X.mg c P) (hcode : X.env.code = .ref c)
    (hmT : (P, X.env.qual ++ "<lambda>") ∈ T) (hu : ∀ p ∈ T, p.1 = P → p.2 = X.env.qual ++ "<lambda>") (hr : Room (k + 1) X.A) (L : Lam1 X.env.scope scope a) (na : a ∉ X.N) (hst : X.stack = X.env :: X.outer ∧ X.env.frame = some X.env.locals) (hdef : defaultsOf params X.env = ([], []))
    (hbind : ∀ (q : Str) (cl : List (Str × Addr)) (pm cv ctv u : Value), bindArgs (PySem.W.kla_fn "<lambda>" q params body scope cl pm cv ctv) ⟨[u], []⟩ = pure [(a, u)]) (ha : PA X [o] (tCons to tNil))
    (hbody : ∀ (s : Shared) (H : Hp) (f c' : Addr), PE (oneCx X s H scope f c' a) body tb)
    (he : backTo pos (starEach [o] X.env) = (false, eval o X.env) :: backTo pos (starEach [] X.env) := by rfl) (hpl : (backTo pos (starEach [o] X.env)).any (·.1) = false := by rfl)
    (hall : (backToKw pos (keywordEach [⟨some "key", .Lambda params body scope lpos, kpos⟩] X.env)).all (·.1.isSome) = true := by rfl) (hnone : (backToKw pos (keywordEach [⟨some "key", .Lambda params body scope lpos, kpos⟩] X.env)).any (·.1.isNone) = false := by rfl)
    (hks : (backToKw pos (keywordEach [⟨some "key", .Lambda params body scope lpos, kpos⟩] X.env)).filterMap (·.1) = [Str.ofString "key"] := by rfl) :
    PE X (.Call (.Name "max" p) [o] [⟨some "key", .Lambda params body scope lpos, kpos⟩] pos) (tKeymax X.K T to tb) := by
  refine ⟨fun pins s σ H Q I h => ?_⟩
  refine wpAny_Call_Name_kw (ld_blt I hg hm boot_max ?_ (by decide) (by decide))
  refine PyProof.Rows.callWith_kw (thn (ha.run pos pins s σ H (fun vs H1 => match vs with | [x] => rKeymax X.K T tb σ Q x H1 | _ => False) I h) fun us s1 ⟨vs, H1, I1, r1, q1⟩ => ?_) he hpl hall hnone
  cases r1 with
  | nil => exact q1.elim
  | cons ru rr =>
    cases rr with
    | cons _ _ => exact q1.elim
    | nil =>
      obtain ⟨hT, q1⟩ := q1
      show wpAny _ _ (evalAll ((do let v ← eval (.Lambda params body scope lpos) X.env; standAt pos; pure v) :: (backToKw pos (keywordEach [] X.env)).map (·.2))) _ _ s1
      refine wpAny_evalAll_cons (wpAny_bind (lam_make2 I1 TB hcode hmT hu hT hdef (L.has I1.ok) fun f c' pm ctv H2 s2 I2 eN T2 hf hfn hfr hco => ?_))
      obtain ⟨l, ns, kf, ex, hl, hne, hb, hq⟩ := q1 H2 eN T2
      subst ex
      obtain rfl := ru
      refine wpAny_bind (wpAny_standAt (wpAny_pure (wpAny_evalAll_nil ?_)))
      rw [hks]
      have nL : f ≠ X.env.locals ∧ f ∉ X.fs := by
        have hfr : f ∉ frs (X.env :: X.outer) := by rw [← hst.1]; exact hfr
        have e : frs (X.env :: X.outer) = X.env.locals :: frs X.outer := by
          unfold frs
          rw [List.filterMap_cons, hst.2]
        rw [e] at hfr
        exact ⟨fun z => hfr (by rw [z]; exact List.mem_cons_self), fun z => hfr (List.mem_cons_of_mem _ z)⟩
      obtain ⟨of, eof⟩ : ∃ of, of = PySem.W.kla_obj "<lambda>" (X.env.qual ++ "<lambda>") params body scope (cloFrom X.env.cells scope.names []) pm c' ctv := ⟨_, rfl⟩
      rw [← eof] at hf
      have I3 : Inv X ((f, of) :: pins) σ H2 s2 := I2.pins_of fun p hp => by
        rcases List.mem_cons.mp hp with e | hp
        · rw [e]
          exact ⟨hf, hfn, nL.1, nL.2, by rw [eof]; intro z q; cases q⟩
        · exact I2.pin p (List.mem_append_right _ hp)
      refine kl_max (s := s2) (ns := ns) (kf := kf) (oq := of) hr.hd hl hne (fun i v pn s' hm hi rv J => ?_) List.mem_cons_self I3 fun i v s' hi hbst rv J => ⟨_, H2, J.pins_of fun r hr => J.pin r (List.mem_append_right _ (List.mem_cons_of_mem _ hr)), rv, hq i hi hbst⟩
      have g := (J.pin (f, of) (List.mem_append_right _ hm)).1
      rw [eof] at g
      exact one_call (k := k) J L na hr g hco (hbind _ _ _ _ _ _) rv (hbody s' H2 f c') (hb i hi)
end

end

section

-- a condition of an operator
local macro_rules | `(tactic| walk_at "cond") => `(tactic| first
  | (show (0 : Int) < _; omega)
  | (show CDiv _ _; constructor <;> (first | decide | omega))
  | (show CMul _ _; first | (refine cmul_l ?_; constructor <;> (first | decide | omega)) | (refine cmul_r ?_; constructor <;> (first | decide | omega)))
  | (show CPow _ _; exact (by refine ⟨by decide, by decide, by decide⟩))
  | (show CDivW _ _; exact ⟨by decide, by decide +kernel⟩))
local macro_rules | `(tactic| walk_at "sq") => `(tactic| first | assumption | exact Dh.mono (same_upd (by assumption)) _ _ (by assumption) | exact .inl (.inl (.inl (by assumption))) | exact .inr (.inl (.inl (by assumption))) | exact SqL.of (by assumption) | exact .inl (by assumption) | exact .inl (SqL.of (by assumption)) | exact SqT.of (by assumption) | exact .inr (SqT.of (by assumption)))
local macro_rules | `(tactic| walk_at "st") => `(tactic| first
  | refine ⟨_, rfl, ?_⟩
  | refine ⟨_, _, rfl, rfl, ?_⟩
  | refine .inl ⟨_, rfl, ?_⟩
  | refine ⟨rfl, ?_⟩
  | refine ⟨_, _, rfl, by walk_at "sq", ?_⟩
  | refine ⟨.inl ⟨rfl, _, SqL.of (by assumption)⟩, ?_⟩
  | refine ⟨by walk_at "cond", ?_⟩
  | (refine' ifBT ?hh ?_; (case hh => first | rfl | assumption))
  | (refine' ifBF ?hh ?_; (case hh => first | rfl | assumption)))
local macro_rules | `(tactic| walk_at "go") => `(tactic| repeat walk_at "st")
local macro_rules | `(tactic| walk_at "yes") => `(tactic| (refine' ifT ?hh ?_; (case hh => first | rfl | decide +kernel)))
local macro_rules | `(tactic| walk_at "no") => `(tactic| (refine' ifF ?hh ?_; (case hh => first | decide +kernel | (intro z; cases z; done))))

/-! ### _law_number -/
/-- n times // 1000 -/
def itd : Nat → Int → Int
  | 0, r => r
  | n + 1, r => itd n r / 1000
theorem itd_zero : ∀ n, itd n 0 = 0
  | 0 => rfl
  | n + 1 => by
    show itd n 0 / 1000 = 0
    rw [itd_zero n]
    rfl
theorem itd_add (r : Int) (h : itd n r = 0) : ∀ m, itd (n + m) r = 0
  | 0 => h
  | m + 1 => by
    show itd (n + m) r / 1000 = 0
    rw [itd_add r h m]
    rfl
theorem itd_nn {r : Int} (h : 0 ≤ r) : ∀ n, 0 ≤ itd n r
  | 0 => h
  | n + 1 => Int.ediv_nonneg (itd_nn h n) (by decide)
def nCell (ns : List Int) (i : Int) : Int := if ns.length = 0 then 0 else (ns.getD (i % (ns.length : Int)).toNat 0).natAbs
def nTurn (ns : List Int) (i : Int) : Int := if ns.length = 0 then i else i / (ns.length : Int)
def nPick (ns : List Int) (i k : Int) : Int := k + 16 * nTurn ns i
def nMix (c p : Int) : Int :=
  let a := (c + 7919 * p + 13) % 2147483647
  let b := (a * (a + 48271)) % 2147483629
  (b * (b + 69621) + 31 * p) % 2147483647
def num (ns : List Int) (i k size : Int) : Int :=
  let c := nCell ns i
  let p := nPick ns i k
  if c ≥ 10 ^ 18 then
    if itd p.toNat (c / 10 ^ 18) > 0 then itd p.toNat (c / 10 ^ 18) % 1000 % size else nMix c p / 9 % size
  else nMix c p / 9 % size
theorem num_nn {ns : List Int} {i k size : Int} (h : 0 < size) : 0 ≤ num ns i k size := by
  unfold num
  dsimp only
  split
  · split
    · exact Int.emod_nonneg _ (by omega)
    · exact Int.emod_nonneg _ (by omega)
  · exact Int.emod_nonneg _ (by omega)
theorem num_lt {ns : List Int} {i k size : Int} (h : 0 < size) : num ns i k size < size := by
  unfold num
  dsimp only
  split
  · split
    · exact Int.emod_lt_of_pos _ h
    · exact Int.emod_lt_of_pos _ h
  · exact Int.emod_lt_of_pos _ h
def spNum (K : PySem.W.Frag) : Sp := fun vs H Q _ => ∃ (a : Addr) (ns : List Int) (i k size : Int), vs = [.ref a, .int i, .int k, .int size] ∧ SqL K H a (ns.map V.int) ∧ ns.length ≤ 63 ∧
  0 ≤ i ∧ i ≤ 1000000000 ∧ 0 ≤ k ∧ k ≤ 1000000000 ∧ 0 < size ∧ Q (.int (num ns i k size)) H

abbrev s_number : Stmt := topS 15
theorem sc_number : FnScope ["_law_script", "_law_at", "_law_k", "_law_size", "_law_cell", "_law_turn", "_law_pick", "_law_rest", "_law_step", "_law_mixed"] ["_law_script", "_law_at", "_law_k", "_law_size"] (C8.fnScope s_number) := C8.fnScope_by (by decide +kernel)
section
variable {P : Program} {w : World} {K : PySem.W.Frag} {mg : Str → Option Value} {base : Heap}
theorem ok_number {f : Addr} {fd : FuncData} (D : Def K mg "_law_number" s_number f fd) (b : Binds K fd ["_law_script", "_law_at", "_law_k", "_law_size"] []) (T : Txt mg) : Cal P w K mg base 1 "_law_number" (spNum K) [] := by
  refine cal0 D b .nil sc_number (fun vs H Q E h => ?_) (fun cdv A outer s H vs Q E hr h => ?_)
  · obtain ⟨a, ns, i, k, size, rfl, _⟩ := h
    rfl
  obtain ⟨a, ns, i, k, size, rfl, hS, hl, i0, i1, k0, k1, hz, q⟩ := h
  refine ⟨_, (pss_cons (ps_set (i := 4) sc_number.nd rfl (.inl rfl) pe_int)
      (pss_cons (ps_set (i := 5) sc_number.nd rfl (.inl rfl) (pv 1))
      (pss_cons (ps_mk (ps_if (pt_cmpR op_gt (pe_callB (lenQ K rfl) (by rfl) T.len PySem.boot_len (pa_cons (pv 0) pa_nil)) pe_int (nomark _))
      (pss_cons (ps_set (i := 4) sc_number.nd rfl (.inl rfl) (pe_callB call_abs (by rfl) T.abs (by decide +kernel) (pa_cons (pe_ix (ixL K rfl) (pv 0) (pe_op op_mod (pe_callTy call_int1 (by rfl) T.int (by decide +kernel) (pa_cons (pv 1) pa_nil)) (pe_callB (lenQ K rfl) (by rfl) T.len PySem.boot_len (pa_cons (pv 0) pa_nil))) (fun _ _ => rfl)) pa_nil)))
      (pss_one (ps_set (i := 5) sc_number.nd rfl (.inl rfl) (pe_op op_fdiv (pv 1) (pe_callB (lenQ K rfl) (by rfl) T.len PySem.boot_len (pa_cons (pv 0) pa_nil))))))
      pss_nil))
      (pss_cons (ps_set (i := 6) sc_number.nd rfl (.inl rfl) (pe_op op_add (pv 2) (pe_op op_mul pe_int (pv 5))))
      (pss_cons (ps_mk (ps_if (pt_cmpR op_ge (pv 4) (pe_op op_pow pe_int pe_int) (nomark _))
      (pss_cons (ps_set (i := 7) sc_number.nd rfl (.inl rfl) (pe_op op_fdivW (pv 4) (pe_op op_pow pe_int pe_int)))
      (pss_cons (ps_mk (ps_for PassesOwn.never rfl (pi_range1 (by rfl) T.range (pa_cons (pv 6) pa_nil)) (pg_name (i := 8) sc_number.nd rfl (.inl rfl))
      (pss_cons (ps_mk (ps_if (pt_cmpR op_eq (pv 7) pe_int (nomark _))
      (pss_one ps_break)
      pss_nil))
      (pss_one (ps_set (i := 7) sc_number.nd rfl (.inl rfl) (pe_op op_fdiv (pv 7) pe_int))))))
      (pss_one (ps_mk (ps_if (pt_cmpR op_gt (pv 7) pe_int (nomark _))
      (pss_one (ps_ret (pe_op op_mod (pe_callTy call_int1 (by rfl) T.int (by decide +kernel) (pa_cons (pe_op op_mod (pe_callTy call_int1 (by rfl) T.int (by decide +kernel) (pa_cons (pv 7) pa_nil)) pe_int) pa_nil)) (pv 3))))
      pss_nil)))))
      pss_nil))
      (pss_cons (ps_set (i := 9) sc_number.nd rfl (.inl rfl) (pe_op op_mod (pe_callTy call_int1 (by rfl) T.int (by decide +kernel) (pa_cons (pe_op op_add (pe_op op_add (pv 4) (pe_op op_mul pe_int (pv 6))) pe_int) pa_nil)) pe_int))
      (pss_cons (ps_set (i := 9) sc_number.nd rfl (.inl rfl) (pe_op op_mod (pe_callTy call_int1 (by rfl) T.int (by decide +kernel) (pa_cons (pe_op op_mul (pv 9) (pe_op op_add (pv 9) pe_int)) pa_nil)) pe_int))
      (pss_cons (ps_set (i := 9) sc_number.nd rfl (.inl rfl) (pe_op op_mod (pe_callTy call_int1 (by rfl) T.int (by decide +kernel) (pa_cons (pe_op op_add (pe_op op_mul (pv 9) (pe_op op_add (pv 9) pe_int)) (pe_op op_mul pe_int (pv 6))) pa_nil)) pe_int))
      (pss_one (ps_ret (pe_op op_mod (pe_callTy call_int1 (by rfl) T.int (by decide +kernel) (pa_cons (pe_op op_fdiv (pv 9) pe_int) pa_nil)) (pv 3)))))))))))), ?_⟩
  have hml : (ns.map V.int).length = ns.length := List.length_map _
  have t0 : 0 ≤ nTurn ns i ∧ nTurn ns i ≤ 1000000000 := by
    unfold nTurn
    split
    · exact ⟨i0, i1⟩
    · exact ⟨Int.ediv_nonneg i0 (by omega), Int.le_trans (Int.ediv_le_self _ i0) i1⟩
  have p0 : 0 ≤ nPick ns i k ∧ nPick ns i k ≤ 17000000000 := by
    unfold nPick
    omega
  walk_at "go"
  refine jn (M := fun σ H' => ∃ c t : Int, c = nCell ns i ∧ t = nTurn ns i ∧ H' = H ∧ σ = [sR a, sI i, sI k, sI size, sI c, sI t, none, none, none, none]) ?_ (fun N kk => ?_)
  · rintro σ H' ⟨c, t, ec, et, rfl, rfl⟩
    walk_at "go"
    -- behind the pick
    have ep : k + 16 * t = nPick ns i k := by
      rw [et]
      rfl
    have c0 : 0 ≤ c := by
      rw [ec]
      unfold nCell
      split <;> omega
    have en : c < 10 ^ 18 ∨ ¬ itd (nPick ns i k).toNat (c / 10 ^ 18) > 0 → num ns i k size = nMix c (nPick ns i k) / 9 % size := fun h => by
      unfold num
      dsimp only
      rw [← ec]
      rcases h with h | h
      · rw [if_neg (by omega)]
      · split
        · rfl
        · rfl
    refine jn (M := fun σ H2 => H2 = H' ∧ (c < 10 ^ 18 ∨ ¬ itd (nPick ns i k).toNat (c / 10 ^ 18) > 0) ∧ ∃ y8 y9, σ = [sR a, sI i, sI k, sI size, sI c, sI t, sI (nPick ns i k), y8, y9, none]) ?_ (fun N kk => ?_)
    · rintro σ H2 ⟨rfl, hc, y8, y9, rfl⟩
      walk_at "go"
      have e := en hc
      unfold nMix at e
      dsimp only at e
      rw [e] at q
      exact q
    · walk_at "go"
      refine ifD (fun g => ?_) (fun g => ?_)
      · have g' : c ≥ 10 ^ 18 := g
        walk_at "go"
        have r0 : 0 ≤ c / 10 ^ 18 := Int.ediv_nonneg c0 (by decide)
        refine jn (M := fun σ H2 => H2 = H' ∧ ∃ y9, σ = [sR a, sI i, sI k, sI size, sI c, sI t, sI (nPick ns i k), sI (itd (nPick ns i k).toNat (c / 10 ^ 18)), y9, none]) ?_ (fun N2 k2 => ?_)
        · rintro σ H2 ⟨rfl, y9, rfl⟩
          refine un ?_
          walk_at "go"
          refine ifD (fun g2 => ?_) (fun g2 => ?_)
          · walk_at "go"
            have e : num ns i k size = itd (nPick ns i k).toNat (c / 10 ^ 18) % 1000 % size := by
              unfold num
              dsimp only
              rw [← ec, if_pos g', if_pos g2]
            rw [e] at q
            exact q
          · walk_at "go"
            exact kk _ _ ⟨rfl, .inr g2, _, _, rfl⟩
        · walk_at "go"
          refine ⟨(show -(2 ^ 62) ≤ k + 16 * t by omega), (show k + 16 * t < 2 ^ 62 by omega), for_range (lo := 0) (n := (k + 16 * t).toNat) (fun j σ H2 => Ob (H2 = H' ∧ ∃ y9, σ = [sR a, sI i, sI k, sI size, sI c, sI t, sI (nPick ns i k), sI (itd j (c / 10 ^ 18)), y9, none])) (ob ⟨rfl, none, ?_⟩) ?_ ?_⟩
          · rw [← ep]
            rfl
          · rintro j σ H2 hj h
            obtain ⟨rfl, y9, rfl⟩ := unob h
            refine un ?_
            walk_at "go"
            refine ifEq (fun z => ?_) (fun z => ?_)
            · walk_at "go"
              refine k2 _ _ ⟨rfl, sI (0 + (j : Int)), ?_⟩
              have z2 : itd (nPick ns i k).toNat (c / 10 ^ 18) = 0 := by
                have z3 := itd_add _ z ((nPick ns i k).toNat - j)
                rw [show j + ((nPick ns i k).toNat - j) = (nPick ns i k).toNat by omega] at z3
                exact z3
              rw [z2, ← z]
              rfl
            · walk_at "go"
              exact ob ⟨rfl, _, rfl⟩
          · rintro σ H2 h
            obtain ⟨rfl, y9, rfl⟩ := unob h
            refine k2 _ _ ⟨rfl, y9, ?_⟩
            rw [ep]
      · walk_at "go"
        have g' : ¬ c ≥ 10 ^ 18 := g
        refine kk _ _ ⟨rfl, .inl (by omega), none, none, ?_⟩
        rw [← ep]
        rfl
  · walk_at "go"
    refine ifD (fun c => ?_) (fun c => ?_)
    · walk_at "go"
      rw [hml] at c
      refine ⟨_, _, _, _, rfl, rfl, hS, atI_getD (Int.emod_nonneg _ (by omega)) (by rw [hml]; exact Int.emod_lt_of_pos _ (by omega)), ?_⟩
      walk_at "go"
      refine kk _ _ ⟨_, _, ?_, ?_, rfl, rfl⟩
      · unfold nCell
        rw [if_neg (show ¬ ns.length = 0 by omega)]
        simp only [hml]
        split
        · omega
        · omega
      · unfold nTurn
        rw [if_neg (by omega), hml]
    · walk_at "go"
      rw [hml] at c
      refine kk _ _ ⟨_, _, ?_, ?_, rfl, rfl⟩
      · unfold nCell
        rw [if_pos (by omega)]
      · unfold nTurn
        rw [if_pos (by omega)]
end

/-! ### _law_is_whole, _law_same -/
abbrev s_is_whole : Stmt := topS 16
theorem sc_is_whole : FnScope ["_law_told"] ["_law_told"] (C8.fnScope s_is_whole) := C8.fnScope_by (by decide +kernel)
abbrev s_same : Stmt := topS 17
theorem sc_same : FnScope ["_law_told", "_law_due", "_law_k"] ["_law_told", "_law_due"] (C8.fnScope s_same) := C8.fnScope_by (by decide +kernel)
def spWhole : Sp := fun vs H Q _ => ∃ (x : V) (d : PyData), vs = [x] ∧ Dh H d x ∧ Q (.bl (isI d)) H
def spSame (n : Nat) : Sp := fun vs H Q _ => ∃ (x y : V) (d e : PyData), vs = [x, y] ∧ Dh H d x ∧ Dh H e y ∧ Dle n e ∧ ∀ (b : Bool) (H' : Hp), (b = true ↔ d = e) → Same H H' → Q (.bl b) H'
section
variable {P : Program} {w : World} {K : PySem.W.Frag} {mg : Str → Option Value} {base : Heap}
theorem ok_whole {f : Addr} {fd : FuncData} (D : Def K mg "_law_is_whole" s_is_whole f fd) (b : Binds K fd ["_law_told"] []) (T : Txt mg) : Cal P w K mg base 1 "_law_is_whole" spWhole [] := by
  refine cal0 D b .nil sc_is_whole (fun vs H Q E h => ?_) (fun cdv A outer s H vs Q E hr h => ?_)
  · obtain ⟨x, d, rfl, _⟩ := h
    rfl
  obtain ⟨x, d, rfl, hx, q⟩ := h
  refine ⟨_, (pss_one (ps_ret (pe_and (pe_callB is_int (by rfl) T.isinstance (by decide +kernel) (pa_cons (pv 0) (pa_cons (pe_bltn (v := .ty "int") (by rfl) T.int (by decide +kernel) rfl) pa_nil))) (pe_one (pe_not (pe_callB is_bool (by rfl) T.isinstance (by decide +kernel) (pa_cons (pv 0) (pa_cons (pe_bltn (v := .ty "bool") (by rfl) T.bool (by decide +kernel) rfl) pa_nil)))))))), ?_⟩
  cases d <;> (walk_at "go"; exact q)
theorem ok_same_step {f : Addr} {fd : FuncData} (D : Def K mg "_law_same" s_same f fd) (b : Binds K fd ["_law_told", "_law_due"] []) (T : Txt mg) (c_is_whole : Cal P w K mg base 1 "_law_is_whole" spWhole []) {n : Nat}
    (c_same : Cal P w K mg base (n + 1) "_law_same" (spSame n) []) : Cal P w K mg base (n + 2) "_law_same" (spSame (n + 1)) [] := by
  refine cal0 D b .nil sc_same (fun vs H Q E h => ?_) (fun cdv A outer s H vs Q E hr h => ?_)
  · obtain ⟨x, y, d, e, rfl, _⟩ := h
    rfl
  obtain ⟨x, y, d, e, rfl, hx, hy, he, q⟩ := h
  refine ⟨_, (pss_cons (ps_mk (ps_if (pt_val (pe_callB is_lt (by rfl) T.isinstance (by decide +kernel) (pa_cons (pv 1) (pa_cons (pe_tup (pa_cons (pe_bltn (v := .ty "list") (by rfl) T.list (by decide +kernel) rfl) (pa_cons (pe_bltn (v := .ty "tuple") (by rfl) T.tuple (by decide +kernel) rfl) pa_nil))) pa_nil))))
      (pss_cons (ps_mk (ps_if (PW.pt (pw_or (pt_not (pt_val (pe_callB is_lt (by rfl) T.isinstance (by decide +kernel) (pa_cons (pv 0) (pa_cons (pe_tup (pa_cons (pe_bltn (v := .ty "list") (by rfl) T.list (by decide +kernel) rfl) (pa_cons (pe_bltn (v := .ty "tuple") (by rfl) T.tuple (by decide +kernel) rfl) pa_nil))) pa_nil))))) (pw_or1 (pt_cmpR op_ne (pe_callB is_list (by rfl) T.isinstance (by decide +kernel) (pa_cons (pv 0) (pa_cons (pe_bltn (v := .ty "list") (by rfl) T.list (by decide +kernel) rfl) pa_nil))) (pe_callB is_list (by rfl) T.isinstance (by decide +kernel) (pa_cons (pv 1) (pa_cons (pe_bltn (v := .ty "list") (by rfl) T.list (by decide +kernel) rfl) pa_nil))) (nomark _)))))
      (pss_one (ps_ret pe_bl))
      pss_nil))
      (pss_cons (ps_mk (ps_if (pt_cmpR op_ne (pe_callB (lenQ K rfl) (by rfl) T.len PySem.boot_len (pa_cons (pv 0) pa_nil)) (pe_callB (lenQ K rfl) (by rfl) T.len PySem.boot_len (pa_cons (pv 1) pa_nil)) (nomark _))
      (pss_one (ps_ret pe_bl))
      pss_nil))
      (pss_one (ps_ret (pe_cmpR op_eq (pe_callB (lenQ K rfl) (by rfl) T.len PySem.boot_len (pa_cons (pe_lc (own := [("_law_k", 2)]) (g := gName 2) rfl sc_same.nd (pi_range1 (by rfl) T.range (pa_cons (pe_callB (lenQ K rfl) (by rfl) T.len PySem.boot_len (pa_cons (pv 1) pa_nil)) pa_nil)) (blkOk_by (own := [("_law_k", 2)]) (N := ["_law_told", "_law_due", "_law_k"]) (sc := C8.fnScope s_same) (by decide +kernel)) (fun _ _ _ _ _ => (pg_name (i := 2) sc_same.nd rfl (.inl rfl))) (fun _ _ _ _ _ => (pts_one (pt_not (pt_val (C8.pe_c c_same hr (by omega) (by rfl) (pa_cons (pe_ix (ixA K rfl) (pv 0) (pv 2) (fun _ _ => rfl)) (pa_cons (pe_ix (ixA K rfl) (pv 1) (pv 2) (fun _ _ => rfl)) pa_nil))))))) (fun _ _ _ _ _ => (pv 2))) pa_nil)) pe_int (nomark _))))))
      pss_nil))
      (pss_cons (ps_mk (ps_if (pt_val (pe_callB is_bool (by rfl) T.isinstance (by decide +kernel) (pa_cons (pv 1) (pa_cons (pe_bltn (v := .ty "bool") (by rfl) T.bool (by decide +kernel) rfl) pa_nil))))
      (pss_one (ps_ret (pe_and (pe_callB is_bool (by rfl) T.isinstance (by decide +kernel) (pa_cons (pv 0) (pa_cons (pe_bltn (v := .ty "bool") (by rfl) T.bool (by decide +kernel) rfl) pa_nil))) (pe_one (pe_cmpR op_eq (pv 0) (pv 1) (nomark _))))))
      pss_nil))
      (pss_cons (ps_mk (ps_if (pt_val (pe_callB is_int (by rfl) T.isinstance (by decide +kernel) (pa_cons (pv 1) (pa_cons (pe_bltn (v := .ty "int") (by rfl) T.int (by decide +kernel) rfl) pa_nil))))
      (pss_one (ps_ret (pe_and (C8.pe_c c_is_whole hr (by omega) (by rfl) (pa_cons (pv 0) pa_nil)) (pe_one (pe_cmpR op_eq (pv 0) (pv 1) (nomark _))))))
      pss_nil))
      (pss_cons (ps_mk (ps_if (pt_val (pe_callB is_str (by rfl) T.isinstance (by decide +kernel) (pa_cons (pv 1) (pa_cons (pe_bltn (v := .ty "str") (by rfl) T.str (by decide +kernel) rfl) pa_nil))))
      (pss_one (ps_ret (pe_and (pe_callB is_str (by rfl) T.isinstance (by decide +kernel) (pa_cons (pv 0) (pa_cons (pe_bltn (v := .ty "str") (by rfl) T.str (by decide +kernel) rfl) pa_nil))) (pe_one (pe_cmpR op_eq (pv 0) (pv 1) (nomark _))))))
      pss_nil))
      (pss_one (ps_ret (pe_and (pe_cmpR op_isN (pv 0) pe_non (nomark _)) (pe_one (pe_cmpR op_isN (pv 1) pe_non (nomark _)))))))))), ?_⟩
  refine jn (M := fun σ H' => Same H H' ∧ σ = [some x, some y, none] ∧ (isL e || isT e) = false) ?_ (fun N kk => ?_)
  · rintro σ H1 ⟨s1, rfl, hf⟩
    have hx1 := Dh.mono s1 _ _ hx
    have hy1 := Dh.mono s1 _ _ hy
    clear hx hy he
    cases e with
    | list es => cases hf
    | tuple es => cases hf
    | dict kvs => exact False.elim hy1
    | none =>
      cases (show y = V.non from hy1)
      cases d
      case dict => exact False.elim hx1
      all_goals first | (obtain ⟨_, _, e1, _, _⟩ := id hx1; cases e1) | (cases (show x = _ from hx1))
      all_goals repeat (first | refine un ?_ | walk_at "st")
      all_goals exact q _ _ (by simp) s1
    | bool c =>
      cases (show y = V.bl c from hy1)
      cases d
      case dict => exact False.elim hx1
      all_goals first | (obtain ⟨_, _, e1, _, _⟩ := id hx1; cases e1) | (cases (show x = _ from hx1))
      all_goals repeat (first | refine un ?_ | walk_at "st")
      all_goals exact q _ _ (by simp) s1
    | int c =>
      cases (show y = V.int c from hy1)
      cases d
      case dict => exact False.elim hx1
      all_goals first | (obtain ⟨_, _, e1, _, _⟩ := id hx1; cases e1) | (cases (show x = _ from hx1))
      all_goals repeat (first | refine un ?_ | walk_at "st")
      all_goals first | exact q _ _ (by simp) s1 | skip
      all_goals refine ⟨_, _, rfl, hx1, ?_⟩
      all_goals repeat (first | refine un ?_ | walk_at "st")
      all_goals exact q _ _ (by simp) s1
    | str c =>
      cases (show y = V.str c from hy1)
      cases d
      case dict => exact False.elim hx1
      all_goals first | (obtain ⟨_, _, e1, _, _⟩ := id hx1; cases e1) | (cases (show x = _ from hx1))
      all_goals repeat (first | refine un ?_ | walk_at "st")
      all_goals exact q _ _ (by simp) s1
  · walk_at "go"
    refine ⟨sz, fun p hp => ?_⟩
    refine ⟨_, _, _, rfl, upd_same, Dh.mono (same_upd hp) _ _ hy, ?_⟩
    walk_at "go"
    have s1 : Same H (upd H p (.tup [.ty "list", .ty "tuple"])) := same_upd hp
    have hx1 := Dh.mono s1 _ _ hx
    have hy1 := Dh.mono s1 _ _ hy
    cases hf : (isL e || isT e) with
    | false =>
      refine ifBF rfl ?_
      exact kk _ _ ⟨s1, rfl, hf⟩
    | true =>
      refine ifBT rfl ?_
      generalize upd H p (HO.tup [V.ty "list", V.ty "tuple"]) = H1 at *
      clear hx hy kk hp
      walk_at "go"
      refine jn (M := fun σ H2 => Same H1 H2 ∧ ∃ a c xs ys ds es, σ = [sR a, sR c, none] ∧ (SqL K H2 a xs ∨ SqT K H2 a xs) ∧ (SqL K H2 c ys ∨ SqT K H2 c ys) ∧ DhAll H2 ds xs ∧ DhAll H2 es ys ∧ es.length ≤ 100000 ∧ (∀ e' ∈ es, Dle n e') ∧ (d = e ↔ ds = es)) ?_ (fun N2 k2 => ?_)
      · rintro σ H2 ⟨s2, a, c, xs, ys, ds, es, rfl, hA, hC, hds, hes, hlen, hle, hiff⟩
        have lx := hds.len
        have ly := hes.len
        walk_at "go"
        refine jn (M := fun σ H3 => H3 = H2 ∧ σ = [sR a, sR c, none] ∧ ds.length = es.length) ?_ (fun N3 k3 => ?_)
        · rintro σ H3 ⟨rfl, rfl, el⟩
          walk_at "go"
          refine ⟨by omega, by omega, fun L hL => lc_range (lo := 0) (n := ((ys.length : Nat) : Int).toNat)
            (fun i H' => Ob (Same H3 H' ∧ ∃ acc, H' L = some (.lst acc) ∧ acc.length ≤ i ∧ (acc = [] ↔ ds.take i = es.take i))) (ob ⟨same_upd hL, [], upd_same, Nat.le_refl _, by simp⟩) ?_ ?_⟩
          · intro i H4 hi h4
            obtain ⟨s4, acc, g4, l4, e4⟩ := unob h4
            have hi2 : i < es.length := by omega
            have hi3 : i < ds.length := by omega
            obtain ⟨xv, ex, dx⟩ := hds.get (List.getElem?_eq_getElem hi3)
            obtain ⟨yv, ey, dy⟩ := hes.get (List.getElem?_eq_getElem hi2)
            have tk := take_succ_eq (List.getElem?_eq_getElem hi3) (List.getElem?_eq_getElem hi2)
            have ax : atI xs (0 + (i : Int)) = some xv := by
              rw [Int.zero_add]
              exact atI_nat ex
            have ay : atI ys (0 + (i : Int)) = some yv := by
              rw [Int.zero_add]
              exact atI_nat ey
            refine ⟨rfl, ?_⟩
            walk_at "go"
            refine ixAny (sqAny s4 hA) ax ?_
            walk_at "go"
            refine ixAny (sqAny s4 hC) ay ?_
            walk_at "go"
            refine ⟨_, _, _, _, rfl, Dh.mono s4 _ _ dx, Dh.mono s4 _ _ dy, hle _ (List.getElem_mem hi2), fun b5 H5 hb s5 => ?_⟩
            walk_at "go"
            refine ifN ?_
            cases b5 with
            | true =>
              refine ifBT rfl (ob ⟨s4.trans s5, acc, s5 _ _ g4, Nat.le_succ_of_le l4, ?_⟩)
              rw [e4, tk]
              exact ⟨fun z => ⟨z, hb.mp rfl⟩, fun z => z.1⟩
            | false =>
              refine ifBF rfl ?_
              walk_at "go"
              refine ⟨acc, s5 _ _ g4, sz5 (by omega), ob ⟨same_put (s4.trans s5) hL, _, upd_same, ?_, ?_⟩⟩
              · rw [List.length_append]
                exact Nat.add_le_add_right l4 1
              · constructor
                · intro z
                  exact absurd (congrArg List.length z) (by rw [List.length_append]; simp)
                · intro z
                  exact absurd (hb.mpr (tk.mp z).2) Bool.false_ne_true
          · intro H4 h4
            obtain ⟨s4, acc, g4, l4, e4⟩ := unob h4
            walk_at "go"
            refine q _ _ ?_ ((s1.trans s2).trans s4)
            rw [hiff]
            have et : ((ys.length : Nat) : Int).toNat = es.length := by omega
            rw [et, List.take_of_length_le (by omega), List.take_of_length_le (Nat.le_refl _)] at e4
            rw [← e4, decide_eq_true_iff]
            constructor
            · intro z
              have z2 := V.int.inj z
              exact List.eq_nil_of_length_eq_zero (by omega)
            · intro z
              rw [z]
              rfl
        · walk_at "go"
          refine ifNe (fun z => ?_) (fun z => ?_)
          · walk_at "go"
            refine q _ _ ?_ (s1.trans s2)
            rw [hiff]
            constructor
            · intro h
              cases h
            · intro h
              rw [h] at lx
              omega
          · walk_at "go"
            exact k3 _ _ ⟨rfl, rfl, by omega⟩
      · walk_at "go"
        refine ⟨sz, fun p2 hp2 => ?_⟩
        have s2 : Same H1 (upd H1 p2 (HO.tup [V.ty "list", V.ty "tuple"])) := same_upd hp2
        refine ⟨_, _, _, rfl, upd_same, Dh.mono s2 _ _ hx1, ?_⟩
        have hx2 := Dh.mono s2 _ _ hx1
        have hy2 := Dh.mono s2 _ _ hy1
        walk_at "go"
        generalize upd H1 p2 (HO.tup [V.ty "list", V.ty "tuple"]) = H2 at *
        clear hp2
        cases e with
        | none => cases hf
        | bool _ => cases hf
        | int _ => cases hf
        | str _ => cases hf
        | dict kvs => cases hf
        | list es =>
          obtain ⟨c, ys, rfl, gy, hes⟩ := id hy2
          cases d
          case dict => exact False.elim hx2
          case list ds =>
            obtain ⟨a, xs, rfl, gx, hds⟩ := id hx2
            walk_at "go"
            exact k2 _ _ ⟨s2, _, _, _, _, ds, es, rfl, .inl (.inl (.inl gx)), .inl (.inl (.inl gy)), hds, hes, he.1, he.2, by simp⟩
          all_goals walk_at "go"
          all_goals exact q _ _ (by simp) (s1.trans s2)
        | tuple es =>
          obtain ⟨c, ys, rfl, gy, hes⟩ := id hy2
          cases d
          case dict => exact False.elim hx2
          case tuple ds =>
            obtain ⟨a, xs, rfl, gx, hds⟩ := id hx2
            walk_at "go"
            exact k2 _ _ ⟨s2, _, _, _, _, ds, es, rfl, .inr (.inl (.inl gx)), .inr (.inl (.inl gy)), hds, hes, he.1, he.2, by simp⟩
          all_goals walk_at "go"
          all_goals exact q _ _ (by simp) (s1.trans s2)
theorem ok_same {f : Addr} {fd : FuncData} (D : Def K mg "_law_same" s_same f fd) (b : Binds K fd ["_law_told", "_law_due"] []) (T : Txt mg) (c_is_whole : Cal P w K mg base 1 "_law_is_whole" spWhole []) :
    ∀ n, Cal P w K mg base (n + 1) "_law_same" (spSame n) []
  | 0 => by
    have no : ∀ vs H Q E, ¬ spSame 0 vs H Q E := fun vs H Q E h => by
      obtain ⟨x, y, d, e, _, _, _, h1, _⟩ := h
      exact h1
    exact ⟨f, fd, _, _, ⟨fun vs H Q E h => absurd h (no vs H Q E), fun A outer s H args us vs Q E _ _ _ _ h => absurd h (no vs H Q E)⟩, D.mgf, D.kp, b, .nil⟩
  | n + 1 => ok_same_step D b T c_is_whole (ok_same D b T c_is_whole n)
end

end

/-! ### the chooser's fields, the plain table -/
def chF (kd : Str) (n calls : Int) (fa ua ba : Addr) (hand : Int) : List (Str × V) := [("_kind", .str kd), ("_frames", .int n), ("_calls", .int calls), ("_fill_calls", .ref fa), ("_use_calls", .ref ua), ("_bits", .ref ba), ("_hand", .int hand)]
section
variable {kd : Str} {n calls hand v : Int} {fa ua ba : Addr}
theorem ch_kind : (chF kd n calls fa ua ba hand).lookup ("_kind" : Str) = some (.str kd) := by kernel_rfl
theorem ch_frames : (chF kd n calls fa ua ba hand).lookup ("_frames" : Str) = some (.int n) := by kernel_rfl
theorem ch_calls : (chF kd n calls fa ua ba hand).lookup ("_calls" : Str) = some (.int calls) := by kernel_rfl
theorem ch_fills : (chF kd n calls fa ua ba hand).lookup ("_fill_calls" : Str) = some (.ref fa) := by kernel_rfl
theorem ch_uses : (chF kd n calls fa ua ba hand).lookup ("_use_calls" : Str) = some (.ref ua) := by kernel_rfl
theorem ch_bits : (chF kd n calls fa ua ba hand).lookup ("_bits" : Str) = some (.ref ba) := by kernel_rfl
theorem ch_hand : (chF kd n calls fa ua ba hand).lookup ("_hand" : Str) = some (.int hand) := by kernel_rfl
theorem ch_no1 : (chF kd n calls fa ua ba hand).lookup ("touched" : Str) = none := by kernel_rfl
theorem ch_no2 : (chF kd n calls fa ua ba hand).lookup ("filled" : Str) = none := by kernel_rfl
theorem ch_no3 : (chF kd n calls fa ua ba hand).lookup ("emptied" : Str) = none := by kernel_rfl
theorem ch_no4 : (chF kd n calls fa ua ba hand).lookup ("choose" : Str) = none := by kernel_rfl
theorem ch_no5 : (chF kd n calls fa ua ba hand).lookup ("_choose_by_hand" : Str) = none := by kernel_rfl
theorem ch_pcalls : putF "_calls" (.int v) (chF kd n calls fa ua ba hand) = chF kd n v fa ua ba hand := by kernel_rfl
theorem ch_phand : putF "_hand" (.int v) (chF kd n calls fa ua ba hand) = chF kd n calls fa ua ba v := by kernel_rfl
theorem ch_make : putF "_hand" (.int hand) (putF "_bits" (.ref ba) (putF "_use_calls" (.ref ua) (putF "_fill_calls" (.ref fa) (putF "_calls" (.int calls) (putF "_frames" (.int n) (putF "_kind" (.str kd) [])))))) = chF kd n calls fa ua ba hand := by kernel_rfl
end
def pK (kd : Str) (t u : Int) (fi us bi fu : Addr) : List (Key × V) := [(.inr "kind", .str kd), (.inr "time", .int t), (.inr "under", .int u), (.inr "filled", .ref fi), (.inr "used", .ref us), (.inr "bits", .ref bi), (.inr "full", .ref fu)]
section
variable {kd : Str} {t u v : Int} {fi us bi fu : Addr}
theorem p_kind : valV (pK kd t u fi us bi fu) (.inr "kind") = some (.str kd) := by kernel_rfl
theorem p_time : valV (pK kd t u fi us bi fu) (.inr "time") = some (.int t) := by kernel_rfl
theorem p_under : valV (pK kd t u fi us bi fu) (.inr "under") = some (.int u) := by kernel_rfl
theorem p_filled : valV (pK kd t u fi us bi fu) (.inr "filled") = some (.ref fi) := by kernel_rfl
theorem p_used : valV (pK kd t u fi us bi fu) (.inr "used") = some (.ref us) := by kernel_rfl
theorem p_bits : valV (pK kd t u fi us bi fu) (.inr "bits") = some (.ref bi) := by kernel_rfl
theorem p_full : valV (pK kd t u fi us bi fu) (.inr "full") = some (.ref fu) := by kernel_rfl
theorem p_ptime : putK (pK kd t u fi us bi fu) (.inr "time") (.int v) = pK kd v u fi us bi fu := by kernel_rfl
theorem p_punder : putK (pK kd t u fi us bi fu) (.inr "under") (.int v) = pK kd t v fi us bi fu := by kernel_rfl
theorem p_merge : mergeK [] (pK kd t u fi us bi fu) = pK kd t u fi us bi fu := by kernel_rfl
end

/-! ### the hand's hunt -/
def hunt (al : List Int) (n : Nat) : Nat → List Int → Int → Option (Int × List Int × Int)
  | 0, _, _ => none
  | k + 1, bits, hand => if hand ∈ al then (if bits.getD hand.toNat 0 = 0 then some (hand, bits, (hand + 1) % n) else hunt al n k (bits.set hand.toNat 0) ((hand + 1) % n)) else hunt al n k bits ((hand + 1) % n)
theorem set_get {bits : List Int} {i j : Nat} (h : bits.getD j 0 = 0) : (bits.set i 0).getD j 0 = 0 := by
  rw [List.getD_eq_getElem?_getD] at *
  rw [List.getElem?_set]
  split
  · split <;> rfl
  · exact h
theorem hand_ok {n : Nat} {hand : Int} (hn : 1 ≤ n) : 0 ≤ (hand + 1) % (n : Int) ∧ (hand + 1) % (n : Int) < n := ⟨Int.emod_nonneg _ (by omega), Int.emod_lt_of_pos _ (by omega)⟩
theorem hunt1 {al : List Int} {n : Nat} (hn : 1 ≤ n) {a : Int} (ha : a ∈ al) : ∀ (d k : Nat) (bits : List Int) (hand : Int), 0 ≤ hand → hand < n → (hand + d) % n = a → bits.getD a.toNat 0 = 0 → d + 1 ≤ k → (hunt al n k bits hand).isSome = true
  | d, 0, _, _, _, _, _, _, h => absurd h (by omega)
  | 0, k + 1, bits, hand, h0, h1, e, z, _ => by
    have : a = hand := by
      rw [← e]
      show (hand + 0) % (n : Int) = hand
      rw [Int.add_zero]
      exact Int.emod_eq_of_lt h0 h1
    subst this
    unfold hunt
    rw [if_pos ha, if_pos z]
    rfl
  | d + 1, k + 1, bits, hand, h0, h1, e, z, h => by
    have hh := hand_ok (hand := hand) hn
    have e2 : ((hand + 1) % (n : Int) + (d : Nat)) % (n : Int) = a := by
      rw [Int.emod_add_emod, ← e]
      congr 1
      omega
    unfold hunt
    split
    · split
      · rfl
      · exact hunt1 hn ha d k _ _ hh.1 hh.2 e2 (set_get z) (by omega)
    · exact hunt1 hn ha d k _ _ hh.1 hh.2 e2 z (by omega)
theorem hunt2 {al : List Int} {n : Nat} (hn : 1 ≤ n) {a : Int} (ha : a ∈ al) : ∀ (d k : Nat) (bits : List Int) (hand : Int), bits.length = n → 0 ≤ hand → hand < n → (hand + d) % n = a → d + 1 + n ≤ k → (hunt al n k bits hand).isSome = true
  | d, 0, _, _, _, _, _, _, h => absurd h (by omega)
  | 0, k + 1, bits, hand, hl, h0, h1, e, h => by
    have : a = hand := by
      rw [← e]
      show (hand + 0) % (n : Int) = hand
      rw [Int.add_zero]
      exact Int.emod_eq_of_lt h0 h1
    subst this
    have hh := hand_ok (hand := a) hn
    unfold hunt
    rw [if_pos ha]
    split
    · rfl
    · refine hunt1 hn ha (n - 1) k _ _ hh.1 hh.2 ?_ ?_ (by omega)
      · rw [Int.emod_add_emod, show a + 1 + ((n - 1 : Nat) : Int) = a + (n : Int) by omega, Int.add_emod_right]
        exact Int.emod_eq_of_lt h0 h1
      · rw [List.getD_eq_getElem?_getD, List.getElem?_set_self (by omega)]
        rfl
  | d + 1, k + 1, bits, hand, hl, h0, h1, e, h => by
    have hh := hand_ok (hand := hand) hn
    have e2 : ((hand + 1) % (n : Int) + (d : Nat)) % (n : Int) = a := by
      rw [Int.emod_add_emod, ← e]
      congr 1
      omega
    unfold hunt
    split
    · split
      · rfl
      · exact hunt2 hn ha d k _ _ (by rw [List.length_set]; exact hl) hh.1 hh.2 e2 (by omega)
    · exact hunt2 hn ha d k _ _ hl hh.1 hh.2 e2 (by omega)
theorem hunt_all {al : List Int} {n : Nat} (hn : 1 ≤ n) {a : Int} (ha : a ∈ al) (a0 : 0 ≤ a) (a1 : a < n) {bits : List Int} {hand : Int} (hl : bits.length = n) (h0 : 0 ≤ hand) (h1 : hand < n) : ∃ r, hunt al n (2 * n) bits hand = some r := by
  have m0 := Int.emod_nonneg (a - hand) (show (n : Int) ≠ 0 by omega)
  have m1 := Int.emod_lt_of_pos (a - hand) (show (0 : Int) < n by omega)
  refine Option.isSome_iff_exists.mp (hunt2 hn ha ((a - hand) % (n : Int)).toNat (2 * n) bits hand hl h0 h1 ?_ (by omega))
  rw [Int.toNat_of_nonneg m0, Int.add_emod_emod, show hand + (a - hand) = a by omega]
  exact Int.emod_eq_of_lt a0 a1
theorem hunt_res {al : List Int} {n : Nat} (hn : 1 ≤ n) : ∀ (k : Nat) (bits : List Int) (hand : Int) (r : Int × List Int × Int), hunt al n k bits hand = some r → bits.length = n → 0 ≤ hand → hand < n → r.1 ∈ al ∧ r.2.1.length = n ∧ 0 ≤ r.2.2 ∧ r.2.2 < n
  | 0, _, _, _, h, _, _, _ => by cases h
  | k + 1, bits, hand, r, h, hl, h0, h1 => by
    have hh := hand_ok (hand := hand) hn
    unfold hunt at h
    split at h
    · rename_i hm
      split at h
      · cases h
        exact ⟨hm, hl, hh.1, hh.2⟩
      · exact hunt_res hn k _ _ r h (by rw [List.length_set]; exact hl) hh.1 hh.2
    · exact hunt_res hn k _ _ r h hl hh.1 hh.2

section

-- a condition of an operator
local macro_rules | `(tactic| walk_at "cond") => `(tactic| first
  | (show (0 : Int) < _; omega)
  | (show CDiv _ _; constructor <;> (first | decide | omega))
  | (show CMul _ _; first | (refine cmul_l ?_; constructor <;> (first | decide | omega)) | (refine cmul_r ?_; constructor <;> (first | decide | omega)))
  | (show CPow _ _; exact (by refine ⟨by decide, by decide, by decide⟩))
  | (show CDivW _ _; exact ⟨by decide, by decide +kernel⟩))
local macro_rules | `(tactic| walk_at "sq") => `(tactic| first | assumption | exact Dh.mono (same_upd (by assumption)) _ _ (by assumption) | exact .inl (.inl (.inl (by assumption))) | exact .inr (.inl (.inl (by assumption))) | exact SqL.of (by assumption) | exact .inl (by assumption) | exact .inl (SqL.of (by assumption)) | exact SqT.of (by assumption) | exact .inr (SqT.of (by assumption)))
local macro_rules | `(tactic| walk_at "st") => `(tactic| first
  | refine ⟨_, rfl, ?_⟩
  | refine ⟨_, _, rfl, rfl, ?_⟩
  | refine .inl ⟨_, rfl, ?_⟩
  | refine ⟨rfl, ?_⟩
  | refine ⟨_, _, rfl, by walk_at "sq", ?_⟩
  | refine ⟨.inl ⟨rfl, _, SqL.of (by assumption)⟩, ?_⟩
  | refine ⟨by walk_at "cond", ?_⟩
  | (refine' ifBT ?hh ?_; (case hh => first | rfl | assumption))
  | (refine' ifBF ?hh ?_; (case hh => first | rfl | assumption)))
local macro_rules | `(tactic| walk_at "go") => `(tactic| repeat walk_at "st")
local macro_rules | `(tactic| walk_at "yes") => `(tactic| (refine' ifT ?hh ?_; (case hh => first | rfl | decide +kernel)))
local macro_rules | `(tactic| walk_at "no") => `(tactic| (refine' ifF ?hh ?_; (case hh => first | decide +kernel | (intro z; cases z; done))))

/-! ### Chooser (as far as the kind "clock" goes) -/
abbrev s_Chooser___init__ : Stmt := inClass (topS 2) 0
theorem sc_Chooser___init__ : FnScope ["self", "kind", "frames"] ["self", "kind", "frames"] (C8.fnScope s_Chooser___init__) := C8.fnScope_by (by decide +kernel)
abbrev s_Chooser_filled : Stmt := inClass (topS 2) 1
theorem sc_Chooser_filled : FnScope ["self", "frame"] ["self", "frame"] (C8.fnScope s_Chooser_filled) := C8.fnScope_by (by decide +kernel)
abbrev s_Chooser_touched : Stmt := inClass (topS 2) 2
theorem sc_Chooser_touched : FnScope ["self", "frame"] ["self", "frame"] (C8.fnScope s_Chooser_touched) := C8.fnScope_by (by decide +kernel)
abbrev s_Chooser_emptied : Stmt := inClass (topS 2) 3
theorem sc_Chooser_emptied : FnScope ["self", "frame"] ["self", "frame"] (C8.fnScope s_Chooser_emptied) := C8.fnScope_by (by decide +kernel)
abbrev s_Chooser_choose : Stmt := inClass (topS 2) 4
theorem sc_Chooser_choose : FnScope ["self", "allowed"] ["self", "allowed"] (C8.fnScope s_Chooser_choose) := C8.fnScope_by (by decide +kernel)
abbrev s_Chooser__choose_by_hand : Stmt := inClass (topS 2) 5
theorem sc_Chooser__choose_by_hand : FnScope ["self", "allowed", "frame"] ["self", "allowed"] (C8.fnScope s_Chooser__choose_by_hand) := C8.fnScope_by (by decide +kernel)
structure STxt (K : PySem.W.Frag) (mg : Str → Option Value) (C : Addr) : Prop where
  cl : Cls K C
  n1 : NoAttr K C "_kind"
  n2 : NoAttr K C "_frames"
  n3 : NoAttr K C "_calls"
  n4 : NoAttr K C "_fill_calls"
  n5 : NoAttr K C "_use_calls"
  n6 : NoAttr K C "_bits"
  n7 : NoAttr K C "_hand"
  mgC : mg "Chooser" = some (.ref C)
structure ChAt (C : Addr) (H : Hp) (p fa ua ba dx : Addr) (kd : Str) (n : Nat) (calls hand : Int) (fl us bits : List Int) : Prop where
  g : H p = some (.ins C dx (chF kd n calls fa ua ba hand))
  f : H fa = some (.lst (fl.map V.int))
  u : H ua = some (.lst (us.map V.int))
  b : H ba = some (.lst (bits.map V.int))
  nd : fa ≠ ua ∧ fa ≠ ba ∧ ua ≠ ba
  lf : fl.length = n
  lu : us.length = n
  lb : bits.length = n
def But (H H' : Hp) (p : Addr) : Prop := ∀ b o, b ≠ p → H b = some o → H' b = some o
def ButL (l : List Addr) (H H' : Hp) : Prop := ∀ b o, b ∉ l → H b = some o → H' b = some o
theorem ButL.refl {l : List Addr} {H : Hp} : ButL l H H := fun _ _ _ e => e
theorem ButL.trans {l : List Addr} {H H1 H2 : Hp} (a : ButL l H H1) (b : ButL l H1 H2) : ButL l H H2 := fun c o n e => b c o n (a c o n e)
theorem ButL.mono {l l' : List Addr} {H H1 : Hp} (a : ButL l H H1) (h : ∀ x ∈ l, x ∈ l') : ButL l' H H1 := fun c o n e => a c o (fun z => n (h c z)) e
theorem ButL.put {l : List Addr} {H : Hp} {p : Addr} {o : HO} (h : p ∈ l) : ButL l H (upd H p o) := fun c o n e => by
  rw [upd_ne (fun z => n (by rw [z]; exact h))]
  exact e
theorem Same.but {l : List Addr} {H H1 : Hp} (s : Same H H1) : ButL l H H1 := fun c o _ e => s c o e
theorem ins_lst {H : Hp} {p q C dx : Addr} {fs : List (Str × V)} {xs : List V} (h : H p = some (.ins C dx fs)) (h2 : H q = some (.lst xs)) : p ≠ q := fun e => by
  rw [e, h2] at h
  cases h
theorem set_ints (ns : List Int) (i : Nat) (v : Int) : (ns.map V.int).set i (.int v) = (ns.set i v).map V.int := by rw [List.map_set]
theorem ix_ok {n : Nat} {i : Int} (h0 : 0 ≤ i) (h1 : i < n) : ixN n i = some i.toNat := by
  unfold ixN
  rw [if_pos h0, if_pos h1]
def spChI (C : Addr) : Sp := fun vs H Q _ => ∃ (p dx : Addr) (kd : Str) (n : Nat), vs = [.ref p, .str kd, .int n] ∧ H p = some (.ins C dx []) ∧ n ≤ 1000 ∧ ∀ fa ua ba H', ChAt C H' p fa ua ba dx kd n 0 0 (List.replicate n 0) (List.replicate n 0) (List.replicate n 0) → H fa = none → H ua = none → H ba = none → But H H' p → Q .non H'
def spTch (C : Addr) : Sp := fun vs H Q _ => ∃ (p fa ua ba dx : Addr) (kd : Str) (n : Nat) (calls hand fr : Int) (fl us bits : List Int), vs = [.ref p, .int fr] ∧ ChAt C H p fa ua ba dx kd n calls hand fl us bits ∧ 0 ≤ fr ∧ fr < n ∧
  ∀ H', ChAt C H' p fa ua ba dx kd n (calls + 1) hand fl (us.set fr.toNat (calls + 1)) (bits.set fr.toNat 1) → ButL [p, ua, ba] H H' → Q .non H'
def spFil (C : Addr) : Sp := fun vs H Q _ => ∃ (p fa ua ba dx : Addr) (kd : Str) (n : Nat) (calls hand fr : Int) (fl us bits : List Int), vs = [.ref p, .int fr] ∧ ChAt C H p fa ua ba dx kd n calls hand fl us bits ∧ 0 ≤ fr ∧ fr < n ∧
  ∀ H', ChAt C H' p fa ua ba dx kd n (calls + 1) hand (fl.set fr.toNat (calls + 1)) (us.set fr.toNat (calls + 1)) (bits.set fr.toNat 1) → ButL [p, fa, ua, ba] H H' → Q .non H'
def spEmp (C : Addr) : Sp := fun vs H Q _ => ∃ (p fa ua ba dx : Addr) (kd : Str) (n : Nat) (calls hand fr : Int) (fl us bits : List Int), vs = [.ref p, .int fr] ∧ ChAt C H p fa ua ba dx kd n calls hand fl us bits ∧ 0 ≤ fr ∧ fr < n ∧
  ∀ H', ChAt C H' p fa ua ba dx kd n calls hand fl us (bits.set fr.toNat 0) → ButL [ba] H H' → Q .non H'
def spHunt (C : Addr) (al? : Bool) : Sp := fun vs H Q _ => ∃ (p fa ua ba dx al : Addr) (kd : Str) (n k : Nat) (calls hand fr hand2 : Int) (fl us bits bits2 als : List Int), vs = [.ref p, .ref al] ∧ ChAt C H p fa ua ba dx kd n calls hand fl us bits ∧ (al? = true → kd = "clock") ∧
  H al = some (.lst (als.map V.int)) ∧ al ≠ ba ∧ 1 ≤ n ∧ n ≤ 1000 ∧ (∀ x ∈ als, 0 ≤ x ∧ x < n) ∧ 0 ≤ hand ∧ hand < n ∧ hunt als n k bits hand = some (fr, bits2, hand2) ∧
  ∀ H', ChAt C H' p fa ua ba dx kd n calls hand2 fl us bits2 → ButL [p, ba] H H' → Q (.int fr) H'
section
variable {P : Program} {w : World} {K : PySem.W.Frag} {mg : Str → Option Value} {base : Heap} {C : Addr}
theorem ok_emptied {f : Addr} {fd : FuncData} (F : C8.Fun K "emptied" "Chooser.emptied" s_Chooser_emptied f fd) (M : Meth K C "emptied" f) (b : Binds K fd ["self", "frame"] []) (S : STxt K mg C) : C8.Met P w K mg base 1 C "emptied" (spEmp C) [] := by
  refine C8.met0 S.cl M F b sc_Chooser_emptied (fun vs H Q E h => ?_) (fun cdv A outer s H vs Q E hr h => ?_)
  · obtain ⟨p, fa, ua, ba, dx, kd, n, calls, hand, fr, fl, us, bits, rfl, _⟩ := h
    rfl
  obtain ⟨p, fa, ua, ba, dx, kd, n, calls, hand, fr, fl, us, bits, rfl, hc, f0, f1, q⟩ := h
  refine ⟨_, (pss_one (ps_asg pe_int (pg_sub (pe_fld (pv 0) rfl) (pv 1) set_list))), ?_⟩
  have npb := ins_lst hc.g hc.b
  walk_at "go"
  refine ⟨_, _, _, _, _, rfl, hc.g, S.cl, S.n6, ch_bits, ?_⟩
  walk_at "go"
  refine ⟨ba, _, fr, _, rfl, rfl, hc.b, ix_ok f0 (by rw [List.length_map, hc.lb]; exact f1), ?_⟩
  rw [set_ints]
  exact q _ ⟨by rw [upd_ne npb]; exact hc.g, by rw [upd_ne hc.nd.2.1]; exact hc.f, by rw [upd_ne hc.nd.2.2]; exact hc.u, upd_same, hc.nd, hc.lf, hc.lu, by rw [List.length_set]; exact hc.lb⟩ (ButL.put List.mem_cons_self)
theorem ok_touched {f : Addr} {fd : FuncData} (F : C8.Fun K "touched" "Chooser.touched" s_Chooser_touched f fd) (M : Meth K C "touched" f) (b : Binds K fd ["self", "frame"] []) (S : STxt K mg C) : C8.Met P w K mg base 1 C "touched" (spTch C) [] := by
  refine C8.met0 S.cl M F b sc_Chooser_touched (fun vs H Q E h => ?_) (fun cdv A outer s H vs Q E hr h => ?_)
  · obtain ⟨p, fa, ua, ba, dx, kd, n, calls, hand, fr, fl, us, bits, rfl, _⟩ := h
    rfl
  obtain ⟨p, fa, ua, ba, dx, kd, n, calls, hand, fr, fl, us, bits, rfl, hc, f0, f1, q⟩ := h
  refine ⟨_, (pss_cons (ps_fldaug (pv 0) pe_int in_add)
      (pss_cons (ps_asg (pe_fld (pv 0) rfl) (pg_sub (pe_fld (pv 0) rfl) (pv 1) set_list))
      (pss_one (ps_asg pe_int (pg_sub (pe_fld (pv 0) rfl) (pv 1) set_list))))), ?_⟩
  have npb := ins_lst hc.g hc.b
  have npu := ins_lst hc.g hc.u
  have npf := ins_lst hc.g hc.f
  walk_at "go"
  refine ⟨p, C, dx, _, _, rfl, hc.g, S.cl, S.n3, ch_calls, ?_⟩
  walk_at "go"
  refine ⟨dx, _, hc.g, (by show 7 < 1000; decide), ?_⟩
  rw [ch_pcalls]
  have h1 : ChAt C (upd H p (HO.ins C dx (chF kd n (calls + 1) fa ua ba hand))) p fa ua ba dx kd n (calls + 1) hand fl us bits := ⟨upd_same, by rw [upd_ne npf.symm]; exact hc.f, by rw [upd_ne npu.symm]; exact hc.u, by rw [upd_ne npb.symm]; exact hc.b, hc.nd, hc.lf, hc.lu, hc.lb⟩
  have b1 := ButL.put (l := [p, ua, ba]) (H := H) (p := p) (o := HO.ins C dx (chF kd n (calls + 1) fa ua ba hand)) List.mem_cons_self
  show _
  generalize upd H p (HO.ins C dx (chF kd n (calls + 1) fa ua ba hand)) = H1 at *
  clear hc
  walk_at "go"
  refine ⟨_, _, _, _, _, rfl, h1.g, S.cl, S.n3, ch_calls, ?_⟩
  walk_at "go"
  refine ⟨_, _, _, _, _, rfl, h1.g, S.cl, S.n5, ch_uses, ?_⟩
  walk_at "go"
  refine ⟨ua, _, fr, _, rfl, rfl, h1.u, ix_ok f0 (by rw [List.length_map, h1.lu]; exact f1), ?_⟩
  rw [set_ints]
  have h2 : ChAt C (upd H1 ua (HO.lst ((us.set fr.toNat (calls + 1)).map V.int))) p fa ua ba dx kd n (calls + 1) hand fl (us.set fr.toNat (calls + 1)) bits := ⟨by rw [upd_ne npu]; exact h1.g, by rw [upd_ne h1.nd.1]; exact h1.f, upd_same, by rw [upd_ne h1.nd.2.2.symm]; exact h1.b, h1.nd, h1.lf, by rw [List.length_set]; exact h1.lu, h1.lb⟩
  have b2 := b1.trans (ButL.put (l := [p, ua, ba]) (H := H1) (p := ua) (o := HO.lst ((us.set fr.toNat (calls + 1)).map V.int)) (by simp))
  show _
  generalize upd H1 ua (HO.lst ((us.set fr.toNat (calls + 1)).map V.int)) = H2 at *
  clear h1
  walk_at "go"
  refine ⟨_, _, _, _, _, rfl, h2.g, S.cl, S.n6, ch_bits, ?_⟩
  walk_at "go"
  refine ⟨ba, _, fr, _, rfl, rfl, h2.b, ix_ok f0 (by rw [List.length_map, h2.lb]; exact f1), ?_⟩
  rw [set_ints]
  exact q _ ⟨by rw [upd_ne npb]; exact h2.g, by rw [upd_ne h2.nd.2.1]; exact h2.f, by rw [upd_ne h2.nd.2.2]; exact h2.u, upd_same, h2.nd, h2.lf, h2.lu, by rw [List.length_set]; exact h2.lb⟩ (b2.trans (ButL.put (by simp)))
theorem ok_filled {f : Addr} {fd : FuncData} (F : C8.Fun K "filled" "Chooser.filled" s_Chooser_filled f fd) (M : Meth K C "filled" f) (b : Binds K fd ["self", "frame"] []) (S : STxt K mg C) (m_touched : C8.Met P w K mg base 1 C "touched" (spTch C) []) : C8.Met P w K mg base 2 C "filled" (spFil C) [] := by
  refine C8.met0 S.cl M F b sc_Chooser_filled (fun vs H Q E h => ?_) (fun cdv A outer s H vs Q E hr h => ?_)
  · obtain ⟨p, fa, ua, ba, dx, kd, n, calls, hand, fr, fl, us, bits, rfl, _⟩ := h
    rfl
  obtain ⟨p, fa, ua, ba, dx, kd, n, calls, hand, fr, fl, us, bits, rfl, hc, f0, f1, q⟩ := h
  refine ⟨_, (pss_cons (ps_expr (C8.pe_mt m_touched hr (by omega) (pv 0) (pa_cons (pv 1) pa_nil)))
      (pss_one (ps_asg (pe_fld (pv 0) rfl) (pg_sub (pe_fld (pv 0) rfl) (pv 1) set_list)))), ?_⟩
  walk_at "go"
  refine ⟨p, dx, _, rfl, hc.g, ch_no1, ?_⟩
  walk_at "go"
  refine ⟨p, fa, ua, ba, dx, kd, n, calls, hand, fr, fl, us, bits, rfl, hc, f0, f1, fun H1 h1 b1 => ?_⟩
  have npf := ins_lst h1.g h1.f
  walk_at "go"
  refine ⟨_, _, _, _, _, rfl, h1.g, S.cl, S.n3, ch_calls, ?_⟩
  walk_at "go"
  refine ⟨_, _, _, _, _, rfl, h1.g, S.cl, S.n4, ch_fills, ?_⟩
  walk_at "go"
  refine ⟨fa, _, fr, _, rfl, rfl, h1.f, ix_ok f0 (by rw [List.length_map, h1.lf]; exact f1), ?_⟩
  rw [set_ints]
  exact q _ ⟨by rw [upd_ne npf]; exact h1.g, upd_same, by rw [upd_ne h1.nd.1.symm]; exact h1.u, by rw [upd_ne h1.nd.2.1.symm]; exact h1.b, h1.nd, by rw [List.length_set]; exact h1.lf, h1.lu, h1.lb⟩ ((b1.mono (by simp)).trans (ButL.put (by simp)))
end

end

/-! ### ints in lists -/
theorem inV_ints (x : Int) (ns : List Int) : inV (.int x) (ns.map V.int) = decide (x ∈ ns) := by
  unfold inV
  induction ns with
  | nil => simp
  | cons n ns ih =>
    rw [List.map_cons, List.any_cons, ih]
    show ((n == x) || decide (x ∈ ns)) = _
    by_cases h : n = x
    · subst h
      simp
    · have h2 : (n == x) = false := by simpa using h
      rw [h2, Bool.false_or]
      have h3 : ¬ x = n := fun e => h e.symm
      simp [h3]
theorem flat_ints : ∀ ns : List Int, (ns.map V.int).all flatV = true
  | [] => rfl
  | _ :: ns => by
    rw [List.map_cons, List.all_cons, flat_ints ns]
    rfl

section

-- a condition of an operator
local macro_rules | `(tactic| walk_at "cond") => `(tactic| first
  | (show (0 : Int) < _; omega)
  | (show CDiv _ _; constructor <;> (first | decide | omega))
  | (show CMul _ _; first | (refine cmul_l ?_; constructor <;> (first | decide | omega)) | (refine cmul_r ?_; constructor <;> (first | decide | omega)))
  | (show CPow _ _; exact (by refine ⟨by decide, by decide, by decide⟩))
  | (show CDivW _ _; exact ⟨by decide, by decide +kernel⟩))
local macro_rules | `(tactic| walk_at "sq") => `(tactic| first | assumption | exact Dh.mono (same_upd (by assumption)) _ _ (by assumption) | exact .inl (.inl (.inl (by assumption))) | exact .inr (.inl (.inl (by assumption))) | exact SqL.of (by assumption) | exact .inl (by assumption) | exact .inl (SqL.of (by assumption)) | exact SqT.of (by assumption) | exact .inr (SqT.of (by assumption)))
local macro_rules | `(tactic| walk_at "st") => `(tactic| first
  | refine ⟨_, rfl, ?_⟩
  | refine ⟨_, _, rfl, rfl, ?_⟩
  | refine .inl ⟨_, rfl, ?_⟩
  | refine ⟨rfl, ?_⟩
  | refine ⟨_, _, rfl, by walk_at "sq", ?_⟩
  | refine ⟨.inl ⟨rfl, _, SqL.of (by assumption)⟩, ?_⟩
  | refine ⟨by walk_at "cond", ?_⟩
  | (refine' ifBT ?hh ?_; (case hh => first | rfl | assumption))
  | (refine' ifBF ?hh ?_; (case hh => first | rfl | assumption)))
local macro_rules | `(tactic| walk_at "go") => `(tactic| repeat walk_at "st")
local macro_rules | `(tactic| walk_at "yes") => `(tactic| (refine' ifT ?hh ?_; (case hh => first | rfl | decide +kernel)))
local macro_rules | `(tactic| walk_at "no") => `(tactic| (refine' ifF ?hh ?_; (case hh => first | decide +kernel | (intro z; cases z; done))))

/-! ### Chooser: __init__, _choose_by_hand, choose -/
theorem rep_ints : ∀ n : Nat, (List.replicate n [V.int 0]).flatten = (List.replicate n (0 : Int)).map V.int
  | 0 => rfl
  | n + 1 => by
    rw [List.replicate_succ, List.flatten_cons, rep_ints n, List.replicate_succ]
    rfl
theorem But.trans {H H1 H2 : Hp} {p : Addr} (a : But H H1 p) (b : But H1 H2 p) : But H H2 p := fun c o n e => b c o n (a c o n e)
theorem But.put {H : Hp} {p : Addr} {o : HO} : But H (upd H p o) p := fun c _ n e => by
  rw [upd_ne n]
  exact e
theorem Same.one {H H1 : Hp} {p : Addr} (s : Same H H1) : But H H1 p := fun c o _ e => s c o e
section
variable {P : Program} {w : World} {K : PySem.W.Frag} {mg : Str → Option Value} {base : Heap} {C : Addr}
theorem ok_init {f : Addr} {fd : FuncData} (F : C8.Fun K "__init__" "Chooser.__init__" s_Chooser___init__ f fd) (M : Mk K C f) (b : Binds K fd ["self", "kind", "frames"] []) (S : STxt K mg C) : C8.Mak P w K mg base 1 "Chooser" C (spChI C) [] := by
  refine C8.mak0 M S.mgC F b .nil sc_Chooser___init__ (fun vs H Q E h => ?_) (fun cdv A outer s H vs Q E hr h => ?_)
  · obtain ⟨p, dx, kd, n, rfl, _⟩ := h
    rfl
  obtain ⟨p, dx, kd, n, rfl, hp, hn, q⟩ := h
  refine ⟨_, (pss_cons (ps_fld (pv 0) (pv 1) rfl)
      (pss_cons (ps_fld (pv 0) (pv 2) rfl)
      (pss_cons (ps_fld (pv 0) pe_int rfl)
      (pss_cons (ps_fld (pv 0) (pe_op op_rep (pe_lst (pa_cons pe_int pa_nil)) (pv 2)) rfl)
      (pss_cons (ps_fld (pv 0) (pe_op op_rep (pe_lst (pa_cons pe_int pa_nil)) (pv 2)) rfl)
      (pss_cons (ps_fld (pv 0) (pe_op op_rep (pe_lst (pa_cons pe_int pa_nil)) (pv 2)) rfl)
      (pss_one (ps_fld (pv 0) pe_int rfl)))))))), ?_⟩
  walk_at "go"
  refine ⟨p, C, dx, _, rfl, hp, S.cl, S.n1, (by show 0 < 1000; decide), ?_⟩
  have g1 := upd_same (H := H) (a := p) (o := HO.ins C dx (putF "_kind" (V.str kd) []))
  have b1 := But.put (H := H) (p := p) (o := HO.ins C dx (putF "_kind" (V.str kd) []))
  show _
  generalize upd H p (HO.ins C dx (putF "_kind" (V.str kd) [])) = H1 at *
  walk_at "go"
  refine ⟨p, C, dx, _, rfl, g1, S.cl, S.n2, (by show 1 < 1000; decide), ?_⟩
  have g2 := upd_same (H := H1) (a := p) (o := HO.ins C dx (putF "_frames" (V.int n) (putF "_kind" (V.str kd) [])))
  have b2 := b1.trans (But.put (H := H1) (p := p) (o := HO.ins C dx (putF "_frames" (V.int n) (putF "_kind" (V.str kd) []))))
  show _
  generalize upd H1 p (HO.ins C dx (putF "_frames" (V.int n) (putF "_kind" (V.str kd) []))) = H2 at *
  walk_at "go"
  refine ⟨p, C, dx, _, rfl, g2, S.cl, S.n3, (by show 2 < 1000; decide), ?_⟩
  have g3 := upd_same (H := H2) (a := p) (o := HO.ins C dx (putF "_calls" (V.int 0) (putF "_frames" (V.int n) (putF "_kind" (V.str kd) []))))
  have b3 := b2.trans (But.put (H := H2) (p := p) (o := HO.ins C dx (putF "_calls" (V.int 0) (putF "_frames" (V.int n) (putF "_kind" (V.str kd) [])))))
  show _
  generalize upd H2 p (HO.ins C dx (putF "_calls" (V.int 0) (putF "_frames" (V.int n) (putF "_kind" (V.str kd) [])))) = H3 at *
  generalize hf3 : (putF "_calls" (V.int 0) (putF "_frames" (V.int n) (putF "_kind" (V.str kd) []))) = f3 at *
  have l3 : f3.length = 3 := by
    rw [← hf3]
    kernel_rfl
  clear g1 g2 b1 b2
  walk_at "go"
  refine ⟨sz, fun l1 nl1 => ?_⟩
  have s4 := same_upd (o := HO.lst [V.int 0]) nl1
  have gl1 := upd_same (H := H3) (a := l1) (o := HO.lst [V.int 0])
  generalize upd H3 l1 (HO.lst [V.int 0]) = H4 at *
  walk_at "go"
  refine ⟨l1, n, [V.int 0], rfl, rfl, gl1, by omega, by omega, (by rw [Int.toNat_natCast, List.length_singleton, sizeLine_eq]; omega), fun fa nfa => ?_⟩
  rw [Int.toNat_natCast, rep_ints]
  have s5 := s4.trans (same_upd (o := HO.lst ((List.replicate n (0 : Int)).map V.int)) nfa)
  have nfa3 := s4.free nfa
  have gfa := upd_same (H := H4) (a := fa) (o := HO.lst ((List.replicate n (0 : Int)).map V.int))
  generalize upd H4 fa (HO.lst ((List.replicate n (0 : Int)).map V.int)) = H5 at *
  have g5 := s5 _ _ g3
  have b5 := b3.trans (Same.one (p := p) s5)
  have npf := ins_lst g5 gfa
  have nfa0 : H fa = none := by
    cases e : H fa with
    | none => rfl
    | some o =>
      have := b3 fa o npf.symm e
      rw [nfa3] at this
      cases this
  clear s4 gl1 nfa nfa3 nl1
  walk_at "go"
  refine ⟨p, C, dx, _, rfl, g5, S.cl, S.n4, (by rw [l3]; decide), ?_⟩
  have g6 := upd_same (H := H5) (a := p) (o := HO.ins C dx (putF "_fill_calls" (V.ref fa) f3))
  have b6 := b5.trans (But.put (H := H5) (p := p) (o := HO.ins C dx (putF "_fill_calls" (V.ref fa) f3)))
  have gfa6 : (upd H5 p (HO.ins C dx (putF "_fill_calls" (V.ref fa) f3))) fa = some (.lst ((List.replicate n (0 : Int)).map V.int)) := by
    rw [upd_ne npf.symm]
    exact gfa
  show _
  generalize upd H5 p (HO.ins C dx (putF "_fill_calls" (V.ref fa) f3)) = H6 at *
  generalize hf4 : putF "_fill_calls" (V.ref fa) f3 = f4 at *
  have l4 : f4.length = 4 := by
    rw [← hf4, ← hf3]
    kernel_rfl
  clear g3 g5 gfa b3 b5
  walk_at "go"
  refine ⟨sz, fun l2 nl2 => ?_⟩
  have s7 := same_upd (o := HO.lst [V.int 0]) nl2
  have gl2 := upd_same (H := H6) (a := l2) (o := HO.lst [V.int 0])
  generalize upd H6 l2 (HO.lst [V.int 0]) = H7 at *
  walk_at "go"
  refine ⟨l2, n, [V.int 0], rfl, rfl, gl2, by omega, by omega, (by rw [Int.toNat_natCast, List.length_singleton, sizeLine_eq]; omega), fun ua nua => ?_⟩
  rw [Int.toNat_natCast, rep_ints]
  have s8 := s7.trans (same_upd (o := HO.lst ((List.replicate n (0 : Int)).map V.int)) nua)
  have nua6 := s7.free nua
  have gua := upd_same (H := H7) (a := ua) (o := HO.lst ((List.replicate n (0 : Int)).map V.int))
  generalize upd H7 ua (HO.lst ((List.replicate n (0 : Int)).map V.int)) = H8 at *
  have g8 := s8 _ _ g6
  have gfa8 := s8 _ _ gfa6
  have nfu : fa ≠ ua := ne_of_none gfa6 nua6
  have b8 := b6.trans (Same.one (p := p) s8)
  have npu := ins_lst g8 gua
  have nua0 : H ua = none := by
    cases e : H ua with
    | none => rfl
    | some o =>
      have := b6 ua o npu.symm e
      rw [nua6] at this
      cases this
  clear s7 gl2 nua nua6 nl2
  walk_at "go"
  refine ⟨p, C, dx, _, rfl, g8, S.cl, S.n5, (by rw [l4]; decide), ?_⟩
  have g9 := upd_same (H := H8) (a := p) (o := HO.ins C dx (putF "_use_calls" (V.ref ua) f4))
  have b9 := b8.trans (But.put (H := H8) (p := p) (o := HO.ins C dx (putF "_use_calls" (V.ref ua) f4)))
  have gfa9 : (upd H8 p (HO.ins C dx (putF "_use_calls" (V.ref ua) f4))) fa = some (.lst ((List.replicate n (0 : Int)).map V.int)) := by
    rw [upd_ne npf.symm]
    exact gfa8
  have gua9 : (upd H8 p (HO.ins C dx (putF "_use_calls" (V.ref ua) f4))) ua = some (.lst ((List.replicate n (0 : Int)).map V.int)) := by
    rw [upd_ne npu.symm]
    exact gua
  show _
  generalize upd H8 p (HO.ins C dx (putF "_use_calls" (V.ref ua) f4)) = H9 at *
  generalize hf5 : putF "_use_calls" (V.ref ua) f4 = f5 at *
  have l5 : f5.length = 5 := by
    rw [← hf5, ← hf4, ← hf3]
    kernel_rfl
  clear g6 g8 gfa8 gfa6 gua b6 b8
  walk_at "go"
  refine ⟨sz, fun l2 nl2 => ?_⟩
  have s10 := same_upd (o := HO.lst [V.int 0]) nl2
  have gl2 := upd_same (H := H9) (a := l2) (o := HO.lst [V.int 0])
  generalize upd H9 l2 (HO.lst [V.int 0]) = H10 at *
  walk_at "go"
  refine ⟨l2, n, [V.int 0], rfl, rfl, gl2, by omega, by omega, (by rw [Int.toNat_natCast, List.length_singleton, sizeLine_eq]; omega), fun ba nba => ?_⟩
  rw [Int.toNat_natCast, rep_ints]
  have s11 := s10.trans (same_upd (o := HO.lst ((List.replicate n (0 : Int)).map V.int)) nba)
  have nba9 := s10.free nba
  have gba := upd_same (H := H10) (a := ba) (o := HO.lst ((List.replicate n (0 : Int)).map V.int))
  generalize upd H10 ba (HO.lst ((List.replicate n (0 : Int)).map V.int)) = H11 at *
  have g11 := s11 _ _ g9
  have gfa11 := s11 _ _ gfa9
  have gua11 := s11 _ _ gua9
  have nfb : fa ≠ ba := ne_of_none gfa9 nba9
  have nub : ua ≠ ba := ne_of_none gua9 nba9
  have b11 := b9.trans (Same.one (p := p) s11)
  have npb := ins_lst g11 gba
  have nba0 : H ba = none := by
    cases e : H ba with
    | none => rfl
    | some o =>
      have := b9 ba o npb.symm e
      rw [nba9] at this
      cases this
  clear s10 gl2 nba nba9 nl2
  walk_at "go"
  refine ⟨p, C, dx, _, rfl, g11, S.cl, S.n6, (by rw [l5]; decide), ?_⟩
  have g12 := upd_same (H := H11) (a := p) (o := HO.ins C dx (putF "_bits" (V.ref ba) f5))
  have b12 := b11.trans (But.put (H := H11) (p := p) (o := HO.ins C dx (putF "_bits" (V.ref ba) f5)))
  have gfa12 : (upd H11 p (HO.ins C dx (putF "_bits" (V.ref ba) f5))) fa = some (.lst ((List.replicate n (0 : Int)).map V.int)) := by
    rw [upd_ne npf.symm]
    exact gfa11
  have gua12 : (upd H11 p (HO.ins C dx (putF "_bits" (V.ref ba) f5))) ua = some (.lst ((List.replicate n (0 : Int)).map V.int)) := by
    rw [upd_ne npu.symm]
    exact gua11
  have gba12 : (upd H11 p (HO.ins C dx (putF "_bits" (V.ref ba) f5))) ba = some (.lst ((List.replicate n (0 : Int)).map V.int)) := by
    rw [upd_ne npb.symm]
    exact gba
  show _
  generalize upd H11 p (HO.ins C dx (putF "_bits" (V.ref ba) f5)) = H12 at *
  generalize hf6 : putF "_bits" (V.ref ba) f5 = f6 at *
  have l6 : f6.length = 6 := by
    rw [← hf6, ← hf5, ← hf4, ← hf3]
    kernel_rfl
  walk_at "go"
  refine ⟨p, C, dx, _, rfl, g12, S.cl, S.n7, (by rw [l6]; decide), ?_⟩
  have ef : putF "_hand" (V.int 0) f6 = chF kd n 0 fa ua ba 0 := by
    rw [← hf6, ← hf5, ← hf4, ← hf3]
    exact ch_make
  rw [ef]
  have rl : (List.replicate n (0 : Int)).length = n := List.length_replicate
  exact q fa ua ba _ ⟨upd_same, by rw [upd_ne npf.symm]; exact gfa12, by rw [upd_ne npu.symm]; exact gua12, by rw [upd_ne npb.symm]; exact gba12, ⟨nfu, nfb, nub⟩, rl, rl, rl⟩ nfa0 nua0 nba0 (b12.trans But.put)
end

end

section

-- a condition of an operator
local macro_rules | `(tactic| walk_at "cond") => `(tactic| first
  | (show (0 : Int) < _; omega)
  | (show CDiv _ _; constructor <;> (first | decide | omega))
  | (show CMul _ _; first | (refine cmul_l ?_; constructor <;> (first | decide | omega)) | (refine cmul_r ?_; constructor <;> (first | decide | omega)))
  | (show CPow _ _; exact (by refine ⟨by decide, by decide, by decide⟩))
  | (show CDivW _ _; exact ⟨by decide, by decide +kernel⟩))
local macro_rules | `(tactic| walk_at "sq") => `(tactic| first | assumption | exact Dh.mono (same_upd (by assumption)) _ _ (by assumption) | exact .inl (.inl (.inl (by assumption))) | exact .inr (.inl (.inl (by assumption))) | exact SqL.of (by assumption) | exact .inl (by assumption) | exact .inl (SqL.of (by assumption)) | exact SqT.of (by assumption) | exact .inr (SqT.of (by assumption)))
local macro_rules | `(tactic| walk_at "st") => `(tactic| first
  | refine ⟨_, rfl, ?_⟩
  | refine ⟨_, _, rfl, rfl, ?_⟩
  | refine .inl ⟨_, rfl, ?_⟩
  | refine ⟨rfl, ?_⟩
  | refine ⟨_, _, rfl, by walk_at "sq", ?_⟩
  | refine ⟨.inl ⟨rfl, _, SqL.of (by assumption)⟩, ?_⟩
  | refine ⟨by walk_at "cond", ?_⟩
  | (refine' ifBT ?hh ?_; (case hh => first | rfl | assumption))
  | (refine' ifBF ?hh ?_; (case hh => first | rfl | assumption)))
local macro_rules | `(tactic| walk_at "go") => `(tactic| repeat walk_at "st")
local macro_rules | `(tactic| walk_at "yes") => `(tactic| (refine' ifT ?hh ?_; (case hh => first | rfl | decide +kernel)))
local macro_rules | `(tactic| walk_at "no") => `(tactic| (refine' ifF ?hh ?_; (case hh => first | decide +kernel | (intro z; cases z; done))))

/-! ### Chooser._choose_by_hand -/
section
variable {P : Program} {w : World} {K : PySem.W.Frag} {mg : Str → Option Value} {base : Heap} {C : Addr}
theorem ok_hand {f : Addr} {fd : FuncData} (F : C8.Fun K "_choose_by_hand" "Chooser._choose_by_hand" s_Chooser__choose_by_hand f fd) (M : Meth K C "_choose_by_hand" f) (b : Binds K fd ["self", "allowed"] []) (S : STxt K mg C) : C8.Met P w K mg base 1 C "_choose_by_hand" (spHunt C false) [] := by
  refine C8.met0 S.cl M F b sc_Chooser__choose_by_hand (fun vs H Q E h => ?_) (fun cdv A outer s H vs Q E hr h => ?_)
  · obtain ⟨p, fa, ua, ba, dx, al, kd, n, k, calls, hand, fr, hand2, fl, us, bits, bits2, als, rfl, _⟩ := h
    rfl
  obtain ⟨p, fa, ua, ba, dx, al, kd, n, k, calls, hand, fr, hand2, fl, us, bits, bits2, als, rfl, hc, _, ga, nab, n1, n2, hal, h0, h1, hh, q⟩ := h
  refine ⟨_, (pss_one (ps_mk (ps_while PassesOwn.never (pt_val pe_bl)
      (pss_cons (ps_set (i := 2) sc_Chooser__choose_by_hand.nd rfl (.inl rfl) (pe_fld (pv 0) rfl))
      (pss_cons (ps_fld (pv 0) (pe_op op_mod (pe_op op_add (pv 2) pe_int) (pe_fld (pv 0) rfl)) rfl)
      (pss_one (ps_mk (ps_if (pt_cmpR (inQ K rfl) (pv 2) (pv 1) (by rfl))
      (pss_cons (ps_mk (ps_if (pt_cmpR op_eq (pe_ix (ixL K rfl) (pe_fld (pv 0) rfl) (pv 2) (fun _ _ => rfl)) pe_int (nomark _))
      (pss_one (ps_ret (pv 2)))
      pss_nil))
      (pss_one (ps_asg pe_int (pg_sub (pe_fld (pv 0) rfl) (pv 2) set_list))))
      pss_nil)))))))), ?_⟩
  have nal : al ∉ [p, ba] := by
    intro z
    rcases List.mem_cons.mp z with e | z
    · exact ins_lst hc.g ga e.symm
    · exact nab (List.mem_singleton.mp z)
  refine un ?_
  refine ⟨fun m σ H' => Ob (ButL [p, ba] H H' ∧ ∃ (hand : Int) (bits : List Int) (y2 : Option V), ChAt C H' p fa ua ba dx kd n calls hand fl us bits ∧ 0 ≤ hand ∧ hand < n ∧ hunt als n m bits hand = some (fr, bits2, hand2) ∧ σ = [sR p, sR al, y2]), ⟨k, ob ⟨ButL.refl, hand, bits, none, hc, h0, h1, hh, rfl⟩⟩, ?_⟩
  clear hc h0 h1 hh hand bits
  intro m σ H1 h
  obtain ⟨b1, hand, bits, y2, hc, h0, h1, hh, rfl⟩ := unob h
  clear h
  obtain ⟨m, rfl⟩ : ∃ m', m = m' + 1 := by
    cases m with
    | zero => cases hh
    | succ m => exact ⟨m, rfl⟩
  have npb := ins_lst hc.g hc.b
  have npf := ins_lst hc.g hc.f
  have npu := ins_lst hc.g hc.u
  have hn := hand_ok (hand := hand) n1
  walk_at "go"
  refine ⟨_, fun _ _ z => z, ?_⟩
  walk_at "go"
  refine ⟨_, _, _, _, _, rfl, hc.g, S.cl, S.n7, ch_hand, ?_⟩
  walk_at "go"
  refine ⟨_, _, _, _, _, rfl, hc.g, S.cl, S.n2, ch_frames, ?_⟩
  have n0 : (0 : Int) < n := by omega
  walk_at "go"
  refine ⟨p, C, dx, _, rfl, hc.g, S.cl, S.n7, (by show 7 < 1000; decide), ?_⟩
  rw [ch_phand]
  have h1' : ChAt C (upd H1 p (HO.ins C dx (chF kd n calls fa ua ba ((hand + 1) % n)))) p fa ua ba dx kd n calls ((hand + 1) % n) fl us bits := ⟨upd_same, by rw [upd_ne npf.symm]; exact hc.f, by rw [upd_ne npu.symm]; exact hc.u, by rw [upd_ne npb.symm]; exact hc.b, hc.nd, hc.lf, hc.lu, hc.lb⟩
  have b2 := b1.trans (ButL.put (l := [p, ba]) (H := H1) (p := p) (o := HO.ins C dx (chF kd n calls fa ua ba ((hand + 1) % n))) List.mem_cons_self)
  show _
  generalize upd H1 p (HO.ins C dx (chF kd n calls fa ua ba ((hand + 1) % n))) = H2 at *
  clear hc b1
  have ga2 := b2 _ _ nal ga
  unfold hunt at hh
  refine un ?_
  walk_at "go"
  refine ⟨flat_ints _, ?_⟩
  rw [inV_ints]
  walk_at "go"
  refine ifD (fun c => ?_) (fun c => ?_)
  · rw [if_pos c] at hh
    have hb := hal hand c
    have ab : atI (bits.map V.int) hand = some (.int (bits.getD hand.toNat 0)) := atI_getD h0 (by rw [h1'.lb]; exact h1)
    walk_at "go"
    refine jnS (M := fun σ H' => bits.getD hand.toNat 0 ≠ 0 ∧ H' = H2 ∧ σ = [sR p, sR al, sI hand]) ?_ (fun N2 k2 => ?_)
    rotate_left
    · walk_at "go"
      refine ⟨_, _, _, _, _, rfl, h1'.g, S.cl, S.n6, ch_bits, ?_⟩
      walk_at "go"
      refine ⟨_, _, _, _, rfl, rfl, SqL.of h1'.b, ab, ?_⟩
      walk_at "go"
      refine ifEq (fun c2 => ?_) (fun c2 => ?_)
      · rw [if_pos c2] at hh
        cases hh
        walk_at "go"
        exact q _ h1' b2
      · exact k2 _ _ ⟨c2, rfl, rfl⟩
    rintro σ H3 ⟨c2, e3, rfl⟩
    subst e3
    rw [if_neg c2] at hh
    walk_at "go"
    refine ⟨_, _, _, _, _, rfl, h1'.g, S.cl, S.n6, ch_bits, ?_⟩
    walk_at "go"
    refine ⟨ba, _, hand, _, rfl, rfl, h1'.b, ix_ok h0 (by rw [List.length_map, h1'.lb]; exact h1), ?_⟩
    rw [set_ints]
    refine ⟨m, Nat.lt_succ_self _, ob ⟨b2.trans (ButL.put (by simp)), _, bits.set hand.toNat 0, _, ⟨by rw [upd_ne npb]; exact h1'.g, by rw [upd_ne h1'.nd.2.1]; exact h1'.f, by rw [upd_ne h1'.nd.2.2]; exact h1'.u, upd_same, h1'.nd, h1'.lf, h1'.lu, by rw [List.length_set]; exact h1'.lb⟩, hn.1, hn.2, hh, rfl⟩⟩
  · rw [if_neg c] at hh
    exact ⟨m, Nat.lt_succ_self _, ob ⟨b2, _, bits, _, h1', hn.1, hn.2, hh, rfl⟩⟩
end

end

section

-- a condition of an operator
local macro_rules | `(tactic| walk_at "cond") => `(tactic| first
  | (show (0 : Int) < _; omega)
  | (show CDiv _ _; constructor <;> (first | decide | omega))
  | (show CMul _ _; first | (refine cmul_l ?_; constructor <;> (first | decide | omega)) | (refine cmul_r ?_; constructor <;> (first | decide | omega)))
  | (show CPow _ _; exact (by refine ⟨by decide, by decide, by decide⟩))
  | (show CDivW _ _; exact ⟨by decide, by decide +kernel⟩))
local macro_rules | `(tactic| walk_at "sq") => `(tactic| first | assumption | exact Dh.mono (same_upd (by assumption)) _ _ (by assumption) | exact .inl (.inl (.inl (by assumption))) | exact .inr (.inl (.inl (by assumption))) | exact SqL.of (by assumption) | exact .inl (by assumption) | exact .inl (SqL.of (by assumption)) | exact SqT.of (by assumption) | exact .inr (SqT.of (by assumption)))
local macro_rules | `(tactic| walk_at "st") => `(tactic| first
  | refine ⟨_, rfl, ?_⟩
  | refine ⟨_, _, rfl, rfl, ?_⟩
  | refine .inl ⟨_, rfl, ?_⟩
  | refine ⟨rfl, ?_⟩
  | refine ⟨_, _, rfl, by walk_at "sq", ?_⟩
  | refine ⟨.inl ⟨rfl, _, SqL.of (by assumption)⟩, ?_⟩
  | refine ⟨by walk_at "cond", ?_⟩
  | (refine' ifBT ?hh ?_; (case hh => first | rfl | assumption))
  | (refine' ifBF ?hh ?_; (case hh => first | rfl | assumption)))
local macro_rules | `(tactic| walk_at "go") => `(tactic| repeat walk_at "st")
local macro_rules | `(tactic| walk_at "yes") => `(tactic| (refine' ifT ?hh ?_; (case hh => first | rfl | decide +kernel)))
local macro_rules | `(tactic| walk_at "no") => `(tactic| (refine' ifF ?hh ?_; (case hh => first | decide +kernel | (intro z; cases z; done))))

/-! ### Chooser.choose, of all kinds -/
/-- a method whose code object is known -/
theorem metC {P : Program} {w : World} {K : PySem.W.Frag} {mg : Str → Option Value} {base : Heap} {m qual : Str} {C f c : Addr} {st : Stmt} {fd : FuncData} {N ps : List Str} {k : Nat} {sp : Sp} (cl : Cls K C) (me : Meth K C m f)
    (F : ∃ (oc : Value) (od : Option Addr) (dV kV doc pm : Value) (an : Option Addr) (ct : Value) (osl : Array (Option Value)), fd = PySem.W.fnOf m qual (C8.fnArgs st) (C8.fnBody st) (C8.fnScope st) dV kV doc pm an (.ref c) ct ∧ K.lookup f = some ⟨oc, od, .func fd, osl⟩ ∧ PySem.W.codeIn K (.ref c) qual = true)
    (b : Binds K fd ps []) (S : FnScope N ps (C8.fnScope st)) (len : ∀ vs H Q E, sp vs H Q E → vs.length = ps.length)
    (hbody : ∀ (A : Around) (outer : List Env) (s : Shared) (H : Hp) (vs : List V) (Q : VK) (E : XK), Room k (A.deeper (envOfC qual (C8.fnScope st) s.heap.objs.size f (.ref c))) → sp vs H Q E →
      ∃ t, PSs (cxOf C8.CX0 P w K mg base N qual (C8.fnScope st) f (.ref c) A outer s H E).nox (C8.fnBody st) t ∧ t { nx := fun _ H' => Q .non H', rt := Q } (L2.start N vs) H) : C8.Met P w K mg base (k + 1) C m sp [] := by
  obtain ⟨oc, od, dV, kV, doc, pm, an, ct, osl, rfl, lk, hcd⟩ := F
  refine ⟨f, _, ps, [], cl, me, fn_of lk hcd S len fun A outer s H vs Q E hr hsp => ?_, b, .nil⟩
  obtain ⟨t, h, q⟩ := hbody A outer s H vs Q E hr hsp
  exact ⟨t, h.nox, q⟩
def lam1B (sc scope : Scope) (a : Str) : Bool := decide (scope.kind = .function) && !scope.isCoroutine && !scope.isGenerator && decide (scope.names.lookup a = some .local) && scope.names.all fun y => (!decide (y.2 = .local) || decide (y.1 = a)) && !decide (y.2 = .cell) && (!decide (y.2 = .free) || decide (sc.names.lookup y.1 = some .cell) || decide (sc.names.lookup y.1 = some .free))
theorem lam1_by {sc scope : Scope} {a : Str} (h : lam1B sc scope a = true) : Lam1 sc scope a := by
  unfold lam1B at h
  simp only [Bool.and_eq_true, Bool.or_eq_true, Bool.not_eq_true', decide_eq_true_eq, decide_eq_false_iff_not, List.all_eq_true] at h
  obtain ⟨⟨⟨⟨h1, h2⟩, h3⟩, h4⟩, h5⟩ := h
  refine ⟨h1, h2, h3, h4, fun y hy => ⟨fun e => ((h5 y hy).1.1).elim (fun n => absurd e n) id, (h5 y hy).1.2⟩, fun y hy e => ?_⟩
  rcases (h5 y hy).2 with (z | z) | z
  · exact absurd e z
  · exact .inl z
  · exact .inr z
theorem ch_na : ("frame" : Str) ∉ (["self", "allowed"] : List Str) := by decide +kernel
def chQ : Str := ("Chooser.choose" : Str) ++ ".<locals>." ++ "<lambda>"
def chT (P : Addr) : List (Addr × Str) := [(P, chQ)]
theorem ch_mem {q : Str} (P : Addr) (h : q = chQ := by kernel_rfl) : (P, q) ∈ chT P := List.mem_singleton.mpr (by rw [h])
theorem ch_all {q : Str} (P : Addr) (h : q = chQ := by kernel_rfl) : ∀ p ∈ chT P, p.1 = P → p.2 = q := fun p hp _ => by
  rw [List.mem_singleton.mp hp, h]
theorem getD_memI {xs : List Int} {i : Nat} (h : i < xs.length) : xs.getD i 0 ∈ xs := by
  rw [List.getD_eq_getElem?_getD, List.getElem?_eq_getElem h]
  exact List.getElem_mem h
theorem getD_of_mem {xs : List Int} {x : Int} (h : x ∈ xs) : ∃ j, j < xs.length ∧ xs.getD j 0 = x := by
  obtain ⟨j, hj, e⟩ := List.getElem_of_mem h
  exact ⟨j, hj, by rw [List.getD_eq_getElem?_getD, List.getElem?_eq_getElem hj]; exact e⟩
def ageOk (kd : Str) (fl us als : List Int) (fr : Int) : Prop := (kd = "lru" → ∀ x ∈ als, us.getD fr.toNat 0 ≤ us.getD x.toNat 0) ∧ (kd = "fifo" → ∀ x ∈ als, fl.getD fr.toNat 0 ≤ fl.getD x.toNat 0) ∧ (kd = "newest" → ∀ x ∈ als, fl.getD x.toNat 0 ≤ fl.getD fr.toNat 0)
def ChsR (kd : Str) (n : Nat) (hand : Int) (bits fl us als : List Int) (fr hand' : Int) (bits' : List Int) : Prop := (kd = ("clock" : Str) ∧ hunt als n (2 * n) bits hand = some (fr, bits', hand')) ∨ (kd ≠ ("clock" : Str) ∧ fr ∈ als ∧ ageOk kd fl us als fr ∧ hand' = hand ∧ bits' = bits)
def K4 (kd : Str) : Prop := kd = ("lru" : Str) ∨ kd = ("fifo" : Str) ∨ kd = ("newest" : Str) ∨ kd = ("clock" : Str)
def ButT (l : List Addr) (H H' : Hp) : Prop := ∀ b o, b ∉ l → (∀ ps, o ≠ .tbl ps) → H b = some o → H' b = some o
theorem ButL.t {l : List Addr} {H H' : Hp} (b : ButL l H H') : ButT l H H' := fun c o n _ e => b c o n e
theorem extT {l : List Addr} {H H' : Hp} (b : ExtN H H') : ButT l H H' := fun c o _ k e => b c o e k
theorem ButT.refl {l : List Addr} {H : Hp} : ButT l H H := fun _ _ _ _ e => e
theorem ButT.trans {l : List Addr} {H H1 H2 : Hp} (a : ButT l H H1) (b : ButT l H1 H2) : ButT l H H2 := fun c o n k e => b c o n k (a c o n k e)
theorem ButT.mono {l l' : List Addr} {H H1 : Hp} (a : ButT l H H1) (h : ∀ x ∈ l, x ∈ l') : ButT l' H H1 := fun c o n k e => a c o (fun z => n (h c z)) k e
theorem Same.t {l : List Addr} {H H1 : Hp} (s : Same H H1) : ButT l H H1 := fun c o _ _ e => s c o e
def Plain (o : HO) : Prop := (∀ ps, o ≠ .tbl ps) ∧ ∀ φ, o ≠ .ext φ
theorem tabs_but {T : List (Addr × Str)} {H H' : Hp} {l : List Addr} (t : Tabs T H) (b : ButL l H H') (pr : ∀ x ∈ l, ∃ o, H x = some o ∧ Plain o) : Tabs T H' := fun p hp => by
  obtain ⟨ps, h1, h2, h3⟩ := t p hp
  refine ⟨ps, b _ _ (fun z => ?_) h1, h2, fun pos cv hc => ?_⟩
  · obtain ⟨o, e, k⟩ := pr _ z
    rw [h1] at e
    exact k.1 ps (Option.some.inj e).symm
  · obtain ⟨c, e1, e2⟩ := h3 pos cv hc
    refine ⟨c, e1, b _ _ (fun z => ?_) e2⟩
    obtain ⟨o, e, k⟩ := pr _ z
    rw [e2] at e
    exact k.2 _ (Option.some.inj e).symm
def spChs (C PT : Addr) : Sp := fun vs H Q _ => ∃ (p fa ua ba dx al : Addr) (kd : Str) (n : Nat) (calls hand : Int) (fl us bits als : List Int), vs = [.ref p, .ref al] ∧ ChAt C H p fa ua ba dx kd n calls hand fl us bits ∧ K4 kd ∧
  H al = some (.lst (als.map V.int)) ∧ al ≠ ba ∧ 0 < als.length ∧ 1 ≤ n ∧ n ≤ 1000 ∧ 0 ≤ hand ∧ hand < n ∧ (∀ x ∈ als, 0 ≤ x ∧ x < n) ∧ Tabs (chT PT) H ∧ ∀ fr hand' bits' H', ChsR kd n hand bits fl us als fr hand' bits' → ChAt C H' p fa ua ba dx kd n calls hand' fl us bits' → ButT [p, ba] H H' → Tabs (chT PT) H' → Q (.int fr) H'
section
variable {Pr : Program} {w : World} {K : PySem.W.Frag} {mg : Str → Option Value} {base : Heap} {C c P : Addr}
theorem ok_chs {f : Addr} {fd : FuncData} (F : ∃ (oc : Value) (od : Option Addr) (dV kV doc pm : Value) (an : Option Addr) (ct : Value) (osl : Array (Option Value)), fd = PySem.W.fnOf "choose" "Chooser.choose" (C8.fnArgs s_Chooser_choose) (C8.fnBody s_Chooser_choose) (C8.fnScope s_Chooser_choose) dV kV doc pm an (.ref c) ct ∧ K.lookup f = some ⟨oc, od, .func fd, osl⟩ ∧ PySem.W.codeIn K (.ref c) "Chooser.choose" = true)
    (M : Meth K C "choose" f) (b : Binds K fd ["self", "allowed"] []) (S : STxt K mg C) (zmin : mg "min" = none) (zmax : mg "max" = none) (TB : TabB base mg c P) (m_hand : C8.Met Pr w K mg base 1 C "_choose_by_hand" (spHunt C false) []) : C8.Met Pr w K mg base 3 C "choose" (spChs C P) [] := by
  refine metC S.cl M F b sc_Chooser_choose (fun vs H Q E h => ?_) (fun A outer s H vs Q E hr h => ?_)
  · obtain ⟨p, fa, ua, ba, dx, al, kd, n, calls, hand, fl, us, bits, als, rfl, _⟩ := h
    rfl
  obtain ⟨p, fa, ua, ba, dx, al, kd, n, calls, hand, fl, us, bits, als, rfl, hc, hk, ga, nab, l0, n1, n2, h0, h1, hal, hT, q⟩ := h
  refine ⟨_, (pss_cons (ps_mk (ps_if (pt_cmpR op_eq (pe_fld (pv 0) rfl) pe_str (nomark _))
      (pss_one (ps_ret (C8.pe_mt m_hand hr (by omega) (pv 0) (pa_cons (pv 1) pa_nil))))
      pss_nil))
      (pss_cons (ps_mk (ps_if (pt_cmpR op_eq (pe_fld (pv 0) rfl) pe_str (nomark _))
      (pss_one (ps_ret (pe_keymin (a := "frame") (tb := tOp (rIxL K) (tFld K (tVar 0) "_use_calls") (tVar 2)) (by rfl) zmin TB rfl (ch_mem P) (ch_all P) hr (lam1_by (by kernel_rfl)) ch_na ⟨rfl, rfl⟩ rfl (fun _ _ _ _ _ _ => rfl) (pa_cons (pv 1) pa_nil) (fun s H f c' => pe_ix (ixL K rfl) (pe_fld (pv 0) rfl) (pv 2) (fun _ _ => rfl)))))
      pss_nil))
      (pss_cons (ps_mk (ps_if (pt_cmpR op_eq (pe_fld (pv 0) rfl) pe_str (nomark _))
      (pss_one (ps_ret (pe_keymin (a := "frame") (tb := tOp (rIxL K) (tFld K (tVar 0) "_fill_calls") (tVar 2)) (by rfl) zmin TB rfl (ch_mem P) (ch_all P) hr (lam1_by (by kernel_rfl)) ch_na ⟨rfl, rfl⟩ rfl (fun _ _ _ _ _ _ => rfl) (pa_cons (pv 1) pa_nil) (fun s H f c' => pe_ix (ixL K rfl) (pe_fld (pv 0) rfl) (pv 2) (fun _ _ => rfl)))))
      pss_nil))
      (pss_one (ps_ret (pe_keymax (a := "frame") (tb := tOp (rIxL K) (tFld K (tVar 0) "_fill_calls") (tVar 2)) (by rfl) zmax TB rfl (ch_mem P) (ch_all P) hr (lam1_by (by kernel_rfl)) ch_na ⟨rfl, rfl⟩ rfl (fun _ _ _ _ _ _ => rfl) (pa_cons (pv 1) pa_nil) (fun s H f c' => pe_ix (ixL K rfl) (pe_fld (pv 0) rfl) (pv 2) (fun _ _ => rfl)))))))), ?_⟩
  have npb := ins_lst hc.g hc.b
  refine un ?_
  walk_at "go"
  refine ⟨_, _, _, _, _, rfl, hc.g, S.cl, S.n1, ch_kind, ?_⟩
  walk_at "go"
  refine ifD (fun c0 => ?_) (fun c0 => ?_)
  · have ek := V.str.inj c0
    obtain ⟨⟨fr, bits2, hand2⟩, hh⟩ := hunt_all n1 (getD_memI l0) (hal _ (getD_memI l0)).1 (hal _ (getD_memI l0)).2 (bits := bits) (hand := hand) hc.lb h0 h1
    walk_at "go"
    refine ⟨p, dx, _, rfl, hc.g, ch_no5, ?_⟩
    walk_at "go"
    refine ⟨p, fa, ua, ba, dx, al, kd, n, 2 * n, calls, hand, fr, hand2, fl, us, bits, bits2, als, rfl, hc, fun _ => ek, ga, nab, n1, n2, hal, h0, h1, hh, fun H2 h2 b2 => ?_⟩
    refine q _ _ _ _ (.inl ⟨ek, hh⟩) h2 b2.t (tabs_but hT b2 fun x hx => ?_)
    simp only [List.mem_cons, List.not_mem_nil, or_false] at hx
    rcases hx with rfl | rfl
    · exact ⟨_, hc.g, ⟨fun _ z => (by cases z), fun _ z => (by cases z)⟩⟩
    · exact ⟨_, hc.b, ⟨fun _ z => (by cases z), fun _ z => (by cases z)⟩⟩
  have nk : kd ≠ ("clock" : Str) := fun z => c0 (congrArg V.str z)
  have fin : ∀ fr H2, fr ∈ als → ageOk kd fl us als fr → ExtN H H2 → Tabs (chT P) H2 → Q (.int fr) H2 := fun fr H2 m a e T2 => q fr hand bits H2 (.inr ⟨nk, m, a, rfl, rfl⟩) ⟨e _ _ hc.g (fun _ z => by cases z), e _ _ hc.f (fun _ z => by cases z), e _ _ hc.u (fun _ z => by cases z), e _ _ hc.b (fun _ z => by cases z), hc.nd, hc.lf, hc.lu, hc.lb⟩ (extT e) T2
  walk_at "go"
  refine un ?_
  walk_at "go"
  refine ⟨_, _, _, _, _, rfl, hc.g, S.cl, S.n1, ch_kind, ?_⟩
  walk_at "go"
  refine ifD (fun c1 => ?_) (fun c1 => ?_)
  · have dk := V.str.inj c1
    walk_at "go"
    refine ⟨hT, fun H2 e2 T2 => ⟨al, als, fun i => us.getD (als.getD i 0).toNat 0, rfl, SqL.of (e2 _ _ ga (fun _ z => by cases z)), l0, fun i hi => ?_, fun i hi bst => ?_⟩⟩
    · have hx := hal _ (getD_memI hi)
      have g2 := e2 _ _ hc.g (fun _ z => by cases z)
      have u2 := e2 _ _ hc.u (fun _ z => by cases z)
      have ln := hc.lu
      dsimp only
      generalize als.getD i 0 = x at *
      walk_at "go"
      refine ⟨_, _, _, _, _, rfl, g2, S.cl, S.n5, ch_uses, ?_⟩
      walk_at "go"
      refine ⟨_, _, _, _, rfl, rfl, SqL.of u2, atI_getD hx.1 (by rw [ln]; exact hx.2), ?_⟩
      exact ⟨rfl, rfl⟩
    · exact fin _ H2 (getD_memI hi) ⟨fun _ x hx => by
          obtain ⟨j, hj, ej⟩ := getD_of_mem hx
          rw [← ej]
          exact (bst j hj).1, fun z => absurd (dk.symm.trans z) (by decide +kernel), fun z => absurd (dk.symm.trans z) (by decide +kernel)⟩ e2 T2
  walk_at "go"
  refine un ?_
  walk_at "go"
  refine ⟨_, _, _, _, _, rfl, hc.g, S.cl, S.n1, ch_kind, ?_⟩
  walk_at "go"
  refine ifD (fun c2 => ?_) (fun c2 => ?_)
  · have dk := V.str.inj c2
    walk_at "go"
    refine ⟨hT, fun H2 e2 T2 => ⟨al, als, fun i => fl.getD (als.getD i 0).toNat 0, rfl, SqL.of (e2 _ _ ga (fun _ z => by cases z)), l0, fun i hi => ?_, fun i hi bst => ?_⟩⟩
    · have hx := hal _ (getD_memI hi)
      have g2 := e2 _ _ hc.g (fun _ z => by cases z)
      have u2 := e2 _ _ hc.f (fun _ z => by cases z)
      have ln := hc.lf
      dsimp only
      generalize als.getD i 0 = x at *
      walk_at "go"
      refine ⟨_, _, _, _, _, rfl, g2, S.cl, S.n4, ch_fills, ?_⟩
      walk_at "go"
      refine ⟨_, _, _, _, rfl, rfl, SqL.of u2, atI_getD hx.1 (by rw [ln]; exact hx.2), ?_⟩
      exact ⟨rfl, rfl⟩
    · exact fin _ H2 (getD_memI hi) ⟨fun z => absurd (dk.symm.trans z) (by decide +kernel), fun _ x hx => by
          obtain ⟨j, hj, ej⟩ := getD_of_mem hx
          rw [← ej]
          exact (bst j hj).1, fun z => absurd (dk.symm.trans z) (by decide +kernel)⟩ e2 T2
  have dk : kd = ("newest" : Str) := by
    rcases hk with z | z | z | z
    · exact absurd (congrArg V.str z) c1
    · exact absurd (congrArg V.str z) c2
    · exact z
    · exact absurd z nk
  walk_at "go"
  refine ⟨hT, fun H2 e2 T2 => ⟨al, als, fun i => fl.getD (als.getD i 0).toNat 0, rfl, SqL.of (e2 _ _ ga (fun _ z => by cases z)), l0, fun i hi => ?_, fun i hi bst => ?_⟩⟩
  · have hx := hal _ (getD_memI hi)
    have g2 := e2 _ _ hc.g (fun _ z => by cases z)
    have u2 := e2 _ _ hc.f (fun _ z => by cases z)
    have ln := hc.lf
    dsimp only
    generalize als.getD i 0 = x at *
    walk_at "go"
    refine ⟨_, _, _, _, _, rfl, g2, S.cl, S.n4, ch_fills, ?_⟩
    walk_at "go"
    refine ⟨_, _, _, _, rfl, rfl, SqL.of u2, atI_getD hx.1 (by rw [ln]; exact hx.2), ?_⟩
    exact ⟨rfl, rfl⟩
  · exact fin _ H2 (getD_memI hi) ⟨fun z => absurd (dk.symm.trans z) (by decide +kernel), fun z => absurd (dk.symm.trans z) (by decide +kernel), fun _ x hx => by
        obtain ⟨j, hj, ej⟩ := getD_of_mem hx
        rw [← ej]
        exact (bst j hj).1⟩ e2 T2
end

end

/-! ### promises that do not unfold -/
@[irreducible] def SpI (sp : Sp) : Sp := sp
theorem SpI.eq (sp : Sp) : SpI sp = sp := by unfold SpI; rfl
theorem SpI.mk {sp : Sp} {vs : List V} {H : Hp} {Q : VK} {E : XK} (h : sp vs H Q E) : SpI sp vs H Q E := by
  rw [SpI.eq]
  exact h
@[irreducible] def RmI (r : V → List V → Hp → VK → Prop) : V → List V → Hp → VK → Prop := r
theorem RmI.eq (r : V → List V → Hp → VK → Prop) : RmI r = r := by unfold RmI; rfl
theorem RmI.mk {r : V → List V → Hp → VK → Prop} {x : V} {vs : List V} {H : Hp} {Q : VK} (h : r x vs H Q) : RmI r x vs H Q := by
  rw [RmI.eq]
  exact h
@[irreducible] def R2I (r : R2) : R2 := r
theorem R2I.eq (r : R2) : R2I r = r := by unfold R2I; rfl
theorem R2I.mk {r : R2} {x y : V} {H : Hp} {Q : VK} (h : r x y H Q) : R2I r x y H Q := by
  rw [R2I.eq]
  exact h
@[irreducible] def TSI (r : TSet) : TSet := r
theorem TSI.eq (r : TSet) : TSI r = r := by unfold TSI; rfl
theorem TSI.mk {r : TSet} {o i v : V} {H : Hp} {Q : Hp → Prop} (h : r o i v H Q) : TSI r o i v H Q := by
  rw [TSI.eq]
  exact h
theorem mtI {X : Cx} {id : String} {r : V → List V → Hp → VK → Prop} (h : MtR X id r) : MtR X id (RmI r) := by
  rw [RmI.eq]
  exact h
theorem ixI {X : Cx} {r : R2} (h : IxR X r) : IxR X (R2I r) := by
  rw [R2I.eq]
  exact h
theorem setI {X : Cx} {r : TSet} (h : PSet X r) : PSet X (TSI r) := by
  rw [TSI.eq]
  exact h
theorem calI {P : Program} {w : World} {K : PySem.W.Frag} {mg : Str → Option Value} {base : Heap} {n : Nat} {f : Str} {sp : Sp} (h : Cal P w K mg base n f sp []) : Cal P w K mg base n f (SpI sp) [] := by
  rw [SpI.eq]
  exact h
theorem metI {P : Program} {w : World} {K : PySem.W.Frag} {mg : Str → Option Value} {base : Heap} {C : Addr} {n : Nat} {f : Str} {sp : Sp} (h : C8.Met P w K mg base n C f sp []) : C8.Met P w K mg base n C f (SpI sp) [] := by
  rw [SpI.eq]
  exact h

/-! ### what stays when some addresses are written -/
def Tups (H H' : Hp) : Prop := ∀ a us, H a = some (.tup us) → H' a = some (.tup us)
theorem Tups.same {H H' : Hp} (s : Same H H') : Tups H H' := fun a us g => s a _ g
theorem Tups.trans {H H1 H2 : Hp} (a : Tups H H1) (b : Tups H1 H2) : Tups H H2 := fun c us g => b c us (a c us g)
def NoT (H : Hp) (a : Addr) : Prop := ∀ us, H a ≠ some (.tup us)
theorem NoT.of {H : Hp} {a : Addr} {o : HO} (g : H a = some o) (n : ∀ us, o ≠ .tup us) : NoT H a := fun us z => by
  rw [g] at z
  exact n us (Option.some.inj z)
theorem NoT.lst {H : Hp} {a : Addr} {us : List V} (g : H a = some (.lst us)) : NoT H a := .of g fun _ z => by cases z
theorem NoT.ins {H : Hp} {a C dx : Addr} {fs : List (Str × V)} (g : H a = some (.ins C dx fs)) : NoT H a := .of g fun _ z => by cases z
theorem NoT.dK {H : Hp} {a : Addr} {ks : List (Key × V)} (g : H a = some (.dK ks)) : NoT H a := .of g fun _ z => by cases z
theorem ButL.tups {l : List Addr} {H H' : Hp} (b : ButL l H H') (h : ∀ a ∈ l, NoT H a) : Tups H H' := fun a us g => b a _ (fun z => h a z us g) g
def Dj (F G : List Addr) : Prop := ∀ a ∈ F, a ∉ G
theorem Dj.symm {F G : List Addr} (h : Dj F G) : Dj G F := fun a ha hb => h a hb ha
theorem Dj.mono {F F' G : List Addr} (h : Dj F G) (s : ∀ a ∈ F', a ∈ F) : Dj F' G := fun a ha => h a (s a ha)
theorem Dj.app {F F' G : List Addr} (h : Dj F G) (h2 : Dj F' G) : Dj (F ++ F') G := fun a ha => (List.mem_append.mp ha).elim (h a) (h2 a)
def Live (H : Hp) (F : List Addr) : Prop := ∀ a ∈ F, H a ≠ none
/-- places that are free are off those that are held -/
theorem Dj.free {F G : List Addr} {H : Hp} (h : Live H F) (n : ∀ a ∈ G, H a = none) : Dj F G := fun a ha hb => h a ha (n a hb)
theorem live_of {H : Hp} {a : Addr} {o : HO} (g : H a = some o) : H a ≠ none := fun z => by
  rw [g] at z
  cases z
theorem noLs_map {α : Type} {f : α → PyData} (h : ∀ x, noL (f x) = true) : ∀ xs : List α, noLs (xs.map f) = true
  | [] => rfl
  | x :: xs => by
    show (noL (f x) && noLs (xs.map f)) = true
    rw [h x, noLs_map h xs]
    rfl
theorem inInt (j : Int) (ms : List Int) : inV (.int j) (ms.map V.int) = decide (j ∈ ms) := by
  rw [Bool.eq_iff_iff, decide_eq_true_iff]
  unfold inV
  induction ms with
  | nil => simp
  | cons m ms ih =>
    have e : eqV (V.int m) (V.int j) = (m == j) := rfl
    simp only [List.map_cons, List.any_cons, Bool.or_eq_true, List.mem_cons, ih, e, beq_iff_eq]
    exact ⟨fun h => h.imp (fun z => z.symm) id, fun h => h.imp (fun z => z.symm) id⟩
theorem idx_cons (x y : Int) (ns : List Int) : (y :: ns).idxOf x = if y = x then 0 else ns.idxOf x + 1 := by
  by_cases h : y = x
  · subst h
    rw [if_pos rfl]
    exact List.idxOf_cons_self
  · rw [if_neg h, List.idxOf_cons]
    have e : (y == x) = false := by simpa using h
    rw [e]
    rfl
theorem idx_ok : ∀ {ns : List Int} {x : Int}, x ∈ ns → ns[ns.idxOf x]? = some x ∧ ∀ (m : Nat) (y : Int), m < ns.idxOf x → ns[m]? = some y → y ≠ x
  | [], _, h => by cases h
  | n :: ns, x, h => by
    rw [idx_cons]
    by_cases e : n = x
    · rw [if_pos e, e]
      exact ⟨rfl, fun m y hm => absurd hm (Nat.not_lt_zero _)⟩
    · rw [if_neg e]
      have hx : x ∈ ns := (List.mem_cons.mp h).resolve_left fun z => e z.symm
      obtain ⟨h1, h2⟩ := idx_ok hx
      refine ⟨by rw [List.getElem?_cons_succ]; exact h1, fun m y hm hy => ?_⟩
      cases m with
      | zero =>
        obtain rfl : n = y := by simpa using hy
        exact e
      | succ m =>
        rw [List.getElem?_cons_succ] at hy
        exact h2 m y (by omega) hy
theorem idx_lt {ns : List Int} {x : Int} (h : x ∈ ns) : ns.idxOf x < ns.length := (List.getElem?_eq_some_iff.mp (idx_ok h).1).1
theorem index_mk {K : PySem.W.Frag} {H : Hp} {a : Addr} {ns : List Int} {x : Int} {Q : VK} (s : SqL K H a (ns.map V.int)) (h : x ∈ ns) (q : Q (.int (ns.idxOf x : Nat)) H) : rIndex K (.ref a) [.int x] H Q := by
  obtain ⟨h1, h2⟩ := idx_ok h
  refine ⟨a, _, .int x, ns.idxOf x, .int x, rfl, rfl, s, rfl, flat_ints ns, by rw [List.getElem?_map, h1]; rfl, ?_, fun m z hm hz => ?_, q⟩
  · show (x == x) = true
    simp
  · rw [List.getElem?_map] at hz
    obtain ⟨y, hy, rfl⟩ := Option.map_eq_some_iff.mp hz
    have := h2 m y hm hy
    show (y == x) = false
    simp [this]
theorem catT {X : Cx} (K : PySem.W.Frag) (h : X.K = K) : OpR X (binaryOp .Add) (rCatT K) := by
  subst h
  exact op_catT
theorem dh_set {H : Hp} : ∀ {ds : List PyData} {us : List V} {i : Nat} {d : PyData} {v : V}, DhAll H ds us → Dh H d v → DhAll H (ds.set i d) (us.set i v)
  | [], us, i, d, v, h, _ => by
    cases (show us = [] from h)
    rfl
  | e :: ds, us, 0, d, v, h, hd => by
    obtain ⟨x, ws, rfl, _, h2⟩ := h
    exact ⟨v, ws, rfl, hd, h2⟩
  | e :: ds, us, i + 1, d, v, h, hd => by
    obtain ⟨x, ws, rfl, h1, h2⟩ := h
    exact ⟨x, ws.set i v, rfl, h1, dh_set h2 hd⟩

section

-- a condition of an operator
local macro_rules | `(tactic| walk_at "cond") => `(tactic| first
  | (show (0 : Int) < _; omega)
  | (show CDiv _ _; constructor <;> (first | decide | omega))
  | (show CMul _ _; first | (refine cmul_l ?_; constructor <;> (first | decide | omega)) | (refine cmul_r ?_; constructor <;> (first | decide | omega)))
  | (show CPow _ _; exact (by refine ⟨by decide, by decide, by decide⟩))
  | (show CDivW _ _; exact ⟨by decide, by decide +kernel⟩))
local macro_rules | `(tactic| walk_at "sq") => `(tactic| first | assumption | exact Dh.mono (same_upd (by assumption)) _ _ (by assumption) | exact .inl (.inl (.inl (by assumption))) | exact .inr (.inl (.inl (by assumption))) | exact SqL.of (by assumption) | exact .inl (by assumption) | exact .inl (SqL.of (by assumption)) | exact SqT.of (by assumption) | exact .inr (SqT.of (by assumption)))
local macro_rules | `(tactic| walk_at "st") => `(tactic| first
  | refine ⟨_, rfl, ?_⟩
  | refine ⟨_, _, rfl, rfl, ?_⟩
  | refine .inl ⟨_, rfl, ?_⟩
  | refine ⟨rfl, ?_⟩
  | refine ⟨_, _, rfl, by walk_at "sq", ?_⟩
  | refine ⟨.inl ⟨rfl, _, SqL.of (by assumption)⟩, ?_⟩
  | refine ⟨by walk_at "cond", ?_⟩
  | (refine' ifBT ?hh ?_; (case hh => first | rfl | assumption))
  | (refine' ifBF ?hh ?_; (case hh => first | rfl | assumption)))
local macro_rules | `(tactic| walk_at "go") => `(tactic| repeat walk_at "st")
local macro_rules | `(tactic| walk_at "yes") => `(tactic| (refine' ifT ?hh ?_; (case hh => first | rfl | decide +kernel)))
local macro_rules | `(tactic| walk_at "no") => `(tactic| (refine' ifF ?hh ?_; (case hh => first | decide +kernel | (intro z; cases z; done))))

local macro_rules | `(tactic| walk_at "st") => `(tactic| refine ⟨_, _, _, _, _, rfl, by assumption, by assumption, by omega, by omega, by omega, by omega, by omega, ?_⟩)
local macro_rules | `(tactic| walk_at "st") => `(tactic| refine ⟨_, _, _, _, _, rfl, Same.seq (by assumption) (by assumption), by assumption, by omega, by omega, by omega, by omega, by omega, ?_⟩)

/-! ### Places -/
abbrev s_Places___init__ : Stmt := inClass (topS 11) 0
theorem sc_Places___init__ : FnScope ["self", "count"] ["self", "count"] (C8.fnScope s_Places___init__) := C8.fnScope_by (by decide +kernel)
abbrev s_Places_has_stamp : Stmt := inClass (topS 11) 1
theorem sc_Places_has_stamp : FnScope ["self", "stamp"] ["self", "stamp"] (C8.fnScope s_Places_has_stamp) := C8.fnScope_by (by decide +kernel)
abbrev s_Places_has_free : Stmt := inClass (topS 11) 2
theorem sc_Places_has_free : FnScope ["self"] ["self"] (C8.fnScope s_Places_has_free) := C8.fnScope_by (by decide +kernel)
abbrev s_Places_read_from : Stmt := inClass (topS 11) 3
theorem sc_Places_read_from : FnScope ["self", "stamp"] ["self", "stamp"] (C8.fnScope s_Places_read_from) := C8.fnScope_by (by decide +kernel)
abbrev s_Places_write_to : Stmt := inClass (topS 11) 4
theorem sc_Places_write_to : FnScope ["self", "stamp", "place"] ["self", "stamp"] (C8.fnScope s_Places_write_to) := C8.fnScope_by (by decide +kernel)
abbrev s_Places_free : Stmt := inClass (topS 11) 5
theorem sc_Places_free : FnScope ["self", "stamp"] ["self", "stamp"] (C8.fnScope s_Places_free) := C8.fnScope_by (by decide +kernel)
abbrev s_Places__use : Stmt := inClass (topS 11) 11
theorem sc_Places__use : FnScope ["self", "place", "stamp"] ["self", "place"] (C8.fnScope s_Places__use) := C8.fnScope_by (by decide +kernel)
def plF (sa ra wa : Addr) (rc wc : Int) : List (Str × V) := [("_stamps", .ref sa), ("_remembered", .ref ra), ("_rows", .ref wa), ("_read_count", .int rc), ("_write_count", .int wc)]
section
variable {sa ra wa sb rb wb : Addr} {rc wc v : Int}
theorem pl_s : (plF sa ra wa rc wc).lookup ("_stamps" : Str) = some (.ref sa) := by kernel_rfl
theorem pl_r : (plF sa ra wa rc wc).lookup ("_remembered" : Str) = some (.ref ra) := by kernel_rfl
theorem pl_w : (plF sa ra wa rc wc).lookup ("_rows" : Str) = some (.ref wa) := by kernel_rfl
theorem pl_rc : (plF sa ra wa rc wc).lookup ("_read_count" : Str) = some (.int rc) := by kernel_rfl
theorem pl_wc : (plF sa ra wa rc wc).lookup ("_write_count" : Str) = some (.int wc) := by kernel_rfl
theorem pl_use : (plF sa ra wa rc wc).lookup ("_use" : Str) = none := by kernel_rfl
theorem pl_prc : putF "_read_count" (.int v) (plF sa ra wa rc wc) = plF sa ra wa v wc := by kernel_rfl
theorem pl_pwc : putF "_write_count" (.int v) (plF sa ra wa rc wc) = plF sa ra wa rc v := by kernel_rfl
theorem pl_make : putF "_write_count" (.int wc) (putF "_read_count" (.int rc) (putF "_rows" (.ref wa) (putF "_remembered" (.ref ra) (putF "_stamps" (.ref sa) [])))) = plF sa ra wa rc wc := by kernel_rfl
end
structure PTxt (K : PySem.W.Frag) (mg : Str → Option Value) (C : Addr) : Prop where
  cl : Cls K C
  n1 : NoAttr K C "_stamps"
  n2 : NoAttr K C "_remembered"
  n3 : NoAttr K C "_rows"
  n4 : NoAttr K C "_read_count"
  n5 : NoAttr K C "_write_count"
  mgC : mg "Places" = some (.ref C)
  len : mg "len" = none
structure PRow where
  a : Int
  b : Int
  c : Int
  d : Int
def remD (x : Int × Int) : PyData := .tuple [.int x.1, .int x.2]
def rowD (x : PRow) : PyData := .tuple [.int x.a, .int x.b, .int x.c, .int x.d]
theorem remD_noL (x : Int × Int) : noL (remD x) = true := rfl
theorem rowD_noL (x : PRow) : noL (rowD x) = true := rfl
/-- what a store of places remembers -/
structure PS where
  st : List Int
  rem : List (Int × Int)
  rows : List PRow
  rc : Int
  wc : Int
structure PlcAt (C : Addr) (H : Hp) (p sa ra wa : Addr) (S : PS) : Prop where
  g : ∃ dx, H p = some (.ins C dx (plF sa ra wa S.rc S.wc))
  s : H sa = some (.lst (S.st.map V.int))
  r : ∃ us, H ra = some (.lst us) ∧ DhAll H (S.rem.map remD) us
  w : ∃ us, H wa = some (.lst us) ∧ DhAll H (S.rows.map rowD) us
  n1 : sa ≠ ra
  n2 : sa ≠ wa
  n3 : ra ≠ wa
  l : S.rem.length = S.st.length
  ls : S.st.length ≤ 1000
section
variable {C : Addr} {H H' : Hp} {p sa ra wa : Addr} {S : PS}
theorem PlcAt.same (h : PlcAt C H p sa ra wa S) (s : Same H H') : PlcAt C H' p sa ra wa S := by
  obtain ⟨dx, g⟩ := h.g
  obtain ⟨us, gr, dr⟩ := h.r
  obtain ⟨ws, gw, dw⟩ := h.w
  exact ⟨⟨dx, s _ _ g⟩, s _ _ h.s, ⟨us, s _ _ gr, DhAll.mono s _ _ dr⟩, ⟨ws, s _ _ gw, DhAll.mono s _ _ dw⟩, h.n1, h.n2, h.n3, h.l, h.ls⟩
theorem PlcAt.off {F : List Addr} (h : PlcAt C H p sa ra wa S) (b : ButL F H H') (t : Tups H H') (d : Dj [p, sa, ra, wa] F) : PlcAt C H' p sa ra wa S := by
  obtain ⟨dx, g⟩ := h.g
  obtain ⟨us, gr, dr⟩ := h.r
  obtain ⟨ws, gw, dw⟩ := h.w
  exact ⟨⟨dx, b _ _ (d p (by simp)) g⟩, b _ _ (d sa (by simp)) h.s, ⟨us, b _ _ (d ra (by simp)) gr, DhAll.tups t _ _ (noLs_map remD_noL _) dr⟩, ⟨ws, b _ _ (d wa (by simp)) gw, DhAll.tups t _ _ (noLs_map rowD_noL _) dw⟩, h.n1, h.n2, h.n3, h.l, h.ls⟩
theorem PlcAt.ne (h : PlcAt C H p sa ra wa S) : p ≠ sa ∧ p ≠ ra ∧ p ≠ wa := by
  obtain ⟨dx, g⟩ := h.g
  obtain ⟨us, gr, _⟩ := h.r
  obtain ⟨ws, gw, _⟩ := h.w
  exact ⟨ins_lst g h.s, ins_lst g gr, ins_lst g gw⟩
theorem PlcAt.noT (h : PlcAt C H p sa ra wa S) : ∀ a ∈ [p, sa, ra, wa], NoT H a := fun a ha => by
  obtain ⟨dx, g⟩ := h.g
  obtain ⟨us, gr, _⟩ := h.r
  obtain ⟨ws, gw, _⟩ := h.w
  simp only [List.mem_cons, List.not_mem_nil, or_false] at ha
  rcases ha with rfl | rfl | rfl | rfl
  · exact .ins g
  · exact .lst h.s
  · exact .lst gr
  · exact .lst gw
theorem PlcAt.live (h : PlcAt C H p sa ra wa S) : Live H [p, sa, ra, wa] := fun a ha => by
  obtain ⟨dx, g⟩ := h.g
  obtain ⟨us, gr, _⟩ := h.r
  obtain ⟨ws, gw, _⟩ := h.w
  simp only [List.mem_cons, List.not_mem_nil, or_false] at ha
  rcases ha with rfl | rfl | rfl | rfl
  · exact live_of g
  · exact live_of h.s
  · exact live_of gr
  · exact live_of gw
/-- the list of stamps is written -/
theorem PlcAt.puts {st : List Int} (h : PlcAt C H p sa ra wa S) (l : st.length = S.st.length) : PlcAt C (upd H sa (.lst (st.map V.int))) p sa ra wa ⟨st, S.rem, S.rows, S.rc, S.wc⟩ := by
  obtain ⟨dx, g⟩ := h.g
  obtain ⟨us, gr, dr⟩ := h.r
  obtain ⟨ws, gw, dw⟩ := h.w
  have b : ButL [sa] H (upd H sa (.lst (st.map V.int))) := ButL.put (by simp)
  have t := b.tups fun a ha => by
    obtain rfl : a = sa := by simpa using ha
    exact .lst h.s
  exact ⟨⟨dx, by rw [upd_ne h.ne.1]; exact g⟩, upd_same, ⟨us, by rw [upd_ne h.n1.symm]; exact gr, DhAll.tups t _ _ (noLs_map remD_noL _) dr⟩, ⟨ws, by rw [upd_ne h.n2.symm]; exact gw, DhAll.tups t _ _ (noLs_map rowD_noL _) dw⟩, h.n1, h.n2, h.n3, by rw [l]; exact h.l, by rw [l]; exact h.ls⟩
/-- one count is written -/
theorem PlcAt.putc {rc wc : Int} {dx : Addr} (h : PlcAt C H p sa ra wa S) : PlcAt C (upd H p (.ins C dx (plF sa ra wa rc wc))) p sa ra wa ⟨S.st, S.rem, S.rows, rc, wc⟩ := by
  obtain ⟨dx', g⟩ := h.g
  obtain ⟨us, gr, dr⟩ := h.r
  obtain ⟨ws, gw, dw⟩ := h.w
  have b : ButL [p] H (upd H p (.ins C dx (plF sa ra wa rc wc))) := ButL.put (by simp)
  have t := b.tups fun a ha => by
    obtain rfl : a = p := by simpa using ha
    exact .ins g
  exact ⟨⟨dx, upd_same⟩, by rw [upd_ne h.ne.1.symm]; exact h.s, ⟨us, by rw [upd_ne h.ne.2.1.symm]; exact gr, DhAll.tups t _ _ (noLs_map remD_noL _) dr⟩, ⟨ws, by rw [upd_ne h.ne.2.2.symm]; exact gw, DhAll.tups t _ _ (noLs_map rowD_noL _) dw⟩, h.n1, h.n2, h.n3, h.l, h.ls⟩
end
/-- a use of a place -/
def useS (S : PS) (i : Nat) : PS := ⟨S.st, S.rem.set i (S.st.getD i 0, (S.rows.length : Int) + 1), S.rows ++ [⟨i, (S.rem.getD i (0, 0)).1, (S.rem.getD i (0, 0)).2, S.st.getD i 0⟩], S.rc, S.wc⟩
def freeS (S : PS) (x : Int) : PS := ⟨if x ∈ S.st then S.st.set (S.st.idxOf x) 0 else S.st, S.rem, S.rows, S.rc, S.wc⟩
def readS (S : PS) (x : Int) : PS := ⟨(useS S (S.st.idxOf x)).st, (useS S (S.st.idxOf x)).rem, (useS S (S.st.idxOf x)).rows, S.rc + 1, S.wc⟩
def putS (S : PS) (x : Int) : PS := ⟨S.st.set (S.st.idxOf 0) x, S.rem, S.rows, S.rc, S.wc⟩
def writeS (S : PS) (x : Int) : PS := ⟨(useS (putS S x) (S.st.idxOf 0)).st, (useS (putS S x) (S.st.idxOf 0)).rem, (useS (putS S x) (S.st.idxOf 0)).rows, S.rc, S.wc + 1⟩
def spHasS (C : Addr) : Sp := fun vs H Q _ => ∃ (p sa ra wa : Addr) (S : PS) (x : Int), vs = [.ref p, .int x] ∧ PlcAt C H p sa ra wa S ∧ Q (.bl (decide (x ∈ S.st))) H
def spHasF (C : Addr) : Sp := fun vs H Q _ => ∃ (p sa ra wa : Addr) (S : PS), vs = [.ref p] ∧ PlcAt C H p sa ra wa S ∧ Q (.bl (decide (0 ∈ S.st))) H
def spFree (C : Addr) : Sp := fun vs H Q _ => ∃ (p sa ra wa : Addr) (S : PS) (x : Int), vs = [.ref p, .int x] ∧ PlcAt C H p sa ra wa S ∧ ∀ H', PlcAt C H' p sa ra wa (freeS S x) → ButL [sa] H H' → Q .non H'
def spUse (C : Addr) : Sp := fun vs H Q _ => ∃ (p sa ra wa : Addr) (S : PS) (i : Nat), vs = [.ref p, .int i] ∧ PlcAt C H p sa ra wa S ∧ i < S.st.length ∧ S.rows.length ≤ 90000 ∧ ∀ H', PlcAt C H' p sa ra wa (useS S i) → ButL [ra, wa] H H' → Q .non H'
def spRead (C : Addr) : Sp := fun vs H Q _ => ∃ (p sa ra wa : Addr) (S : PS) (x : Int), vs = [.ref p, .int x] ∧ PlcAt C H p sa ra wa S ∧ x ∈ S.st ∧ S.rows.length ≤ 90000 ∧ ∀ H', PlcAt C H' p sa ra wa (readS S x) → ButL [p, ra, wa] H H' → Q .non H'
def spWrite (C : Addr) : Sp := fun vs H Q _ => ∃ (p sa ra wa : Addr) (S : PS) (x : Int), vs = [.ref p, .int x] ∧ PlcAt C H p sa ra wa S ∧ 0 ∈ S.st ∧ S.rows.length ≤ 90000 ∧ ∀ H', PlcAt C H' p sa ra wa (writeS S x) → ButL [p, sa, ra, wa] H H' → Q .non H'
section
variable {P : Program} {w : World} {K : PySem.W.Frag} {mg : Str → Option Value} {base : Heap} {C : Addr}
theorem ok_has_stamp {f : Addr} {fd : FuncData} (F : C8.Fun K "has_stamp" "Places.has_stamp" s_Places_has_stamp f fd) (M : Meth K C "has_stamp" f) (b : Binds K fd ["self", "stamp"] []) (T : PTxt K mg C) : C8.Met P w K mg base 1 C "has_stamp" (spHasS C) [] := by
  refine C8.met0 T.cl M F b sc_Places_has_stamp (fun vs H Q E h => ?_) (fun cdv A outer s H vs Q E hr h => ?_)
  · obtain ⟨p, sa, ra, wa, S, x, rfl, _⟩ := h
    rfl
  obtain ⟨p, sa, ra, wa, S, x, rfl, hp, q⟩ := h
  refine ⟨_, (pss_one (ps_ret (pe_cmpR (inQ K rfl) (pv 1) (pe_fld (pv 0) rfl) (by rfl)))), ?_⟩
  obtain ⟨dx, g⟩ := hp.g
  have sS : SqL K H sa (S.st.map V.int) := SqL.of hp.s
  walk_at "go"
  refine ⟨_, _, _, _, _, rfl, g, T.cl, T.n1, pl_s, ?_⟩
  walk_at "go"
  refine ⟨flat_ints _, ?_⟩
  show Q (V.bl (inV (V.int x) (S.st.map V.int))) H
  rw [inInt]
  exact q
theorem ok_has_free {f : Addr} {fd : FuncData} (F : C8.Fun K "has_free" "Places.has_free" s_Places_has_free f fd) (M : Meth K C "has_free" f) (b : Binds K fd ["self"] []) (T : PTxt K mg C) : C8.Met P w K mg base 1 C "has_free" (spHasF C) [] := by
  refine C8.met0 T.cl M F b sc_Places_has_free (fun vs H Q E h => ?_) (fun cdv A outer s H vs Q E hr h => ?_)
  · obtain ⟨p, sa, ra, wa, S, rfl, _⟩ := h
    rfl
  obtain ⟨p, sa, ra, wa, S, rfl, hp, q⟩ := h
  refine ⟨_, (pss_one (ps_ret (pe_cmpR (inQ K rfl) pe_int (pe_fld (pv 0) rfl) (by rfl)))), ?_⟩
  obtain ⟨dx, g⟩ := hp.g
  have sS : SqL K H sa (S.st.map V.int) := SqL.of hp.s
  walk_at "go"
  refine ⟨_, _, _, _, _, rfl, g, T.cl, T.n1, pl_s, ?_⟩
  walk_at "go"
  refine ⟨flat_ints _, ?_⟩
  show Q (V.bl (inV (V.int 0) (S.st.map V.int))) H
  rw [inInt]
  exact q
theorem ok_free {f : Addr} {fd : FuncData} (F : C8.Fun K "free" "Places.free" s_Places_free f fd) (M : Meth K C "free" f) (b : Binds K fd ["self", "stamp"] []) (T : PTxt K mg C) : C8.Met P w K mg base 1 C "free" (spFree C) [] := by
  refine C8.met0 T.cl M F b sc_Places_free (fun vs H Q E h => ?_) (fun cdv A outer s H vs Q E hr h => ?_)
  · obtain ⟨p, sa, ra, wa, S, x, rfl, _⟩ := h
    rfl
  obtain ⟨p, sa, ra, wa, S, x, rfl, hp, q⟩ := h
  refine ⟨_, (pss_one (ps_mk (ps_if (pt_cmpR (inQ K rfl) (pv 1) (pe_fld (pv 0) rfl) (by rfl))
      (pss_one (ps_asg pe_int (pg_sub (pe_fld (pv 0) rfl) (pe_bm PySem.F.plainAttrs_list PySem.F.slot_list_index PySem.F.type_list_index (mtI mt_index) (pe_fld (pv 0) rfl) (pa_cons (pv 1) pa_nil)) set_list)))
      pss_nil))), ?_⟩
  obtain ⟨dx, g⟩ := hp.g
  have gs := hp.s
  have sS : SqL K H sa (S.st.map V.int) := SqL.of hp.s
  walk_at "go"
  refine un ?_
  walk_at "go"
  refine ⟨_, _, _, _, _, rfl, g, T.cl, T.n1, pl_s, ?_⟩
  walk_at "go"
  refine ⟨flat_ints _, ?_⟩
  rw [show (if (false : Bool) = true then !inV (V.int x) (S.st.map V.int) else inV (V.int x) (S.st.map V.int)) = inV (V.int x) (S.st.map V.int) from rfl, inInt]
  walk_at "go"
  refine ifD (fun z => ?_) (fun z => ?_)
  · walk_at "go"
    refine ⟨_, _, _, _, _, rfl, g, T.cl, T.n1, pl_s, ?_⟩
    walk_at "go"
    refine ⟨_, _, _, _, _, rfl, g, T.cl, T.n1, pl_s, ?_⟩
    walk_at "go"
    refine RmI.mk (index_mk sS z ?_)
    have li := idx_lt z
    walk_at "go"
    refine ⟨sa, _, _, _, rfl, rfl, gs, ix_ok (by omega) (by rw [List.length_map]; omega), ?_⟩
    rw [set_ints, Int.toNat_natCast]
    walk_at "go"
    refine q _ ?_ (ButL.put (by simp))
    unfold freeS
    rw [if_pos z]
    exact hp.puts (by rw [List.length_set])
  · walk_at "go"
    refine q H ?_ fun _ _ _ e => e
    unfold freeS
    rw [if_neg z]
    exact hp
theorem ok_use {f : Addr} {fd : FuncData} (F : C8.Fun K "_use" "Places._use" s_Places__use f fd) (M : Meth K C "_use" f) (b : Binds K fd ["self", "place"] []) (T : PTxt K mg C) : C8.Met P w K mg base 1 C "_use" (spUse C) [] := by
  refine C8.met0 T.cl M F b sc_Places__use (fun vs H Q E h => ?_) (fun cdv A outer s H vs Q E hr h => ?_)
  · obtain ⟨p, sa, ra, wa, S, i, rfl, _⟩ := h
    rfl
  obtain ⟨p, sa, ra, wa, S, i, rfl, hp, hi, lr, q⟩ := h
  refine ⟨_, (pss_cons (ps_set (i := 2) sc_Places__use.nd rfl (.inl rfl) (pe_ix (ixL K rfl) (pe_fld (pv 0) rfl) (pv 1) (fun _ _ => rfl)))
      (pss_cons (ps_expr (pe_bm PySem.F.plainAttrs_list PySem.F.slot_list_append PySem.F.type_list_append mt_append (pe_fld (pv 0) rfl) (pa_cons (pe_op (catT K rfl) (pe_op (catT K rfl) (pe_tup (pa_cons (pv 1) pa_nil)) (pe_ix (ixL K rfl) (pe_fld (pv 0) rfl) (pv 1) (fun _ _ => rfl))) (pe_tup (pa_cons (pv 2) pa_nil))) pa_nil)))
      (pss_one (ps_asg (pe_tup (pa_cons (pv 2) (pa_cons (pe_callB (lenQ K rfl) (by rfl) T.len PySem.boot_len (pa_cons (pe_fld (pv 0) rfl) pa_nil)) pa_nil))) (pg_sub (pe_fld (pv 0) rfl) (pv 1) set_list))))), ?_⟩
  obtain ⟨dx, g⟩ := hp.g
  have gs := hp.s
  have sS : SqL K H sa (S.st.map V.int) := SqL.of hp.s
  walk_at "go"
  refine ⟨_, _, _, _, _, rfl, g, T.cl, T.n1, pl_s, ?_⟩
  have hx : S.st[i]? = some (S.st.getD i 0) := by
    rw [List.getD_eq_getElem?_getD, List.getElem?_eq_getElem hi]
    rfl
  have ax : atI (S.st.map V.int) ((i : Nat) : Int) = some (.int (S.st.getD i 0)) := atI_nat (by rw [List.getElem?_map, hx]; rfl)
  walk_at "go"
  refine ⟨_, _, _, _, rfl, rfl, sS, ax, ?_⟩
  obtain ⟨ur, gr, dr⟩ := hp.r
  obtain ⟨uw, gw, dw⟩ := hp.w
  have lur : ur.length = S.rem.length := by
    rw [dr.len, List.length_map]
  have luw : uw.length = S.rows.length := by
    rw [dw.len, List.length_map]
  have hl := hp.l
  have hir : i < S.rem.length := by omega
  have hr : S.rem[i]? = some (S.rem.getD i (0, 0)) := by
    rw [List.getD_eq_getElem?_getD, List.getElem?_eq_getElem hir]
    rfl
  obtain ⟨v, ev, dv⟩ := dr.get (show (S.rem.map remD)[i]? = some (remD (S.rem.getD i (0, 0))) by rw [List.getElem?_map, hr]; rfl)
  obtain ⟨t, ut, rfl, gt, x0, _, rfl, d0, x1, _, rfl, d1, rfl⟩ := id dv
  cases d0
  cases d1
  have ar : atI ur ((i : Nat) : Int) = some (.ref t) := atI_nat ev
  walk_at "go"
  refine ⟨_, _, _, _, _, rfl, g, T.cl, T.n3, pl_w, ?_⟩
  walk_at "go"
  refine ⟨sz, fun t1 n1 => ?_⟩
  have s1 := same_upd (o := HO.tup [V.int (i : Nat)]) n1
  have g1 := upd_same (H := H) (a := t1) (o := HO.tup [V.int (i : Nat)])
  have hp1 := hp.same s1
  have gt1 := s1 _ _ gt
  have gr1 := s1 _ _ gr
  have gw1 := s1 _ _ gw
  have dr1 := DhAll.mono s1 _ _ dr
  have dw1 := DhAll.mono s1 _ _ dw
  have gi1 := s1 _ _ g
  show _
  generalize upd H t1 (HO.tup [V.int (i : Nat)]) = H1 at *
  have sR1 : SqL K H1 ra ur := SqL.of gr1
  clear gs sS
  walk_at "go"
  refine ⟨_, _, _, _, _, rfl, gi1, T.cl, T.n2, pl_r, ?_⟩
  walk_at "go"
  refine ⟨_, _, _, _, rfl, rfl, sR1, ar, ?_⟩
  walk_at "go"
  refine ⟨t1, t, _, _, rfl, rfl, SqT.of g1, SqT.of gt1, by simp, Nat.le_of_lt (sz5 (show 3 ≤ 1000000 by decide)), (fun z => by cases z), fun _ t2 n2 => ?_⟩
  have s2 := same_upd (o := HO.tup ([V.int (i : Nat)] ++ [V.int (S.rem.getD i (0, 0)).1, V.int (S.rem.getD i (0, 0)).2])) n2
  have g2 := upd_same (H := H1) (a := t2) (o := HO.tup ([V.int (i : Nat)] ++ [V.int (S.rem.getD i (0, 0)).1, V.int (S.rem.getD i (0, 0)).2]))
  have hp2 := hp1.same s2
  have gr2 := s2 _ _ gr1
  have gw2 := s2 _ _ gw1
  have dr2 := DhAll.mono s2 _ _ dr1
  have dw2 := DhAll.mono s2 _ _ dw1
  have gi2 := s2 _ _ gi1
  have s12 := s1.trans s2
  show _
  generalize upd H1 t2 (HO.tup ([V.int (i : Nat)] ++ [V.int (S.rem.getD i (0, 0)).1, V.int (S.rem.getD i (0, 0)).2])) = H2 at *
  clear sR1
  walk_at "go"
  refine ⟨sz, fun t3 n3 => ?_⟩
  have s3 := same_upd (o := HO.tup [V.int (S.st.getD i 0)]) n3
  have g3 := upd_same (H := H2) (a := t3) (o := HO.tup [V.int (S.st.getD i 0)])
  have hp3 := hp2.same s3
  have gr3 := s3 _ _ gr2
  have gw3 := s3 _ _ gw2
  have dr3 := DhAll.mono s3 _ _ dr2
  have dw3 := DhAll.mono s3 _ _ dw2
  have gi3 := s3 _ _ gi2
  have g23 := s3 _ _ g2
  have s13 := s12.trans s3
  show _
  generalize upd H2 t3 (HO.tup [V.int (S.st.getD i 0)]) = H3 at *
  walk_at "go"
  refine ⟨t2, t3, _, _, rfl, rfl, SqT.of g23, SqT.of g3, by simp, Nat.le_of_lt (sz5 (show 4 ≤ 1000000 by decide)), (fun z => by cases z), fun _ t4 n4 => ?_⟩
  have s4 := same_upd (o := HO.tup ([V.int (i : Nat)] ++ [V.int (S.rem.getD i (0, 0)).1, V.int (S.rem.getD i (0, 0)).2] ++ [V.int (S.st.getD i 0)])) n4
  have g4 : upd H3 t4 (HO.tup ([V.int (i : Nat)] ++ [V.int (S.rem.getD i (0, 0)).1, V.int (S.rem.getD i (0, 0)).2] ++ [V.int (S.st.getD i 0)])) t4 = some (.tup [V.int (i : Nat), V.int (S.rem.getD i (0, 0)).1, V.int (S.rem.getD i (0, 0)).2, V.int (S.st.getD i 0)]) := upd_same
  have hp4 := hp3.same s4
  have gr4 := s4 _ _ gr3
  have gw4 := s4 _ _ gw3
  have dr4 := DhAll.mono s4 _ _ dr3
  have dw4 := DhAll.mono s4 _ _ dw3
  have gi4 := s4 _ _ gi3
  have s14 := s13.trans s4
  show _
  generalize upd H3 t4 (HO.tup ([V.int (i : Nat)] ++ [V.int (S.rem.getD i (0, 0)).1, V.int (S.rem.getD i (0, 0)).2] ++ [V.int (S.st.getD i 0)])) = H4 at *
  walk_at "go"
  refine ⟨wa, uw, _, rfl, rfl, gw4, sz5 (by omega), ?_⟩
  have bw : ButL [wa] H4 (upd H4 wa (.lst (uw ++ [V.ref t4]))) := ButL.put (by simp)
  have tw := bw.tups fun a ha => by
    obtain rfl : a = wa := by simpa using ha
    exact .lst gw4
  have gw5 := upd_same (H := H4) (a := wa) (o := HO.lst (uw ++ [V.ref t4]))
  have dw5 : DhAll (upd H4 wa (.lst (uw ++ [V.ref t4]))) ((S.rows ++ [PRow.mk i (S.rem.getD i (0, 0)).1 (S.rem.getD i (0, 0)).2 (S.st.getD i 0)]).map rowD) (uw ++ [V.ref t4]) := by
    refine DhAll.tups tw _ _ (noLs_map rowD_noL _) ?_
    rw [List.map_append]
    exact DhAll.snoc dw4 ⟨t4, _, rfl, g4, _, _, rfl, rfl, _, _, rfl, rfl, _, _, rfl, rfl, _, _, rfl, rfl, rfl⟩
  have gs5 := bw _ _ (by simpa using hp.n2) hp4.s
  have gr5 := bw _ _ (by simpa using hp.n3) gr4
  have dr5 := DhAll.tups tw _ _ (noLs_map remD_noL _) dr4
  have gi5 := bw _ _ (by simpa using hp.ne.2.2) gi4
  show _
  generalize upd H4 wa (HO.lst (uw ++ [V.ref t4])) = H5 at *
  clear hp1 hp2 hp3 hp4 gr1 gr2 gr3 gr4 gw1 gw2 gw3 gw4 dr1 dr2 dr3 dr4 dw1 dw2 dw3 dw4 gi1 gi2 gi3 gi4 s1 s2 s3 s4 s12 s13 g1 g2 g3 g4 g23 gt1
  have sW : SqL K H5 wa (uw ++ [V.ref t4]) := SqL.of gw5
  walk_at "go"
  refine ⟨_, _, _, _, _, rfl, gi5, T.cl, T.n3, pl_w, ?_⟩
  walk_at "go"
  refine ⟨sz, fun t5 n5 => ?_⟩
  have elw : (((uw ++ [V.ref t4]).length : Nat) : Int) = (S.rows.length : Int) + 1 := by
    rw [List.length_append, luw]
    rfl
  rw [elw]
  have s6 := same_upd (o := HO.tup [V.int (S.st.getD i 0), V.int ((S.rows.length : Int) + 1)]) n5
  have g6 := upd_same (H := H5) (a := t5) (o := HO.tup [V.int (S.st.getD i 0), V.int ((S.rows.length : Int) + 1)])
  have gw6 := s6 _ _ gw5
  have dw6 := DhAll.mono s6 _ _ dw5
  have gs6 := s6 _ _ gs5
  have gr6 := s6 _ _ gr5
  have dr6 := DhAll.mono s6 _ _ dr5
  have gi6 := s6 _ _ gi5
  show _
  generalize upd H5 t5 (HO.tup [V.int (S.st.getD i 0), V.int ((S.rows.length : Int) + 1)]) = H6 at *
  walk_at "go"
  refine ⟨_, _, _, _, _, rfl, gi6, T.cl, T.n2, pl_r, ?_⟩
  walk_at "go"
  refine ⟨ra, _, _, _, rfl, rfl, gr6, ix_ok (by omega) (by omega), ?_⟩
  rw [Int.toNat_natCast]
  have br : ButL [ra] H6 (upd H6 ra (.lst (ur.set i (V.ref t5)))) := ButL.put (by simp)
  have tr := br.tups fun a ha => by
    obtain rfl : a = ra := by simpa using ha
    exact .lst gr6
  walk_at "go"
  refine q _ ⟨⟨dx, br _ _ (by simpa using hp.ne.2.1) gi6⟩, br _ _ (by simpa using hp.n1) gs6, ⟨_, upd_same, ?_⟩, ⟨_, br _ _ (by simpa using hp.n3.symm) gw6, DhAll.tups tr _ _ (noLs_map rowD_noL _) dw6⟩, hp.n1, hp.n2, hp.n3, ?_, hp.ls⟩ ?_
  · refine DhAll.tups tr _ _ (noLs_map remD_noL _) ?_
    show DhAll H6 ((S.rem.set i (S.st.getD i 0, (S.rows.length : Int) + 1)).map remD) _
    rw [List.map_set]
    exact dh_set dr6 ⟨t5, _, rfl, g6, _, _, rfl, rfl, _, _, rfl, rfl, rfl⟩
  · show (S.rem.set i _).length = _
    rw [List.length_set]
    exact hl
  · exact (Same.but s14).trans ((bw.mono (by simp)).trans ((Same.but s6).trans (br.mono (by simp))))
theorem ok_read_from {f : Addr} {fd : FuncData} (F : C8.Fun K "read_from" "Places.read_from" s_Places_read_from f fd) (M : Meth K C "read_from" f) (b : Binds K fd ["self", "stamp"] []) (T : PTxt K mg C) (m_use : C8.Met P w K mg base 1 C "_use" (spUse C) []) : C8.Met P w K mg base 2 C "read_from" (spRead C) [] := by
  refine C8.met0 T.cl M F b sc_Places_read_from (fun vs H Q E h => ?_) (fun cdv A outer s H vs Q E hr h => ?_)
  · obtain ⟨p, sa, ra, wa, S, x, rfl, _⟩ := h
    rfl
  obtain ⟨p, sa, ra, wa, S, x, rfl, hp, hx, lr, q⟩ := h
  have m_use := metI m_use
  refine ⟨_, (pss_cons (ps_expr (C8.pe_mt m_use hr (by omega) (pv 0) (pa_cons (pe_bm PySem.F.plainAttrs_list PySem.F.slot_list_index PySem.F.type_list_index (mtI mt_index) (pe_fld (pv 0) rfl) (pa_cons (pv 1) pa_nil)) pa_nil)))
      (pss_one (ps_fldaug (pv 0) pe_int in_add))), ?_⟩
  obtain ⟨dx, g⟩ := hp.g
  have sS : SqL K H sa (S.st.map V.int) := SqL.of hp.s
  walk_at "go"
  refine ⟨p, dx, _, rfl, g, pl_use, ?_⟩
  walk_at "go"
  refine ⟨_, _, _, _, _, rfl, g, T.cl, T.n1, pl_s, ?_⟩
  walk_at "go"
  refine ⟨.inl ⟨rfl, _, sS⟩, ?_⟩
  walk_at "go"
  refine RmI.mk (index_mk sS hx ?_)
  walk_at "go"
  refine SpI.mk ⟨p, sa, ra, wa, S, S.st.idxOf x, rfl, hp, idx_lt hx, lr, fun H1 h1 b1 => ?_⟩
  obtain ⟨dx1, g1⟩ := h1.g
  walk_at "go"
  refine ⟨p, C, dx1, _, _, rfl, g1, T.cl, T.n4, pl_rc, ?_⟩
  walk_at "go"
  refine ⟨dx1, _, g1, (by show 5 < 1000; decide), ?_⟩
  rw [pl_prc]
  exact q _ h1.putc ((b1.mono (by simp)).trans (ButL.put (by simp)))
theorem ok_write_to {f : Addr} {fd : FuncData} (F : C8.Fun K "write_to" "Places.write_to" s_Places_write_to f fd) (M : Meth K C "write_to" f) (b : Binds K fd ["self", "stamp"] []) (T : PTxt K mg C) (m_use : C8.Met P w K mg base 1 C "_use" (spUse C) []) : C8.Met P w K mg base 2 C "write_to" (spWrite C) [] := by
  refine C8.met0 T.cl M F b sc_Places_write_to (fun vs H Q E h => ?_) (fun cdv A outer s H vs Q E hr h => ?_)
  · obtain ⟨p, sa, ra, wa, S, x, rfl, _⟩ := h
    rfl
  obtain ⟨p, sa, ra, wa, S, x, rfl, hp, hx, lr, q⟩ := h
  have m_use := metI m_use
  refine ⟨_, (pss_cons (ps_set (i := 2) sc_Places_write_to.nd rfl (.inl rfl) (pe_bm PySem.F.plainAttrs_list PySem.F.slot_list_index PySem.F.type_list_index (mtI mt_index) (pe_fld (pv 0) rfl) (pa_cons pe_int pa_nil)))
      (pss_cons (ps_asg (pv 1) (pg_sub (pe_fld (pv 0) rfl) (pv 2) set_list))
      (pss_cons (ps_expr (C8.pe_mt m_use hr (by omega) (pv 0) (pa_cons (pv 2) pa_nil)))
      (pss_one (ps_fldaug (pv 0) pe_int in_add))))), ?_⟩
  obtain ⟨dx, g⟩ := hp.g
  have gs := hp.s
  have sS : SqL K H sa (S.st.map V.int) := SqL.of hp.s
  have li := idx_lt hx
  walk_at "go"
  refine ⟨_, _, _, _, _, rfl, g, T.cl, T.n1, pl_s, ?_⟩
  walk_at "go"
  refine RmI.mk (index_mk sS hx ?_)
  walk_at "go"
  refine ⟨_, _, _, _, _, rfl, g, T.cl, T.n1, pl_s, ?_⟩
  walk_at "go"
  refine ⟨sa, _, _, _, rfl, rfl, gs, ix_ok (by omega) (by rw [List.length_map]; omega), ?_⟩
  rw [set_ints, Int.toNat_natCast]
  have h1 : PlcAt C (upd H sa (.lst ((S.st.set (S.st.idxOf 0) x).map V.int))) p sa ra wa (putS S x) := hp.puts (by rw [List.length_set])
  have b1 : ButL [sa] H (upd H sa (.lst ((S.st.set (S.st.idxOf 0) x).map V.int))) := ButL.put (by simp)
  show _
  generalize upd H sa (HO.lst ((S.st.set (S.st.idxOf 0) x).map V.int)) = H1 at *
  obtain ⟨dx1, g1⟩ := h1.g
  clear sS gs
  walk_at "go"
  refine ⟨p, dx1, _, rfl, g1, pl_use, ?_⟩
  walk_at "go"
  refine SpI.mk ⟨p, sa, ra, wa, putS S x, S.st.idxOf 0, rfl, h1, ?_, lr, fun H2 h2 b2 => ?_⟩
  · show S.st.idxOf 0 < (S.st.set _ _).length
    rw [List.length_set]
    exact li
  obtain ⟨dx2, g2⟩ := h2.g
  walk_at "go"
  refine ⟨p, C, dx2, _, _, rfl, g2, T.cl, T.n5, pl_wc, ?_⟩
  walk_at "go"
  refine ⟨dx2, _, g2, (by show 5 < 1000; decide), ?_⟩
  rw [pl_pwc]
  exact q _ h2.putc ((b1.mono (by simp)).trans ((b2.mono (by simp)).trans (ButL.put (by simp))))
end

end

section

-- a condition of an operator
local macro_rules | `(tactic| walk_at "cond") => `(tactic| first
  | (show (0 : Int) < _; omega)
  | (show CDiv _ _; constructor <;> (first | decide | omega))
  | (show CMul _ _; first | (refine cmul_l ?_; constructor <;> (first | decide | omega)) | (refine cmul_r ?_; constructor <;> (first | decide | omega)))
  | (show CPow _ _; exact (by refine ⟨by decide, by decide, by decide⟩))
  | (show CDivW _ _; exact ⟨by decide, by decide +kernel⟩))
local macro_rules | `(tactic| walk_at "sq") => `(tactic| first | assumption | exact Dh.mono (same_upd (by assumption)) _ _ (by assumption) | exact .inl (.inl (.inl (by assumption))) | exact .inr (.inl (.inl (by assumption))) | exact SqL.of (by assumption) | exact .inl (by assumption) | exact .inl (SqL.of (by assumption)) | exact SqT.of (by assumption) | exact .inr (SqT.of (by assumption)))
local macro_rules | `(tactic| walk_at "st") => `(tactic| first
  | refine ⟨_, rfl, ?_⟩
  | refine ⟨_, _, rfl, rfl, ?_⟩
  | refine .inl ⟨_, rfl, ?_⟩
  | refine ⟨rfl, ?_⟩
  | refine ⟨_, _, rfl, by walk_at "sq", ?_⟩
  | refine ⟨.inl ⟨rfl, _, SqL.of (by assumption)⟩, ?_⟩
  | refine ⟨by walk_at "cond", ?_⟩
  | (refine' ifBT ?hh ?_; (case hh => first | rfl | assumption))
  | (refine' ifBF ?hh ?_; (case hh => first | rfl | assumption)))
local macro_rules | `(tactic| walk_at "go") => `(tactic| repeat walk_at "st")
local macro_rules | `(tactic| walk_at "yes") => `(tactic| (refine' ifT ?hh ?_; (case hh => first | rfl | decide +kernel)))
local macro_rules | `(tactic| walk_at "no") => `(tactic| (refine' ifF ?hh ?_; (case hh => first | decide +kernel | (intro z; cases z; done))))

local macro_rules | `(tactic| walk_at "st") => `(tactic| refine ⟨_, _, _, _, _, rfl, by assumption, by assumption, by omega, by omega, by omega, by omega, by omega, ?_⟩)
local macro_rules | `(tactic| walk_at "st") => `(tactic| refine ⟨_, _, _, _, _, rfl, Same.seq (by assumption) (by assumption), by assumption, by omega, by omega, by omega, by omega, by omega, ?_⟩)

/-! ### Places is made -/
def plS0 (n : Nat) : PS := ⟨List.replicate n 0, List.replicate n (0, 0), [], 0, 0⟩
def spPlI (C : Addr) : Sp := fun vs H Q _ => ∃ (p dx : Addr) (n : Nat), vs = [.ref p, .int n] ∧ H p = some (.ins C dx []) ∧ n ≤ 1000 ∧ ∀ sa ra wa H', PlcAt C H' p sa ra wa (plS0 n) → H sa = none → H ra = none → H wa = none → But H H' p → Q .non H'
theorem dh_rep1 {H : Hp} {d : PyData} {v : V} (h : Dh H d v) : ∀ n, DhAll H (List.replicate n d) (List.replicate n v)
  | 0 => rfl
  | n + 1 => ⟨v, List.replicate n v, rfl, h, dh_rep1 h n⟩
theorem rep1 {α : Type} (x : α) : ∀ n, (List.replicate n [x]).flatten = List.replicate n x
  | 0 => rfl
  | n + 1 => by
    rw [List.replicate_succ, List.flatten_cons, rep1 x n]
    rfl
section
variable {P : Program} {w : World} {K : PySem.W.Frag} {mg : Str → Option Value} {base : Heap} {C : Addr}
theorem ok_plinit {f : Addr} {fd : FuncData} (F : C8.Fun K "__init__" "Places.__init__" s_Places___init__ f fd) (M : Mk K C f) (b : Binds K fd ["self", "count"] []) (T : PTxt K mg C) : C8.Mak P w K mg base 1 "Places" C (spPlI C) [] := by
  refine C8.mak0 M T.mgC F b .nil sc_Places___init__ (fun vs H Q E h => ?_) (fun cdv A outer s H vs Q E hr h => ?_)
  · obtain ⟨p, dx, n, rfl, _⟩ := h
    rfl
  obtain ⟨p, dx, n, rfl, hp, hn, q⟩ := h
  refine ⟨_, (pss_cons (ps_fld (pv 0) (pe_op op_rep (pe_lst (pa_cons pe_int pa_nil)) (pv 1)) rfl)
      (pss_cons (ps_fld (pv 0) (pe_op op_rep (pe_lst (pa_cons (pe_tup (pa_cons pe_int (pa_cons pe_int pa_nil))) pa_nil)) (pv 1)) rfl)
      (pss_cons (ps_fld (pv 0) (pe_lst pa_nil) rfl)
      (pss_cons (ps_fld (pv 0) pe_int rfl)
      (pss_one (ps_fld (pv 0) pe_int rfl)))))), ?_⟩
  walk_at "go"
  refine ⟨sz, fun l1 n1 => ?_⟩
  have s1 := same_upd (o := HO.lst [V.int 0]) n1
  have g1 := upd_same (H := H) (a := l1) (o := HO.lst [V.int 0])
  have hp1 := s1 _ _ hp
  show _
  generalize upd H l1 (HO.lst [V.int 0]) = H1 at *
  walk_at "go"
  refine ⟨l1, n, [V.int 0], rfl, rfl, g1, by omega, by omega, (by rw [Int.toNat_natCast, List.length_singleton, sizeLine_eq]; omega), fun sa nsa => ?_⟩
  rw [Int.toNat_natCast, rep1]
  have s2 := same_upd (o := HO.lst (List.replicate n (V.int 0))) nsa
  have gs2 := upd_same (H := H1) (a := sa) (o := HO.lst (List.replicate n (V.int 0)))
  have hp2 := s2 _ _ hp1
  have fs := s1.free nsa
  have s12 := s1.trans s2
  have nps : p ≠ sa := ne_of_none hp1 nsa
  show _
  generalize upd H1 sa (HO.lst (List.replicate n (V.int 0))) = H2 at *
  walk_at "go"
  refine ⟨p, C, dx, _, rfl, hp2, T.cl, T.n1, (by show 0 < 1000; decide), ?_⟩
  have b3 : But H (upd H2 p (.ins C dx (putF "_stamps" (V.ref sa) []))) p := fun a o na e => by
    rw [upd_ne na]
    exact s12 _ _ e
  have g3 := upd_same (H := H2) (a := p) (o := HO.ins C dx (putF "_stamps" (V.ref sa) []))
  have gs3 : upd H2 p (.ins C dx (putF "_stamps" (V.ref sa) [])) sa = some (.lst (List.replicate n (V.int 0))) := by
    rw [upd_ne nps.symm]
    exact gs2
  show _
  generalize upd H2 p (HO.ins C dx (putF "_stamps" (V.ref sa) [])) = H3 at *
  clear g1 s1 s2 gs2 hp1 hp2 s12
  walk_at "go"
  refine ⟨sz, fun t nt => ?_⟩
  have s4 := same_upd (o := HO.tup [V.int 0, V.int 0]) nt
  have g4 := upd_same (H := H3) (a := t) (o := HO.tup [V.int 0, V.int 0])
  have gp4 := s4 _ _ g3
  have gs4 := s4 _ _ gs3
  have b4 := b3.trans (Same.one (p := p) s4)
  show _
  generalize upd H3 t (HO.tup [V.int 0, V.int 0]) = H4 at *
  walk_at "go"
  refine ⟨sz, fun l2 n2 => ?_⟩
  have s5 := same_upd (o := HO.lst [V.ref t]) n2
  have g5 := upd_same (H := H4) (a := l2) (o := HO.lst [V.ref t])
  have gt5 := s5 _ _ g4
  have gp5 := s5 _ _ gp4
  have gs5 := s5 _ _ gs4
  have b5 := b4.trans (Same.one (p := p) s5)
  show _
  generalize upd H4 l2 (HO.lst [V.ref t]) = H5 at *
  walk_at "go"
  refine ⟨l2, n, [V.ref t], rfl, rfl, g5, by omega, by omega, (by rw [Int.toNat_natCast, List.length_singleton, sizeLine_eq]; omega), fun ra nra => ?_⟩
  rw [Int.toNat_natCast, rep1]
  have s6 := same_upd (o := HO.lst (List.replicate n (V.ref t))) nra
  have gr6 := upd_same (H := H5) (a := ra) (o := HO.lst (List.replicate n (V.ref t)))
  have gt6 := s6 _ _ gt5
  have gp6 := s6 _ _ gp5
  have gs6 := s6 _ _ gs5
  have b6 := b5.trans (Same.one (p := p) s6)
  have npr : p ≠ ra := ne_of_none gp5 nra
  have nsr : sa ≠ ra := ne_of_none gs5 nra
  have fr : H ra = none := by
    cases e : H ra with
    | none => rfl
    | some o =>
      have := b5 _ _ npr.symm e
      rw [nra] at this
      cases this
  show _
  generalize upd H5 ra (HO.lst (List.replicate n (V.ref t))) = H6 at *
  clear s4 s5 s6 g3 gs3 g4 gp4 gs4 g5 gt5 gp5 gs5 b3 b4 b5
  walk_at "go"
  refine ⟨p, C, dx, _, rfl, gp6, T.cl, T.n2, (by show 1 < 1000; decide), ?_⟩
  have b7 := b6.trans (But.put (H := H6) (p := p) (o := HO.ins C dx (putF "_remembered" (V.ref ra) (putF "_stamps" (V.ref sa) []))))
  have g7 := upd_same (H := H6) (a := p) (o := HO.ins C dx (putF "_remembered" (V.ref ra) (putF "_stamps" (V.ref sa) [])))
  have gs7 : upd H6 p (.ins C dx (putF "_remembered" (V.ref ra) (putF "_stamps" (V.ref sa) []))) sa = some (.lst (List.replicate n (V.int 0))) := by
    rw [upd_ne nps.symm]
    exact gs6
  have gr7 : upd H6 p (.ins C dx (putF "_remembered" (V.ref ra) (putF "_stamps" (V.ref sa) []))) ra = some (.lst (List.replicate n (V.ref t))) := by
    rw [upd_ne npr.symm]
    exact gr6
  have npt : t ≠ p := fun z => by
    rw [z, gp6] at gt6
    cases gt6
  have gt7 : upd H6 p (.ins C dx (putF "_remembered" (V.ref ra) (putF "_stamps" (V.ref sa) []))) t = some (.tup [V.int 0, V.int 0]) := by
    rw [upd_ne npt]
    exact gt6
  show _
  generalize upd H6 p (HO.ins C dx (putF "_remembered" (V.ref ra) (putF "_stamps" (V.ref sa) []))) = H7 at *
  clear gp6 gs6 gr6 gt6 b6
  walk_at "go"
  refine ⟨sz, fun wa nwa => ?_⟩
  have s8 := same_upd (o := HO.lst []) nwa
  have gw8 := upd_same (H := H7) (a := wa) (o := HO.lst [])
  have g8 := s8 _ _ g7
  have gs8 := s8 _ _ gs7
  have gr8 := s8 _ _ gr7
  have gt8 := s8 _ _ gt7
  have b8 := b7.trans (Same.one (p := p) s8)
  have npw : p ≠ wa := ne_of_none g7 nwa
  have nsw : sa ≠ wa := ne_of_none gs7 nwa
  have nrw : ra ≠ wa := ne_of_none gr7 nwa
  have fw : H wa = none := by
    cases e : H wa with
    | none => rfl
    | some o =>
      have := b7 _ _ npw.symm e
      rw [nwa] at this
      cases this
  show _
  generalize upd H7 wa (HO.lst []) = H8 at *
  clear s8 g7 gs7 gr7 gt7 b7
  walk_at "go"
  refine ⟨p, C, dx, _, rfl, g8, T.cl, T.n3, (by show 2 < 1000; decide), ?_⟩
  have g9 := upd_same (H := H8) (a := p) (o := HO.ins C dx (putF "_rows" (V.ref wa) (putF "_remembered" (V.ref ra) (putF "_stamps" (V.ref sa) []))))
  walk_at "go"
  refine ⟨p, C, dx, _, rfl, g9, T.cl, T.n4, (by show 3 < 1000; decide), ?_⟩
  rw [upd_upd]
  have g10 := upd_same (H := H8) (a := p) (o := HO.ins C dx (putF "_read_count" (V.int 0) (putF "_rows" (V.ref wa) (putF "_remembered" (V.ref ra) (putF "_stamps" (V.ref sa) [])))))
  walk_at "go"
  refine ⟨p, C, dx, _, rfl, g10, T.cl, T.n5, (by show 4 < 1000; decide), ?_⟩
  rw [upd_upd, pl_make]
  have b11 := b8.trans (But.put (H := H8) (p := p) (o := HO.ins C dx (plF sa ra wa 0 0)))
  refine q sa ra wa _ ⟨⟨dx, upd_same⟩, ?_, ⟨List.replicate n (V.ref t), by rw [upd_ne npr.symm]; exact gr8, ?_⟩, ⟨[], by rw [upd_ne npw.symm]; exact gw8, rfl⟩, nsr, nsw, nrw, ?_, ?_⟩ fs fr fw b11
  · rw [upd_ne nps.symm, gs8]
    show _ = some (HO.lst ((List.replicate n (0 : Int)).map V.int))
    rw [List.map_replicate]
  · show DhAll _ ((List.replicate n ((0 : Int), (0 : Int))).map remD) _
    rw [List.map_replicate]
    refine dh_rep1 (d := remD (0, 0)) (v := V.ref t) ⟨t, _, rfl, ?_, _, _, rfl, rfl, _, _, rfl, rfl, rfl⟩ n
    rw [upd_ne npt]
    exact gt8
  · show (List.replicate n ((0 : Int), (0 : Int))).length = (List.replicate n (0 : Int)).length
    rw [List.length_replicate, List.length_replicate]
  · show (List.replicate n (0 : Int)).length ≤ 1000
    rw [List.length_replicate]
    exact hn
end

end

section

-- a condition of an operator
local macro_rules | `(tactic| walk_at "cond") => `(tactic| first
  | (show (0 : Int) < _; omega)
  | (show CDiv _ _; constructor <;> (first | decide | omega))
  | (show CMul _ _; first | (refine cmul_l ?_; constructor <;> (first | decide | omega)) | (refine cmul_r ?_; constructor <;> (first | decide | omega)))
  | (show CPow _ _; exact (by refine ⟨by decide, by decide, by decide⟩))
  | (show CDivW _ _; exact ⟨by decide, by decide +kernel⟩))
local macro_rules | `(tactic| walk_at "sq") => `(tactic| first | assumption | exact Dh.mono (same_upd (by assumption)) _ _ (by assumption) | exact .inl (.inl (.inl (by assumption))) | exact .inr (.inl (.inl (by assumption))) | exact SqL.of (by assumption) | exact .inl (by assumption) | exact .inl (SqL.of (by assumption)) | exact SqT.of (by assumption) | exact .inr (SqT.of (by assumption)))
local macro_rules | `(tactic| walk_at "st") => `(tactic| first
  | refine ⟨_, rfl, ?_⟩
  | refine ⟨_, _, rfl, rfl, ?_⟩
  | refine .inl ⟨_, rfl, ?_⟩
  | refine ⟨rfl, ?_⟩
  | refine ⟨_, _, rfl, by walk_at "sq", ?_⟩
  | refine ⟨.inl ⟨rfl, _, SqL.of (by assumption)⟩, ?_⟩
  | refine ⟨by walk_at "cond", ?_⟩
  | (refine' ifBT ?hh ?_; (case hh => first | rfl | assumption))
  | (refine' ifBF ?hh ?_; (case hh => first | rfl | assumption)))
local macro_rules | `(tactic| walk_at "go") => `(tactic| repeat walk_at "st")
local macro_rules | `(tactic| walk_at "yes") => `(tactic| (refine' ifT ?hh ?_; (case hh => first | rfl | decide +kernel)))
local macro_rules | `(tactic| walk_at "no") => `(tactic| (refine' ifF ?hh ?_; (case hh => first | decide +kernel | (intro z; cases z; done))))

local macro_rules | `(tactic| walk_at "st") => `(tactic| refine ⟨_, _, _, _, _, rfl, by assumption, by assumption, by omega, by omega, by omega, by omega, by omega, ?_⟩)
local macro_rules | `(tactic| walk_at "st") => `(tactic| refine ⟨_, _, _, _, _, rfl, Same.seq (by assumption) (by assumption), by assumption, by omega, by omega, by omega, by omega, by omega, ?_⟩)

/-! ### NoStamp, NoRoom, Starved -/
abbrev s_NoStamp_init : Stmt := inClass (topS 9) 0
theorem sn_NoStamp_init : NScope ["self", "stamp", "__class__"] ["self", "stamp"] ["__class__"] (C8.fnScope s_NoStamp_init) := nscope_by (by decide +kernel)
abbrev s_NoRoom_init : Stmt := inClass (topS 7) 0
theorem sn_NoRoom_init : NScope ["self", "needed", "limit", "__class__"] ["self", "needed", "limit"] ["__class__"] (C8.fnScope s_NoRoom_init) := nscope_by (by decide +kernel)
abbrev s_Starved_init : Stmt := inClass (topS 8) 0
theorem sn_Starved_init : NScope ["self", "needed", "limit", "__class__"] ["self", "needed", "limit"] ["__class__"] (C8.fnScope s_Starved_init) := nscope_by (by decide +kernel)
theorem no_fly {P : Program} {w : World} {l : List Env} {H : Hp} {s s' : Shared} {e : Value} {p : Prop} (c : L2.CX P w l H s (fun _ _ _ => False) e s') : p := by
  obtain ⟨_, _, _, _, _, _, _, _, _, _, _, _, z⟩ := c
  exact z.elim
theorem sz3 {n : Nat} (h : n ≤ 10000) : n ≤ sizeLine := by
  rw [sizeLine_eq]
  omega
theorem len_ap {a b : Str} {m n : Nat} (ha : a.length ≤ m) (hb : b.length ≤ n) : (a ++ b).length ≤ m + n := by
  rw [Str.length_append]
  omega
def nsF (i : Int) : List (Str × V) := [("stamp", .int i)]
def nlF (i j : Int) : List (Str × V) := [("limit", .int j), ("needed", .int i)]
def spNS (D : Addr) : Sp := fun vs H Q _ => ∃ (a : Addr) (i : Int), vs = [.ref a, .int i] ∧ H a = some (exo a D none) ∧ i.natAbs.log2 < 1920 ∧
  ∀ dx, H dx = none → dx ≠ a → Q .non (upd (upd H dx (exd dx (nsF i))) a (exo a D (some dx)))
def spNL (D : Addr) : Sp := fun vs H Q _ => ∃ (a : Addr) (i j : Int), vs = [.ref a, .int i, .int j] ∧ H a = some (exo a D none) ∧ i.natAbs.log2 < 1920 ∧ j.natAbs.log2 < 1920 ∧
  ∀ dx, H dx = none → dx ≠ a → Q .non (upd (upd (upd H dx (exd dx [("needed", .int i)])) a (exo a D (some dx))) dx (exd dx (nlF i j)))
section
variable {P : Program} {w : World} {K : PySem.W.Frag} {mg : Str → Option Value} {base : Heap}
theorem ok_NoStamp {F : NF} {f D cc : Addr} {dV kV doc pm ctv : Value} {an : Option Addr} {q : Str} {cl : List (Str × Addr)} {c : Addr} (U : SupAt P K mg (NF.of s_NoStamp_init "__init__" q cl c) f D cc "self" dV kV doc pm ctv an)
    (nS : PySem.W.findIn K (.ref D) "stamp" = some none) :
    FnOk P w K mg base (L2.CX P w) 1 f (PySem.W.fnX "__init__" q (C8.fnArgs s_NoStamp_init) (C8.fnBody s_NoStamp_init) (C8.fnScope s_NoStamp_init) cl dV kV doc pm an (.ref c) ctv) ["self", "stamp"] (spNS D) := by
  refine fn_sup (F := NF.of s_NoStamp_init "__init__" q cl c) (N := ["self", "stamp", "__class__"]) sn_NoStamp_init U rfl (by rfl) (fun vs H Q E h => ?_) (fun A outer s H vs Q E hr h => ?_)
  · obtain ⟨a, i, rfl, _⟩ := h
    rfl
  obtain ⟨a, i, rfl, ha, hi, q⟩ := h
  refine ⟨_, _, pa_cons (pe_joined (.cons pe_str (.cons (pe_fmt (pv 1)) .nil))) pa_nil, pss_one (ps_ost (pv 0) (pv 1)), a, rfl, ha, ?_⟩
  have l1 := len_ap (show Str.empty.length ≤ 0 by decide +kernel) (show ("there is no stamp " : Str).length ≤ 50 by decide +kernel)
  have l2 := len_ap l1 (int_text_len_1921 hi)
  refine ⟨_, rfl, sz3 (Nat.le_trans l1 (by decide)), ?_⟩
  refine ⟨_, rfl, .inr ⟨i, rfl, hi, _, rfl, sz3 (Nat.le_trans l2 (by decide)), ?_⟩⟩
  refine ⟨(by show 1 ≤ 1000; decide), ha, _, rfl, _, rfl, a, D, rfl, U.exc, nS, .inl ⟨ha, fun dx nd ne => ?_⟩⟩
  exact q dx nd ne
theorem ok_NoRoom {F : NF} {f D cc : Addr} {dV kV doc pm ctv : Value} {an : Option Addr} {q : Str} {cl : List (Str × Addr)} {c : Addr} (U : SupAt P K mg (NF.of s_NoRoom_init "__init__" q cl c) f D cc "self" dV kV doc pm ctv an)
    (nS : PySem.W.findIn K (.ref D) "needed" = some none) (nE : PySem.W.findIn K (.ref D) "limit" = some none) :
    FnOk P w K mg base (L2.CX P w) 1 f (PySem.W.fnX "__init__" q (C8.fnArgs s_NoRoom_init) (C8.fnBody s_NoRoom_init) (C8.fnScope s_NoRoom_init) cl dV kV doc pm an (.ref c) ctv) ["self", "needed", "limit"] (spNL D) := by
  refine fn_sup (F := NF.of s_NoRoom_init "__init__" q cl c) (N := ["self", "needed", "limit", "__class__"]) sn_NoRoom_init U rfl (by rfl) (fun vs H Q E h => ?_) (fun A outer s H vs Q E hr h => ?_)
  · obtain ⟨a, i, j, rfl, _⟩ := h
    rfl
  obtain ⟨a, i, j, rfl, ha, hi, hj, q⟩ := h
  refine ⟨_, _, pa_cons (pe_joined (.cons (pe_fmt (pv 1)) (.cons pe_str (.cons (pe_fmt (pv 2)) (.cons pe_str .nil))))) pa_nil, pss_cons (ps_ost (pv 0) (pv 1)) (pss_one (ps_ost (pv 0) (pv 2))), a, rfl, ha, ?_⟩
  have l1 := len_ap (show Str.empty.length ≤ 0 by decide +kernel) (int_text_len_1921 hi)
  have l2 := len_ap l1 (show (" stamps are needed, " : Str).length ≤ 50 by decide +kernel)
  have l3 := len_ap l2 (int_text_len_1921 hj)
  have l4 := len_ap l3 (show (" can be kept" : Str).length ≤ 50 by decide +kernel)
  refine ⟨_, rfl, .inr ⟨i, rfl, hi, _, rfl, sz3 (Nat.le_trans l1 (by decide)), ?_⟩⟩
  refine ⟨_, rfl, sz3 (Nat.le_trans l2 (by decide)), ?_⟩
  refine ⟨_, rfl, .inr ⟨j, rfl, hj, _, rfl, sz3 (Nat.le_trans l3 (by decide)), ?_⟩⟩
  refine ⟨_, rfl, sz3 (Nat.le_trans l4 (by decide)), ?_⟩
  refine ⟨(by show 1 ≤ 1000; decide), ha, _, rfl, _, rfl, a, D, rfl, U.exc, nS, .inl ⟨ha, fun dx nd ne => ?_⟩⟩
  refine ⟨_, rfl, _, rfl, a, D, rfl, U.exc, nE, .inr ⟨dx, _, upd_same, ?_, (by show 1 ≤ 900; decide), q dx nd ne⟩⟩
  rw [upd_ne ne]
  exact upd_same
theorem ok_Starved {F : NF} {f D cc : Addr} {dV kV doc pm ctv : Value} {an : Option Addr} {q : Str} {cl : List (Str × Addr)} {c : Addr} (U : SupAt P K mg (NF.of s_Starved_init "__init__" q cl c) f D cc "self" dV kV doc pm ctv an)
    (nS : PySem.W.findIn K (.ref D) "needed" = some none) (nE : PySem.W.findIn K (.ref D) "limit" = some none) :
    FnOk P w K mg base (L2.CX P w) 1 f (PySem.W.fnX "__init__" q (C8.fnArgs s_Starved_init) (C8.fnBody s_Starved_init) (C8.fnScope s_Starved_init) cl dV kV doc pm an (.ref c) ctv) ["self", "needed", "limit"] (spNL D) := by
  refine fn_sup (F := NF.of s_Starved_init "__init__" q cl c) (N := ["self", "needed", "limit", "__class__"]) sn_Starved_init U rfl (by rfl) (fun vs H Q E h => ?_) (fun A outer s H vs Q E hr h => ?_)
  · obtain ⟨a, i, j, rfl, _⟩ := h
    rfl
  obtain ⟨a, i, j, rfl, ha, hi, hj, q⟩ := h
  refine ⟨_, _, pa_cons (pe_joined (.cons (pe_fmt (pv 1)) (.cons pe_str (.cons (pe_fmt (pv 2)) .nil)))) pa_nil, pss_cons (ps_ost (pv 0) (pv 1)) (pss_one (ps_ost (pv 0) (pv 2))), a, rfl, ha, ?_⟩
  have l1 := len_ap (show Str.empty.length ≤ 0 by decide +kernel) (int_text_len_1921 hi)
  have l2 := len_ap l1 (show (" frames are needed at once, there are " : Str).length ≤ 50 by decide +kernel)
  have l3 := len_ap l2 (int_text_len_1921 hj)
  refine ⟨_, rfl, .inr ⟨i, rfl, hi, _, rfl, sz3 (Nat.le_trans l1 (by decide)), ?_⟩⟩
  refine ⟨_, rfl, sz3 (Nat.le_trans l2 (by decide)), ?_⟩
  refine ⟨_, rfl, .inr ⟨j, rfl, hj, _, rfl, sz3 (Nat.le_trans l3 (by decide)), ?_⟩⟩
  refine ⟨(by show 1 ≤ 1000; decide), ha, _, rfl, _, rfl, a, D, rfl, U.exc, nS, .inl ⟨ha, fun dx nd ne => ?_⟩⟩
  refine ⟨_, rfl, _, rfl, a, D, rfl, U.exc, nE, .inr ⟨dx, _, upd_same, ?_, (by show 1 ≤ 900; decide), q dx nd ne⟩⟩
  rw [upd_ne ne]
  exact upd_same
end

end

section

-- a condition of an operator
local macro_rules | `(tactic| walk_at "cond") => `(tactic| first
  | (show (0 : Int) < _; omega)
  | (show CDiv _ _; constructor <;> (first | decide | omega))
  | (show CMul _ _; first | (refine cmul_l ?_; constructor <;> (first | decide | omega)) | (refine cmul_r ?_; constructor <;> (first | decide | omega)))
  | (show CPow _ _; exact (by refine ⟨by decide, by decide, by decide⟩))
  | (show CDivW _ _; exact ⟨by decide, by decide +kernel⟩))
local macro_rules | `(tactic| walk_at "sq") => `(tactic| first | assumption | exact Dh.mono (same_upd (by assumption)) _ _ (by assumption) | exact .inl (.inl (.inl (by assumption))) | exact .inr (.inl (.inl (by assumption))) | exact SqL.of (by assumption) | exact .inl (by assumption) | exact .inl (SqL.of (by assumption)) | exact SqT.of (by assumption) | exact .inr (SqT.of (by assumption)))
local macro_rules | `(tactic| walk_at "st") => `(tactic| first
  | refine ⟨_, rfl, ?_⟩
  | refine ⟨_, _, rfl, rfl, ?_⟩
  | refine .inl ⟨_, rfl, ?_⟩
  | refine ⟨rfl, ?_⟩
  | refine ⟨_, _, rfl, by walk_at "sq", ?_⟩
  | refine ⟨.inl ⟨rfl, _, SqL.of (by assumption)⟩, ?_⟩
  | refine ⟨by walk_at "cond", ?_⟩
  | (refine' ifBT ?hh ?_; (case hh => first | rfl | assumption))
  | (refine' ifBF ?hh ?_; (case hh => first | rfl | assumption)))
local macro_rules | `(tactic| walk_at "go") => `(tactic| repeat walk_at "st")
local macro_rules | `(tactic| walk_at "yes") => `(tactic| (refine' ifT ?hh ?_; (case hh => first | rfl | decide +kernel)))
local macro_rules | `(tactic| walk_at "no") => `(tactic| (refine' ifF ?hh ?_; (case hh => first | decide +kernel | (intro z; cases z; done))))

local macro_rules | `(tactic| walk_at "st") => `(tactic| refine ⟨_, _, _, _, _, rfl, by assumption, by assumption, by omega, by omega, by omega, by omega, by omega, ?_⟩)
local macro_rules | `(tactic| walk_at "st") => `(tactic| refine ⟨_, _, _, _, _, rfl, Same.seq (by assumption) (by assumption), by assumption, by omega, by omega, by omega, by omega, by omega, ?_⟩)

/-! ### the pager's state -/
structure Cont where
  st : Int
  ad : Addr
  by' : List Int
def Cont.row (x : Cont) : Key × V := (.inl x.st, .ref x.ad)
def pinR (i : Int) : Key × V := (.inl i, .bl true)
structure GA where
  p : Addr
  fa : Addr
  da : Addr
  na : Addr
  la : Addr
  pp : Addr
  sa : Addr
  ra : Addr
  wa : Addr
  cp : Addr
  cf : Addr
  cu : Addr
  cb : Addr
  cdx : Addr
def GA.fix (A : GA) : List Addr := [A.p, A.fa, A.da, A.na, A.la, A.pp, A.sa, A.ra, A.wa, A.cp, A.cf, A.cu, A.cb]
structure GK where
  kd : Str
  n : Nat
  room : Int
  size : Int
structure GS where
  fr : List Int
  pl : PS
  calls : Int
  hand : Int
  fl : List Int
  us : List Int
  bits : List Int
  cs : List Cont
  pn : List Int
  lf : List Int
def GA.all (A : GA) (cs : List Cont) : List Addr := A.fix ++ cs.map (·.ad)
def pgF (fa pp ca da na la : Addr) (room size : Int) : List (Str × V) := [("_frames", .ref fa), ("_places", .ref pp), ("_room", .int room), ("_page_size", .int size), ("_chooser", .ref ca), ("_contents", .ref da), ("_pinned", .ref na), ("_left", .ref la)]
section
variable {fa pp ca da na la x : Addr} {room size : Int}
theorem pg_fr : (pgF fa pp ca da na la room size).lookup ("_frames" : Str) = some (.ref fa) := by kernel_rfl
theorem pg_pl : (pgF fa pp ca da na la room size).lookup ("_places" : Str) = some (.ref pp) := by kernel_rfl
theorem pg_room : (pgF fa pp ca da na la room size).lookup ("_room" : Str) = some (.int room) := by kernel_rfl
theorem pg_size : (pgF fa pp ca da na la room size).lookup ("_page_size" : Str) = some (.int size) := by kernel_rfl
theorem pg_ch : (pgF fa pp ca da na la room size).lookup ("_chooser" : Str) = some (.ref ca) := by kernel_rfl
theorem pg_c : (pgF fa pp ca da na la room size).lookup ("_contents" : Str) = some (.ref da) := by kernel_rfl
theorem pg_pin : (pgF fa pp ca da na la room size).lookup ("_pinned" : Str) = some (.ref na) := by kernel_rfl
theorem pg_l : (pgF fa pp ca da na la room size).lookup ("_left" : Str) = some (.ref la) := by kernel_rfl
theorem pg_ppin : putF "_pinned" (.ref x) (pgF fa pp ca da na la room size) = pgF fa pp ca da x la room size := by kernel_rfl
theorem pg_plf : putF "_left" (.ref x) (pgF fa pp ca da na la room size) = pgF fa pp ca da na x room size := by kernel_rfl
theorem pg_make : putF "_left" (.ref la) (putF "_pinned" (.ref na) (putF "_contents" (.ref da) (putF "_chooser" (.ref ca) (putF "_page_size" (.int size) (putF "_room" (.int room) (putF "_places" (.ref pp) (putF "_frames" (.ref fa) []))))))) = pgF fa pp ca da na la room size := by kernel_rfl
theorem pg_m1 : (pgF fa pp ca da na la room size).lookup ("_check_live" : Str) = none := by kernel_rfl
theorem pg_m2 : (pgF fa pp ca da na la room size).lookup ("_check_room" : Str) = none := by kernel_rfl
theorem pg_m3 : (pgF fa pp ca da na la room size).lookup ("_frames_to_choose" : Str) = none := by kernel_rfl
theorem pg_m4 : (pgF fa pp ca da na la room size).lookup ("_obtain" : Str) = none := by kernel_rfl
theorem pg_m5 : (pgF fa pp ca da na la room size).lookup ("_obtain_beside" : Str) = none := by kernel_rfl
theorem pg_m6 : (pgF fa pp ca da na la room size).lookup ("_fill" : Str) = none := by kernel_rfl
theorem pg_m7 : (pgF fa pp ca da na la room size).lookup ("_empty_frame" : Str) = none := by kernel_rfl
theorem pg_m8 : (pgF fa pp ca da na la room size).lookup ("_move_out" : Str) = none := by kernel_rfl
theorem pg_m9 : (pgF fa pp ca da na la room size).lookup ("_stamps_on_both" : Str) = none := by kernel_rfl
theorem pg_m10 : (pgF fa pp ca da na la room size).lookup ("bring" : Str) = none := by kernel_rfl
theorem pl_m1 {sa ra wa : Addr} {rc wc : Int} : (plF sa ra wa rc wc).lookup ("has_stamp" : Str) = none := by kernel_rfl
theorem pl_m2 {sa ra wa : Addr} {rc wc : Int} : (plF sa ra wa rc wc).lookup ("has_free" : Str) = none := by kernel_rfl
theorem pl_m3 {sa ra wa : Addr} {rc wc : Int} : (plF sa ra wa rc wc).lookup ("free" : Str) = none := by kernel_rfl
theorem pl_m4 {sa ra wa : Addr} {rc wc : Int} : (plF sa ra wa rc wc).lookup ("read_from" : Str) = none := by kernel_rfl
theorem pl_m5 {sa ra wa : Addr} {rc wc : Int} : (plF sa ra wa rc wc).lookup ("write_to" : Str) = none := by kernel_rfl
end
structure GTxt (K : PySem.W.Frag) (mg : Str → Option Value) (C : Addr) : Prop where
  cl : Cls K C
  n1 : NoAttr K C "_frames"
  n2 : NoAttr K C "_places"
  n3 : NoAttr K C "_room"
  n4 : NoAttr K C "_page_size"
  n5 : NoAttr K C "_chooser"
  n6 : NoAttr K C "_contents"
  n7 : NoAttr K C "_pinned"
  n8 : NoAttr K C "_left"
  mgC : mg "Pager" = some (.ref C)
  len : mg "len" = none
  range : mg "range" = none
  min : mg "min" = none
  max : mg "max" = none
  list : mg "list" = none
  sorted : mg "sorted" = none
/-- the three classes -/
structure GC where
  g : Addr
  p : Addr
  c : Addr
structure PgAt (C : GC) (H : Hp) (A : GA) (k : GK) (S : GS) : Prop where
  g : ∃ dx, H A.p = some (.ins C.g dx (pgF A.fa A.pp A.cp A.da A.na A.la k.room k.size))
  f : H A.fa = some (.lst (S.fr.map V.int))
  d : H A.da = some (.dK (S.cs.map Cont.row))
  c : ∀ x ∈ S.cs, H x.ad = some (.lst (x.by'.map V.int))
  pin : H A.na = some (.dK (S.pn.map pinR))
  l : H A.la = some (.lst (S.lf.map V.int))
  pl : PlcAt C.p H A.pp A.sa A.ra A.wa S.pl
  ch : ChAt C.c H A.cp A.cf A.cu A.cb A.cdx k.kd k.n S.calls S.hand S.fl S.us S.bits
  nd : (A.all S.cs).Nodup
section
variable {C : GC} {H H' : Hp} {A : GA} {k : GK} {S : GS}
theorem ChAt.butL {C : Addr} {H H' : Hp} {p fa ua ba dx : Addr} {kd : Str} {n : Nat} {calls hand : Int} {fl us bits : List Int} {l : List Addr} (h : ChAt C H p fa ua ba dx kd n calls hand fl us bits) (s : ButT l H H') (d : ∀ a ∈ [p, fa, ua, ba], a ∉ l) : ChAt C H' p fa ua ba dx kd n calls hand fl us bits :=
  ⟨s _ _ (d _ (by simp)) (fun _ z => by cases z) h.g, s _ _ (d _ (by simp)) (fun _ z => by cases z) h.f, s _ _ (d _ (by simp)) (fun _ z => by cases z) h.u, s _ _ (d _ (by simp)) (fun _ z => by cases z) h.b, h.nd, h.lf, h.lu, h.lb⟩
theorem ChAt.noT {C : Addr} {H : Hp} {p fa ua ba dx : Addr} {kd : Str} {n : Nat} {calls hand : Int} {fl us bits : List Int} (h : ChAt C H p fa ua ba dx kd n calls hand fl us bits) : ∀ a ∈ [p, fa, ua, ba], NoT H a := fun a ha => by
  simp only [List.mem_cons, List.not_mem_nil, or_false] at ha
  rcases ha with rfl | rfl | rfl | rfl
  · exact .ins h.g
  · exact .lst h.f
  · exact .lst h.u
  · exact .lst h.b
theorem ChAt.live {C : Addr} {H : Hp} {p fa ua ba dx : Addr} {kd : Str} {n : Nat} {calls hand : Int} {fl us bits : List Int} (h : ChAt C H p fa ua ba dx kd n calls hand fl us bits) : Live H [p, fa, ua, ba] := fun a ha => by
  simp only [List.mem_cons, List.not_mem_nil, or_false] at ha
  rcases ha with rfl | rfl | rfl | rfl
  · exact live_of h.g
  · exact live_of h.f
  · exact live_of h.u
  · exact live_of h.b
theorem ButT.tups {l : List Addr} (b : ButT l H H') (h : ∀ a ∈ l, NoT H a) : Tups H H' := fun a us g => b a _ (fun z => h a z us g) (fun _ z => by cases z) g
theorem PlcAt.offT {C : Addr} {p sa ra wa : Addr} {S : PS} {F : List Addr} (h : PlcAt C H p sa ra wa S) (b : ButT F H H') (t : Tups H H') (d : ∀ a ∈ [p, sa, ra, wa], a ∉ F) : PlcAt C H' p sa ra wa S := by
  obtain ⟨dx, g⟩ := h.g
  obtain ⟨us, gr, dr⟩ := h.r
  obtain ⟨ws, gw, dw⟩ := h.w
  exact ⟨⟨dx, b _ _ (d p (by simp)) (fun _ z => by cases z) g⟩, b _ _ (d sa (by simp)) (fun _ z => by cases z) h.s, ⟨us, b _ _ (d ra (by simp)) (fun _ z => by cases z) gr, DhAll.tups t _ _ (noLs_map remD_noL _) dr⟩, ⟨ws, b _ _ (d wa (by simp)) (fun _ z => by cases z) gw, DhAll.tups t _ _ (noLs_map rowD_noL _) dw⟩, h.n1, h.n2, h.n3, h.l, h.ls⟩
theorem PgAt.noT (h : PgAt C H A k S) : ∀ a ∈ A.all S.cs, NoT H a := fun a ha => by
  obtain ⟨dx, g⟩ := h.g
  rcases List.mem_append.mp ha with z | z
  · simp only [GA.fix, List.mem_cons, List.not_mem_nil, or_false] at z
    rcases z with rfl | rfl | rfl | rfl | rfl | z
    · exact .ins g
    · exact .lst h.f
    · exact .dK h.d
    · exact .dK h.pin
    · exact .lst h.l
    · rcases z with rfl | rfl | rfl | rfl | z
      · exact h.pl.noT _ (by simp)
      · exact h.pl.noT _ (by simp)
      · exact h.pl.noT _ (by simp)
      · exact h.pl.noT _ (by simp)
      · rcases z with rfl | rfl | rfl | rfl
        · exact h.ch.noT _ (by simp)
        · exact h.ch.noT _ (by simp)
        · exact h.ch.noT _ (by simp)
        · exact h.ch.noT _ (by simp)
  · obtain ⟨x, hx, rfl⟩ := List.mem_map.mp z
    exact .lst (h.c x hx)
theorem PgAt.live (h : PgAt C H A k S) : Live H (A.all S.cs) := fun a ha => by
  obtain ⟨dx, g⟩ := h.g
  rcases List.mem_append.mp ha with z | z
  · simp only [GA.fix, List.mem_cons, List.not_mem_nil, or_false] at z
    rcases z with rfl | rfl | rfl | rfl | rfl | z
    · exact live_of g
    · exact live_of h.f
    · exact live_of h.d
    · exact live_of h.pin
    · exact live_of h.l
    · rcases z with rfl | rfl | rfl | rfl | z
      · exact h.pl.live _ (by simp)
      · exact h.pl.live _ (by simp)
      · exact h.pl.live _ (by simp)
      · exact h.pl.live _ (by simp)
      · rcases z with rfl | rfl | rfl | rfl
        · exact h.ch.live _ (by simp)
        · exact h.ch.live _ (by simp)
        · exact h.ch.live _ (by simp)
        · exact h.ch.live _ (by simp)
  · obtain ⟨x, hx, rfl⟩ := List.mem_map.mp z
    exact live_of (h.c x hx)
/-- something else is written -/
theorem PgAt.offT {F : List Addr} (h : PgAt C H A k S) (b : ButT F H H') (t : Tups H H') (d : ∀ a ∈ A.all S.cs, a ∉ F) : PgAt C H' A k S := by
  obtain ⟨dx, g⟩ := h.g
  have df : ∀ a ∈ A.fix, a ∉ F := fun a ha => d a (List.mem_append_left _ ha)
  exact ⟨⟨dx, b _ _ (df _ (by simp [GA.fix])) (fun _ z => by cases z) g⟩, b _ _ (df _ (by simp [GA.fix])) (fun _ z => by cases z) h.f, b _ _ (df _ (by simp [GA.fix])) (fun _ z => by cases z) h.d,
    fun x hx => b _ _ (d _ (List.mem_append_right _ (List.mem_map.mpr ⟨x, hx, rfl⟩))) (fun _ z => by cases z) (h.c x hx), b _ _ (df _ (by simp [GA.fix])) (fun _ z => by cases z) h.pin, b _ _ (df _ (by simp [GA.fix])) (fun _ z => by cases z) h.l,
    h.pl.offT b t fun a ha => df a (by simp only [GA.fix, List.mem_cons, List.not_mem_nil, or_false] at ha ⊢; rcases ha with rfl | rfl | rfl | rfl <;> simp),
    h.ch.butL b fun a ha => df a (by simp only [GA.fix, List.mem_cons, List.not_mem_nil, or_false] at ha ⊢; rcases ha with rfl | rfl | rfl | rfl <;> simp), h.nd⟩
theorem PgAt.same (h : PgAt C H A k S) (s : Same H H') : PgAt C H' A k S := h.offT (F := []) (Same.t s) (Tups.same s) fun _ _ z => by cases z
end

end

section

-- a condition of an operator
local macro_rules | `(tactic| walk_at "cond") => `(tactic| first
  | (show (0 : Int) < _; omega)
  | (show CDiv _ _; constructor <;> (first | decide | omega))
  | (show CMul _ _; first | (refine cmul_l ?_; constructor <;> (first | decide | omega)) | (refine cmul_r ?_; constructor <;> (first | decide | omega)))
  | (show CPow _ _; exact (by refine ⟨by decide, by decide, by decide⟩))
  | (show CDivW _ _; exact ⟨by decide, by decide +kernel⟩))
local macro_rules | `(tactic| walk_at "sq") => `(tactic| first | assumption | exact Dh.mono (same_upd (by assumption)) _ _ (by assumption) | exact .inl (.inl (.inl (by assumption))) | exact .inr (.inl (.inl (by assumption))) | exact SqL.of (by assumption) | exact .inl (by assumption) | exact .inl (SqL.of (by assumption)) | exact SqT.of (by assumption) | exact .inr (SqT.of (by assumption)))
local macro_rules | `(tactic| walk_at "st") => `(tactic| first
  | refine ⟨_, rfl, ?_⟩
  | refine ⟨_, _, rfl, rfl, ?_⟩
  | refine .inl ⟨_, rfl, ?_⟩
  | refine ⟨rfl, ?_⟩
  | refine ⟨_, _, rfl, by walk_at "sq", ?_⟩
  | refine ⟨.inl ⟨rfl, _, SqL.of (by assumption)⟩, ?_⟩
  | refine ⟨by walk_at "cond", ?_⟩
  | (refine' ifBT ?hh ?_; (case hh => first | rfl | assumption))
  | (refine' ifBF ?hh ?_; (case hh => first | rfl | assumption)))
local macro_rules | `(tactic| walk_at "go") => `(tactic| repeat walk_at "st")
local macro_rules | `(tactic| walk_at "yes") => `(tactic| (refine' ifT ?hh ?_; (case hh => first | rfl | decide +kernel)))
local macro_rules | `(tactic| walk_at "no") => `(tactic| (refine' ifF ?hh ?_; (case hh => first | decide +kernel | (intro z; cases z; done))))

local macro_rules | `(tactic| walk_at "st") => `(tactic| refine ⟨_, _, _, _, _, rfl, by assumption, by assumption, by omega, by omega, by omega, by omega, by omega, ?_⟩)
local macro_rules | `(tactic| walk_at "st") => `(tactic| refine ⟨_, _, _, _, _, rfl, Same.seq (by assumption) (by assumption), by assumption, by omega, by omega, by omega, by omega, by omega, ?_⟩)

/-! ### the pager's state, written -/
section
variable {C : GC} {H H' : Hp} {A : GA} {k : GK} {S : GS}
theorem fix_ne {A : GA} (nd : A.fix.Nodup) {i j : Nat} {a b : Addr} (hi : A.fix[i]? = some a) (hj : A.fix[j]? = some b) (n : i ≠ j) : a ≠ b := fun z =>
  n ((List.getElem?_inj (List.getElem?_eq_some_iff.mp hi).1 nd).mp (hi.trans ((congrArg some z).trans hj.symm)))
theorem PgAt.fn (h : PgAt C H A k S) : A.fix.Nodup := (List.nodup_append.mp h.nd).1
theorem PgAt.cn (h : PgAt C H A k S) : (S.cs.map (·.ad)).Nodup := (List.nodup_append.mp h.nd).2.1
theorem PgAt.xn (h : PgAt C H A k S) {a : Addr} (ha : a ∈ A.fix) {x : Cont} (hx : x ∈ S.cs) : x.ad ≠ a := fun z => (List.nodup_append.mp h.nd).2.2 a ha x.ad (List.mem_map.mpr ⟨x, hx, rfl⟩) z.symm
theorem PgAt.putF {fr : List Int} (h : PgAt C H A k S) (b : ButT [A.fa] H H') (e : H' A.fa = some (.lst (fr.map V.int))) : PgAt C H' A k ⟨fr, S.pl, S.calls, S.hand, S.fl, S.us, S.bits, S.cs, S.pn, S.lf⟩ := by
  obtain ⟨dx, g⟩ := h.g
  have t : Tups H H' := b.tups fun a ha => by
    obtain rfl : a = A.fa := by simpa using ha
    exact h.noT _ (List.mem_append_left _ (by simp [GA.fix]))
  have pl : PlcAt C.p H' A.pp A.sa A.ra A.wa S.pl := h.pl.offT b t fun a ha => by
    simp only [List.mem_cons, List.not_mem_nil, or_false] at ha ⊢
    rcases ha with rfl | rfl | rfl | rfl
    · exact fix_ne h.fn (i := 5) (j := 1) rfl rfl (by decide)
    · exact fix_ne h.fn (i := 6) (j := 1) rfl rfl (by decide)
    · exact fix_ne h.fn (i := 7) (j := 1) rfl rfl (by decide)
    · exact fix_ne h.fn (i := 8) (j := 1) rfl rfl (by decide)
  have ch : ChAt C.c H' A.cp A.cf A.cu A.cb A.cdx k.kd k.n S.calls S.hand S.fl S.us S.bits := h.ch.butL b fun a ha => by
    simp only [List.mem_cons, List.not_mem_nil, or_false] at ha ⊢
    rcases ha with rfl | rfl | rfl | rfl
    · exact fix_ne h.fn (i := 9) (j := 1) rfl rfl (by decide)
    · exact fix_ne h.fn (i := 10) (j := 1) rfl rfl (by decide)
    · exact fix_ne h.fn (i := 11) (j := 1) rfl rfl (by decide)
    · exact fix_ne h.fn (i := 12) (j := 1) rfl rfl (by decide)
  exact ⟨⟨dx, b _ _ (by simpa using fix_ne h.fn (i := 0) (j := 1) rfl rfl (by decide)) (fun _ z => by cases z) g⟩, e, b _ _ (by simpa using fix_ne h.fn (i := 2) (j := 1) rfl rfl (by decide)) (fun _ z => by cases z) h.d, fun x hx => b _ _ (by simpa using h.xn (a := A.fa) (by simp [GA.fix]) hx) (fun _ z => by cases z) (h.c x hx), b _ _ (by simpa using fix_ne h.fn (i := 3) (j := 1) rfl rfl (by decide)) (fun _ z => by cases z) h.pin, b _ _ (by simpa using fix_ne h.fn (i := 4) (j := 1) rfl rfl (by decide)) (fun _ z => by cases z) h.l, pl, ch, h.nd⟩
theorem PgAt.putN {pn : List Int} (h : PgAt C H A k S) (b : ButT [A.na] H H') (e : H' A.na = some (.dK (pn.map pinR))) : PgAt C H' A k ⟨S.fr, S.pl, S.calls, S.hand, S.fl, S.us, S.bits, S.cs, pn, S.lf⟩ := by
  obtain ⟨dx, g⟩ := h.g
  have t : Tups H H' := b.tups fun a ha => by
    obtain rfl : a = A.na := by simpa using ha
    exact h.noT _ (List.mem_append_left _ (by simp [GA.fix]))
  have pl : PlcAt C.p H' A.pp A.sa A.ra A.wa S.pl := h.pl.offT b t fun a ha => by
    simp only [List.mem_cons, List.not_mem_nil, or_false] at ha ⊢
    rcases ha with rfl | rfl | rfl | rfl
    · exact fix_ne h.fn (i := 5) (j := 3) rfl rfl (by decide)
    · exact fix_ne h.fn (i := 6) (j := 3) rfl rfl (by decide)
    · exact fix_ne h.fn (i := 7) (j := 3) rfl rfl (by decide)
    · exact fix_ne h.fn (i := 8) (j := 3) rfl rfl (by decide)
  have ch : ChAt C.c H' A.cp A.cf A.cu A.cb A.cdx k.kd k.n S.calls S.hand S.fl S.us S.bits := h.ch.butL b fun a ha => by
    simp only [List.mem_cons, List.not_mem_nil, or_false] at ha ⊢
    rcases ha with rfl | rfl | rfl | rfl
    · exact fix_ne h.fn (i := 9) (j := 3) rfl rfl (by decide)
    · exact fix_ne h.fn (i := 10) (j := 3) rfl rfl (by decide)
    · exact fix_ne h.fn (i := 11) (j := 3) rfl rfl (by decide)
    · exact fix_ne h.fn (i := 12) (j := 3) rfl rfl (by decide)
  exact ⟨⟨dx, b _ _ (by simpa using fix_ne h.fn (i := 0) (j := 3) rfl rfl (by decide)) (fun _ z => by cases z) g⟩, b _ _ (by simpa using fix_ne h.fn (i := 1) (j := 3) rfl rfl (by decide)) (fun _ z => by cases z) h.f, b _ _ (by simpa using fix_ne h.fn (i := 2) (j := 3) rfl rfl (by decide)) (fun _ z => by cases z) h.d, fun x hx => b _ _ (by simpa using h.xn (a := A.na) (by simp [GA.fix]) hx) (fun _ z => by cases z) (h.c x hx), e, b _ _ (by simpa using fix_ne h.fn (i := 4) (j := 3) rfl rfl (by decide)) (fun _ z => by cases z) h.l, pl, ch, h.nd⟩
theorem PgAt.putL {lf : List Int} (h : PgAt C H A k S) (b : ButT [A.la] H H') (e : H' A.la = some (.lst (lf.map V.int))) : PgAt C H' A k ⟨S.fr, S.pl, S.calls, S.hand, S.fl, S.us, S.bits, S.cs, S.pn, lf⟩ := by
  obtain ⟨dx, g⟩ := h.g
  have t : Tups H H' := b.tups fun a ha => by
    obtain rfl : a = A.la := by simpa using ha
    exact h.noT _ (List.mem_append_left _ (by simp [GA.fix]))
  have pl : PlcAt C.p H' A.pp A.sa A.ra A.wa S.pl := h.pl.offT b t fun a ha => by
    simp only [List.mem_cons, List.not_mem_nil, or_false] at ha ⊢
    rcases ha with rfl | rfl | rfl | rfl
    · exact fix_ne h.fn (i := 5) (j := 4) rfl rfl (by decide)
    · exact fix_ne h.fn (i := 6) (j := 4) rfl rfl (by decide)
    · exact fix_ne h.fn (i := 7) (j := 4) rfl rfl (by decide)
    · exact fix_ne h.fn (i := 8) (j := 4) rfl rfl (by decide)
  have ch : ChAt C.c H' A.cp A.cf A.cu A.cb A.cdx k.kd k.n S.calls S.hand S.fl S.us S.bits := h.ch.butL b fun a ha => by
    simp only [List.mem_cons, List.not_mem_nil, or_false] at ha ⊢
    rcases ha with rfl | rfl | rfl | rfl
    · exact fix_ne h.fn (i := 9) (j := 4) rfl rfl (by decide)
    · exact fix_ne h.fn (i := 10) (j := 4) rfl rfl (by decide)
    · exact fix_ne h.fn (i := 11) (j := 4) rfl rfl (by decide)
    · exact fix_ne h.fn (i := 12) (j := 4) rfl rfl (by decide)
  exact ⟨⟨dx, b _ _ (by simpa using fix_ne h.fn (i := 0) (j := 4) rfl rfl (by decide)) (fun _ z => by cases z) g⟩, b _ _ (by simpa using fix_ne h.fn (i := 1) (j := 4) rfl rfl (by decide)) (fun _ z => by cases z) h.f, b _ _ (by simpa using fix_ne h.fn (i := 2) (j := 4) rfl rfl (by decide)) (fun _ z => by cases z) h.d, fun x hx => b _ _ (by simpa using h.xn (a := A.la) (by simp [GA.fix]) hx) (fun _ z => by cases z) (h.c x hx), b _ _ (by simpa using fix_ne h.fn (i := 3) (j := 4) rfl rfl (by decide)) (fun _ z => by cases z) h.pin, e, pl, ch, h.nd⟩
theorem PgAt.putP {ps : PS} (h : PgAt C H A k S) (b : ButT [A.pp, A.sa, A.ra, A.wa] H H') (e : PlcAt C.p H' A.pp A.sa A.ra A.wa ps) : PgAt C H' A k ⟨S.fr, ps, S.calls, S.hand, S.fl, S.us, S.bits, S.cs, S.pn, S.lf⟩ := by
  obtain ⟨dx, g⟩ := h.g
  have t : Tups H H' := b.tups fun a ha => h.noT _ (List.mem_append_left _ (by
    simp only [GA.fix, List.mem_cons, List.not_mem_nil, or_false] at ha ⊢
    rcases ha with rfl | rfl | rfl | rfl <;> simp))
  have n0 : A.p ∉ [A.pp, A.sa, A.ra, A.wa] := (by
      simp only [List.mem_cons, List.not_mem_nil, or_false, not_or]
      exact ⟨fix_ne h.fn (i := 0) (j := 5) rfl rfl (by decide), fix_ne h.fn (i := 0) (j := 6) rfl rfl (by decide), fix_ne h.fn (i := 0) (j := 7) rfl rfl (by decide), fix_ne h.fn (i := 0) (j := 8) rfl rfl (by decide)⟩)
  have n1 : A.fa ∉ [A.pp, A.sa, A.ra, A.wa] := (by
      simp only [List.mem_cons, List.not_mem_nil, or_false, not_or]
      exact ⟨fix_ne h.fn (i := 1) (j := 5) rfl rfl (by decide), fix_ne h.fn (i := 1) (j := 6) rfl rfl (by decide), fix_ne h.fn (i := 1) (j := 7) rfl rfl (by decide), fix_ne h.fn (i := 1) (j := 8) rfl rfl (by decide)⟩)
  have n2 : A.da ∉ [A.pp, A.sa, A.ra, A.wa] := (by
      simp only [List.mem_cons, List.not_mem_nil, or_false, not_or]
      exact ⟨fix_ne h.fn (i := 2) (j := 5) rfl rfl (by decide), fix_ne h.fn (i := 2) (j := 6) rfl rfl (by decide), fix_ne h.fn (i := 2) (j := 7) rfl rfl (by decide), fix_ne h.fn (i := 2) (j := 8) rfl rfl (by decide)⟩)
  have n3 : A.na ∉ [A.pp, A.sa, A.ra, A.wa] := (by
      simp only [List.mem_cons, List.not_mem_nil, or_false, not_or]
      exact ⟨fix_ne h.fn (i := 3) (j := 5) rfl rfl (by decide), fix_ne h.fn (i := 3) (j := 6) rfl rfl (by decide), fix_ne h.fn (i := 3) (j := 7) rfl rfl (by decide), fix_ne h.fn (i := 3) (j := 8) rfl rfl (by decide)⟩)
  have n4 : A.la ∉ [A.pp, A.sa, A.ra, A.wa] := (by
      simp only [List.mem_cons, List.not_mem_nil, or_false, not_or]
      exact ⟨fix_ne h.fn (i := 4) (j := 5) rfl rfl (by decide), fix_ne h.fn (i := 4) (j := 6) rfl rfl (by decide), fix_ne h.fn (i := 4) (j := 7) rfl rfl (by decide), fix_ne h.fn (i := 4) (j := 8) rfl rfl (by decide)⟩)
  have nc : ∀ x ∈ S.cs, x.ad ∉ [A.pp, A.sa, A.ra, A.wa] := fun x hx => by
    simp only [List.mem_cons, List.not_mem_nil, or_false, not_or]
    exact ⟨h.xn (by simp [GA.fix]) hx, h.xn (by simp [GA.fix]) hx, h.xn (by simp [GA.fix]) hx, h.xn (by simp [GA.fix]) hx⟩
  have pl := e
  have ch : ChAt C.c H' A.cp A.cf A.cu A.cb A.cdx k.kd k.n S.calls S.hand S.fl S.us S.bits := h.ch.butL b fun a ha => by
    simp only [List.mem_cons, List.not_mem_nil, or_false, not_or] at ha ⊢
    rcases ha with rfl | rfl | rfl | rfl
    · exact ⟨fix_ne h.fn (i := 9) (j := 5) rfl rfl (by decide), fix_ne h.fn (i := 9) (j := 6) rfl rfl (by decide), fix_ne h.fn (i := 9) (j := 7) rfl rfl (by decide), fix_ne h.fn (i := 9) (j := 8) rfl rfl (by decide)⟩
    · exact ⟨fix_ne h.fn (i := 10) (j := 5) rfl rfl (by decide), fix_ne h.fn (i := 10) (j := 6) rfl rfl (by decide), fix_ne h.fn (i := 10) (j := 7) rfl rfl (by decide), fix_ne h.fn (i := 10) (j := 8) rfl rfl (by decide)⟩
    · exact ⟨fix_ne h.fn (i := 11) (j := 5) rfl rfl (by decide), fix_ne h.fn (i := 11) (j := 6) rfl rfl (by decide), fix_ne h.fn (i := 11) (j := 7) rfl rfl (by decide), fix_ne h.fn (i := 11) (j := 8) rfl rfl (by decide)⟩
    · exact ⟨fix_ne h.fn (i := 12) (j := 5) rfl rfl (by decide), fix_ne h.fn (i := 12) (j := 6) rfl rfl (by decide), fix_ne h.fn (i := 12) (j := 7) rfl rfl (by decide), fix_ne h.fn (i := 12) (j := 8) rfl rfl (by decide)⟩
  exact ⟨⟨dx, b _ _ n0 (fun _ z => by cases z) g⟩, b _ _ n1 (fun _ z => by cases z) h.f, b _ _ n2 (fun _ z => by cases z) h.d, fun x hx => b _ _ (nc x hx) (fun _ z => by cases z) (h.c x hx), b _ _ n3 (fun _ z => by cases z) h.pin, b _ _ n4 (fun _ z => by cases z) h.l, pl, ch, h.nd⟩
theorem PgAt.putC {calls hand : Int} {fl us bits : List Int} (h : PgAt C H A k S) (b : ButT [A.cp, A.cf, A.cu, A.cb] H H') (e : ChAt C.c H' A.cp A.cf A.cu A.cb A.cdx k.kd k.n calls hand fl us bits) : PgAt C H' A k ⟨S.fr, S.pl, calls, hand, fl, us, bits, S.cs, S.pn, S.lf⟩ := by
  obtain ⟨dx, g⟩ := h.g
  have t : Tups H H' := b.tups fun a ha => h.noT _ (List.mem_append_left _ (by
    simp only [GA.fix, List.mem_cons, List.not_mem_nil, or_false] at ha ⊢
    rcases ha with rfl | rfl | rfl | rfl <;> simp))
  have n0 : A.p ∉ [A.cp, A.cf, A.cu, A.cb] := (by
      simp only [List.mem_cons, List.not_mem_nil, or_false, not_or]
      exact ⟨fix_ne h.fn (i := 0) (j := 9) rfl rfl (by decide), fix_ne h.fn (i := 0) (j := 10) rfl rfl (by decide), fix_ne h.fn (i := 0) (j := 11) rfl rfl (by decide), fix_ne h.fn (i := 0) (j := 12) rfl rfl (by decide)⟩)
  have n1 : A.fa ∉ [A.cp, A.cf, A.cu, A.cb] := (by
      simp only [List.mem_cons, List.not_mem_nil, or_false, not_or]
      exact ⟨fix_ne h.fn (i := 1) (j := 9) rfl rfl (by decide), fix_ne h.fn (i := 1) (j := 10) rfl rfl (by decide), fix_ne h.fn (i := 1) (j := 11) rfl rfl (by decide), fix_ne h.fn (i := 1) (j := 12) rfl rfl (by decide)⟩)
  have n2 : A.da ∉ [A.cp, A.cf, A.cu, A.cb] := (by
      simp only [List.mem_cons, List.not_mem_nil, or_false, not_or]
      exact ⟨fix_ne h.fn (i := 2) (j := 9) rfl rfl (by decide), fix_ne h.fn (i := 2) (j := 10) rfl rfl (by decide), fix_ne h.fn (i := 2) (j := 11) rfl rfl (by decide), fix_ne h.fn (i := 2) (j := 12) rfl rfl (by decide)⟩)
  have n3 : A.na ∉ [A.cp, A.cf, A.cu, A.cb] := (by
      simp only [List.mem_cons, List.not_mem_nil, or_false, not_or]
      exact ⟨fix_ne h.fn (i := 3) (j := 9) rfl rfl (by decide), fix_ne h.fn (i := 3) (j := 10) rfl rfl (by decide), fix_ne h.fn (i := 3) (j := 11) rfl rfl (by decide), fix_ne h.fn (i := 3) (j := 12) rfl rfl (by decide)⟩)
  have n4 : A.la ∉ [A.cp, A.cf, A.cu, A.cb] := (by
      simp only [List.mem_cons, List.not_mem_nil, or_false, not_or]
      exact ⟨fix_ne h.fn (i := 4) (j := 9) rfl rfl (by decide), fix_ne h.fn (i := 4) (j := 10) rfl rfl (by decide), fix_ne h.fn (i := 4) (j := 11) rfl rfl (by decide), fix_ne h.fn (i := 4) (j := 12) rfl rfl (by decide)⟩)
  have nc : ∀ x ∈ S.cs, x.ad ∉ [A.cp, A.cf, A.cu, A.cb] := fun x hx => by
    simp only [List.mem_cons, List.not_mem_nil, or_false, not_or]
    exact ⟨h.xn (by simp [GA.fix]) hx, h.xn (by simp [GA.fix]) hx, h.xn (by simp [GA.fix]) hx, h.xn (by simp [GA.fix]) hx⟩
  have pl : PlcAt C.p H' A.pp A.sa A.ra A.wa S.pl := h.pl.offT b t fun a ha => by
    simp only [List.mem_cons, List.not_mem_nil, or_false, not_or] at ha ⊢
    rcases ha with rfl | rfl | rfl | rfl
    · exact ⟨fix_ne h.fn (i := 5) (j := 9) rfl rfl (by decide), fix_ne h.fn (i := 5) (j := 10) rfl rfl (by decide), fix_ne h.fn (i := 5) (j := 11) rfl rfl (by decide), fix_ne h.fn (i := 5) (j := 12) rfl rfl (by decide)⟩
    · exact ⟨fix_ne h.fn (i := 6) (j := 9) rfl rfl (by decide), fix_ne h.fn (i := 6) (j := 10) rfl rfl (by decide), fix_ne h.fn (i := 6) (j := 11) rfl rfl (by decide), fix_ne h.fn (i := 6) (j := 12) rfl rfl (by decide)⟩
    · exact ⟨fix_ne h.fn (i := 7) (j := 9) rfl rfl (by decide), fix_ne h.fn (i := 7) (j := 10) rfl rfl (by decide), fix_ne h.fn (i := 7) (j := 11) rfl rfl (by decide), fix_ne h.fn (i := 7) (j := 12) rfl rfl (by decide)⟩
    · exact ⟨fix_ne h.fn (i := 8) (j := 9) rfl rfl (by decide), fix_ne h.fn (i := 8) (j := 10) rfl rfl (by decide), fix_ne h.fn (i := 8) (j := 11) rfl rfl (by decide), fix_ne h.fn (i := 8) (j := 12) rfl rfl (by decide)⟩
  have ch := e
  exact ⟨⟨dx, b _ _ n0 (fun _ z => by cases z) g⟩, b _ _ n1 (fun _ z => by cases z) h.f, b _ _ n2 (fun _ z => by cases z) h.d, fun x hx => b _ _ (nc x hx) (fun _ z => by cases z) (h.c x hx), b _ _ n3 (fun _ z => by cases z) h.pin, b _ _ n4 (fun _ z => by cases z) h.l, pl, ch, h.nd⟩
end

end

section

-- a condition of an operator
local macro_rules | `(tactic| walk_at "cond") => `(tactic| first
  | (show (0 : Int) < _; omega)
  | (show CDiv _ _; constructor <;> (first | decide | omega))
  | (show CMul _ _; first | (refine cmul_l ?_; constructor <;> (first | decide | omega)) | (refine cmul_r ?_; constructor <;> (first | decide | omega)))
  | (show CPow _ _; exact (by refine ⟨by decide, by decide, by decide⟩))
  | (show CDivW _ _; exact ⟨by decide, by decide +kernel⟩))
local macro_rules | `(tactic| walk_at "sq") => `(tactic| first | assumption | exact Dh.mono (same_upd (by assumption)) _ _ (by assumption) | exact .inl (.inl (.inl (by assumption))) | exact .inr (.inl (.inl (by assumption))) | exact SqL.of (by assumption) | exact .inl (by assumption) | exact .inl (SqL.of (by assumption)) | exact SqT.of (by assumption) | exact .inr (SqT.of (by assumption)))
local macro_rules | `(tactic| walk_at "st") => `(tactic| first
  | refine ⟨_, rfl, ?_⟩
  | refine ⟨_, _, rfl, rfl, ?_⟩
  | refine .inl ⟨_, rfl, ?_⟩
  | refine ⟨rfl, ?_⟩
  | refine ⟨_, _, rfl, by walk_at "sq", ?_⟩
  | refine ⟨.inl ⟨rfl, _, SqL.of (by assumption)⟩, ?_⟩
  | refine ⟨by walk_at "cond", ?_⟩
  | (refine' ifBT ?hh ?_; (case hh => first | rfl | assumption))
  | (refine' ifBF ?hh ?_; (case hh => first | rfl | assumption)))
local macro_rules | `(tactic| walk_at "go") => `(tactic| repeat walk_at "st")
local macro_rules | `(tactic| walk_at "yes") => `(tactic| (refine' ifT ?hh ?_; (case hh => first | rfl | decide +kernel)))
local macro_rules | `(tactic| walk_at "no") => `(tactic| (refine' ifF ?hh ?_; (case hh => first | decide +kernel | (intro z; cases z; done))))

local macro_rules | `(tactic| walk_at "st") => `(tactic| refine ⟨_, _, _, _, _, rfl, by assumption, by assumption, by omega, by omega, by omega, by omega, by omega, ?_⟩)
local macro_rules | `(tactic| walk_at "st") => `(tactic| refine ⟨_, _, _, _, _, rfl, Same.seq (by assumption) (by assumption), by assumption, by omega, by omega, by omega, by omega, by omega, ?_⟩)

/-! ### _check_live, _check_room -/
abbrev s_Pager__check_live : Stmt := inClass (topS 13) 20
theorem sc_Pager__check_live : FnScope ["self", "stamp"] ["self", "stamp"] (C8.fnScope s_Pager__check_live) := C8.fnScope_by (by decide +kernel)
abbrev s_Pager__check_room : Stmt := inClass (topS 13) 21
theorem sc_Pager__check_room : FnScope ["self", "needed"] ["self"] (C8.fnScope s_Pager__check_room) := C8.fnScope_by (by decide +kernel)
theorem cs_get : ∀ (cs : List Cont) (x : Int), (valV (cs.map Cont.row) (.inl x)).isSome = decide (x ∈ cs.map (·.st))
  | [], x => rfl
  | c :: cs, x => by
    rw [List.map_cons]
    by_cases e : c.st = x
    · rw [valV_pos (show (Cont.row c).1 = .inl x by rw [← e]; rfl)]
      simp [e]
    · rw [valV_neg (show ¬ (Cont.row c).1 = .inl x from fun z => e (Sum.inl.inj z)), cs_get cs x]
      have e2 : ¬ x = c.st := fun z => e z.symm
      simp [e2]
theorem log_of {i : Int} (h0 : -(2 ^ 62) ≤ i) (h1 : i ≤ 2 ^ 62) : i.natAbs.log2 < 1920 := by
  by_cases z : i.natAbs = 0
  · rw [z]
    decide
  · refine Nat.lt_of_lt_of_le ((Nat.log2_lt z).mpr (show i.natAbs < 2 ^ 64 by omega)) (by decide)
theorem bad1 {E : XK} {H : Hp} {U : Addr} {x : Int} (hx : x.natAbs.log2 < 1920) (q : ∀ d, H d = none → E (.ref U) (some d) (upd H d (.xd (nsF x)))) : ([V.int x] : List V).length ≤ 1000 ∧ ∀ a, H a = none → spNS U (V.ref a :: ([V.int x] ++ [])) (upd H a (exo a U none))
    (fun v H2 => v = .non ∧ ∃ d fs, H2 a = some (exo a U (some d)) ∧ H2 d = some (exd d fs) ∧ H d = none ∧ E (.ref U) (some d) (upd (del H2 a) d (.xd fs))) (fun _ _ _ => False) := by
  refine ⟨(by show 1 ≤ 1000; decide), fun a na => ⟨a, x, rfl, upd_same, hx, fun dx nd ne => ⟨rfl, dx, nsF x, upd_same, ?_, ?_, ?_⟩⟩⟩
  · rw [upd_ne ne]
    exact upd_same
  · rw [upd_ne ne] at nd
    exact nd
  · rw [upd_ne ne] at nd
    have e : upd (del (upd (upd (upd H a (exo a U none)) dx (exd dx (nsF x))) a (exo a U (some dx))) a) dx (.xd (nsF x)) = upd H dx (.xd (nsF x)) := by
      funext c
      by_cases h1 : c = dx
      · rw [h1, upd_same, upd_same]
      · rw [upd_ne h1, upd_ne h1]
        by_cases h2 : c = a
        · rw [h2, del_same, na]
        · rw [del_ne h2, upd_ne h2, upd_ne h1, upd_ne h2]
    rw [e]
    exact q dx nd
theorem bad2 {E : XK} {H : Hp} {U : Addr} {x y : Int} (hx : x.natAbs.log2 < 1920) (hy : y.natAbs.log2 < 1920) (q : ∀ d, H d = none → E (.ref U) (some d) (upd H d (.xd (nlF x y)))) : ([V.int x, V.int y] : List V).length ≤ 1000 ∧ ∀ a, H a = none → spNL U (V.ref a :: ([V.int x, V.int y] ++ [])) (upd H a (exo a U none))
    (fun v H2 => v = .non ∧ ∃ d fs, H2 a = some (exo a U (some d)) ∧ H2 d = some (exd d fs) ∧ H d = none ∧ E (.ref U) (some d) (upd (del H2 a) d (.xd fs))) (fun _ _ _ => False) := by
  refine ⟨(by show 2 ≤ 1000; decide), fun a na => ⟨a, x, y, rfl, upd_same, hx, hy, fun dx nd ne => ⟨rfl, dx, nlF x y, ?_, upd_same, ?_, ?_⟩⟩⟩
  · rw [upd_ne ne.symm]
    exact upd_same
  · rw [upd_ne ne] at nd
    exact nd
  · rw [upd_ne ne] at nd
    have e : upd (del (upd (upd (upd (upd H a (exo a U none)) dx (exd dx [("needed", .int x)])) a (exo a U (some dx))) dx (exd dx (nlF x y))) a) dx (.xd (nlF x y)) = upd H dx (.xd (nlF x y)) := by
      funext c
      by_cases h1 : c = dx
      · rw [h1, upd_same, upd_same]
      · rw [upd_ne h1, upd_ne h1]
        by_cases h2 : c = a
        · rw [h2, del_same, na]
        · rw [del_ne h2, upd_ne h1, upd_ne h2, upd_ne h1, upd_ne h2]
    rw [e]
    exact q dx nd
def spChkL (C : GC) (D : Addr) : Sp := fun vs H Q E => ∃ (A : GA) (k : GK) (S : GS) (x : Int), vs = [.ref A.p, .int x] ∧ PgAt C H A k S ∧ x.natAbs.log2 < 1920 ∧ (x ∈ S.cs.map (·.st) → Q .non H) ∧
  (x ∉ S.cs.map (·.st) → ∀ d, H d = none → E (.ref D) (some d) (upd H d (.xd (nsF x))))
def spChkR (C : GC) (D : Addr) : Sp := fun vs H Q E => ∃ (A : GA) (k : GK) (S : GS), vs = [.ref A.p] ∧ PgAt C H A k S ∧ S.cs.length ≤ 100000 ∧ 0 ≤ k.room ∧ k.room ≤ 100000 ∧ ((S.cs.length : Int) + 1 ≤ k.room → Q .non H) ∧
  (¬ (S.cs.length : Int) + 1 ≤ k.room → ∀ d, H d = none → E (.ref D) (some d) (upd H d (.xd (nlF ((S.cs.length : Int) + 1) k.room))))
section
variable {P : Program} {w : World} {K : PySem.W.Frag} {mg : Str → Option Value} {base : Heap} {C : GC}
theorem ok_check_live {U f2 : Addr} {fd2 : FuncData} (B : FnOk P w K mg base (L2.CX P w) 1 f2 fd2 ["self", "stamp"] (spNS U)) (O : OexC K U) (iC : PySem.W.findIn K (.ref U) "__init__" = some (some (.ref f2))) (tI : PySem.W.typeIn K (.ref f2) = some (.type "function"))
    (hb : Binds K fd2 ["self", "stamp"] []) (mU : mg "NoStamp" = some (.ref U)) {f : Addr} {fd : FuncData} (F : C8.Fun K "_check_live" "Pager._check_live" s_Pager__check_live f fd) (M : Meth K C.g "_check_live" f) (b : Binds K fd ["self", "stamp"] []) (T : GTxt K mg C.g) : MetE P w K mg base 3 C.g "_check_live" (spChkL C U) := by
  refine metE T.cl M F b sc_Pager__check_live (fun vs H Q E h => ?_) (fun cdv A0 outer s H vs Q E hr h => ?_)
  · obtain ⟨A, k, S, x, rfl, _⟩ := h
    rfl
  obtain ⟨A, k, S, x, rfl, hp, hx, q1, q2⟩ := h
  refine ⟨_, (pss_one (ps_mk (ps_if (pt_cmp (pc_dnotin (hu_of hr) (pv 1) (pe_fld (pv 0) rfl)))
      (pss_one (ps_raise rfl (takes_of rfl rfl rfl rfl) (pmk_oex O iC tI B hr hb .nil (fun _ _ _ _ e s' _ c => no_fly c) rfl mU (pa_cons (pv 1) pa_nil))))
      pss_nil))), ?_⟩
  obtain ⟨dx, g⟩ := hp.g
  refine un ?_
  walk_at "go"
  refine ⟨_, _, _, _, _, rfl, g, T.cl, T.n6, pg_c, ?_⟩
  refine ⟨A.da, _, rfl, DGet.k (k := .inl x) hp.d, ?_⟩
  walk_at "go"
  refine ifN ?_
  rw [cs_get]
  refine ifD (fun m => ?_) (fun m => ?_)
  · exact q1 m
  · walk_at "go"
    exact bad1 hx (q2 m)
theorem ok_check_room {U f2 : Addr} {fd2 : FuncData} (B : FnOk P w K mg base (L2.CX P w) 1 f2 fd2 ["self", "needed", "limit"] (spNL U)) (O : OexC K U) (iC : PySem.W.findIn K (.ref U) "__init__" = some (some (.ref f2))) (tI : PySem.W.typeIn K (.ref f2) = some (.type "function"))
    (hb : Binds K fd2 ["self", "needed", "limit"] []) (mU : mg "NoRoom" = some (.ref U)) {f : Addr} {fd : FuncData} (F : C8.Fun K "_check_room" "Pager._check_room" s_Pager__check_room f fd) (M : Meth K C.g "_check_room" f) (b : Binds K fd ["self"] []) (T : GTxt K mg C.g) : MetE P w K mg base 3 C.g "_check_room" (spChkR C U) := by
  refine metE T.cl M F b sc_Pager__check_room (fun vs H Q E h => ?_) (fun cdv A0 outer s H vs Q E hr h => ?_)
  · obtain ⟨A, k, S, rfl, _⟩ := h
    rfl
  obtain ⟨A, k, S, rfl, hp, lc, r0, r1, q1, q2⟩ := h
  refine ⟨_, (pss_cons (ps_set (i := 1) sc_Pager__check_room.nd rfl (.inl rfl) (pe_op op_add (pe_callB call_lenD (by rfl) T.len PySem.boot_len (pa_cons (pe_fld (pv 0) rfl) pa_nil)) pe_int))
      (pss_one (ps_mk (ps_if (pt_cmpR op_gt (pv 1) (pe_fld (pv 0) rfl) (nomark _))
      (pss_one (ps_raise rfl (takes_of rfl rfl rfl rfl) (pmk_oex O iC tI B hr hb .nil (fun _ _ _ _ e s' _ c => no_fly c) rfl mU (pa_cons (pv 1) (pa_cons (pe_fld (pv 0) rfl) pa_nil)))))
      pss_nil)))), ?_⟩
  obtain ⟨dx, g⟩ := hp.g
  walk_at "go"
  refine ⟨_, _, _, _, _, rfl, g, T.cl, T.n6, pg_c, ?_⟩
  walk_at "go"
  refine ⟨A.da, _, rfl, hp.d, ?_⟩
  rw [List.length_map]
  walk_at "go"
  refine un ?_
  walk_at "go"
  refine ⟨_, _, _, _, _, rfl, g, T.cl, T.n3, pg_room, ?_⟩
  walk_at "go"
  refine ifD (fun c1 => ?_) (fun c1 => ?_)
  · walk_at "go"
    refine ⟨_, _, _, _, _, rfl, g, T.cl, T.n3, pg_room, ?_⟩
    exact bad2 (log_of (by omega) (by omega)) (log_of (by omega) (by omega)) (q2 (by omega))
  · exact q1 (by omega)
end

end

section

-- a condition of an operator
local macro_rules | `(tactic| walk_at "cond") => `(tactic| first
  | (show (0 : Int) < _; omega)
  | (show CDiv _ _; constructor <;> (first | decide | omega))
  | (show CMul _ _; first | (refine cmul_l ?_; constructor <;> (first | decide | omega)) | (refine cmul_r ?_; constructor <;> (first | decide | omega)))
  | (show CPow _ _; exact (by refine ⟨by decide, by decide, by decide⟩))
  | (show CDivW _ _; exact ⟨by decide, by decide +kernel⟩))
local macro_rules | `(tactic| walk_at "sq") => `(tactic| first | assumption | exact Dh.mono (same_upd (by assumption)) _ _ (by assumption) | exact .inl (.inl (.inl (by assumption))) | exact .inr (.inl (.inl (by assumption))) | exact SqL.of (by assumption) | exact .inl (by assumption) | exact .inl (SqL.of (by assumption)) | exact SqT.of (by assumption) | exact .inr (SqT.of (by assumption)))
local macro_rules | `(tactic| walk_at "st") => `(tactic| first
  | refine ⟨_, rfl, ?_⟩
  | refine ⟨_, _, rfl, rfl, ?_⟩
  | refine .inl ⟨_, rfl, ?_⟩
  | refine ⟨rfl, ?_⟩
  | refine ⟨_, _, rfl, by walk_at "sq", ?_⟩
  | refine ⟨.inl ⟨rfl, _, SqL.of (by assumption)⟩, ?_⟩
  | refine ⟨by walk_at "cond", ?_⟩
  | (refine' ifBT ?hh ?_; (case hh => first | rfl | assumption))
  | (refine' ifBF ?hh ?_; (case hh => first | rfl | assumption)))
local macro_rules | `(tactic| walk_at "go") => `(tactic| repeat walk_at "st")
local macro_rules | `(tactic| walk_at "yes") => `(tactic| (refine' ifT ?hh ?_; (case hh => first | rfl | decide +kernel)))
local macro_rules | `(tactic| walk_at "no") => `(tactic| (refine' ifF ?hh ?_; (case hh => first | decide +kernel | (intro z; cases z; done))))

local macro_rules | `(tactic| walk_at "st") => `(tactic| refine ⟨_, _, _, _, _, rfl, by assumption, by assumption, by omega, by omega, by omega, by omega, by omega, ?_⟩)
local macro_rules | `(tactic| walk_at "st") => `(tactic| refine ⟨_, _, _, _, _, rfl, Same.seq (by assumption) (by assumption), by assumption, by omega, by omega, by omega, by omega, by omega, ?_⟩)

/-! ### a field by its fragment -/
theorem pe_fldK {X : Cx} (K : PySem.W.Frag) (hK : X.K = K) {e : Expr} {f : Str} {ta : TE} {pos : Pos} (he : PE X e ta) (hb : attributeBase e f X.env (eval e X.env) = eval e X.env) : PE X (.Attribute e f pos) (tFld K ta f) := by
  subst hK
  exact pe_fld he hb

end

section

-- a condition of an operator
local macro_rules | `(tactic| walk_at "cond") => `(tactic| first
  | (show (0 : Int) < _; omega)
  | (show CDiv _ _; constructor <;> (first | decide | omega))
  | (show CMul _ _; first | (refine cmul_l ?_; constructor <;> (first | decide | omega)) | (refine cmul_r ?_; constructor <;> (first | decide | omega)))
  | (show CPow _ _; exact (by refine ⟨by decide, by decide, by decide⟩))
  | (show CDivW _ _; exact ⟨by decide, by decide +kernel⟩))
local macro_rules | `(tactic| walk_at "sq") => `(tactic| first | assumption | exact Dh.mono (same_upd (by assumption)) _ _ (by assumption) | exact .inl (.inl (.inl (by assumption))) | exact .inr (.inl (.inl (by assumption))) | exact SqL.of (by assumption) | exact .inl (by assumption) | exact .inl (SqL.of (by assumption)) | exact SqT.of (by assumption) | exact .inr (SqT.of (by assumption)))
local macro_rules | `(tactic| walk_at "st") => `(tactic| first
  | refine ⟨_, rfl, ?_⟩
  | refine ⟨_, _, rfl, rfl, ?_⟩
  | refine .inl ⟨_, rfl, ?_⟩
  | refine ⟨rfl, ?_⟩
  | refine ⟨_, _, rfl, by walk_at "sq", ?_⟩
  | refine ⟨.inl ⟨rfl, _, SqL.of (by assumption)⟩, ?_⟩
  | refine ⟨by walk_at "cond", ?_⟩
  | (refine' ifBT ?hh ?_; (case hh => first | rfl | assumption))
  | (refine' ifBF ?hh ?_; (case hh => first | rfl | assumption)))
local macro_rules | `(tactic| walk_at "go") => `(tactic| repeat walk_at "st")
local macro_rules | `(tactic| walk_at "yes") => `(tactic| (refine' ifT ?hh ?_; (case hh => first | rfl | decide +kernel)))
local macro_rules | `(tactic| walk_at "no") => `(tactic| (refine' ifF ?hh ?_; (case hh => first | decide +kernel | (intro z; cases z; done))))

local macro_rules | `(tactic| walk_at "st") => `(tactic| refine ⟨_, _, _, _, _, rfl, by assumption, by assumption, by omega, by omega, by omega, by omega, by omega, ?_⟩)
local macro_rules | `(tactic| walk_at "st") => `(tactic| refine ⟨_, _, _, _, _, rfl, Same.seq (by assumption) (by assumption), by assumption, by omega, by omega, by omega, by omega, by omega, ?_⟩)

/-! ### _frames_to_choose, _stamps_on_both, _fill, _empty_frame -/
abbrev s_Pager__frames_to_choose : Stmt := inClass (topS 13) 22
theorem sc_Pager__frames_to_choose : FnScope ["self", "frame"] ["self"] (C8.fnScope s_Pager__frames_to_choose) := C8.fnScope_by (by decide +kernel)
abbrev s_Pager__stamps_on_both : Stmt := inClass (topS 13) 28
theorem sc_Pager__stamps_on_both : FnScope ["self", "stamp"] ["self"] (C8.fnScope s_Pager__stamps_on_both) := C8.fnScope_by (by decide +kernel)
abbrev s_Pager__fill : Stmt := inClass (topS 13) 25
theorem sc_Pager__fill : FnScope ["self", "frame", "stamp"] ["self", "frame", "stamp"] (C8.fnScope s_Pager__fill) := C8.fnScope_by (by decide +kernel)
abbrev s_Pager__empty_frame : Stmt := inClass (topS 13) 26
theorem sc_Pager__empty_frame : FnScope ["self", "stamp", "frame"] ["self", "stamp"] (C8.fnScope s_Pager__empty_frame) := C8.fnScope_by (by decide +kernel)
theorem pn_get : ∀ (pn : List Int) (x : Int), (valV (pn.map pinR) (.inl x)).isSome = decide (x ∈ pn)
  | [], x => rfl
  | c :: cs, x => by
    rw [List.map_cons]
    by_cases e : c = x
    · rw [valV_pos (show (pinR c).1 = .inl x by rw [← e]; rfl)]
      simp [e]
    · rw [valV_neg (show ¬ (pinR c).1 = .inl x from fun z => e (Sum.inl.inj z)), pn_get cs x]
      have e2 : ¬ x = c := fun z => e z.symm
      simp [e2]
theorem pn_drop (pn : List Int) (x : Int) : dropK (pn.map pinR) (.inl x) = (pn.filter fun i => decide (i ≠ x)).map pinR := by
  induction pn with
  | nil => rfl
  | cons c cs ih =>
    unfold dropK at ih ⊢
    rw [List.map_cons, List.filter_cons, List.filter_cons, ih]
    by_cases e : c = x
    · have h : decide ((pinR c).1 ≠ Sum.inl x) = false := decide_eq_false fun z => z (by rw [← e]; rfl)
      rw [h]
      simp [e]
    · have h : decide ((pinR c).1 ≠ Sum.inl x) = true := decide_eq_true fun z => e (Sum.inl.inj z)
      rw [h]
      simp [e]
def natsI (n : Nat) : List Int := (List.range n).map fun i : Nat => (i : Int)
/-- the frames that are not pinned -/
def freeF (S : GS) : List Int := (natsI S.fr.length).filter fun i => decide (i ∉ S.pn)
def both (S : GS) : List Int := S.fr.filter fun x => decide (x ≠ 0) && decide (x ∈ S.pl.st)
def fillG (S : GS) (i : Nat) (x : Int) : GS := ⟨S.fr.set i x, S.pl, S.calls + 1, S.hand, S.fl.set i (S.calls + 1), S.us.set i (S.calls + 1), S.bits.set i 1, S.cs, S.pn, S.lf⟩
def emptyG (S : GS) (i : Nat) : GS := ⟨S.fr.set i 0, S.pl, S.calls, S.hand, S.fl, S.us, S.bits.set i 0, S.cs, S.pn.filter fun j => decide (j ≠ (i : Int)), S.lf⟩
def spFtc (C : GC) : Sp := fun vs H Q _ => ∃ (A : GA) (k : GK) (S : GS), vs = [.ref A.p] ∧ PgAt C H A k S ∧ S.fr.length ≤ 1000 ∧ ∀ r H', Same H H' → H r = none → H' r = some (.lst ((freeF S).map V.int)) → Q (.ref r) H'
def spBoth (C : GC) : Sp := fun vs H Q _ => ∃ (A : GA) (k : GK) (S : GS), vs = [.ref A.p] ∧ PgAt C H A k S ∧ S.fr.length ≤ 1000 ∧ ∀ r H', Same H H' → H r = none → H' r = some (.lst ((both S).map V.int)) → Q (.ref r) H'
def spFillG (C : GC) : Sp := fun vs H Q _ => ∃ (A : GA) (k : GK) (S : GS) (i : Nat) (x : Int), vs = [.ref A.p, .int i, .int x] ∧ PgAt C H A k S ∧ i < S.fr.length ∧ k.n = S.fr.length ∧ ∀ H', PgAt C H' A k (fillG S i x) → ButL [A.fa, A.cp, A.cf, A.cu, A.cb] H H' → Q .non H'
def spEmpG (C : GC) : Sp := fun vs H Q _ => ∃ (A : GA) (k : GK) (S : GS) (x : Int), vs = [.ref A.p, .int x] ∧ PgAt C H A k S ∧ x ∈ S.fr ∧ k.n = S.fr.length ∧ ∀ H', PgAt C H' A k (emptyG S (S.fr.idxOf x)) → ButL [A.fa, A.na, A.cb] H H' → Q .non H'
section
variable {P : Program} {w : World} {K : PySem.W.Frag} {mg : Str → Option Value} {base : Heap} {C : GC}
theorem ok_ftc {f : Addr} {fd : FuncData} (F : C8.Fun K "_frames_to_choose" "Pager._frames_to_choose" s_Pager__frames_to_choose f fd) (M : Meth K C.g "_frames_to_choose" f) (b : Binds K fd ["self"] []) (T : GTxt K mg C.g) : C8.Met P w K mg base 1 C.g "_frames_to_choose" (spFtc C) [] := by
  refine C8.met0 T.cl M F b sc_Pager__frames_to_choose (fun vs H Q E h => ?_) (fun cdv A0 outer s H vs Q E hr h => ?_)
  · obtain ⟨A, k, S, rfl, _⟩ := h
    rfl
  obtain ⟨A, k, S, rfl, hp, ln, q⟩ := h
  refine ⟨_, (pss_one (ps_ret (pe_lc (own := [("frame", 1)]) (g := gName 1) rfl sc_Pager__frames_to_choose.nd (pi_range1 (by rfl) T.range (pa_cons (pe_callB (lenQ K rfl) (by rfl) T.len PySem.boot_len (pa_cons (pe_fld (pv 0) rfl) pa_nil)) pa_nil)) (blkOk_by (own := [("frame", 1)]) (N := ["self", "frame"]) (sc := C8.fnScope s_Pager__frames_to_choose) (by decide +kernel)) (fun _ _ _ _ _ => (pg_name (i := 1) sc_Pager__frames_to_choose.nd rfl (.inl rfl))) (fun _ _ _ _ _ => (pts_one (pt_cmp (pc_dnotin (hu_of hr) (pv 1) (pe_fldK K rfl (pv 0) rfl))))) (fun _ _ _ _ _ => (pv 1))))), ?_⟩
  obtain ⟨dx, g⟩ := hp.g
  have sF : SqL K H A.fa (S.fr.map V.int) := SqL.of hp.f
  walk_at "go"
  refine ⟨_, _, _, _, _, rfl, g, T.cl, T.n1, pg_fr, ?_⟩
  walk_at "go"
  rw [List.length_map]
  refine ⟨by omega, by omega, fun N1 nN => lc_range (lo := 0) (n := S.fr.length) (fun j H' => Ob (Same H H' ∧ H' N1 = some (.lst (((natsI j).filter fun i => decide (i ∉ S.pn)).map V.int)))) (ob ⟨same_upd nN, upd_same⟩) ?_ ?_⟩
  · intro j H' hj h
    obtain ⟨s1, g1⟩ := unob h
    clear h
    have hp1 := hp.same s1
    obtain ⟨dx1, gi⟩ := hp1.g
    have en : (natsI (j + 1)).filter (fun i => decide (i ∉ S.pn)) = (natsI j).filter (fun i => decide (i ∉ S.pn)) ++ [(j : Int)].filter (fun i => decide (i ∉ S.pn)) := by
      unfold natsI
      rw [List.range_succ, List.map_append, List.filter_append]
      rfl
    have ll : ((natsI j).filter fun i => decide (i ∉ S.pn)).length ≤ j := Nat.le_trans (List.length_filter_le _ _) (by unfold natsI; rw [List.length_map, List.length_range]; exact Nat.le_refl _)
    refine ⟨rfl, ?_⟩
    rw [Int.zero_add]
    walk_at "go"
    refine ⟨_, _, _, _, _, rfl, gi, T.cl, T.n7, pg_pin, ?_⟩
    refine ⟨A.na, _, rfl, DGet.k (k := .inl (j : Nat)) hp1.pin, ?_⟩
    walk_at "go"
    rw [pn_get]
    by_cases m : (j : Int) ∈ S.pn
    · refine ifN (ifT m ?_)
      refine ob ⟨s1, ?_⟩
      rw [en, show [(j : Int)].filter (fun i => decide (i ∉ S.pn)) = [] by simp [m], List.append_nil]
      exact g1
    · refine ifN (ifF m ?_)
      walk_at "go"
      refine ⟨_, g1, sz5 (by rw [List.length_map]; omega), ob ⟨same_put s1 nN, ?_⟩⟩
      rw [en, show [(j : Int)].filter (fun i => decide (i ∉ S.pn)) = [(j : Int)] by simp [m], List.map_append]
      exact upd_same
  intro H1 h
  obtain ⟨s1, g1⟩ := unob h
  exact q N1 H1 s1 nN g1
theorem ok_both {f : Addr} {fd : FuncData} (F : C8.Fun K "_stamps_on_both" "Pager._stamps_on_both" s_Pager__stamps_on_both f fd) (M : Meth K C.g "_stamps_on_both" f) (b : Binds K fd ["self"] []) (T : GTxt K mg C.g) (m_has_stamp : C8.Met P w K mg base 1 C.p "has_stamp" (spHasS C.p) []) : C8.Met P w K mg base 2 C.g "_stamps_on_both" (spBoth C) [] := by
  refine C8.met0 T.cl M F b sc_Pager__stamps_on_both (fun vs H Q E h => ?_) (fun cdv A0 outer s H vs Q E hr h => ?_)
  · obtain ⟨A, k, S, rfl, _⟩ := h
    rfl
  obtain ⟨A, k, S, rfl, hp, ln, q⟩ := h
  have m_has_stamp := metI m_has_stamp
  refine ⟨_, (pss_one (ps_ret (pe_lc (own := [("stamp", 1)]) (g := gName 1) rfl sc_Pager__stamps_on_both.nd (pi_list (pe_fld (pv 0) rfl)) (blkOk_by (own := [("stamp", 1)]) (N := ["self", "stamp"]) (sc := C8.fnScope s_Pager__stamps_on_both) (by decide +kernel)) (fun _ _ _ _ _ => (pg_name (i := 1) sc_Pager__stamps_on_both.nd rfl (.inl rfl))) (fun _ _ _ _ _ => (pts_one (PW.pt (pw_and (pt_cmpR op_ne (pv 1) pe_int (nomark _)) (pw_and1 (pt_val (C8.pe_mt m_has_stamp hr (by omega) (pe_fldK K rfl (pv 0) rfl) (pa_cons (pv 1) pa_nil)))))))) (fun _ _ _ _ _ => (pv 1))))), ?_⟩
  obtain ⟨dx, g⟩ := hp.g
  have sF : SqL K H A.fa (S.fr.map V.int) := SqL.of hp.f
  walk_at "go"
  refine ⟨_, _, _, _, _, rfl, g, T.cl, T.n1, pg_fr, ?_⟩
  refine ⟨_, rfl, ⟨_, sF⟩, fun N1 nN => lc_list (K := K) (a := A.fa) (xs := S.fr.map V.int) (fun i H' => Ob (Same H H' ∧ H' N1 = some (.lst ((((S.fr.take i).filter fun x => decide (x ≠ 0) && decide (x ∈ S.pl.st))).map V.int)))) (ob ⟨same_upd nN, upd_same⟩) (fun i H' _ h => SqL.of ((unob h).1 _ _ hp.f)) ?_ ?_⟩
  · intro i v H' hv h
    obtain ⟨s1, g1⟩ := unob h
    clear h
    rw [List.getElem?_map] at hv
    obtain ⟨x, hx, rfl⟩ := Option.map_eq_some_iff.mp hv
    have hp1 := hp.same s1
    obtain ⟨dx1, gi⟩ := hp1.g
    obtain ⟨dx2, gpl⟩ := hp1.pl.g
    have hil : i < S.fr.length := (List.getElem?_eq_some_iff.mp hx).1
    have en : (S.fr.take (i + 1)).filter (fun x => decide (x ≠ 0) && decide (x ∈ S.pl.st)) = (S.fr.take i).filter (fun x => decide (x ≠ 0) && decide (x ∈ S.pl.st)) ++ [x].filter (fun x => decide (x ≠ 0) && decide (x ∈ S.pl.st)) := by
      rw [List.take_add_one, hx, List.filter_append]
      rfl
    have ll : ((S.fr.take i).filter fun x => decide (x ≠ 0) && decide (x ∈ S.pl.st)).length ≤ 1000 := Nat.le_trans (List.length_filter_le _ _) (by rw [List.length_take]; omega)
    walk_at "go"
    have no : ¬ (x ≠ 0 ∧ x ∈ S.pl.st) → Ob (Same H H' ∧ H' N1 = some (.lst ((((S.fr.take (i + 1)).filter fun x => decide (x ≠ 0) && decide (x ∈ S.pl.st))).map V.int))) := fun z => by
      refine ob ⟨s1, ?_⟩
      have e0 : [x].filter (fun x => decide (x ≠ 0) && decide (x ∈ S.pl.st)) = [] := by
        rw [List.filter_cons_of_neg (by simpa using fun z1 z2 => z ⟨z1, z2⟩)]
        rfl
      rw [en, e0, List.append_nil]
      exact g1
    refine ifNe (fun z1 => ?_) (fun z1 => ?_)
    · walk_at "go"
      refine ⟨_, _, _, _, _, rfl, gi, T.cl, T.n2, pg_pl, ?_⟩
      walk_at "go"
      refine ⟨A.pp, _, _, rfl, gpl, pl_m1, ?_⟩
      walk_at "go"
      refine SpI.mk ⟨A.pp, A.sa, A.ra, A.wa, S.pl, x, rfl, hp1.pl, ?_⟩
      walk_at "go"
      refine ifD (fun z2 => ?_) (fun z2 => no fun z => z2 z.2)
      walk_at "go"
      refine ⟨_, g1, sz5 (by rw [List.length_map]; omega), ob ⟨same_put s1 nN, ?_⟩⟩
      have e1 : [x].filter (fun x => decide (x ≠ 0) && decide (x ∈ S.pl.st)) = [x] := by
        rw [List.filter_cons_of_pos (by simpa using ⟨z1, z2⟩)]
        rfl
      rw [en, e1, List.map_append]
      exact upd_same
    · walk_at "go"
      exact no fun z => z.1 z1
  intro H1 h
  obtain ⟨s1, g1⟩ := unob h
  rw [List.length_map, List.take_length] at g1
  exact q N1 H1 s1 nN g1
theorem ok_fillG {f : Addr} {fd : FuncData} (F : C8.Fun K "_fill" "Pager._fill" s_Pager__fill f fd) (M : Meth K C.g "_fill" f) (b : Binds K fd ["self", "frame", "stamp"] []) (T : GTxt K mg C.g) (m_filled : C8.Met P w K mg base 2 C.c "filled" (spFil C.c) []) : C8.Met P w K mg base 3 C.g "_fill" (spFillG C) [] := by
  refine C8.met0 T.cl M F b sc_Pager__fill (fun vs H Q E h => ?_) (fun cdv A0 outer s H vs Q E hr h => ?_)
  · obtain ⟨A, k, S, i, x, rfl, _⟩ := h
    rfl
  obtain ⟨A, k, S, i, x, rfl, hp, hi, hn, q⟩ := h
  have m_filled := metI m_filled
  refine ⟨_, (pss_cons (ps_asg (pv 2) (pg_sub (pe_fld (pv 0) rfl) (pv 1) set_list))
      (pss_one (ps_expr (C8.pe_mt m_filled hr (by omega) (pe_fld (pv 0) rfl) (pa_cons (pv 1) pa_nil))))), ?_⟩
  obtain ⟨dx, g⟩ := hp.g
  have gf := hp.f
  walk_at "go"
  refine ⟨_, _, _, _, _, rfl, g, T.cl, T.n1, pg_fr, ?_⟩
  walk_at "go"
  refine ⟨A.fa, _, _, _, rfl, rfl, gf, ix_ok (by omega) (by rw [List.length_map]; omega), ?_⟩
  rw [set_ints, Int.toNat_natCast]
  have b1 : ButL [A.fa] H (upd H A.fa (.lst ((S.fr.set i x).map V.int))) := ButL.put (by simp)
  have h1 := hp.putF b1.t upd_same
  show _
  generalize upd H A.fa (HO.lst ((S.fr.set i x).map V.int)) = H1 at *
  obtain ⟨dx1, g1⟩ := h1.g
  walk_at "go"
  refine ⟨_, _, _, _, _, rfl, g1, T.cl, T.n5, pg_ch, ?_⟩
  walk_at "go"
  refine ⟨A.cp, _, _, rfl, h1.ch.g, ch_no2, ?_⟩
  walk_at "go"
  refine SpI.mk ⟨A.cp, A.cf, A.cu, A.cb, A.cdx, k.kd, k.n, S.calls, S.hand, i, S.fl, S.us, S.bits, rfl, h1.ch, by omega, by omega, fun H2 h2 b2 => ?_⟩
  rw [Int.toNat_natCast] at h2
  walk_at "go"
  refine q H2 (h1.putC ((b2.mono (by simp)).t) h2) ((b1.mono (by simp)).trans (b2.mono (by simp)))
theorem ok_empG {f : Addr} {fd : FuncData} (F : C8.Fun K "_empty_frame" "Pager._empty_frame" s_Pager__empty_frame f fd) (M : Meth K C.g "_empty_frame" f) (b : Binds K fd ["self", "stamp"] []) (T : GTxt K mg C.g) (m_emptied : C8.Met P w K mg base 1 C.c "emptied" (spEmp C.c) []) : C8.Met P w K mg base 2 C.g "_empty_frame" (spEmpG C) [] := by
  refine C8.met0 T.cl M F b sc_Pager__empty_frame (fun vs H Q E h => ?_) (fun cdv A0 outer s H vs Q E hr h => ?_)
  · obtain ⟨A, k, S, x, rfl, _⟩ := h
    rfl
  obtain ⟨A, k, S, x, rfl, hp, hx, hn, q⟩ := h
  have m_emptied := metI m_emptied
  refine ⟨_, (pss_cons (ps_set (i := 2) sc_Pager__empty_frame.nd rfl (.inl rfl) (pe_bm PySem.F.plainAttrs_list PySem.F.slot_list_index PySem.F.type_list_index (mtI mt_index) (pe_fld (pv 0) rfl) (pa_cons (pv 1) pa_nil)))
      (pss_cons (ps_asg pe_int (pg_sub (pe_fld (pv 0) rfl) (pv 2) set_list))
      (pss_cons (ps_expr (pe_dpop2 (pe_fld (pv 0) rfl) (pv 2) pe_non (by constructor <;> rfl)))
      (pss_one (ps_expr (C8.pe_mt m_emptied hr (by omega) (pe_fld (pv 0) rfl) (pa_cons (pv 2) pa_nil))))))), ?_⟩
  obtain ⟨dx, g⟩ := hp.g
  have gf := hp.f
  have sF : SqL K H A.fa (S.fr.map V.int) := SqL.of hp.f
  have li := idx_lt hx
  walk_at "go"
  refine ⟨_, _, _, _, _, rfl, g, T.cl, T.n1, pg_fr, ?_⟩
  walk_at "go"
  refine RmI.mk (index_mk sF hx ?_)
  walk_at "go"
  refine ⟨_, _, _, _, _, rfl, g, T.cl, T.n1, pg_fr, ?_⟩
  walk_at "go"
  refine ⟨A.fa, _, _, _, rfl, rfl, gf, ix_ok (by omega) (by rw [List.length_map]; omega), ?_⟩
  rw [set_ints, Int.toNat_natCast]
  have b1 : ButL [A.fa] H (upd H A.fa (.lst ((S.fr.set (S.fr.idxOf x) 0).map V.int))) := ButL.put (by simp)
  have h1 := hp.putF b1.t upd_same
  show _
  generalize upd H A.fa (HO.lst ((S.fr.set (S.fr.idxOf x) 0).map V.int)) = H1 at *
  obtain ⟨dx1, g1⟩ := h1.g
  clear sF gf
  have fr0 : S.fr[S.fr.idxOf x]? = some x := (idx_ok hx).1
  walk_at "go"
  refine ⟨_, _, _, _, _, rfl, g1, T.cl, T.n7, pg_pin, ?_⟩
  walk_at "go"
  refine ⟨.inl ⟨_, .inl h1.pin⟩, ?_⟩
  walk_at "go"
  refine ⟨_, .inl ((S.fr.idxOf x : Nat) : Int), h1.pin, rfl, fun v hv => ?_, fun hv => ?_⟩
  · rw [pn_drop]
    have b2' : ButL [A.na] H1 (upd H1 A.na (.dK ((S.pn.filter fun i => decide (i ≠ ((S.fr.idxOf x : Nat) : Int))).map pinR))) := ButL.put (by simp)
    have h2 := h1.putN b2'.t upd_same
    have b2 : ButL [A.fa, A.na] H _ := (b1.mono (by simp)).trans (b2'.mono (by simp))
    clear b2'
    show _
    generalize upd H1 A.na (HO.dK ((S.pn.filter fun i => decide (i ≠ ((S.fr.idxOf x : Nat) : Int))).map pinR)) = H2 at *
    walk_at "go"
    obtain ⟨dx2, g2⟩ := h2.g
    refine ⟨_, _, _, _, _, rfl, g2, T.cl, T.n5, pg_ch, ?_⟩
    walk_at "go"
    refine ⟨A.cp, _, _, rfl, h2.ch.g, ch_no3, ?_⟩
    walk_at "go"
    refine SpI.mk ⟨A.cp, A.cf, A.cu, A.cb, A.cdx, k.kd, k.n, S.calls, S.hand, (S.fr.idxOf x : Nat), S.fl, S.us, S.bits, rfl, h2.ch, by omega, by omega, fun H3 h3 b3 => ?_⟩
    rw [Int.toNat_natCast] at h3
    walk_at "go"
    exact q H3 (h2.putC ((b3.mono (by simp)).t) h3) ((b2.mono (by simp)).trans (b3.mono (by simp)))
  · have nm : ((S.fr.idxOf x : Nat) : Int) ∉ S.pn := fun m => by
      have e := pn_get S.pn ((S.fr.idxOf x : Nat) : Int)
      rw [show valV (S.pn.map pinR) (.inl ((S.fr.idxOf x : Nat) : Int)) = none from hv, decide_eq_true m] at e
      cases e
    have ef : (S.pn.filter fun j => decide (j ≠ ((S.fr.idxOf x : Nat) : Int))) = S.pn := List.filter_eq_self.mpr fun j hj => by
      refine decide_eq_true fun z => nm ?_
      rw [← z]
      exact hj
    have h2 : PgAt C H1 A k ⟨S.fr.set (S.fr.idxOf x) 0, S.pl, S.calls, S.hand, S.fl, S.us, S.bits, S.cs, S.pn.filter fun j => decide (j ≠ ((S.fr.idxOf x : Nat) : Int)), S.lf⟩ := by
      rw [ef]
      exact h1
    have b2 : ButL [A.fa, A.na] H H1 := b1.mono (by simp)
    walk_at "go"
    obtain ⟨dx2, g2⟩ := h2.g
    refine ⟨_, _, _, _, _, rfl, g2, T.cl, T.n5, pg_ch, ?_⟩
    walk_at "go"
    refine ⟨A.cp, _, _, rfl, h2.ch.g, ch_no3, ?_⟩
    walk_at "go"
    refine SpI.mk ⟨A.cp, A.cf, A.cu, A.cb, A.cdx, k.kd, k.n, S.calls, S.hand, (S.fr.idxOf x : Nat), S.fl, S.us, S.bits, rfl, h2.ch, by omega, by omega, fun H3 h3 b3 => ?_⟩
    rw [Int.toNat_natCast] at h3
    walk_at "go"
    exact q H3 (h2.putC ((b3.mono (by simp)).t) h3) ((b2.mono (by simp)).trans (b3.mono (by simp)))
end

end

section

-- a condition of an operator
local macro_rules | `(tactic| walk_at "cond") => `(tactic| first
  | (show (0 : Int) < _; omega)
  | (show CDiv _ _; constructor <;> (first | decide | omega))
  | (show CMul _ _; first | (refine cmul_l ?_; constructor <;> (first | decide | omega)) | (refine cmul_r ?_; constructor <;> (first | decide | omega)))
  | (show CPow _ _; exact (by refine ⟨by decide, by decide, by decide⟩))
  | (show CDivW _ _; exact ⟨by decide, by decide +kernel⟩))
local macro_rules | `(tactic| walk_at "sq") => `(tactic| first | assumption | exact Dh.mono (same_upd (by assumption)) _ _ (by assumption) | exact .inl (.inl (.inl (by assumption))) | exact .inr (.inl (.inl (by assumption))) | exact SqL.of (by assumption) | exact .inl (by assumption) | exact .inl (SqL.of (by assumption)) | exact SqT.of (by assumption) | exact .inr (SqT.of (by assumption)))
local macro_rules | `(tactic| walk_at "st") => `(tactic| first
  | refine ⟨_, rfl, ?_⟩
  | refine ⟨_, _, rfl, rfl, ?_⟩
  | refine .inl ⟨_, rfl, ?_⟩
  | refine ⟨rfl, ?_⟩
  | refine ⟨_, _, rfl, by walk_at "sq", ?_⟩
  | refine ⟨.inl ⟨rfl, _, SqL.of (by assumption)⟩, ?_⟩
  | refine ⟨by walk_at "cond", ?_⟩
  | (refine' ifBT ?hh ?_; (case hh => first | rfl | assumption))
  | (refine' ifBF ?hh ?_; (case hh => first | rfl | assumption)))
local macro_rules | `(tactic| walk_at "go") => `(tactic| repeat walk_at "st")
local macro_rules | `(tactic| walk_at "yes") => `(tactic| (refine' ifT ?hh ?_; (case hh => first | rfl | decide +kernel)))
local macro_rules | `(tactic| walk_at "no") => `(tactic| (refine' ifF ?hh ?_; (case hh => first | decide +kernel | (intro z; cases z; done))))

local macro_rules | `(tactic| walk_at "st") => `(tactic| refine ⟨_, _, _, _, _, rfl, by assumption, by assumption, by omega, by omega, by omega, by omega, by omega, ?_⟩)
local macro_rules | `(tactic| walk_at "st") => `(tactic| refine ⟨_, _, _, _, _, rfl, Same.seq (by assumption) (by assumption), by assumption, by omega, by omega, by omega, by omega, by omega, ?_⟩)

/-! ### _move_out -/
abbrev s_Pager__move_out : Stmt := inClass (topS 13) 27
theorem sc_Pager__move_out : FnScope ["self", "stamp"] ["self", "stamp"] (C8.fnScope s_Pager__move_out) := C8.fnScope_by (by decide +kernel)
/-- the places after a stamp was put out -/
def MvR (S : GS) (x : Int) (ps : PS) : Prop := (x ∈ S.pl.st ∧ ps = S.pl) ∨ (x ∉ S.pl.st ∧ 0 ∈ S.pl.st ∧ ps = writeS S.pl x) ∨ (x ∉ S.pl.st ∧ 0 ∉ S.pl.st ∧ ∃ m ∈ both S, (∀ y ∈ both S, m ≤ y) ∧ ps = writeS (freeS S.pl m) x)
def outG (S : GS) (x : Int) (ps : PS) : GS := emptyG ⟨S.fr, ps, S.calls, S.hand, S.fl, S.us, S.bits, S.cs, S.pn, S.lf ++ [x]⟩ (S.fr.idxOf x)
def GA.plc (A : GA) : List Addr := [A.pp, A.sa, A.ra, A.wa]
def spMvG (C : GC) : Sp := fun vs H Q _ => ∃ (A : GA) (k : GK) (S : GS) (x : Int), vs = [.ref A.p, .int x] ∧ PgAt C H A k S ∧ x ∈ S.fr ∧ k.n = S.fr.length ∧ S.fr.length ≤ 1000 ∧ S.pl.rows.length ≤ 90000 ∧ S.lf.length ≤ 90000 ∧ (x ∉ S.pl.st → 0 ∉ S.pl.st → both S ≠ []) ∧
  ∀ ps H', MvR S x ps → PgAt C H' A k (outG S x ps) → ButL (A.fa :: A.na :: A.la :: A.cb :: A.plc) H H' → Q .non H'
theorem set_mem {st : List Int} {i : Nat} (h : i < st.length) : (0 : Int) ∈ st.set i 0 := List.mem_of_getElem? (i := i) (by rw [List.getElem?_set_self h])
theorem bothS {S : GS} {m : Int} (h : m ∈ both S) : m ∈ S.pl.st := by
  have := (List.mem_filter.mp h).2
  simpa using (Bool.and_eq_true_iff.mp this).2
section
variable {P : Program} {w : World} {K : PySem.W.Frag} {mg : Str → Option Value} {base : Heap} {C : GC}
theorem ok_mvG {f : Addr} {fd : FuncData} (F : C8.Fun K "_move_out" "Pager._move_out" s_Pager__move_out f fd) (M : Meth K C.g "_move_out" f) (b : Binds K fd ["self", "stamp"] []) (T : GTxt K mg C.g) (m_has_stamp : C8.Met P w K mg base 1 C.p "has_stamp" (spHasS C.p) []) (m_has_free : C8.Met P w K mg base 1 C.p "has_free" (spHasF C.p) []) (m_free : C8.Met P w K mg base 1 C.p "free" (spFree C.p) [])
    (m_write_to : C8.Met P w K mg base 2 C.p "write_to" (spWrite C.p) []) (m_stamps_on_both : C8.Met P w K mg base 2 C.g "_stamps_on_both" (spBoth C) []) (m_empty_frame : C8.Met P w K mg base 2 C.g "_empty_frame" (spEmpG C) []) : C8.Met P w K mg base 3 C.g "_move_out" (spMvG C) [] := by
  refine C8.met0 T.cl M F b sc_Pager__move_out (fun vs H Q E h => ?_) (fun cdv A0 outer s H vs Q E hr h => ?_)
  · obtain ⟨A, k, S, x, rfl, _⟩ := h
    rfl
  obtain ⟨A, k, S, x, rfl, hp, hx, hn, ln, lr, lf, hb, q⟩ := h
  have m_has_stamp := metI m_has_stamp
  have m_has_free := metI m_has_free
  have m_free := metI m_free
  have m_write_to := metI m_write_to
  have m_stamps_on_both := metI m_stamps_on_both
  have m_empty_frame := metI m_empty_frame
  refine ⟨_, (pss_cons (ps_mk (ps_if (pt_not (pt_val (C8.pe_mt m_has_stamp hr (by omega) (pe_fld (pv 0) rfl) (pa_cons (pv 1) pa_nil))))
      (pss_cons (ps_mk (ps_if (pt_not (pt_val (C8.pe_mt0 m_has_free hr (by omega) (pe_fld (pv 0) rfl) )))
      (pss_one (ps_expr (C8.pe_mt m_free hr (by omega) (pe_fld (pv 0) rfl) (pa_cons (pe_callB (cr_min rfl) (by rfl) T.min (by decide +kernel) (pa_cons (C8.pe_mt0 m_stamps_on_both hr (by omega) (pv 0) ) pa_nil)) pa_nil))))
      pss_nil))
      (pss_one (ps_expr (C8.pe_mt m_write_to hr (by omega) (pe_fld (pv 0) rfl) (pa_cons (pv 1) pa_nil)))))
      pss_nil))
      (pss_cons (ps_expr (pe_bm PySem.F.plainAttrs_list PySem.F.slot_list_append PySem.F.type_list_append mt_append (pe_fld (pv 0) rfl) (pa_cons (pv 1) pa_nil)))
      (pss_one (ps_expr (C8.pe_mt m_empty_frame hr (by omega) (pv 0) (pa_cons (pv 1) pa_nil)))))), ?_⟩
  obtain ⟨dx, g⟩ := hp.g
  obtain ⟨dp, gp⟩ := hp.pl.g
  refine jnS (M := fun σ H' => ∃ ps, PgAt C H' A k ⟨S.fr, ps, S.calls, S.hand, S.fl, S.us, S.bits, S.cs, S.pn, S.lf⟩ ∧ MvR S x ps ∧ ButL A.plc H H' ∧ σ = [sR A.p, sI x]) ?_ (fun N kk => ?_)
  rotate_left
  · walk_at "go"
    refine ⟨_, _, _, _, _, rfl, g, T.cl, T.n2, pg_pl, ?_⟩
    walk_at "go"
    refine ⟨A.pp, _, _, rfl, gp, pl_m1, ?_⟩
    walk_at "go"
    refine SpI.mk ⟨A.pp, A.sa, A.ra, A.wa, S.pl, x, rfl, hp.pl, ?_⟩
    walk_at "go"
    refine ifN ?_
    refine ifD (fun z1 => ?_) (fun z1 => ?_)
    · walk_at "go"
      exact kk _ _ ⟨S.pl, hp, .inl ⟨z1, rfl⟩, ButL.refl, rfl⟩
    walk_at "go"
    refine jnS (M := fun σ H' => ∃ ps, PgAt C H' A k ⟨S.fr, ps, S.calls, S.hand, S.fl, S.us, S.bits, S.cs, S.pn, S.lf⟩ ∧ 0 ∈ ps.st ∧ ps.rows.length ≤ 90000 ∧ MvR S x (writeS ps x) ∧ ButL A.plc H H' ∧ σ = [sR A.p, sI x]) ?_ (fun N2 k2 => ?_)
    rotate_left
    · walk_at "go"
      refine ⟨_, _, _, _, _, rfl, g, T.cl, T.n2, pg_pl, ?_⟩
      walk_at "go"
      refine ⟨A.pp, _, _, rfl, gp, pl_m2, ?_⟩
      walk_at "go"
      refine SpI.mk ⟨A.pp, A.sa, A.ra, A.wa, S.pl, rfl, hp.pl, ?_⟩
      walk_at "go"
      refine ifN ?_
      refine ifD (fun z2 => ?_) (fun z2 => ?_)
      · walk_at "go"
        exact k2 _ _ ⟨S.pl, hp, z2, lr, .inr (.inl ⟨z1, z2, rfl⟩), ButL.refl, rfl⟩
      walk_at "go"
      refine ⟨_, _, _, _, _, rfl, g, T.cl, T.n2, pg_pl, ?_⟩
      walk_at "go"
      refine ⟨A.pp, _, _, rfl, gp, pl_m3, ?_⟩
      walk_at "go"
      refine ⟨_, _, _, rfl, g, pg_m9, ?_⟩
      walk_at "go"
      refine SpI.mk ⟨A, k, S, rfl, hp, ln, fun r H1 s1 rn gr => ?_⟩
      walk_at "go"
      have lb : (both S).length ≤ S.fr.length := List.length_filter_le _ _
      have l0 : 0 < (both S).length := List.length_pos_iff.mpr (hb z1 z2)
      refine ⟨l0, fun m hm hle => ?_⟩
      walk_at "go"
      refine SpI.mk ⟨A.pp, A.sa, A.ra, A.wa, S.pl, m, rfl, (hp.same s1).pl, fun H2 h2 b2 => ?_⟩
      walk_at "go"
      have bt : ButL A.plc H H2 := (Same.but s1).trans (b2.mono fun a ha => by
        rw [List.mem_singleton] at ha
        rw [ha]
        exact List.mem_cons_of_mem _ (List.mem_cons_self ..))
      refine k2 _ _ ⟨freeS S.pl m, hp.putP bt.t h2, ?_, lr, .inr (.inr ⟨z1, z2, m, hm, hle, rfl⟩), bt, rfl⟩
      unfold freeS
      rw [if_pos (bothS hm)]
      exact set_mem (List.idxOf_lt_length_of_mem (bothS hm))
    rintro σ H1 ⟨ps, h1, z0, lr1, mv, b1, rfl⟩
    walk_at "go"
    obtain ⟨dx1, g1⟩ := h1.g
    obtain ⟨dp1, gp1⟩ := h1.pl.g
    refine ⟨_, _, _, _, _, rfl, g1, T.cl, T.n2, pg_pl, ?_⟩
    walk_at "go"
    refine ⟨A.pp, _, _, rfl, gp1, pl_m5, ?_⟩
    walk_at "go"
    refine SpI.mk ⟨A.pp, A.sa, A.ra, A.wa, ps, x, rfl, h1.pl, z0, lr1, fun H2 h2 b2 => ?_⟩
    walk_at "go"
    exact kk _ _ ⟨writeS ps x, h1.putP b2.t h2, mv, b1.trans b2, rfl⟩
  rintro σ H1 ⟨ps, h1, mv, b1, rfl⟩
  walk_at "go"
  obtain ⟨dx1, g1⟩ := h1.g
  refine ⟨_, _, _, _, _, rfl, g1, T.cl, T.n8, pg_l, ?_⟩
  walk_at "go"
  have sL : SqL K H1 A.la (S.lf.map V.int) := SqL.of h1.l
  refine ⟨.inl ⟨rfl, _, sL⟩, ?_⟩
  walk_at "go"
  refine ⟨A.la, _, _, rfl, rfl, h1.l, sz5 (by rw [List.length_map]; exact Nat.le_trans lf (by omega)), ?_⟩
  have bl : ButL [A.la] H1 (upd H1 A.la (.lst (S.lf.map V.int ++ [V.int x]))) := ButL.put (by simp)
  have h2 := h1.putL (lf := S.lf ++ [x]) bl.t (by rw [upd_same, List.map_append]; rfl)
  obtain ⟨dx2, g2⟩ := h2.g
  walk_at "go"
  refine ⟨A.p, _, _, rfl, g2, pg_m7, ?_⟩
  walk_at "go"
  refine SpI.mk ⟨A, k, _, x, rfl, h2, hx, hn, fun H3 h3 b3 => ?_⟩
  walk_at "go"
  exact q ps H3 mv h3 (((b1.mono fun a ha => by simp [ha]).trans (bl.mono fun a ha => by simp at ha; simp [ha])).trans (b3.mono fun a ha => by simp at ha ⊢; rcases ha with rfl | rfl | rfl <;> simp))
end

end

section

-- a condition of an operator
local macro_rules | `(tactic| walk_at "cond") => `(tactic| first
  | (show (0 : Int) < _; omega)
  | (show CDiv _ _; constructor <;> (first | decide | omega))
  | (show CMul _ _; first | (refine cmul_l ?_; constructor <;> (first | decide | omega)) | (refine cmul_r ?_; constructor <;> (first | decide | omega)))
  | (show CPow _ _; exact (by refine ⟨by decide, by decide, by decide⟩))
  | (show CDivW _ _; exact ⟨by decide, by decide +kernel⟩))
local macro_rules | `(tactic| walk_at "sq") => `(tactic| first | assumption | exact Dh.mono (same_upd (by assumption)) _ _ (by assumption) | exact .inl (.inl (.inl (by assumption))) | exact .inr (.inl (.inl (by assumption))) | exact SqL.of (by assumption) | exact .inl (by assumption) | exact .inl (SqL.of (by assumption)) | exact SqT.of (by assumption) | exact .inr (SqT.of (by assumption)))
local macro_rules | `(tactic| walk_at "st") => `(tactic| first
  | refine ⟨_, rfl, ?_⟩
  | refine ⟨_, _, rfl, rfl, ?_⟩
  | refine .inl ⟨_, rfl, ?_⟩
  | refine ⟨rfl, ?_⟩
  | refine ⟨_, _, rfl, by walk_at "sq", ?_⟩
  | refine ⟨.inl ⟨rfl, _, SqL.of (by assumption)⟩, ?_⟩
  | refine ⟨by walk_at "cond", ?_⟩
  | (refine' ifBT ?hh ?_; (case hh => first | rfl | assumption))
  | (refine' ifBF ?hh ?_; (case hh => first | rfl | assumption)))
local macro_rules | `(tactic| walk_at "go") => `(tactic| repeat walk_at "st")
local macro_rules | `(tactic| walk_at "yes") => `(tactic| (refine' ifT ?hh ?_; (case hh => first | rfl | decide +kernel)))
local macro_rules | `(tactic| walk_at "no") => `(tactic| (refine' ifF ?hh ?_; (case hh => first | decide +kernel | (intro z; cases z; done))))

local macro_rules | `(tactic| walk_at "st") => `(tactic| refine ⟨_, _, _, _, _, rfl, by assumption, by assumption, by omega, by omega, by omega, by omega, by omega, ?_⟩)
local macro_rules | `(tactic| walk_at "st") => `(tactic| refine ⟨_, _, _, _, _, rfl, Same.seq (by assumption) (by assumption), by assumption, by omega, by omega, by omega, by omega, by omega, ?_⟩)

/-! ### _obtain -/
abbrev s_Pager__obtain : Stmt := inClass (topS 13) 23
theorem sc_Pager__obtain : FnScope ["self", "candidates", "frame"] ["self", "candidates"] (C8.fnScope s_Pager__obtain) := C8.fnScope_by (by decide +kernel)
/-- a frame was obtained -/
def ObR (k : GK) (S : GS) (als : List Int) (f : Nat) (S' : GS) : Prop := (0 ∈ S.fr ∧ f = S.fr.idxOf 0 ∧ S' = S) ∨
  (0 ∉ S.fr ∧ ∃ (hand' : Int) (bits' : List Int) (x : Int) (ps : PS), ChsR k.kd k.n S.hand S.bits S.fl S.us als f hand' bits' ∧ S.fr[f]? = some x ∧ MvR S x ps ∧ S' = outG ⟨S.fr, S.pl, S.calls, hand', S.fl, S.us, bits', S.cs, S.pn, S.lf⟩ x ps)
/-- a place can be had -/
def CanO (S : GS) : Prop := ∀ x ∈ S.fr, x ∉ S.pl.st → 0 ∉ S.pl.st → both S ≠ []
/-- what the calls need of the sizes -/
structure GOk (k : GK) (S : GS) : Prop where
  kd : K4 k.kd
  n : k.n = S.fr.length
  n1 : 1 ≤ S.fr.length
  n2 : S.fr.length ≤ 1000
  r : S.pl.rows.length ≤ 90000
  l : S.lf.length ≤ 90000
  h0 : 0 ≤ S.hand
  h1 : S.hand < S.fr.length
def GA.fr (A : GA) : List Addr := A.cp :: A.fa :: A.na :: A.la :: A.cb :: A.plc
def spObG (C : GC) (PT D : Addr) : Sp := fun vs H Q E => ∃ (A : GA) (k : GK) (S : GS) (al : Addr) (als : List Int), vs = [.ref A.p, .ref al] ∧ PgAt C H A k S ∧ GOk k S ∧ H al = some (.lst (als.map V.int)) ∧ al ≠ A.cb ∧ als.length ≤ 1000 ∧ (∀ x ∈ als, 0 ≤ x ∧ x < S.fr.length) ∧ (0 ∉ S.fr → CanO S) ∧ Tabs (chT PT) H ∧
  (0 ∈ S.fr ∨ als ≠ [] → ∀ (f : Nat) S' H', f < S.fr.length → ObR k S als f S' → PgAt C H' A k S' → ButT A.fr H H' → Tabs (chT PT) H' → Q (.int f) H') ∧
  (0 ∉ S.fr → als = [] → ∀ d, H d = none → E (.ref D) (some d) (upd H d (.xd (nlF ((S.fr.length : Int) + 1) S.fr.length))))
theorem plainI {C dx : Addr} {fs : List (Str × V)} : Plain (.ins C dx fs) := ⟨fun _ z => (by cases z), fun _ z => (by cases z)⟩
theorem plainL {xs : List V} : Plain (.lst xs) := ⟨fun _ z => (by cases z), fun _ z => (by cases z)⟩
theorem plainK {xs : List (Key × V)} : Plain (.dK xs) := ⟨fun _ z => (by cases z), fun _ z => (by cases z)⟩
theorem PgAt.plain {C : GC} {H : Hp} {A : GA} {k : GK} {S : GS} (h : PgAt C H A k S) : ∀ a ∈ A.all S.cs, ∃ o, H a = some o ∧ Plain o := fun a ha => by
  obtain ⟨dx, g⟩ := h.g
  obtain ⟨dp, gp⟩ := h.pl.g
  rcases List.mem_append.mp ha with z | z
  · simp only [GA.fix, List.mem_cons, List.not_mem_nil, or_false] at z
    rcases z with rfl | rfl | rfl | rfl | rfl | z
    · exact ⟨_, g, plainI⟩
    · exact ⟨_, h.f, plainL⟩
    · exact ⟨_, h.d, plainK⟩
    · exact ⟨_, h.pin, plainK⟩
    · exact ⟨_, h.l, plainL⟩
    · obtain ⟨us, gr, _⟩ := h.pl.r
      obtain ⟨ws, gw, _⟩ := h.pl.w
      rcases z with rfl | rfl | rfl | rfl | z
      · exact ⟨_, gp, plainI⟩
      · exact ⟨_, h.pl.s, plainL⟩
      · exact ⟨_, gr, plainL⟩
      · exact ⟨_, gw, plainL⟩
      · rcases z with rfl | rfl | rfl | rfl
        · exact ⟨_, h.ch.g, plainI⟩
        · exact ⟨_, h.ch.f, plainL⟩
        · exact ⟨_, h.ch.u, plainL⟩
        · exact ⟨_, h.ch.b, plainL⟩
  · obtain ⟨x, hx, rfl⟩ := List.mem_map.mp z
    exact ⟨_, h.c x hx, plainL⟩
theorem chs_rng {kd : Str} {n : Nat} {hand f hand' : Int} {bits fl us bits' als : List Int} (n1 : 1 ≤ n) (h0 : 0 ≤ hand) (h1 : hand < n) (lb : bits.length = n) (ra : ∀ x ∈ als, 0 ≤ x ∧ x < n) (c : ChsR kd n hand bits fl us als f hand' bits') : (0 ≤ f ∧ f < n ∧ f ∈ als) ∧ 0 ≤ hand' ∧ hand' < n := by
  rcases c with ⟨_, hh⟩ | ⟨_, m, _, e, _⟩
  · have r := hunt_res n1 _ _ _ _ hh lb h0 h1
    exact ⟨⟨(ra _ r.1).1, (ra _ r.1).2, r.1⟩, r.2.2.1, r.2.2.2⟩
  · exact ⟨⟨(ra _ m).1, (ra _ m).2, m⟩, by rw [e]; exact h0, by rw [e]; exact h1⟩
section
variable {P : Program} {w : World} {K : PySem.W.Frag} {mg : Str → Option Value} {base : Heap} {C : GC} {PT : Addr}
theorem ok_obG {U f2 : Addr} {fd2 : FuncData} (B : FnOk P w K mg base (L2.CX P w) 1 f2 fd2 ["self", "needed", "limit"] (spNL U)) (O : OexC K U) (iC : PySem.W.findIn K (.ref U) "__init__" = some (some (.ref f2))) (tI : PySem.W.typeIn K (.ref f2) = some (.type "function"))
    (hb : Binds K fd2 ["self", "needed", "limit"] []) (mU : mg "Starved" = some (.ref U)) {f : Addr} {fd : FuncData} (F : C8.Fun K "_obtain" "Pager._obtain" s_Pager__obtain f fd) (M : Meth K C.g "_obtain" f) (b : Binds K fd ["self", "candidates"] []) (T : GTxt K mg C.g) (m_choose : C8.Met P w K mg base 3 C.c "choose" (spChs C.c PT) [])
    (m_move_out : C8.Met P w K mg base 3 C.g "_move_out" (spMvG C) []) : MetE P w K mg base 4 C.g "_obtain" (spObG C PT U) := by
  refine metE T.cl M F b sc_Pager__obtain (fun vs H Q E h => ?_) (fun cdv A0 outer s H vs Q E hr h => ?_)
  · obtain ⟨A, k, S, al, als, rfl, _⟩ := h
    rfl
  obtain ⟨A, k, S, al, als, rfl, hp, ok, ga, na, la, ra, can, hT, q1, q2⟩ := h
  have m_choose := metI m_choose
  have m_move_out := metI m_move_out
  refine ⟨_, (pss_cons (ps_mk (ps_if (pt_cmpR (inQ K rfl) pe_int (pe_fld (pv 0) rfl) (by rfl))
      (pss_one (ps_ret (pe_bm PySem.F.plainAttrs_list PySem.F.slot_list_index PySem.F.type_list_index (mtI mt_index) (pe_fld (pv 0) rfl) (pa_cons pe_int pa_nil))))
      pss_nil))
      (pss_cons (ps_mk (ps_if (pt_not (pt_truth (pv 1) (by intro _; rfl)))
      (pss_one (ps_raise rfl (takes_of rfl rfl rfl rfl) (pmk_oex O iC tI B (Room.mono hr (by omega)) hb .nil (fun _ _ _ _ e s' _ c => no_fly c) rfl mU (pa_cons (pe_op op_add (pe_callB (lenQ K rfl) (by rfl) T.len PySem.boot_len (pa_cons (pe_fld (pv 0) rfl) pa_nil)) pe_int) (pa_cons (pe_callB (lenQ K rfl) (by rfl) T.len PySem.boot_len (pa_cons (pe_fld (pv 0) rfl) pa_nil)) pa_nil)))))
      pss_nil))
      (pss_cons (ps_set (i := 2) sc_Pager__obtain.nd rfl (.inl rfl) (C8.pe_mt m_choose hr (by omega) (pe_fld (pv 0) rfl) (pa_cons (pv 1) pa_nil)))
      (pss_cons (ps_expr (C8.pe_mt m_move_out hr (by omega) (pv 0) (pa_cons (pe_ix (ixL K rfl) (pe_fld (pv 0) rfl) (pv 2) (fun _ _ => rfl)) pa_nil)))
      (pss_one (ps_ret (pv 2))))))), ?_⟩
  obtain ⟨dx, g⟩ := hp.g
  have sF : SqL K H A.fa (S.fr.map V.int) := SqL.of hp.f
  walk_at "go"
  refine un ?_
  walk_at "go"
  refine ⟨_, _, _, _, _, rfl, g, T.cl, T.n1, pg_fr, ?_⟩
  walk_at "go"
  refine ⟨flat_ints _, ?_⟩
  rw [show inV (V.int 0) (S.fr.map V.int) = decide (0 ∈ S.fr) from inInt _ _]
  walk_at "go"
  refine ifD (fun c => ?_) (fun c => ?_)
  · walk_at "go"
    refine ⟨_, _, _, _, _, rfl, g, T.cl, T.n1, pg_fr, ?_⟩
    walk_at "go"
    refine ⟨.inl ⟨rfl, _, sF⟩, ?_⟩
    walk_at "go"
    refine RmI.mk (index_mk sF c ?_)
    walk_at "go"
    exact q1 (.inl c) _ S H (idx_lt c) (.inl ⟨c, rfl, rfl⟩) hp ButT.refl hT
  walk_at "go"
  refine un ?_
  walk_at "go"
  refine ⟨!als.isEmpty, .inl ⟨_, SqL.of ga, by cases als <;> rfl⟩, ?_⟩
  walk_at "go"
  rcases als with _ | ⟨y, ys⟩
  · walk_at "go"
    refine ⟨_, _, _, _, _, rfl, g, T.cl, T.n1, pg_fr, ?_⟩
    walk_at "go"
    refine ⟨_, _, _, _, _, rfl, g, T.cl, T.n1, pg_fr, ?_⟩
    walk_at "go"
    rw [List.length_map]
    exact bad2 (log_of (by have := ok.n2; omega) (by have := ok.n2; omega)) (log_of (by have := ok.n2; omega) (by have := ok.n2; omega)) (q2 c rfl)
  · walk_at "go"
    refine ⟨_, _, _, _, _, rfl, g, T.cl, T.n5, pg_ch, ?_⟩
    walk_at "go"
    refine ⟨A.cp, _, _, rfl, hp.ch.g, ch_no4, ?_⟩
    walk_at "go"
    have kn := ok.n
    have n1 := ok.n1
    have n2 := ok.n2
    have h0 := ok.h0
    have h1 := ok.h1
    refine SpI.mk ⟨A.cp, A.cf, A.cu, A.cb, A.cdx, al, k.kd, k.n, S.calls, S.hand, S.fl, S.us, S.bits, y :: ys, rfl, hp.ch, ok.kd, ga, na, Nat.succ_pos _, by omega, by omega, h0, by omega, fun x hx => by rw [kn]; exact ra x hx, hT, fun fr hand' bits' H2 cr h2 b2 T2 => ?_⟩
    obtain ⟨⟨f0, f1, fm⟩, hd0, hd1⟩ := chs_rng (by omega) h0 (by omega) hp.ch.lb (fun x hx => by rw [kn]; exact ra x hx) cr
    obtain ⟨j, rfl⟩ : ∃ j : Nat, fr = j := ⟨fr.toNat, by omega⟩
    have jl : j < S.fr.length := by omega
    have b2' : ButT [A.cp, A.cf, A.cu, A.cb] H H2 := b2.mono (by simp)
    have h3 := hp.putC b2' h2
    clear b2'
    obtain ⟨dx3, g3⟩ := h3.g
    have ex : S.fr[j]? = some S.fr[j] := List.getElem?_eq_getElem jl
    generalize S.fr[j] = x at ex
    walk_at "go"
    refine ⟨A.p, _, _, rfl, g3, pg_m8, ?_⟩
    walk_at "go"
    refine ⟨_, _, _, _, _, rfl, g3, T.cl, T.n1, pg_fr, ?_⟩
    walk_at "go"
    refine ⟨A.fa, _, _, .int x, rfl, rfl, SqL.of h3.f, atI_nat (xs := S.fr.map V.int) (by rw [List.getElem?_map, ex]; rfl), ?_⟩
    walk_at "go"
    refine SpI.mk ⟨A, k, _, x, rfl, h3, List.mem_of_getElem? ex, by rw [kn], n2, ok.r, ok.l, can c x (List.mem_of_getElem? ex), fun ps H4 mv h4 b4 => ?_⟩
    walk_at "go"
    refine q1 (.inr (by simp)) j _ H4 jl (.inr ⟨c, hand', bits', x, ps, cr, ex, mv, rfl⟩) h4 ((b2.mono (by simp [GA.fr])).trans (b4.t.mono fun z hz => List.mem_cons_of_mem _ hz)) (tabs_but T2 b4 fun z hz => h3.plain z (List.mem_append_left _ ?_))
    simp only [GA.plc, GA.fix, List.mem_cons, List.not_mem_nil, or_false] at hz ⊢
    rcases hz with rfl | rfl | rfl | rfl | rfl | rfl | rfl | rfl <;> simp
end

end

section

-- a condition of an operator
local macro_rules | `(tactic| walk_at "cond") => `(tactic| first
  | (show (0 : Int) < _; omega)
  | (show CDiv _ _; constructor <;> (first | decide | omega))
  | (show CMul _ _; first | (refine cmul_l ?_; constructor <;> (first | decide | omega)) | (refine cmul_r ?_; constructor <;> (first | decide | omega)))
  | (show CPow _ _; exact (by refine ⟨by decide, by decide, by decide⟩))
  | (show CDivW _ _; exact ⟨by decide, by decide +kernel⟩))
local macro_rules | `(tactic| walk_at "sq") => `(tactic| first | assumption | exact Dh.mono (same_upd (by assumption)) _ _ (by assumption) | exact .inl (.inl (.inl (by assumption))) | exact .inr (.inl (.inl (by assumption))) | exact SqL.of (by assumption) | exact .inl (by assumption) | exact .inl (SqL.of (by assumption)) | exact SqT.of (by assumption) | exact .inr (SqT.of (by assumption)))
local macro_rules | `(tactic| walk_at "st") => `(tactic| first
  | refine ⟨_, rfl, ?_⟩
  | refine ⟨_, _, rfl, rfl, ?_⟩
  | refine .inl ⟨_, rfl, ?_⟩
  | refine ⟨rfl, ?_⟩
  | refine ⟨_, _, rfl, by walk_at "sq", ?_⟩
  | refine ⟨.inl ⟨rfl, _, SqL.of (by assumption)⟩, ?_⟩
  | refine ⟨by walk_at "cond", ?_⟩
  | (refine' ifBT ?hh ?_; (case hh => first | rfl | assumption))
  | (refine' ifBF ?hh ?_; (case hh => first | rfl | assumption)))
local macro_rules | `(tactic| walk_at "go") => `(tactic| repeat walk_at "st")
local macro_rules | `(tactic| walk_at "yes") => `(tactic| (refine' ifT ?hh ?_; (case hh => first | rfl | decide +kernel)))
local macro_rules | `(tactic| walk_at "no") => `(tactic| (refine' ifF ?hh ?_; (case hh => first | decide +kernel | (intro z; cases z; done))))

local macro_rules | `(tactic| walk_at "st") => `(tactic| refine ⟨_, _, _, _, _, rfl, by assumption, by assumption, by omega, by omega, by omega, by omega, by omega, ?_⟩)
local macro_rules | `(tactic| walk_at "st") => `(tactic| refine ⟨_, _, _, _, _, rfl, Same.seq (by assumption) (by assumption), by assumption, by omega, by omega, by omega, by omega, by omega, ?_⟩)

/-! ### _obtain_beside -/
abbrev s_Pager__obtain_beside : Stmt := inClass (topS 13) 24
theorem sc_Pager__obtain_beside : FnScope ["self", "frame", "others", "other"] ["self", "frame"] (C8.fnScope s_Pager__obtain_beside) := C8.fnScope_by (by decide +kernel)
def beside (S : GS) (f : Nat) : List Int := (freeF S).filter fun i => decide (i ≠ (f : Int))
def ObBR (k : GK) (S : GS) (f j : Nat) (S' : GS) : Prop := ((beside S f ≠ [] ∨ (f : Int) ∈ S.pn) ∧ ObR k S (beside S f) j S') ∨ (beside S f = [] ∧ (f : Int) ∉ S.pn ∧ j = f ∧ ∃ (x : Int) (ps : PS), S.fr[f]? = some x ∧ MvR S x ps ∧ S' = outG S x ps)
def spObB (C : GC) (PT D : Addr) : Sp := fun vs H Q E => ∃ (A : GA) (k : GK) (S : GS) (f : Nat), vs = [.ref A.p, .int f] ∧ PgAt C H A k S ∧ GOk k S ∧ f < S.fr.length ∧ (0 ∉ S.fr → CanO S) ∧ (beside S f = [] → (f : Int) ∉ S.pn → ∀ x, S.fr[f]? = some x → x ∉ S.pl.st → 0 ∉ S.pl.st → both S ≠ []) ∧ Tabs (chT PT) H ∧
  (0 ∈ S.fr ∨ beside S f ≠ [] ∨ (f : Int) ∉ S.pn → ∀ (j : Nat) S' H', j < S.fr.length → ObBR k S f j S' → PgAt C H' A k S' → ButT A.fr H H' → Tabs (chT PT) H' → Q (.int j) H') ∧
  (0 ∉ S.fr → beside S f = [] → (f : Int) ∈ S.pn → ∀ H1 d, Same H H1 → H1 d = none → E (.ref D) (some d) (upd H1 d (.xd (nlF ((S.fr.length : Int) + 1) S.fr.length))))
theorem freeF_rng {S : GS} {i : Int} (h : i ∈ freeF S) : 0 ≤ i ∧ i < S.fr.length := by
  have := (List.mem_filter.mp h).1
  unfold natsI at this
  obtain ⟨j, hj, rfl⟩ := List.mem_map.mp this
  have := List.mem_range.mp hj
  exact ⟨by omega, by omega⟩
theorem freeF_len (S : GS) : (freeF S).length ≤ S.fr.length := Nat.le_trans (List.length_filter_le _ _) (by unfold natsI; rw [List.length_map, List.length_range]; exact Nat.le_refl _)
section
variable {P : Program} {w : World} {K : PySem.W.Frag} {mg : Str → Option Value} {base : Heap} {C : GC} {PT U : Addr}
theorem ok_obB {f : Addr} {fd : FuncData} (F : C8.Fun K "_obtain_beside" "Pager._obtain_beside" s_Pager__obtain_beside f fd) (M : Meth K C.g "_obtain_beside" f) (b : Binds K fd ["self", "frame"] []) (T : GTxt K mg C.g) (m_frames_to_choose : C8.Met P w K mg base 1 C.g "_frames_to_choose" (spFtc C) [])
    (m_obtain : MetE P w K mg base 4 C.g "_obtain" (spObG C PT U)) (m_move_out : C8.Met P w K mg base 3 C.g "_move_out" (spMvG C) []) : MetE P w K mg base 5 C.g "_obtain_beside" (spObB C PT U) := by
  refine metE T.cl M F b sc_Pager__obtain_beside (fun vs H Q E h => ?_) (fun cdv A0 outer s H vs Q E hr h => ?_)
  · obtain ⟨A, k, S, f, rfl, _⟩ := h
    rfl
  obtain ⟨A, k, S, f, rfl, hp, ok, fl, can, can2, hT, q1, q2⟩ := h
  have m_frames_to_choose := metI m_frames_to_choose
  have m_move_out := metI m_move_out
  refine ⟨_, (pss_cons (ps_setLc (i := 2) (own := [("other", 3)]) (g := gName 3) rfl sc_Pager__obtain_beside.nd rfl rfl (sw_true rfl rfl rfl (by decide +kernel)) (pi_list (C8.pe_mt0 m_frames_to_choose hr (by omega) (pv 0) )) (blkOk_by (own := [("other", 3)]) (N := ["self", "frame", "others", "other"]) (sc := C8.fnScope s_Pager__obtain_beside) (by decide +kernel)) (fun _ _ _ _ _ => (pg_name (i := 3) sc_Pager__obtain_beside.nd rfl (.inl rfl))) (fun _ _ _ _ _ => (pts_one (pt_cmpR op_ne (pv 3) (pv 1) (nomark _)))) (fun _ _ _ _ _ => (pv 3)))
      (pss_cons (ps_mk (ps_if (PW.pt (pw_or (pt_truth (pv 2) (by intro _; rfl)) (pw_or1 (pt_cmp (pc_din (hu_of hr) (pv 1) (pe_fld (pv 0) rfl))))))
      (pss_one (ps_ret (pe_mE m_obtain (takes_of rfl rfl rfl rfl) hr (by omega) (pv 0) (pa_cons (pv 2) pa_nil))))
      pss_nil))
      (pss_cons (ps_expr (C8.pe_mt m_move_out hr (by omega) (pv 0) (pa_cons (pe_ix (ixL K rfl) (pe_fld (pv 0) rfl) (pv 1) (fun _ _ => rfl)) pa_nil)))
      (pss_one (ps_ret (pv 1)))))), ?_⟩
  obtain ⟨dx, g⟩ := hp.g
  walk_at "go"
  refine ⟨A.p, _, _, rfl, g, pg_m3, ?_⟩
  walk_at "go"
  refine SpI.mk ⟨A, k, S, rfl, hp, ok.n2, fun r H1 s1 rn gr => ?_⟩
  refine ⟨_, rfl, ⟨_, SqL.of gr⟩, fun N1 nN => lc_list (K := K) (a := r) (xs := (freeF S).map V.int) (fun i H' => Ob (Same H1 H' ∧ H' N1 = some (.lst ((((freeF S).take i).filter fun y => decide (y ≠ (f : Int))).map V.int)))) (ob ⟨same_upd nN, upd_same⟩) (fun i H' _ h => SqL.of ((unob h).1 _ _ gr)) ?_ ?_⟩
  · intro i v H' hv h
    obtain ⟨s2, g2⟩ := unob h
    clear h
    rw [List.getElem?_map] at hv
    obtain ⟨x, hx, rfl⟩ := Option.map_eq_some_iff.mp hv
    have en : ((freeF S).take (i + 1)).filter (fun y => decide (y ≠ (f : Int))) = ((freeF S).take i).filter (fun y => decide (y ≠ (f : Int))) ++ [x].filter (fun y => decide (y ≠ (f : Int))) := by
      rw [List.take_add_one, hx, List.filter_append]
      rfl
    have ll : (((freeF S).take i).filter fun y => decide (y ≠ (f : Int))).length ≤ 1000 := Nat.le_trans (List.length_filter_le _ _) (by rw [List.length_take]; have := freeF_len S; have := ok.n2; omega)
    walk_at "go"
    refine ifNe (fun z => ?_) (fun z => ?_)
    · walk_at "go"
      refine ⟨_, g2, sz5 (by rw [List.length_map]; omega), ob ⟨same_put s2 nN, ?_⟩⟩
      have e1 : [x].filter (fun y => decide (y ≠ (f : Int))) = [x] := by
        rw [List.filter_cons_of_pos (by simpa using z)]
        rfl
      rw [en, e1, List.map_append]
      exact upd_same
    · walk_at "go"
      refine ob ⟨s2, ?_⟩
      have e0 : [x].filter (fun y => decide (y ≠ (f : Int))) = [] := by
        rw [List.filter_cons_of_neg (by simpa using z)]
        rfl
      rw [en, e0, List.append_nil]
      exact g2
  intro H2 h
  obtain ⟨s2, g2⟩ := unob h
  clear h
  rw [List.take_of_length_le (by rw [List.length_map]; exact Nat.le_refl _)] at g2
  have gb : H2 N1 = some (.lst ((beside S f).map V.int)) := g2
  have s12 := s1.trans s2
  have hp2 := hp.same s12
  obtain ⟨dx2, gi2⟩ := hp2.g
  have n2 := ok.n2
  have lf := freeF_len S
  have lb : (beside S f).length ≤ 1000 := Nat.le_trans (List.length_filter_le _ _) (by omega)
  have rb : ∀ x ∈ beside S f, 0 ≤ x ∧ x < S.fr.length := fun x hx => freeF_rng (List.mem_filter.mp hx).1
  have nb : N1 ≠ A.cb := (ne_of_none (hp.same s1).ch.b nN).symm
  show tSeq _ _ _ _ _
  refine un ?_
  walk_at "go"
  by_cases eb : beside S f = []
  · refine ⟨false, .inl ⟨_, SqL.of gb, by rw [eb]; rfl⟩, ?_⟩
    walk_at "go"
    refine ⟨_, _, _, _, _, rfl, gi2, T.cl, T.n7, pg_pin, ?_⟩
    refine ⟨A.na, _, rfl, DGet.k (k := .inl (f : Nat)) hp2.pin, ?_⟩
    walk_at "go"
    rw [pn_get]
    refine ifD (fun m => ?_) (fun m => ?_)
    · walk_at "go"
      refine ⟨A.p, _, _, rfl, gi2, pg_m4, ?_⟩
      walk_at "go"
      refine ⟨hT.ext s12, fun zz j S' H3 jl ob3 h3 b3 T3 => q1 (zz.elim .inl fun y => .inr (.inl y)) j S' H3 jl (.inl ⟨(.inr m), ob3⟩) h3 ((Same.t s12).trans b3) T3, fun z0 ze d nd => ?_⟩
      exact q2 z0 ze (((.inr m) : beside S f ≠ [] ∨ (f : Int) ∈ S.pn).elim (fun y => absurd ze y) id) H2 d s12 nd
    walk_at "go"
    refine ⟨A.p, _, _, rfl, gi2, pg_m8, ?_⟩
    walk_at "go"
    refine ⟨_, _, _, _, _, rfl, gi2, T.cl, T.n1, pg_fr, ?_⟩
    walk_at "go"
    have ex : S.fr[f]? = some S.fr[f] := List.getElem?_eq_getElem fl
    generalize S.fr[f] = x at ex
    refine ⟨A.fa, _, _, .int x, rfl, rfl, SqL.of hp2.f, atI_nat (xs := S.fr.map V.int) (by rw [List.getElem?_map, ex]; rfl), ?_⟩
    walk_at "go"
    refine SpI.mk ⟨A, k, S, x, rfl, hp2, List.mem_of_getElem? ex, ok.n, n2, ok.r, ok.l, can2 eb m x ex, fun ps H4 mv h4 b4 => ?_⟩
    walk_at "go"
    refine q1 (.inr (.inr m)) f _ H4 fl (.inr ⟨eb, m, rfl, x, ps, ex, mv, rfl⟩) h4 ((Same.t s12).trans (b4.t.mono fun z hz => List.mem_cons_of_mem _ hz)) (tabs_but (hT.ext s12) b4 fun z hz => hp2.plain z (List.mem_append_left _ ?_))
    simp only [GA.plc, GA.fix, List.mem_cons, List.not_mem_nil, or_false] at hz ⊢
    rcases hz with rfl | rfl | rfl | rfl | rfl | rfl | rfl | rfl <;> simp
  · refine ⟨true, .inl ⟨_, SqL.of gb, ?_⟩, ?_⟩
    · revert eb
      cases beside S f <;> simp
    walk_at "go"
    refine ⟨A.p, _, _, rfl, gi2, pg_m4, ?_⟩
    walk_at "go"
    refine ⟨hT.ext s12, fun zz j S' H3 jl ob3 h3 b3 T3 => q1 (zz.elim .inl fun y => .inr (.inl y)) j S' H3 jl (.inl ⟨(.inl eb), ob3⟩) h3 ((Same.t s12).trans b3) T3, fun z0 ze d nd => ?_⟩
    exact q2 z0 ze (((.inl eb) : beside S f ≠ [] ∨ (f : Int) ∈ S.pn).elim (fun y => absurd ze y) id) H2 d s12 nd
end

end

section

-- a condition of an operator
local macro_rules | `(tactic| walk_at "cond") => `(tactic| first
  | (show (0 : Int) < _; omega)
  | (show CDiv _ _; constructor <;> (first | decide | omega))
  | (show CMul _ _; first | (refine cmul_l ?_; constructor <;> (first | decide | omega)) | (refine cmul_r ?_; constructor <;> (first | decide | omega)))
  | (show CPow _ _; exact (by refine ⟨by decide, by decide, by decide⟩))
  | (show CDivW _ _; exact ⟨by decide, by decide +kernel⟩))
local macro_rules | `(tactic| walk_at "sq") => `(tactic| first | assumption | exact Dh.mono (same_upd (by assumption)) _ _ (by assumption) | exact .inl (.inl (.inl (by assumption))) | exact .inr (.inl (.inl (by assumption))) | exact SqL.of (by assumption) | exact .inl (by assumption) | exact .inl (SqL.of (by assumption)) | exact SqT.of (by assumption) | exact .inr (SqT.of (by assumption)))
local macro_rules | `(tactic| walk_at "st") => `(tactic| first
  | refine ⟨_, rfl, ?_⟩
  | refine ⟨_, _, rfl, rfl, ?_⟩
  | refine .inl ⟨_, rfl, ?_⟩
  | refine ⟨rfl, ?_⟩
  | refine ⟨_, _, rfl, by walk_at "sq", ?_⟩
  | refine ⟨.inl ⟨rfl, _, SqL.of (by assumption)⟩, ?_⟩
  | refine ⟨by walk_at "cond", ?_⟩
  | (refine' ifBT ?hh ?_; (case hh => first | rfl | assumption))
  | (refine' ifBF ?hh ?_; (case hh => first | rfl | assumption)))
local macro_rules | `(tactic| walk_at "go") => `(tactic| repeat walk_at "st")
local macro_rules | `(tactic| walk_at "yes") => `(tactic| (refine' ifT ?hh ?_; (case hh => first | rfl | decide +kernel)))
local macro_rules | `(tactic| walk_at "no") => `(tactic| (refine' ifF ?hh ?_; (case hh => first | decide +kernel | (intro z; cases z; done))))

local macro_rules | `(tactic| walk_at "st") => `(tactic| refine ⟨_, _, _, _, _, rfl, by assumption, by assumption, by omega, by omega, by omega, by omega, by omega, ?_⟩)
local macro_rules | `(tactic| walk_at "st") => `(tactic| refine ⟨_, _, _, _, _, rfl, Same.seq (by assumption) (by assumption), by assumption, by omega, by omega, by omega, by omega, by omega, ?_⟩)

/-! ### bring -/
abbrev s_Pager_bring : Stmt := inClass (topS 13) 2
theorem sc_Pager_bring : FnScope ["self", "stamp", "frame"] ["self", "stamp"] (C8.fnScope s_Pager_bring) := C8.fnScope_by (by decide +kernel)
def touchG (S : GS) (i : Nat) : GS := ⟨S.fr, S.pl, S.calls + 1, S.hand, S.fl, S.us.set i (S.calls + 1), S.bits.set i 1, S.cs, S.pn, S.lf⟩
def readG (S : GS) (x : Int) : GS := ⟨S.fr, readS S.pl x, S.calls, S.hand, S.fl, S.us, S.bits, S.cs, S.pn, S.lf⟩
def BrR (k : GK) (S : GS) (x : Int) (S' : GS) : Prop := (x ∈ S.fr ∧ S' = touchG S (S.fr.idxOf x)) ∨ (x ∉ S.fr ∧ ∃ (j : Nat) (S1 : GS), j < S.fr.length ∧ ObR k S (freeF S) j S1 ∧ S' = fillG (readG S1 x) j x)
def spBrG (C : GC) (PT D U : Addr) : Sp := fun vs H Q E => ∃ (A : GA) (k : GK) (S : GS) (x : Int), vs = [.ref A.p, .int x] ∧ PgAt C H A k S ∧ GOk k S ∧ S.pl.rows.length ≤ 80000 ∧ x.natAbs.log2 < 1920 ∧ (x ∈ S.cs.map (·.st) → x ≠ 0 ∧ (x ∉ S.fr → x ∈ S.pl.st)) ∧ (x ∈ S.cs.map (·.st) → 0 ∉ S.fr → x ∉ S.fr → CanO S) ∧ Tabs (chT PT) H ∧
  (x ∈ S.cs.map (·.st) → x ∈ S.fr ∨ 0 ∈ S.fr ∨ freeF S ≠ [] → ∀ S' H', BrR k S x S' → PgAt C H' A k S' → ButT (A.cf :: A.cu :: A.fr) H H' → Tabs (chT PT) H' → Q .non H') ∧
  (x ∉ S.cs.map (·.st) → ∀ d, H d = none → E (.ref U) (some d) (upd H d (.xd (nsF x)))) ∧
  (x ∈ S.cs.map (·.st) → x ∉ S.fr → 0 ∉ S.fr → freeF S = [] → ∀ H1 d, Same H H1 → H1 d = none → E (.ref D) (some d) (upd H1 d (.xd (nlF ((S.fr.length : Int) + 1) S.fr.length))))
theorem mvr_len {S : GS} {y : Int} {ps : PS} (h : MvR S y ps) : ps.rows.length ≤ S.pl.rows.length + 1 := by
  rcases h with ⟨_, rfl⟩ | ⟨_, _, rfl⟩ | ⟨_, _, m, _, _, rfl⟩
  · omega
  · show (_ ++ _ : List _).length ≤ _
    rw [List.length_append]
    exact Nat.le_refl _
  · show (_ ++ _ : List _).length ≤ _
    rw [List.length_append]
    exact Nat.le_refl _
theorem mem_set {st : List Int} {i : Nat} {x v : Int} (h : x ∈ st) (n : st[i]? ≠ some x) : x ∈ st.set i v := by
  obtain ⟨j, hj⟩ := List.getElem?_of_mem h
  have ij : i ≠ j := fun z => n (by rw [z]; exact hj)
  exact List.mem_of_getElem? (i := j) (by rw [List.getElem?_set_ne ij]; exact hj)
theorem mvr_mem {S : GS} {x y : Int} {ps : PS} (h : MvR S y ps) (hx : x ∈ S.pl.st) (nx : x ∉ S.fr) (x0 : x ≠ 0) : x ∈ ps.st := by
  rcases h with ⟨_, rfl⟩ | ⟨_, z0, rfl⟩ | ⟨_, _, m, hm, _, rfl⟩
  · exact hx
  · refine mem_set hx fun z => x0 ?_
    rw [(idx_ok z0).1] at z
    exact (Option.some.inj z).symm
  · have mm := bothS hm
    have hx2 : x ∈ (freeS S.pl m).st := by
      unfold freeS
      rw [if_pos mm]
      refine mem_set hx fun z => nx ?_
      rw [(idx_ok mm).1] at z
      rw [← Option.some.inj z]
      exact (List.mem_filter.mp hm).1
    have z0 : (0 : Int) ∈ (freeS S.pl m).st := by
      unfold freeS
      rw [if_pos mm]
      exact set_mem (List.idxOf_lt_length_of_mem mm)
    refine mem_set hx2 fun z => x0 ?_
    rw [(idx_ok z0).1] at z
    exact (Option.some.inj z).symm
theorem obr_len {k : GK} {S S' : GS} {als : List Int} {j : Nat} (h : ObR k S als j S') : S'.fr.length = S.fr.length ∧ S'.pl.rows.length ≤ S.pl.rows.length + 1 := by
  rcases h with ⟨_, _, rfl⟩ | ⟨_, _, _, _, _, _, _, mv, rfl⟩
  · exact ⟨rfl, Nat.le_succ _⟩
  · exact ⟨List.length_set .., mvr_len mv⟩
theorem obr_mem {k : GK} {S S' : GS} {als : List Int} {j : Nat} {x : Int} (h : ObR k S als j S') (hx : x ∈ S.pl.st) (nx : x ∉ S.fr) (x0 : x ≠ 0) : x ∈ S'.pl.st := by
  rcases h with ⟨_, _, rfl⟩ | ⟨_, _, _, _, _, _, _, mv, rfl⟩
  · exact hx
  · exact mvr_mem mv hx nx x0
section
variable {P : Program} {w : World} {K : PySem.W.Frag} {mg : Str → Option Value} {base : Heap} {C : GC} {PT U D : Addr}
theorem ok_brG {f : Addr} {fd : FuncData} (F : C8.Fun K "bring" "Pager.bring" s_Pager_bring f fd) (M : Meth K C.g "bring" f) (b : Binds K fd ["self", "stamp"] []) (T : GTxt K mg C.g) (m_check_live : MetE P w K mg base 3 C.g "_check_live" (spChkL C U)) (m_frames_to_choose : C8.Met P w K mg base 1 C.g "_frames_to_choose" (spFtc C) [])
    (m_obtain : MetE P w K mg base 4 C.g "_obtain" (spObG C PT D)) (m_touched : C8.Met P w K mg base 1 C.c "touched" (spTch C.c) []) (m_read_from : C8.Met P w K mg base 2 C.p "read_from" (spRead C.p) []) (m_fill : C8.Met P w K mg base 3 C.g "_fill" (spFillG C) []) : MetE P w K mg base 5 C.g "bring" (spBrG C PT D U) := by
  refine metE T.cl M F b sc_Pager_bring (fun vs H Q E h => ?_) (fun cdv A0 outer s H vs Q E hr h => ?_)
  · obtain ⟨A, k, S, x, rfl, _⟩ := h
    rfl
  obtain ⟨A, k, S, x, rfl, hp, ok, lr, lx, lv, can, hT, q1, q2, q3⟩ := h
  have m_frames_to_choose := metI m_frames_to_choose
  have m_touched := metI m_touched
  have m_read_from := metI m_read_from
  have m_fill := metI m_fill
  refine ⟨_, (pss_cons (ps_expr (pe_mE m_check_live (takes_of rfl rfl rfl rfl) hr (by omega) (pv 0) (pa_cons (pv 1) pa_nil)))
      (pss_one (ps_mk (ps_if (pt_cmpR (inQ K rfl) (pv 1) (pe_fld (pv 0) rfl) (by rfl))
      (pss_one (ps_expr (C8.pe_mt m_touched hr (by omega) (pe_fld (pv 0) rfl) (pa_cons (pe_bm PySem.F.plainAttrs_list PySem.F.slot_list_index PySem.F.type_list_index (mtI mt_index) (pe_fld (pv 0) rfl) (pa_cons (pv 1) pa_nil)) pa_nil))))
      (pss_cons (ps_set (i := 2) sc_Pager_bring.nd rfl (.inl rfl) (pe_mE m_obtain (takes_of rfl rfl rfl rfl) hr (by omega) (pv 0) (pa_cons (C8.pe_mt0 m_frames_to_choose hr (by omega) (pv 0)) pa_nil)))
      (pss_cons (ps_expr (C8.pe_mt m_read_from hr (by omega) (pe_fld (pv 0) rfl) (pa_cons (pv 1) pa_nil)))
      (pss_one (ps_expr (C8.pe_mt m_fill hr (by omega) (pv 0) (pa_cons (pv 2) (pa_cons (pv 1) pa_nil))))))))))), ?_⟩
  obtain ⟨dx, g⟩ := hp.g
  have sF : SqL K H A.fa (S.fr.map V.int) := SqL.of hp.f
  have kn := ok.n
  have n1 := ok.n1
  have n2 := ok.n2
  walk_at "go"
  refine ⟨A.p, _, _, rfl, g, pg_m1, ?_⟩
  walk_at "go"
  refine ⟨A, k, S, x, rfl, hp, lx, fun m => ?_, fun m d nd => q2 m d nd⟩
  refine un ?_
  walk_at "go"
  refine ⟨_, _, _, _, _, rfl, g, T.cl, T.n1, pg_fr, ?_⟩
  walk_at "go"
  refine ⟨flat_ints _, ?_⟩
  rw [show inV (V.int x) (S.fr.map V.int) = decide (x ∈ S.fr) from inInt _ _]
  walk_at "go"
  refine ifD (fun c => ?_) (fun c => ?_)
  · have il := idx_lt c
    walk_at "go"
    refine ⟨_, _, _, _, _, rfl, g, T.cl, T.n5, pg_ch, ?_⟩
    walk_at "go"
    refine ⟨A.cp, _, _, rfl, hp.ch.g, ch_no1, ?_⟩
    walk_at "go"
    refine ⟨_, _, _, _, _, rfl, g, T.cl, T.n1, pg_fr, ?_⟩
    walk_at "go"
    refine ⟨.inl ⟨rfl, _, sF⟩, ?_⟩
    walk_at "go"
    refine RmI.mk (index_mk sF c ?_)
    walk_at "go"
    refine SpI.mk ⟨A.cp, A.cf, A.cu, A.cb, A.cdx, k.kd, k.n, S.calls, S.hand, (S.fr.idxOf x : Nat), S.fl, S.us, S.bits, rfl, hp.ch, by omega, by omega, fun H2 h2 b2 => ?_⟩
    rw [Int.toNat_natCast] at h2
    walk_at "go"
    refine q1 m (.inl c) _ H2 (.inl ⟨c, rfl⟩) (hp.putC ((b2.mono (by simp)).t) h2) (b2.t.mono (by simp [GA.fr])) (tabs_but hT b2 fun z hz => hp.plain z (List.mem_append_left _ ?_))
    simp only [GA.fix, List.mem_cons, List.not_mem_nil, or_false] at hz ⊢
    rcases hz with rfl | rfl | rfl <;> simp
  walk_at "go"
  refine ⟨A.p, _, _, rfl, g, pg_m4, ?_⟩
  walk_at "go"
  refine ⟨A.p, _, _, rfl, g, pg_m3, ?_⟩
  walk_at "go"
  refine SpI.mk ⟨A, k, S, rfl, hp, n2, fun r H1 s1 rn gr => ?_⟩
  have hp1 := hp.same s1
  have hT1 := hT.ext s1
  walk_at "go"
  refine ⟨A, k, S, r, freeF S, rfl, hp1, ok, gr, (ne_of_none hp.ch.b rn).symm, Nat.le_trans (freeF_len S) n2, fun y hy => freeF_rng hy, fun z => can m z c, hT1, fun zz j S1 H2 jl ob2 h2 b2 T2 => ?_, fun z0 ze d nd => q3 m c z0 ze H1 d s1 nd⟩
  obtain ⟨l2, r2⟩ := obr_len ob2
  have xin := obr_mem ob2 ((lv m).2 c) c (lv m).1
  obtain ⟨dx2, g2⟩ := h2.g
  obtain ⟨dp2, gp2⟩ := h2.pl.g
  walk_at "go"
  refine ⟨_, _, _, _, _, rfl, g2, T.cl, T.n2, pg_pl, ?_⟩
  walk_at "go"
  refine ⟨A.pp, _, _, rfl, gp2, pl_m4, ?_⟩
  walk_at "go"
  refine SpI.mk ⟨A.pp, A.sa, A.ra, A.wa, S1.pl, x, rfl, h2.pl, xin, by omega, fun H3 h3 b3 => ?_⟩
  have h4 : PgAt C H3 A k (readG S1 x) := h2.putP (b3.t.mono (by simp)) h3
  obtain ⟨dx4, g4⟩ := h4.g
  have T3 := tabs_but T2 b3 fun z hz => h2.plain z (List.mem_append_left _ (by
    simp only [GA.fix, List.mem_cons, List.not_mem_nil, or_false] at hz ⊢
    rcases hz with rfl | rfl | rfl <;> simp))
  walk_at "go"
  refine ⟨A.p, _, _, rfl, g4, pg_m6, ?_⟩
  walk_at "go"
  refine SpI.mk ⟨A, k, readG S1 x, j, x, rfl, h4, by show j < S1.fr.length; omega, by show k.n = S1.fr.length; omega, fun H5 h5 b5 => ?_⟩
  walk_at "go"
  refine q1 m (.inr zz) _ H5 (.inr ⟨c, j, S1, jl, ob2, rfl⟩) h5 ((((Same.t s1).trans (b2.mono fun z hz => List.mem_cons_of_mem _ (List.mem_cons_of_mem _ hz))).trans (b3.t.mono ?_)).trans (b5.t.mono ?_)) (tabs_but T3 b5 fun z hz => h4.plain z (List.mem_append_left _ ?_))
  · intro z hz
    simp only [GA.fr, GA.plc, List.mem_cons, List.not_mem_nil, or_false] at hz ⊢
    rcases hz with rfl | rfl | rfl <;> simp
  · intro z hz
    simp only [GA.fr, GA.plc, List.mem_cons, List.not_mem_nil, or_false] at hz ⊢
    rcases hz with rfl | rfl | rfl | rfl | rfl <;> simp
  · simp only [GA.fix, List.mem_cons, List.not_mem_nil, or_false] at hz ⊢
    rcases hz with rfl | rfl | rfl | rfl | rfl <;> simp
end

end

section

-- a condition of an operator
local macro_rules | `(tactic| walk_at "cond") => `(tactic| first
  | (show (0 : Int) < _; omega)
  | (show CDiv _ _; constructor <;> (first | decide | omega))
  | (show CMul _ _; first | (refine cmul_l ?_; constructor <;> (first | decide | omega)) | (refine cmul_r ?_; constructor <;> (first | decide | omega)))
  | (show CPow _ _; exact (by refine ⟨by decide, by decide, by decide⟩))
  | (show CDivW _ _; exact ⟨by decide, by decide +kernel⟩))
local macro_rules | `(tactic| walk_at "sq") => `(tactic| first | assumption | exact Dh.mono (same_upd (by assumption)) _ _ (by assumption) | exact .inl (.inl (.inl (by assumption))) | exact .inr (.inl (.inl (by assumption))) | exact SqL.of (by assumption) | exact .inl (by assumption) | exact .inl (SqL.of (by assumption)) | exact SqT.of (by assumption) | exact .inr (SqT.of (by assumption)))
local macro_rules | `(tactic| walk_at "st") => `(tactic| first
  | refine ⟨_, rfl, ?_⟩
  | refine ⟨_, _, rfl, rfl, ?_⟩
  | refine .inl ⟨_, rfl, ?_⟩
  | refine ⟨rfl, ?_⟩
  | refine ⟨_, _, rfl, by walk_at "sq", ?_⟩
  | refine ⟨.inl ⟨rfl, _, SqL.of (by assumption)⟩, ?_⟩
  | refine ⟨by walk_at "cond", ?_⟩
  | (refine' ifBT ?hh ?_; (case hh => first | rfl | assumption))
  | (refine' ifBF ?hh ?_; (case hh => first | rfl | assumption)))
local macro_rules | `(tactic| walk_at "go") => `(tactic| repeat walk_at "st")
local macro_rules | `(tactic| walk_at "yes") => `(tactic| (refine' ifT ?hh ?_; (case hh => first | rfl | decide +kernel)))
local macro_rules | `(tactic| walk_at "no") => `(tactic| (refine' ifF ?hh ?_; (case hh => first | decide +kernel | (intro z; cases z; done))))

local macro_rules | `(tactic| walk_at "st") => `(tactic| refine ⟨_, _, _, _, _, rfl, by assumption, by assumption, by omega, by omega, by omega, by omega, by omega, ?_⟩)
local macro_rules | `(tactic| walk_at "st") => `(tactic| refine ⟨_, _, _, _, _, rfl, Same.seq (by assumption) (by assumption), by assumption, by omega, by omega, by omega, by omega, by omega, ?_⟩)

/-! ### the contents are written -/
section
variable {C : GC} {H H' : Hp} {A : GA} {k : GK} {S : GS}
theorem PgAt.putD {cs : List Cont} {F : List Addr} (h : PgAt C H A k S) (b : ButT F H H') (fd : ∀ a ∈ A.fix, a ∈ F → a = A.da) (tF : ∀ a ∈ F, NoT H a) (e : H' A.da = some (.dK (cs.map Cont.row))) (c : ∀ x ∈ cs, H' x.ad = some (.lst (x.by'.map V.int))) (nd : (A.all cs).Nodup) : PgAt C H' A k ⟨S.fr, S.pl, S.calls, S.hand, S.fl, S.us, S.bits, cs, S.pn, S.lf⟩ := by
  obtain ⟨dx, g⟩ := h.g
  have t : Tups H H' := b.tups tF
  have nf : ∀ (i : Nat) (a : Addr), A.fix[i]? = some a → i ≠ 2 → a ∉ F := fun i a hi n z => fix_ne h.fn (i := i) (j := 2) hi rfl n (fd a (List.mem_of_getElem? hi) z)
  have pl : PlcAt C.p H' A.pp A.sa A.ra A.wa S.pl := h.pl.offT b t fun a ha => by
    simp only [List.mem_cons, List.not_mem_nil, or_false] at ha
    rcases ha with rfl | rfl | rfl | rfl
    · exact nf 5 _ rfl (by decide)
    · exact nf 6 _ rfl (by decide)
    · exact nf 7 _ rfl (by decide)
    · exact nf 8 _ rfl (by decide)
  have ch : ChAt C.c H' A.cp A.cf A.cu A.cb A.cdx k.kd k.n S.calls S.hand S.fl S.us S.bits := h.ch.butL b fun a ha => by
    simp only [List.mem_cons, List.not_mem_nil, or_false] at ha
    rcases ha with rfl | rfl | rfl | rfl
    · exact nf 9 _ rfl (by decide)
    · exact nf 10 _ rfl (by decide)
    · exact nf 11 _ rfl (by decide)
    · exact nf 12 _ rfl (by decide)
  exact ⟨⟨dx, b _ _ (nf 0 _ rfl (by decide)) (fun _ z => by cases z) g⟩, b _ _ (nf 1 _ rfl (by decide)) (fun _ z => by cases z) h.f, e, c, b _ _ (nf 3 _ rfl (by decide)) (fun _ z => by cases z) h.pin, b _ _ (nf 4 _ rfl (by decide)) (fun _ z => by cases z) h.l, pl, ch, nd⟩
/-- the pins' dictionary is another one -/
theorem PgAt.newN {na : Addr} {dx : Addr} {pn : List Int} (h : PgAt C H A k S) (b : ButT [A.p] H H') (nn : H na = none) (g' : H' A.p = some (.ins C.g dx (pgF A.fa A.pp A.cp A.da na A.la k.room k.size))) (e : H' na = some (.dK (pn.map pinR))) : PgAt C H' { A with na := na } k ⟨S.fr, S.pl, S.calls, S.hand, S.fl, S.us, S.bits, S.cs, pn, S.lf⟩ := by
  obtain ⟨dx0, g⟩ := h.g
  have t : Tups H H' := b.tups fun a ha => by
    obtain rfl : a = A.p := by simpa using ha
    exact .ins g
  have nf : ∀ (i : Nat) (a : Addr), A.fix[i]? = some a → i ≠ 0 → a ∉ [A.p] := fun i a hi n z => fix_ne h.fn (i := i) (j := 0) hi rfl n (List.mem_singleton.mp z)
  have pl : PlcAt C.p H' A.pp A.sa A.ra A.wa S.pl := h.pl.offT b t fun a ha => by
    simp only [List.mem_cons, List.not_mem_nil, or_false] at ha
    rcases ha with rfl | rfl | rfl | rfl
    · exact nf 5 _ rfl (by decide)
    · exact nf 6 _ rfl (by decide)
    · exact nf 7 _ rfl (by decide)
    · exact nf 8 _ rfl (by decide)
  have ch : ChAt C.c H' A.cp A.cf A.cu A.cb A.cdx k.kd k.n S.calls S.hand S.fl S.us S.bits := h.ch.butL b fun a ha => by
    simp only [List.mem_cons, List.not_mem_nil, or_false] at ha
    rcases ha with rfl | rfl | rfl | rfl
    · exact nf 9 _ rfl (by decide)
    · exact nf 10 _ rfl (by decide)
    · exact nf 11 _ rfl (by decide)
    · exact nf 12 _ rfl (by decide)
  have nnA : na ∉ A.all S.cs := fun z => h.live na z nn
  have nd' : (({ A with na := na } : GA).all S.cs).Nodup := by
    have n0 := h.nd
    rw [show A.all S.cs = [A.p, A.fa, A.da] ++ A.na :: ([A.la, A.pp, A.sa, A.ra, A.wa, A.cp, A.cf, A.cu, A.cb] ++ S.cs.map (·.ad)) from rfl] at n0 nnA
    rw [show ({ A with na := na } : GA).all S.cs = [A.p, A.fa, A.da] ++ na :: ([A.la, A.pp, A.sa, A.ra, A.wa, A.cp, A.cf, A.cu, A.cb] ++ S.cs.map (·.ad)) from rfl]
    have n1 := List.perm_middle.nodup_iff.mp n0
    exact List.perm_middle.nodup_iff.mpr (List.nodup_cons.mpr ⟨fun z => nnA (by
      rcases List.mem_append.mp z with y | y
      · exact List.mem_append_left _ y
      · exact List.mem_append_right _ (List.mem_cons_of_mem _ y)), (List.nodup_cons.mp n1).2⟩)
  exact ⟨⟨dx, g'⟩, b _ _ (nf 1 _ rfl (by decide)) (fun _ z => by cases z) h.f, b _ _ (nf 2 _ rfl (by decide)) (fun _ z => by cases z) h.d, fun x hx => b _ _ (by simpa using h.xn (a := A.p) (by simp [GA.fix]) hx) (fun _ z => by cases z) (h.c x hx), e, b _ _ (nf 4 _ rfl (by decide)) (fun _ z => by cases z) h.l, pl, ch, nd'⟩
/-- the list of what left is another one -/
theorem PgAt.newL {la : Addr} {dx : Addr} {lf : List Int} (h : PgAt C H A k S) (b : ButT [A.p] H H') (nn : H la = none) (g' : H' A.p = some (.ins C.g dx (pgF A.fa A.pp A.cp A.da A.na la k.room k.size))) (e : H' la = some (.lst (lf.map V.int))) : PgAt C H' { A with la := la } k ⟨S.fr, S.pl, S.calls, S.hand, S.fl, S.us, S.bits, S.cs, S.pn, lf⟩ := by
  obtain ⟨dx0, g⟩ := h.g
  have t : Tups H H' := b.tups fun a ha => by
    obtain rfl : a = A.p := by simpa using ha
    exact .ins g
  have nf : ∀ (i : Nat) (a : Addr), A.fix[i]? = some a → i ≠ 0 → a ∉ [A.p] := fun i a hi n z => fix_ne h.fn (i := i) (j := 0) hi rfl n (List.mem_singleton.mp z)
  have pl : PlcAt C.p H' A.pp A.sa A.ra A.wa S.pl := h.pl.offT b t fun a ha => by
    simp only [List.mem_cons, List.not_mem_nil, or_false] at ha
    rcases ha with rfl | rfl | rfl | rfl
    · exact nf 5 _ rfl (by decide)
    · exact nf 6 _ rfl (by decide)
    · exact nf 7 _ rfl (by decide)
    · exact nf 8 _ rfl (by decide)
  have ch : ChAt C.c H' A.cp A.cf A.cu A.cb A.cdx k.kd k.n S.calls S.hand S.fl S.us S.bits := h.ch.butL b fun a ha => by
    simp only [List.mem_cons, List.not_mem_nil, or_false] at ha
    rcases ha with rfl | rfl | rfl | rfl
    · exact nf 9 _ rfl (by decide)
    · exact nf 10 _ rfl (by decide)
    · exact nf 11 _ rfl (by decide)
    · exact nf 12 _ rfl (by decide)
  have nnA : la ∉ A.all S.cs := fun z => h.live la z nn
  have nd' : (({ A with la := la } : GA).all S.cs).Nodup := by
    have n0 := h.nd
    rw [show A.all S.cs = [A.p, A.fa, A.da, A.na] ++ A.la :: ([A.pp, A.sa, A.ra, A.wa, A.cp, A.cf, A.cu, A.cb] ++ S.cs.map (·.ad)) from rfl] at n0 nnA
    rw [show ({ A with la := la } : GA).all S.cs = [A.p, A.fa, A.da, A.na] ++ la :: ([A.pp, A.sa, A.ra, A.wa, A.cp, A.cf, A.cu, A.cb] ++ S.cs.map (·.ad)) from rfl]
    have n1 := List.perm_middle.nodup_iff.mp n0
    exact List.perm_middle.nodup_iff.mpr (List.nodup_cons.mpr ⟨fun z => nnA (by
      rcases List.mem_append.mp z with y | y
      · exact List.mem_append_left _ y
      · exact List.mem_append_right _ (List.mem_cons_of_mem _ y)), (List.nodup_cons.mp n1).2⟩)
  exact ⟨⟨dx, g'⟩, b _ _ (nf 1 _ rfl (by decide)) (fun _ z => by cases z) h.f, b _ _ (nf 2 _ rfl (by decide)) (fun _ z => by cases z) h.d, fun x hx => b _ _ (by simpa using h.xn (a := A.p) (by simp [GA.fix]) hx) (fun _ z => by cases z) (h.c x hx), b _ _ (nf 3 _ rfl (by decide)) (fun _ z => by cases z) h.pin, e, pl, ch, nd'⟩
end

end

section

-- a condition of an operator
local macro_rules | `(tactic| walk_at "cond") => `(tactic| first
  | (show (0 : Int) < _; omega)
  | (show CDiv _ _; constructor <;> (first | decide | omega))
  | (show CMul _ _; first | (refine cmul_l ?_; constructor <;> (first | decide | omega)) | (refine cmul_r ?_; constructor <;> (first | decide | omega)))
  | (show CPow _ _; exact (by refine ⟨by decide, by decide, by decide⟩))
  | (show CDivW _ _; exact ⟨by decide, by decide +kernel⟩))
local macro_rules | `(tactic| walk_at "sq") => `(tactic| first | assumption | exact Dh.mono (same_upd (by assumption)) _ _ (by assumption) | exact .inl (.inl (.inl (by assumption))) | exact .inr (.inl (.inl (by assumption))) | exact SqL.of (by assumption) | exact .inl (by assumption) | exact .inl (SqL.of (by assumption)) | exact SqT.of (by assumption) | exact .inr (SqT.of (by assumption)))
local macro_rules | `(tactic| walk_at "st") => `(tactic| first
  | refine ⟨_, rfl, ?_⟩
  | refine ⟨_, _, rfl, rfl, ?_⟩
  | refine .inl ⟨_, rfl, ?_⟩
  | refine ⟨rfl, ?_⟩
  | refine ⟨_, _, rfl, by walk_at "sq", ?_⟩
  | refine ⟨.inl ⟨rfl, _, SqL.of (by assumption)⟩, ?_⟩
  | refine ⟨by walk_at "cond", ?_⟩
  | (refine' ifBT ?hh ?_; (case hh => first | rfl | assumption))
  | (refine' ifBF ?hh ?_; (case hh => first | rfl | assumption)))
local macro_rules | `(tactic| walk_at "go") => `(tactic| repeat walk_at "st")
local macro_rules | `(tactic| walk_at "yes") => `(tactic| (refine' ifT ?hh ?_; (case hh => first | rfl | decide +kernel)))
local macro_rules | `(tactic| walk_at "no") => `(tactic| (refine' ifF ?hh ?_; (case hh => first | decide +kernel | (intro z; cases z; done))))

local macro_rules | `(tactic| walk_at "st") => `(tactic| refine ⟨_, _, _, _, _, rfl, by assumption, by assumption, by omega, by omega, by omega, by omega, by omega, ?_⟩)
local macro_rules | `(tactic| walk_at "st") => `(tactic| refine ⟨_, _, _, _, _, rfl, Same.seq (by assumption) (by assumption), by assumption, by omega, by omega, by omega, by omega, by omega, ?_⟩)

/-! ### unpin -/
abbrev s_Pager_unpin : Stmt := inClass (topS 13) 11
theorem sc_Pager_unpin : FnScope ["self"] ["self"] (C8.fnScope s_Pager_unpin) := C8.fnScope_by (by decide +kernel)
def spUnp (C : GC) : Sp := fun vs H Q _ => ∃ (A : GA) (k : GK) (S : GS), vs = [.ref A.p] ∧ PgAt C H A k S ∧ ∀ na H', PgAt C H' { A with na := na } k ⟨S.fr, S.pl, S.calls, S.hand, S.fl, S.us, S.bits, S.cs, [], S.lf⟩ → H na = none → ButL [A.p] H H' → Q .non H'
section
variable {P : Program} {w : World} {K : PySem.W.Frag} {mg : Str → Option Value} {base : Heap} {C : GC}
theorem ok_unp {f : Addr} {fd : FuncData} (F : C8.Fun K "unpin" "Pager.unpin" s_Pager_unpin f fd) (M : Meth K C.g "unpin" f) (b : Binds K fd ["self"] []) (T : GTxt K mg C.g) : C8.Met P w K mg base 1 C.g "unpin" (spUnp C) [] := by
  refine C8.met0 T.cl M F b sc_Pager_unpin (fun vs H Q E h => ?_) (fun cdv A0 outer s H vs Q E hr h => ?_)
  · obtain ⟨A, k, S, rfl, _⟩ := h
    rfl
  obtain ⟨A, k, S, rfl, hp, q⟩ := h
  refine ⟨_, (pss_one (ps_fld (pv 0) pe_dnewK rfl)), ?_⟩
  obtain ⟨dx, g⟩ := hp.g
  walk_at "go"
  show sFld _ _ _ _ _ _ _
  unfold sFld
  intro na nn
  have s1 := same_upd (o := HO.dK []) nn
  have gn := upd_same (H := H) (a := na) (o := HO.dK [])
  have np : A.p ≠ na := ne_of_none g nn
  walk_at "go"
  refine ⟨A.p, C.g, dx, _, rfl, s1 _ _ g, T.cl, T.n7, (by show 8 < 1000; decide), ?_⟩
  rw [pg_ppin]
  have b1 : ButL [A.p] H (upd (upd H na (.dK [])) A.p (.ins C.g dx (pgF A.fa A.pp A.cp A.da na A.la k.room k.size))) := (Same.but s1).trans (ButL.put (by simp))
  refine q na _ (hp.newN (pn := []) b1.t nn upd_same ?_) nn b1
  rw [upd_ne np.symm]
  exact gn
end

end

section

-- a condition of an operator
local macro_rules | `(tactic| walk_at "cond") => `(tactic| first
  | (show (0 : Int) < _; omega)
  | (show CDiv _ _; constructor <;> (first | decide | omega))
  | (show CMul _ _; first | (refine cmul_l ?_; constructor <;> (first | decide | omega)) | (refine cmul_r ?_; constructor <;> (first | decide | omega)))
  | (show CPow _ _; exact (by refine ⟨by decide, by decide, by decide⟩))
  | (show CDivW _ _; exact ⟨by decide, by decide +kernel⟩))
local macro_rules | `(tactic| walk_at "sq") => `(tactic| first | assumption | exact Dh.mono (same_upd (by assumption)) _ _ (by assumption) | exact .inl (.inl (.inl (by assumption))) | exact .inr (.inl (.inl (by assumption))) | exact SqL.of (by assumption) | exact .inl (by assumption) | exact .inl (SqL.of (by assumption)) | exact SqT.of (by assumption) | exact .inr (SqT.of (by assumption)))
local macro_rules | `(tactic| walk_at "st") => `(tactic| first
  | refine ⟨_, rfl, ?_⟩
  | refine ⟨_, _, rfl, rfl, ?_⟩
  | refine .inl ⟨_, rfl, ?_⟩
  | refine ⟨rfl, ?_⟩
  | refine ⟨_, _, rfl, by walk_at "sq", ?_⟩
  | refine ⟨.inl ⟨rfl, _, SqL.of (by assumption)⟩, ?_⟩
  | refine ⟨by walk_at "cond", ?_⟩
  | (refine' ifBT ?hh ?_; (case hh => first | rfl | assumption))
  | (refine' ifBF ?hh ?_; (case hh => first | rfl | assumption)))
local macro_rules | `(tactic| walk_at "go") => `(tactic| repeat walk_at "st")
local macro_rules | `(tactic| walk_at "yes") => `(tactic| (refine' ifT ?hh ?_; (case hh => first | rfl | decide +kernel)))
local macro_rules | `(tactic| walk_at "no") => `(tactic| (refine' ifF ?hh ?_; (case hh => first | decide +kernel | (intro z; cases z; done))))

local macro_rules | `(tactic| walk_at "st") => `(tactic| refine ⟨_, _, _, _, _, rfl, by assumption, by assumption, by omega, by omega, by omega, by omega, by omega, ?_⟩)
local macro_rules | `(tactic| walk_at "st") => `(tactic| refine ⟨_, _, _, _, _, rfl, Same.seq (by assumption) (by assumption), by assumption, by omega, by omega, by omega, by omega, by omega, ?_⟩)

/-! ### pin -/
abbrev s_Pager_pin : Stmt := inClass (topS 13) 10
theorem sc_Pager_pin : FnScope ["self", "stamp"] ["self", "stamp"] (C8.fnScope s_Pager_pin) := C8.fnScope_by (by decide +kernel)
def pinP (pn : List Int) (i : Int) : List Int := if i ∈ pn then pn else pn ++ [i]
def pinG (S : GS) (x : Int) : GS := ⟨S.fr, S.pl, S.calls, S.hand, S.fl, S.us, S.bits, S.cs, pinP S.pn (S.fr.idxOf x : Nat), S.lf⟩
theorem pin_put (pn : List Int) (i : Int) : putK (pn.map pinR) (.inl i) (.bl true) = (pinP pn i).map pinR := by
  unfold putK pinP
  have e : ((pn.map pinR).any fun kv => decide (kv.1 = .inl i)) = decide (i ∈ pn) := by
    rw [List.any_map]
    induction pn with
    | nil => rfl
    | cons c cs ih =>
      rw [List.any_cons, ih]
      by_cases z : c = i
      · simp [z, pinR]
      · have z2 : ¬ i = c := fun y => z y.symm
        simp [z, z2, pinR]
  rw [e]
  by_cases m : i ∈ pn
  · rw [if_pos (decide_eq_true m), if_pos m, List.map_map]
    refine List.map_congr_left fun j _ => ?_
    show (if (pinR j).1 = .inl i then ((pinR j).1, V.bl true) else pinR j) = pinR j
    split
    · rfl
    · rfl
  · rw [if_neg (by simpa using m), if_neg m, List.map_append]
    rfl
theorem brr_mem {k : GK} {S S' : GS} {x : Int} (h : BrR k S x S') : x ∈ S'.fr := by
  rcases h with ⟨m, rfl⟩ | ⟨_, j, S1, jl, ob, rfl⟩
  · exact m
  · have := (obr_len ob).1
    exact List.mem_of_getElem? (i := j) (by show (S1.fr.set j x)[j]? = some x; rw [List.getElem?_set_self (by omega)])
def spPin (C : GC) (PT D U : Addr) : Sp := fun vs H Q E => ∃ (A : GA) (k : GK) (S : GS) (x : Int), vs = [.ref A.p, .int x] ∧ PgAt C H A k S ∧ GOk k S ∧ S.pl.rows.length ≤ 80000 ∧ x.natAbs.log2 < 1920 ∧ (x ∈ S.cs.map (·.st) → x ≠ 0 ∧ (x ∉ S.fr → x ∈ S.pl.st)) ∧ (x ∈ S.cs.map (·.st) → 0 ∉ S.fr → x ∉ S.fr → CanO S) ∧ Tabs (chT PT) H ∧ (∀ S', BrR k S x S' → S'.pn.length ≤ 1000) ∧
  (x ∈ S.cs.map (·.st) → x ∈ S.fr ∨ 0 ∈ S.fr ∨ freeF S ≠ [] → ∀ S' H', BrR k S x S' → PgAt C H' A k (pinG S' x) → ButT (A.cf :: A.cu :: A.fr) H H' → Tabs (chT PT) H' → Q .non H') ∧
  (x ∉ S.cs.map (·.st) → ∀ d, H d = none → E (.ref U) (some d) (upd H d (.xd (nsF x)))) ∧
  (x ∈ S.cs.map (·.st) → x ∉ S.fr → 0 ∉ S.fr → freeF S = [] → ∀ H1 d, Same H H1 → H1 d = none → E (.ref D) (some d) (upd H1 d (.xd (nlF ((S.fr.length : Int) + 1) S.fr.length))))
section
variable {P : Program} {w : World} {K : PySem.W.Frag} {mg : Str → Option Value} {base : Heap} {C : GC} {PT U D : Addr}
theorem ok_pin {f : Addr} {fd : FuncData} (F : C8.Fun K "pin" "Pager.pin" s_Pager_pin f fd) (M : Meth K C.g "pin" f) (b : Binds K fd ["self", "stamp"] []) (T : GTxt K mg C.g) (m_bring : MetE P w K mg base 5 C.g "bring" (spBrG C PT D U)) : MetE P w K mg base 6 C.g "pin" (spPin C PT D U) := by
  refine metE T.cl M F b sc_Pager_pin (fun vs H Q E h => ?_) (fun cdv A0 outer s H vs Q E hr h => ?_)
  · obtain ⟨A, k, S, x, rfl, _⟩ := h
    rfl
  obtain ⟨A, k, S, x, rfl, hp, ok, lr, lx, lv, can, hT, lp, q1, q2, q3⟩ := h
  refine ⟨_, (pss_cons (ps_expr (pe_mE m_bring (takes_of rfl rfl rfl rfl) hr (by omega) (pv 0) (pa_cons (pv 1) pa_nil)))
      (pss_one (ps_dput (hu_of hr) (pe_fld (pv 0) rfl) (pe_bm PySem.F.plainAttrs_list PySem.F.slot_list_index PySem.F.type_list_index (mtI mt_index) (pe_fld (pv 0) rfl) (pa_cons (pv 1) pa_nil)) pe_bl rfl))), ?_⟩
  obtain ⟨dx, g⟩ := hp.g
  walk_at "go"
  refine ⟨A.p, _, _, rfl, g, pg_m10, ?_⟩
  walk_at "go"
  refine ⟨A, k, S, x, rfl, hp, ok, lr, lx, lv, can, hT, fun m zz S1 H1 br h1 b1 T1 => ?_, fun m d nd => q2 m d nd, fun m c z0 ze H1 d s1 nd => q3 m c z0 ze H1 d s1 nd⟩
  have xin := brr_mem br
  obtain ⟨dx1, g1⟩ := h1.g
  have sF : SqL K H1 A.fa (S1.fr.map V.int) := SqL.of h1.f
  walk_at "go"
  refine ⟨_, _, _, _, _, rfl, g1, T.cl, T.n7, pg_pin, ?_⟩
  walk_at "go"
  refine ⟨_, _, _, _, _, rfl, g1, T.cl, T.n1, pg_fr, ?_⟩
  walk_at "go"
  refine ⟨.inl ⟨rfl, _, sF⟩, ?_⟩
  walk_at "go"
  refine RmI.mk (index_mk sF xin ?_)
  have lp1 := lp S1 br
  refine ⟨A.na, _, rfl, DPut.k (k := .inl ((S1.fr.idxOf x : Nat) : Int)) h1.pin (sz5 (by rw [List.length_map]; omega)), ?_⟩
  rw [pin_put]
  have b2 : ButL [A.na] H1 (upd H1 A.na (.dK ((pinP S1.pn ((S1.fr.idxOf x : Nat) : Int)).map pinR))) := ButL.put (by simp)
  walk_at "go"
  refine q1 m zz S1 _ br (h1.putN (pn := pinP S1.pn ((S1.fr.idxOf x : Nat) : Int)) b2.t upd_same) (b1.trans (b2.t.mono (by simp [GA.fr]))) (tabs_but T1 b2 fun z hz => h1.plain z (List.mem_append_left _ ?_))
  rw [List.mem_singleton.mp hz]
  simp [GA.fix]
end

end

section

-- a condition of an operator
local macro_rules | `(tactic| walk_at "cond") => `(tactic| first
  | (show (0 : Int) < _; omega)
  | (show CDiv _ _; constructor <;> (first | decide | omega))
  | (show CMul _ _; first | (refine cmul_l ?_; constructor <;> (first | decide | omega)) | (refine cmul_r ?_; constructor <;> (first | decide | omega)))
  | (show CPow _ _; exact (by refine ⟨by decide, by decide, by decide⟩))
  | (show CDivW _ _; exact ⟨by decide, by decide +kernel⟩))
local macro_rules | `(tactic| walk_at "sq") => `(tactic| first | assumption | exact Dh.mono (same_upd (by assumption)) _ _ (by assumption) | exact .inl (.inl (.inl (by assumption))) | exact .inr (.inl (.inl (by assumption))) | exact SqL.of (by assumption) | exact .inl (by assumption) | exact .inl (SqL.of (by assumption)) | exact SqT.of (by assumption) | exact .inr (SqT.of (by assumption)))
local macro_rules | `(tactic| walk_at "st") => `(tactic| first
  | refine ⟨_, rfl, ?_⟩
  | refine ⟨_, _, rfl, rfl, ?_⟩
  | refine .inl ⟨_, rfl, ?_⟩
  | refine ⟨rfl, ?_⟩
  | refine ⟨_, _, rfl, by walk_at "sq", ?_⟩
  | refine ⟨.inl ⟨rfl, _, SqL.of (by assumption)⟩, ?_⟩
  | refine ⟨by walk_at "cond", ?_⟩
  | (refine' ifBT ?hh ?_; (case hh => first | rfl | assumption))
  | (refine' ifBF ?hh ?_; (case hh => first | rfl | assumption)))
local macro_rules | `(tactic| walk_at "go") => `(tactic| repeat walk_at "st")
local macro_rules | `(tactic| walk_at "yes") => `(tactic| (refine' ifT ?hh ?_; (case hh => first | rfl | decide +kernel)))
local macro_rules | `(tactic| walk_at "no") => `(tactic| (refine' ifF ?hh ?_; (case hh => first | decide +kernel | (intro z; cases z; done))))

local macro_rules | `(tactic| walk_at "st") => `(tactic| refine ⟨_, _, _, _, _, rfl, by assumption, by assumption, by omega, by omega, by omega, by omega, by omega, ?_⟩)
local macro_rules | `(tactic| walk_at "st") => `(tactic| refine ⟨_, _, _, _, _, rfl, Same.seq (by assumption) (by assumption), by assumption, by omega, by omega, by omega, by omega, by omega, ?_⟩)

/-! ### live, room -/
abbrev s_Pager_live : Stmt := inClass (topS 13) 12
theorem sc_Pager_live : FnScope ["self"] ["self"] (C8.fnScope s_Pager_live) := C8.fnScope_by (by decide +kernel)
abbrev s_Pager_room : Stmt := inClass (topS 13) 1
theorem sc_Pager_room : FnScope ["self"] ["self"] (C8.fnScope s_Pager_room) := C8.fnScope_by (by decide +kernel)
def spLive (C : GC) : Sp := fun vs H Q _ => ∃ (A : GA) (k : GK) (S : GS), vs = [.ref A.p] ∧ PgAt C H A k S ∧ S.cs.length < 64 ∧ ∀ (ys : List Int) r H', ys.Perm (S.cs.map (·.st)) → ys.Pairwise (· ≤ ·) → Same H H' → H r = none → H' r = some (.lst (ys.map V.int)) → Q (.ref r) H'
def spRoom (C : GC) : Sp := fun vs H Q _ => ∃ (A : GA) (k : GK) (S : GS), vs = [.ref A.p] ∧ PgAt C H A k S ∧ Q (.int k.room) H
section
variable {P : Program} {w : World} {K : PySem.W.Frag} {mg : Str → Option Value} {base : Heap} {C : GC}
theorem ok_live {f : Addr} {fd : FuncData} (F : C8.Fun K "live" "Pager.live" s_Pager_live f fd) (M : Meth K C.g "live" f) (b : Binds K fd ["self"] []) (T : GTxt K mg C.g) : C8.Met P w K mg base 1 C.g "live" (spLive C) [] := by
  refine C8.met0 T.cl M F b sc_Pager_live (fun vs H Q E h => ?_) (fun cdv A0 outer s H vs Q E hr h => ?_)
  · obtain ⟨A, k, S, rfl, _⟩ := h
    rfl
  obtain ⟨A, k, S, rfl, hp, l6, q⟩ := h
  refine ⟨_, (pss_one (ps_ret (pe_callB (call_sortedDI rfl) (by rfl) T.sorted (by decide +kernel) (pa_cons (pe_fld (pv 0) rfl) pa_nil)))), ?_⟩
  obtain ⟨dx, g⟩ := hp.g
  walk_at "go"
  refine ⟨_, _, _, _, _, rfl, g, T.cl, T.n6, pg_c, ?_⟩
  walk_at "go"
  refine ⟨A.da, S.cs.map Cont.row, S.cs.map (·.st), rfl, .inl hp.d, ?_, by rw [List.length_map]; exact l6, fun ys r hy hs nr => ?_⟩
  · rw [List.map_map, List.map_map]
    rfl
  exact q ys r _ hy hs (same_upd nr) nr upd_same
theorem ok_room {f : Addr} {fd : FuncData} (F : C8.Fun K "room" "Pager.room" s_Pager_room f fd) (M : Meth K C.g "room" f) (b : Binds K fd ["self"] []) (T : GTxt K mg C.g) : C8.Met P w K mg base 1 C.g "room" (spRoom C) [] := by
  refine C8.met0 T.cl M F b sc_Pager_room (fun vs H Q E h => ?_) (fun cdv A0 outer s H vs Q E hr h => ?_)
  · obtain ⟨A, k, S, rfl, _⟩ := h
    rfl
  obtain ⟨A, k, S, rfl, hp, q⟩ := h
  refine ⟨_, (pss_one (ps_ret (pe_fld (pv 0) rfl))), ?_⟩
  obtain ⟨dx, g⟩ := hp.g
  walk_at "go"
  refine ⟨_, _, _, _, _, rfl, g, T.cl, T.n3, pg_room, ?_⟩
  exact q
end

end

section

-- a condition of an operator
local macro_rules | `(tactic| walk_at "cond") => `(tactic| first
  | (show (0 : Int) < _; omega)
  | (show CDiv _ _; constructor <;> (first | decide | omega))
  | (show CMul _ _; first | (refine cmul_l ?_; constructor <;> (first | decide | omega)) | (refine cmul_r ?_; constructor <;> (first | decide | omega)))
  | (show CPow _ _; exact (by refine ⟨by decide, by decide, by decide⟩))
  | (show CDivW _ _; exact ⟨by decide, by decide +kernel⟩))
local macro_rules | `(tactic| walk_at "sq") => `(tactic| first | assumption | exact Dh.mono (same_upd (by assumption)) _ _ (by assumption) | exact .inl (.inl (.inl (by assumption))) | exact .inr (.inl (.inl (by assumption))) | exact SqL.of (by assumption) | exact .inl (by assumption) | exact .inl (SqL.of (by assumption)) | exact SqT.of (by assumption) | exact .inr (SqT.of (by assumption)))
local macro_rules | `(tactic| walk_at "st") => `(tactic| first
  | refine ⟨_, rfl, ?_⟩
  | refine ⟨_, _, rfl, rfl, ?_⟩
  | refine .inl ⟨_, rfl, ?_⟩
  | refine ⟨rfl, ?_⟩
  | refine ⟨_, _, rfl, by walk_at "sq", ?_⟩
  | refine ⟨.inl ⟨rfl, _, SqL.of (by assumption)⟩, ?_⟩
  | refine ⟨by walk_at "cond", ?_⟩
  | (refine' ifBT ?hh ?_; (case hh => first | rfl | assumption))
  | (refine' ifBF ?hh ?_; (case hh => first | rfl | assumption)))
local macro_rules | `(tactic| walk_at "go") => `(tactic| repeat walk_at "st")
local macro_rules | `(tactic| walk_at "yes") => `(tactic| (refine' ifT ?hh ?_; (case hh => first | rfl | decide +kernel)))
local macro_rules | `(tactic| walk_at "no") => `(tactic| (refine' ifF ?hh ?_; (case hh => first | decide +kernel | (intro z; cases z; done))))

local macro_rules | `(tactic| walk_at "st") => `(tactic| refine ⟨_, _, _, _, _, rfl, by assumption, by assumption, by omega, by omega, by omega, by omega, by omega, ?_⟩)
local macro_rules | `(tactic| walk_at "st") => `(tactic| refine ⟨_, _, _, _, _, rfl, Same.seq (by assumption) (by assumption), by assumption, by omega, by omega, by omega, by omega, by omega, ?_⟩)

/-! ### read -/
abbrev s_Pager_read : Stmt := inClass (topS 13) 6
theorem sc_Pager_read : FnScope ["self", "stamp", "offset", "length"] ["self", "stamp", "offset", "length"] (C8.fnScope s_Pager_read) := C8.fnScope_by (by decide +kernel)
theorem slL {X : Cx} (K : PySem.W.Frag) (h : X.K = K) : SlR X (rSlL K) := by
  subst h
  exact sl_list
theorem mvr_cs {S : GS} {y : Int} {ps : PS} : (outG S y ps).cs = S.cs := rfl
theorem brr_cs {k : GK} {S S' : GS} {x : Int} (h : BrR k S x S') : S'.cs = S.cs := by
  rcases h with ⟨m, rfl⟩ | ⟨_, j, S1, jl, ob, rfl⟩
  · rfl
  · rcases ob with ⟨_, _, rfl⟩ | ⟨_, _, _, _, _, _, _, mv, rfl⟩ <;> rfl
theorem cs_at : ∀ {cs : List Cont} {c : Cont}, c ∈ cs → (cs.map (·.st)).Nodup → valV (cs.map Cont.row) (.inl c.st) = some (.ref c.ad)
  | [], _, h, _ => by cases h
  | d :: ds, c, h, n => by
    obtain ⟨n1, n2⟩ := List.nodup_cons.mp n
    rcases List.mem_cons.mp h with rfl | h
    · exact valV_pos rfl
    · rw [List.map_cons, valV_neg (show ¬ (Cont.row d).1 = .inl c.st from fun z => n1 (by show d.st ∈ _; rw [show d.st = c.st from Sum.inl.inj z]; exact List.mem_map.mpr ⟨c, h, rfl⟩))]
      exact cs_at h n2
def spRdG (C : GC) (PT D U : Addr) : Sp := fun vs H Q E => ∃ (A : GA) (k : GK) (S : GS) (x o l : Int), vs = [.ref A.p, .int x, .int o, .int l] ∧ PgAt C H A k S ∧ GOk k S ∧ S.pl.rows.length ≤ 80000 ∧ x.natAbs.log2 < 1920 ∧ (x ∈ S.cs.map (·.st) → x ≠ 0 ∧ (x ∉ S.fr → x ∈ S.pl.st)) ∧ (x ∈ S.cs.map (·.st) → 0 ∉ S.fr → x ∉ S.fr → CanO S) ∧ Tabs (chT PT) H ∧ (S.cs.map (·.st)).Nodup ∧
  (∀ c ∈ S.cs, c.st = x → x ∈ S.fr ∨ 0 ∈ S.fr ∨ freeF S ≠ [] → ∀ S' r H1 H2, BrR k S x S' → PgAt C H1 A k S' → ButT (A.cf :: A.cu :: A.fr) H H1 → Tabs (chT PT) H1 → Same H1 H2 → H1 r = none → H2 r = some (.lst (cutV (c.by'.map V.int) (some o) (some (o + l)))) → Q (.ref r) H2) ∧
  (x ∉ S.cs.map (·.st) → ∀ d, H d = none → E (.ref U) (some d) (upd H d (.xd (nsF x)))) ∧
  (x ∈ S.cs.map (·.st) → x ∉ S.fr → 0 ∉ S.fr → freeF S = [] → ∀ H1 d, Same H H1 → H1 d = none → E (.ref D) (some d) (upd H1 d (.xd (nlF ((S.fr.length : Int) + 1) S.fr.length))))
section
variable {P : Program} {w : World} {K : PySem.W.Frag} {mg : Str → Option Value} {base : Heap} {C : GC} {PT U D : Addr}
theorem ok_rdG {f : Addr} {fd : FuncData} (F : C8.Fun K "read" "Pager.read" s_Pager_read f fd) (M : Meth K C.g "read" f) (b : Binds K fd ["self", "stamp", "offset", "length"] []) (T : GTxt K mg C.g) (m_bring : MetE P w K mg base 5 C.g "bring" (spBrG C PT D U)) : MetE P w K mg base 6 C.g "read" (spRdG C PT D U) := by
  refine metE T.cl M F b sc_Pager_read (fun vs H Q E h => ?_) (fun cdv A0 outer s H vs Q E hr h => ?_)
  · obtain ⟨A, k, S, x, o, l, rfl, _⟩ := h
    rfl
  obtain ⟨A, k, S, x, o, l, rfl, hp, ok, lr, lx, lv, can, hT, nd, q1, q2, q3⟩ := h
  refine ⟨_, (pss_cons (ps_expr (pe_mE m_bring (takes_of rfl rfl rfl rfl) hr (by omega) (pv 0) (pa_cons (pv 1) pa_nil)))
      (pss_one (ps_ret (pe_slice (slL K rfl) (pe_dget (hu_of hr) (pe_fld (pv 0) rfl) (pv 1) (fun _ _ => rfl)) (po_some (pv 2)) (po_some (pe_op op_add (pv 2) (pv 3))))))), ?_⟩
  obtain ⟨dx, g⟩ := hp.g
  walk_at "go"
  refine ⟨A.p, _, _, rfl, g, pg_m10, ?_⟩
  walk_at "go"
  refine ⟨A, k, S, x, rfl, hp, ok, lr, lx, lv, can, hT, fun m zz S1 H1 br h1 b1 T1 => ?_, fun m d nd => q2 m d nd, fun m c z0 ze H1 d s1 nd => q3 m c z0 ze H1 d s1 nd⟩
  obtain ⟨c, hc, e⟩ := List.mem_map.mp m
  subst e
  obtain ⟨dx1, g1⟩ := h1.g
  have ec := brr_cs br
  walk_at "go"
  refine ⟨_, _, _, _, _, rfl, g1, T.cl, T.n6, pg_c, ?_⟩
  walk_at "go"
  have gc : valV (S1.cs.map Cont.row) (.inl c.st) = some (.ref c.ad) := by
    rw [ec]
    exact cs_at hc nd
  refine ⟨A.da, .ref c.ad, rfl, gc ▸ DGet.k (k := .inl c.st) h1.d, ?_⟩
  have hcc := h1.c c (by rw [ec]; exact hc)
  walk_at "go"
  intro r nr
  exact q1 c hc rfl zz S1 r H1 _ br h1 b1 T1 (same_upd nr) nr upd_same
end

end

section

-- a condition of an operator
local macro_rules | `(tactic| walk_at "cond") => `(tactic| first
  | (show (0 : Int) < _; omega)
  | (show CDiv _ _; constructor <;> (first | decide | omega))
  | (show CMul _ _; first | (refine cmul_l ?_; constructor <;> (first | decide | omega)) | (refine cmul_r ?_; constructor <;> (first | decide | omega)))
  | (show CPow _ _; exact (by refine ⟨by decide, by decide, by decide⟩))
  | (show CDivW _ _; exact ⟨by decide, by decide +kernel⟩))
local macro_rules | `(tactic| walk_at "sq") => `(tactic| first | assumption | exact Dh.mono (same_upd (by assumption)) _ _ (by assumption) | exact .inl (.inl (.inl (by assumption))) | exact .inr (.inl (.inl (by assumption))) | exact SqL.of (by assumption) | exact .inl (by assumption) | exact .inl (SqL.of (by assumption)) | exact SqT.of (by assumption) | exact .inr (SqT.of (by assumption)))
local macro_rules | `(tactic| walk_at "st") => `(tactic| first
  | refine ⟨_, rfl, ?_⟩
  | refine ⟨_, _, rfl, rfl, ?_⟩
  | refine .inl ⟨_, rfl, ?_⟩
  | refine ⟨rfl, ?_⟩
  | refine ⟨_, _, rfl, by walk_at "sq", ?_⟩
  | refine ⟨.inl ⟨rfl, _, SqL.of (by assumption)⟩, ?_⟩
  | refine ⟨by walk_at "cond", ?_⟩
  | (refine' ifBT ?hh ?_; (case hh => first | rfl | assumption))
  | (refine' ifBF ?hh ?_; (case hh => first | rfl | assumption)))
local macro_rules | `(tactic| walk_at "go") => `(tactic| repeat walk_at "st")
local macro_rules | `(tactic| walk_at "yes") => `(tactic| (refine' ifT ?hh ?_; (case hh => first | rfl | decide +kernel)))
local macro_rules | `(tactic| walk_at "no") => `(tactic| (refine' ifF ?hh ?_; (case hh => first | decide +kernel | (intro z; cases z; done))))

local macro_rules | `(tactic| walk_at "st") => `(tactic| refine ⟨_, _, _, _, _, rfl, by assumption, by assumption, by omega, by omega, by omega, by omega, by omega, ?_⟩)
local macro_rules | `(tactic| walk_at "st") => `(tactic| refine ⟨_, _, _, _, _, rfl, Same.seq (by assumption) (by assumption), by assumption, by omega, by omega, by omega, by omega, by omega, ?_⟩)

/-! ### release -/
abbrev s_Pager_release : Stmt := inClass (topS 13) 8
theorem sc_Pager_release : FnScope ["self", "stamp"] ["self", "stamp"] (C8.fnScope s_Pager_release) := C8.fnScope_by (by decide +kernel)
def relF (S : GS) (x : Int) : GS := if x ∈ S.fr then emptyG S (S.fr.idxOf x) else S
def relG (S : GS) (x : Int) : GS := ⟨(relF S x).fr, freeS S.pl x, S.calls, S.hand, S.fl, S.us, (relF S x).bits, S.cs.filter fun c => decide (c.st ≠ x), (relF S x).pn, S.lf⟩
def spRel (C : GC) (U : Addr) : Sp := fun vs H Q E => ∃ (A : GA) (k : GK) (S : GS) (x : Int), vs = [.ref A.p, .int x] ∧ PgAt C H A k S ∧ k.n = S.fr.length ∧ S.fr.length ≤ 1000 ∧ x.natAbs.log2 < 1920 ∧
  (x ∈ S.cs.map (·.st) → ∀ H', PgAt C H' A k (relG S x) → ButL [A.fa, A.na, A.cb, A.sa, A.da] H H' → Q .non H') ∧
  (x ∉ S.cs.map (·.st) → ∀ d, H d = none → E (.ref U) (some d) (upd H d (.xd (nsF x))))
section
variable {P : Program} {w : World} {K : PySem.W.Frag} {mg : Str → Option Value} {base : Heap} {C : GC} {U : Addr}
theorem cs_drop (cs : List Cont) (x : Int) : dropK (cs.map Cont.row) (.inl x) = (cs.filter fun c => decide (c.st ≠ x)).map Cont.row := by
  unfold dropK
  rw [List.filter_map]
  congr 1
  refine List.filter_congr fun c _ => ?_
  show decide ((Sum.inl c.st : Key) ≠ .inl x) = decide (c.st ≠ x)
  by_cases z : c.st = x
  · simp [z]
  · simp [z]
theorem relF_cs (S : GS) (x : Int) : (relF S x).cs = S.cs ∧ (relF S x).pl = S.pl ∧ (relF S x).calls = S.calls ∧ (relF S x).hand = S.hand ∧ (relF S x).fl = S.fl ∧ (relF S x).us = S.us ∧ (relF S x).lf = S.lf := by
  unfold relF
  split <;> exact ⟨rfl, rfl, rfl, rfl, rfl, rfl, rfl⟩
theorem ok_rel {f : Addr} {fd : FuncData} (F : C8.Fun K "release" "Pager.release" s_Pager_release f fd) (M : Meth K C.g "release" f) (b : Binds K fd ["self", "stamp"] []) (T : GTxt K mg C.g) (m_check_live : MetE P w K mg base 3 C.g "_check_live" (spChkL C U)) (m_empty_frame : C8.Met P w K mg base 2 C.g "_empty_frame" (spEmpG C) []) (m_free : C8.Met P w K mg base 1 C.p "free" (spFree C.p) []) : MetE P w K mg base 4 C.g "release" (spRel C U) := by
  refine metE T.cl M F b sc_Pager_release (fun vs H Q E h => ?_) (fun cdv A0 outer s H vs Q E hr h => ?_)
  · obtain ⟨A, k, S, x, rfl, _⟩ := h
    rfl
  obtain ⟨A, k, S, x, rfl, hp, kn, n2, lx, q1, q2⟩ := h
  have m_empty_frame := metI m_empty_frame
  have m_free := metI m_free
  refine ⟨_, (pss_cons (ps_expr (pe_mE m_check_live (takes_of rfl rfl rfl rfl) hr (by omega) (pv 0) (pa_cons (pv 1) pa_nil)))
      (pss_cons (ps_mk (ps_if (pt_cmpR (inQ K rfl) (pv 1) (pe_fld (pv 0) rfl) (by rfl))
      (pss_one (ps_expr (C8.pe_mt m_empty_frame hr (by omega) (pv 0) (pa_cons (pv 1) pa_nil))))
      pss_nil))
      (pss_cons (ps_expr (C8.pe_mt m_free hr (by omega) (pe_fld (pv 0) rfl) (pa_cons (pv 1) pa_nil)))
      (pss_one (ps_ddel (pe_fld (pv 0) rfl) (pv 1)))))), ?_⟩
  obtain ⟨dx, g⟩ := hp.g
  have sF : SqL K H A.fa (S.fr.map V.int) := SqL.of hp.f
  walk_at "go"
  refine ⟨A.p, _, _, rfl, g, pg_m1, ?_⟩
  walk_at "go"
  refine ⟨A, k, S, x, rfl, hp, lx, fun m => ?_, fun m d nd => q2 m d nd⟩
  refine jnS (M := fun σ H' => PgAt C H' A k (relF S x) ∧ ButL [A.fa, A.na, A.cb] H H' ∧ σ = [sR A.p, sI x]) ?_ (fun N kk => ?_)
  rotate_left
  · walk_at "go"
    refine ⟨_, _, _, _, _, rfl, g, T.cl, T.n1, pg_fr, ?_⟩
    walk_at "go"
    refine ⟨flat_ints _, ?_⟩
    rw [show inV (V.int x) (S.fr.map V.int) = decide (x ∈ S.fr) from inInt _ _]
    walk_at "go"
    refine ifD (fun c => ?_) (fun c => ?_)
    · walk_at "go"
      refine ⟨A.p, _, _, rfl, g, pg_m7, ?_⟩
      walk_at "go"
      refine SpI.mk ⟨A, k, S, x, rfl, hp, c, kn, fun H1 h1 b1 => ?_⟩
      walk_at "go"
      exact kk _ _ ⟨by unfold relF; rw [if_pos c]; exact h1, b1, rfl⟩
    · walk_at "go"
      exact kk _ _ ⟨by unfold relF; rw [if_neg c]; exact hp, ButL.refl, rfl⟩
  rintro σ H1 ⟨h1, b1, rfl⟩
  obtain ⟨dx1, g1⟩ := h1.g
  obtain ⟨dp1, gp1⟩ := h1.pl.g
  walk_at "go"
  refine ⟨_, _, _, _, _, rfl, g1, T.cl, T.n2, pg_pl, ?_⟩
  walk_at "go"
  refine ⟨A.pp, _, _, rfl, gp1, pl_m3, ?_⟩
  walk_at "go"
  refine SpI.mk ⟨A.pp, A.sa, A.ra, A.wa, _, x, rfl, h1.pl, fun H2 h2 b2 => ?_⟩
  have h3 := h1.putP (b2.t.mono (by simp)) h2
  obtain ⟨dx3, g3⟩ := h3.g
  walk_at "go"
  refine ⟨_, _, _, _, _, rfl, g3, T.cl, T.n6, pg_c, ?_⟩
  walk_at "go"
  obtain ⟨r1, r2, r3, r4, r5, r6, r7⟩ := relF_cs S x
  refine ⟨A.da, _, .inl x, rfl, h3.d, rfl, ?_, ?_⟩
  · show (valV ((relF S x).cs.map Cont.row) (.inl x)).isSome = true
    rw [cs_get, r1]
    exact decide_eq_true m
  show _
  rw [cs_drop]
  have b4 : ButL [A.da] H2 (upd H2 A.da (.dK (((relF S x).cs.filter fun c => decide (c.st ≠ x)).map Cont.row))) := ButL.put (by simp)
  have h4 := h3.putD (cs := (relF S x).cs.filter fun c => decide (c.st ≠ x)) b4.t (fun a _ z => List.mem_singleton.mp z) (fun a z => by rw [List.mem_singleton.mp z]; exact .dK h3.d) upd_same
    (fun c hc => by
      have hc' := (List.mem_filter.mp hc).1
      rw [upd_ne (h3.xn (a := A.da) (by simp [GA.fix]) hc')]
      exact h3.c c hc')
    (h3.nd.sublist (List.Sublist.append (List.Sublist.refl _) ((List.filter_sublist).map _)))
  refine q1 m _ ?_ (((b1.mono (by simp)).trans (b2.mono (by simp))).trans (b4.mono (by simp)))
  unfold relG
  rw [r1, r2, r3, r4, r5, r6, r7] at h4
  rw [r1]
  exact h4
end

end

section

-- a condition of an operator
local macro_rules | `(tactic| walk_at "cond") => `(tactic| first
  | (show (0 : Int) < _; omega)
  | (show CDiv _ _; constructor <;> (first | decide | omega))
  | (show CMul _ _; first | (refine cmul_l ?_; constructor <;> (first | decide | omega)) | (refine cmul_r ?_; constructor <;> (first | decide | omega)))
  | (show CPow _ _; exact (by refine ⟨by decide, by decide, by decide⟩))
  | (show CDivW _ _; exact ⟨by decide, by decide +kernel⟩))
local macro_rules | `(tactic| walk_at "sq") => `(tactic| first | assumption | exact Dh.mono (same_upd (by assumption)) _ _ (by assumption) | exact .inl (.inl (.inl (by assumption))) | exact .inr (.inl (.inl (by assumption))) | exact SqL.of (by assumption) | exact .inl (by assumption) | exact .inl (SqL.of (by assumption)) | exact SqT.of (by assumption) | exact .inr (SqT.of (by assumption)))
local macro_rules | `(tactic| walk_at "st") => `(tactic| first
  | refine ⟨_, rfl, ?_⟩
  | refine ⟨_, _, rfl, rfl, ?_⟩
  | refine .inl ⟨_, rfl, ?_⟩
  | refine ⟨rfl, ?_⟩
  | refine ⟨_, _, rfl, by walk_at "sq", ?_⟩
  | refine ⟨.inl ⟨rfl, _, SqL.of (by assumption)⟩, ?_⟩
  | refine ⟨by walk_at "cond", ?_⟩
  | (refine' ifBT ?hh ?_; (case hh => first | rfl | assumption))
  | (refine' ifBF ?hh ?_; (case hh => first | rfl | assumption)))
local macro_rules | `(tactic| walk_at "go") => `(tactic| repeat walk_at "st")
local macro_rules | `(tactic| walk_at "yes") => `(tactic| (refine' ifT ?hh ?_; (case hh => first | rfl | decide +kernel)))
local macro_rules | `(tactic| walk_at "no") => `(tactic| (refine' ifF ?hh ?_; (case hh => first | decide +kernel | (intro z; cases z; done))))

local macro_rules | `(tactic| walk_at "st") => `(tactic| refine ⟨_, _, _, _, _, rfl, by assumption, by assumption, by omega, by omega, by omega, by omega, by omega, ?_⟩)
local macro_rules | `(tactic| walk_at "st") => `(tactic| refine ⟨_, _, _, _, _, rfl, Same.seq (by assumption) (by assumption), by assumption, by omega, by omega, by omega, by omega, by omega, ?_⟩)

/-! ### what is always true of a pager -/
def UQ (l : List Int) : Prop := ∀ (i j : Nat) (x : Int), l[i]? = some x → l[j]? = some x → x ≠ 0 → i = j
theorem UQ.idx {l : List Int} (u : UQ l) {i : Nat} {x : Int} (h : l[i]? = some x) (x0 : x ≠ 0) : l.idxOf x = i := u _ _ x (idx_ok (List.mem_of_getElem? h)).1 h x0
theorem UQ.set {l : List Int} (u : UQ l) {i : Nat} {v : Int} (n : v ≠ 0 → v ∉ l) : UQ (l.set i v) := fun a b x ha hb x0 => by
  rw [List.getElem?_set] at ha hb
  by_cases ai : i = a
  · rw [if_pos ai] at ha
    split at ha
    · by_cases bi : i = b
      · omega
      · rw [if_neg bi] at hb
        obtain rfl : v = x := Option.some.inj ha
        exact absurd (List.mem_of_getElem? hb) (n x0)
    · cases ha
  · rw [if_neg ai] at ha
    by_cases bi : i = b
    · rw [if_pos bi] at hb
      split at hb
      · obtain rfl : v = x := Option.some.inj hb
        exact absurd (List.mem_of_getElem? ha) (n x0)
      · cases hb
    · rw [if_neg bi] at hb
      exact u a b x ha hb x0
theorem UQ.set0 {l : List Int} (u : UQ l) {i : Nat} : UQ (l.set i 0) := u.set fun z => absurd rfl z
theorem mset {l : List Int} (u : UQ l) {i : Nat} {a v y : Int} (h : l[i]? = some a) (y0 : y ≠ 0) : y ∈ l.set i v ↔ y = v ∨ (y ∈ l ∧ a ≠ y) := by
  have il := (List.getElem?_eq_some_iff.mp h).1
  constructor
  · intro m
    obtain ⟨j, hj⟩ := List.getElem?_of_mem m
    rw [List.getElem?_set] at hj
    by_cases ij : i = j
    · rw [if_pos ij, if_pos (by omega)] at hj
      exact .inl (Option.some.inj hj).symm
    · rw [if_neg ij] at hj
      refine .inr ⟨List.mem_of_getElem? hj, fun z => ?_⟩
      subst z
      exact ij (u i j a h hj y0)
  · rintro (rfl | ⟨m, n⟩)
    · exact List.mem_of_getElem? (i := i) (by rw [List.getElem?_set_self il])
    · exact mem_set m fun z => n (by rw [h] at z; exact Option.some.inj z)
theorem nd_len : ∀ {l m : List Int}, l.Nodup → (∀ x ∈ l, x ∈ m) → l.length ≤ m.length
  | [], _, _, _ => Nat.zero_le _
  | a :: l, m, h, s => by
    obtain ⟨h1, h2⟩ := List.nodup_cons.mp h
    have am := s a (List.mem_cons_self ..)
    have := nd_len (m := m.erase a) h2 fun x hx => (List.mem_erase_of_ne (fun z => h1 (by rw [← z]; exact hx))).mpr (s x (List.mem_cons_of_mem _ hx))
    rw [List.length_erase_of_mem am] at this
    have := List.length_pos_of_mem am
    rw [List.length_cons]
    omega
theorem UQ.nodup {l : List Int} (u : UQ l) (z : 0 ∉ l) : l.Nodup := by
  refine List.pairwise_iff_getElem.mpr fun i j hi hj ij e => ?_
  have := u i j l[i] (List.getElem?_eq_getElem hi) (by rw [List.getElem?_eq_getElem hj, e]) fun y => z (by rw [← y]; exact List.getElem_mem hi)
  omega
structure GI (k : GK) (S : GS) (pins : List Int) : Prop where
  kd : K4 k.kd
  n : k.n = S.fr.length
  n1 : 1 ≤ S.fr.length
  n2 : S.fr.length ≤ 1000
  h0 : 0 ≤ S.hand
  h1 : S.hand < S.fr.length
  uf : UQ S.fr
  us : UQ S.pl.st
  lv : ∀ x, x ∈ S.cs.map (·.st) ↔ x ≠ 0 ∧ (x ∈ S.fr ∨ x ∈ S.pl.st)
  nd : (S.cs.map (·.st)).Nodup
  room : k.room = S.fr.length + max 0 ((S.pl.st.length : Int) - 1)
  lr : (S.cs.length : Int) ≤ k.room
  pn : S.pn.Nodup
  p1 : ∀ i ∈ S.pn, ∃ (j : Nat) (x : Int), i = j ∧ S.fr[j]? = some x ∧ x ≠ 0 ∧ x ∈ pins
  p2 : ∀ x ∈ pins, ∃ j : Nat, S.fr[j]? = some x ∧ x ≠ 0 ∧ (j : Int) ∈ S.pn
structure Bd (S : GS) (b : Nat) : Prop where
  r : S.pl.rows.length ≤ b
  l : S.lf.length ≤ b
section
variable {k : GK} {S S' : GS} {pins : List Int} {b : Nat}
theorem Bd.mono {c : Nat} (h : Bd S b) (l : b ≤ c) : Bd S c := ⟨Nat.le_trans h.r l, Nat.le_trans h.l l⟩
theorem GI.ok (h : GI k S pins) (d : Bd S b) (l : b ≤ 80000) : GOk k S := ⟨h.kd, h.n, h.n1, h.n2, by have := d.r; omega, by have := d.l; omega, h.h0, h.h1⟩
theorem mv_st {x : Int} {ps : PS} (u : UQ S.pl.st) (uf : UQ S.fr) (x0 : x ≠ 0) (hx : x ∈ S.fr) (m : MvR S x ps) : UQ ps.st ∧ ps.st.length = S.pl.st.length ∧ (∀ y, y ≠ 0 → y ∈ ps.st → y = x ∨ y ∈ S.pl.st) ∧ (∀ y, y ≠ 0 → y ∈ S.pl.st → y ∈ ps.st ∨ y ∈ S.fr ∧ y ≠ x) ∧ x ∈ ps.st := by
  rcases m with ⟨c, rfl⟩ | ⟨c, z, rfl⟩ | ⟨c, z, m, hm, _, rfl⟩
  · exact ⟨u, rfl, fun y _ h => .inr h, fun y _ h => .inl h, c⟩
  · have i0 := (idx_ok z).1
    refine ⟨u.set fun _ => c, List.length_set .., fun y y0 h => ?_, fun y y0 h => .inl ?_, ?_⟩
    · rcases (mset u i0 y0).mp h with e | ⟨e, _⟩
      · exact .inl e
      · exact .inr e
    · exact (mset u i0 y0).mpr (.inr ⟨h, y0.symm⟩)
    · exact (mset u i0 x0).mpr (.inl rfl)
  · have ms := bothS hm
    have mf := (List.mem_filter.mp hm)
    have m0 : m ≠ 0 := by
      have := mf.2
      simp only [Bool.and_eq_true, decide_eq_true_eq] at this
      exact this.1
    have im := (idx_ok ms).1
    have e1 : (freeS S.pl m).st = S.pl.st.set (S.pl.st.idxOf m) 0 := by
      unfold freeS
      rw [if_pos ms]
    have u1 : UQ (freeS S.pl m).st := by
      rw [e1]
      exact u.set0
    have z1 : (0 : Int) ∈ (freeS S.pl m).st := by
      rw [e1]
      exact set_mem (idx_lt ms)
    have i1 := (idx_ok z1).1
    have xn : x ∉ (freeS S.pl m).st := by
      rw [e1]
      intro y
      rcases (mset u im x0).mp y with e | ⟨e, _⟩
      · exact x0 e
      · exact c e
    have l1 : (freeS S.pl m).st.length = S.pl.st.length := by rw [e1, List.length_set]
    refine ⟨u1.set fun _ => xn, (List.length_set ..).trans l1, fun y y0 h => ?_, fun y y0 h => ?_, ?_⟩
    · rcases (mset u1 i1 y0).mp h with e | ⟨e, _⟩
      · exact .inl e
      · rw [e1] at e
        rcases (mset u im y0).mp e with e | ⟨e, _⟩
        · exact absurd e y0
        · exact .inr e
    · by_cases ym : y = m
      · subst ym
        exact .inr ⟨mf.1, fun z => c (by rw [← z]; exact h)⟩
      · refine .inl ((mset u1 i1 y0).mpr (.inr ⟨?_, y0.symm⟩))
        rw [e1]
        exact (mset u im y0).mpr (.inr ⟨h, fun z => ym z.symm⟩)
    · exact (mset u1 i1 x0).mpr (.inl rfl)
theorem pn_keep {pn : List Int} {i : Nat} (h : (i : Int) ∉ pn) : (pn.filter fun j => decide (j ≠ (i : Int))) = pn := by
  refine List.filter_eq_self.mpr fun a ha => decide_eq_true fun z => h (by rw [← z]; exact ha)
/-- a stamp was put out -/
theorem GI.out {x : Int} {ps : PS} (h : GI k S pins) (hx : x ∈ S.fr) (x0 : x ≠ 0) (np : ((S.fr.idxOf x : Nat) : Int) ∉ S.pn) (m : MvR S x ps) : GI k (outG S x ps) pins ∧ x ∈ ps.st := by
  obtain ⟨q1, q2, q3, q4, q5⟩ := mv_st h.us h.uf x0 hx m
  have ix := (idx_ok hx).1
  have fl : (S.fr.set (S.fr.idxOf x) 0).length = S.fr.length := List.length_set ..
  refine ⟨⟨h.kd, ?_, ?_, ?_, h.h0, ?_, h.uf.set0, q1, fun y => ?_, h.nd, ?_, h.lr, ?_, fun i hi => ?_, fun y hy => ?_⟩, q5⟩
  · exact h.n.trans fl.symm
  · exact fl ▸ h.n1
  · exact fl ▸ h.n2
  · have := h.h1
    show S.hand < ((S.fr.set (S.fr.idxOf x) 0).length : Int)
    rw [fl]
    exact this
  · refine (h.lv y).trans (and_congr_right fun y0 => ?_)
    show _ ↔ y ∈ S.fr.set (S.fr.idxOf x) 0 ∨ y ∈ ps.st
    rw [mset h.uf ix y0]
    constructor
    · rintro (a | a)
      · by_cases xy : x = y
        · exact .inr (xy ▸ q5)
        · exact .inl (.inr ⟨a, xy⟩)
      · rcases q4 y y0 a with c | c
        · exact .inr c
        · exact .inl (.inr ⟨c.1, fun z => c.2 z.symm⟩)
    · rintro ((a | a) | a)
      · exact absurd a y0
      · exact .inl a.1
      · rcases q3 y y0 a with c | c
        · exact .inl (c ▸ hx)
        · exact .inr c
  · show k.room = ((S.fr.set (S.fr.idxOf x) 0).length : Int) + max 0 ((ps.st.length : Int) - 1)
    rw [fl, q2]
    exact h.room
  · show (S.pn.filter _).Nodup
    rw [pn_keep np]
    exact h.pn
  · obtain ⟨j, y, rfl, e, y0, yp⟩ := h.p1 i (List.mem_filter.mp hi).1
    refine ⟨j, y, rfl, ?_, y0, yp⟩
    show (S.fr.set (S.fr.idxOf x) 0)[j]? = some y
    rw [List.getElem?_set_ne fun z => np (by rw [z]; exact (List.mem_filter.mp hi).1)]
    exact e
  · obtain ⟨j, e, y0, m⟩ := h.p2 y hy
    refine ⟨j, ?_, y0, ?_⟩
    · show (S.fr.set (S.fr.idxOf x) 0)[j]? = some y
      rw [List.getElem?_set_ne fun z => np (by rw [z]; exact m)]
      exact e
    · show (j : Int) ∈ S.pn.filter _
      rw [pn_keep np]
      exact m
theorem mv_bd {x : Int} {ps : PS} (d : Bd S b) (m : MvR S x ps) : Bd (outG S x ps) (b + 1) := by
  have r := d.r
  have l := d.l
  refine ⟨?_, ?_⟩
  · show ps.rows.length ≤ b + 1
    rcases m with ⟨_, rfl⟩ | ⟨_, _, rfl⟩ | ⟨_, _, m, _, _, rfl⟩
    · omega
    · show (_ ++ _ : List _).length ≤ _
      rw [List.length_append]
      exact Nat.succ_le_succ r
    · show (_ ++ _ : List _).length ≤ _
      rw [List.length_append]
      exact Nat.succ_le_succ r
  · show (_ ++ _ : List _).length ≤ _
    rw [List.length_append]
    exact Nat.succ_le_succ l
/-- a frame was obtained -/
theorem GI.obt {als : List Int} {j : Nat} (h : GI k S pins) (lb : S.bits.length = k.n) (sub : ∀ i ∈ als, i ∈ freeF S) (d : Bd S b) (o : ObR k S als j S') :
    GI k S' pins ∧ S'.fr[j]? = some 0 ∧ S'.cs = S.cs ∧ (∀ y, y ≠ 0 → y ∈ S'.fr → y ∈ S.fr) ∧ (∀ y, y ≠ 0 → y ∈ S.fr → S.fr[j]? = some y ∨ y ∈ S'.fr) ∧ Bd S' (b + 1) ∧ (0 ∈ S.fr ∨ (j : Int) ∈ als) := by
  rcases o with ⟨z, rfl, rfl⟩ | ⟨z, hand', bits', x, ps, c, e, m, rfl⟩
  · exact ⟨h, (idx_ok z).1, rfl, fun _ _ y => y, fun _ _ y => .inr y, d.mono (Nat.le_succ _), .inl z⟩
  · obtain ⟨⟨_, _, ja⟩, r0, r1⟩ := chs_rng (by rw [h.n]; exact h.n1) h.h0 (by rw [h.n]; exact h.h1) lb (fun i hi => by have := freeF_rng (sub i hi); rw [h.n]; exact this) c
    have jp : (j : Int) ∉ S.pn := by
      have := (List.mem_filter.mp (sub _ ja)).2
      simpa using this
    have xf := List.mem_of_getElem? e
    have x0 : x ≠ 0 := fun y => z (y ▸ xf)
    have ij := h.uf.idx e x0
    have h1 : GI k ⟨S.fr, S.pl, S.calls, hand', S.fl, S.us, bits', S.cs, S.pn, S.lf⟩ pins := ⟨h.kd, h.n, h.n1, h.n2, r0, by have := h.n; show hand' < (S.fr.length : Int); omega, h.uf, h.us, h.lv, h.nd, h.room, h.lr, h.pn, h.p1, h.p2⟩
    have d1 : Bd ⟨S.fr, S.pl, S.calls, hand', S.fl, S.us, bits', S.cs, S.pn, S.lf⟩ b := ⟨d.r, d.l⟩
    refine ⟨(h1.out xf x0 (by show ((S.fr.idxOf x : Nat) : Int) ∉ S.pn; rw [ij]; exact jp) m).1, ?_, rfl, fun y y0 hy => ?_, fun y y0 hy => ?_, mv_bd d1 m, .inr ja⟩
    · show (S.fr.set (S.fr.idxOf x) 0)[j]? = some 0
      rw [ij, List.getElem?_set_self (List.getElem?_eq_some_iff.mp e).1]
    · have hy : y ∈ S.fr.set (S.fr.idxOf x) 0 := hy
      rcases (mset h.uf (idx_ok xf).1 y0).mp hy with a | a
      · exact absurd a y0
      · exact a.1
    · by_cases xy : x = y
      · exact .inl (xy ▸ e)
      · exact .inr ((mset h.uf (idx_ok xf).1 y0).mpr (.inr ⟨hy, xy⟩))
/-- a stamp that has a place comes into an empty frame -/
theorem GI.fill {x : Int} {j : Nat} (h : GI k S pins) (e : S.fr[j]? = some 0) (nx : x ∉ S.fr) (x0 : x ≠ 0) (hx : x ∈ S.pl.st) : GI k (fillG S j x) pins := by
  have fl : (S.fr.set j x).length = S.fr.length := List.length_set ..
  refine ⟨h.kd, h.n.trans fl.symm, fl ▸ h.n1, fl ▸ h.n2, h.h0, ?_, h.uf.set fun _ => nx, h.us, fun y => ?_, h.nd, ?_, h.lr, h.pn, fun i hi => ?_, fun y hy => ?_⟩
  · show S.hand < ((S.fr.set j x).length : Int)
    rw [fl]
    exact h.h1
  · refine (h.lv y).trans (and_congr_right fun y0 => ?_)
    show _ ↔ y ∈ S.fr.set j x ∨ y ∈ S.pl.st
    rw [mset h.uf e y0]
    constructor
    · rintro (a | a)
      · exact .inl (.inr ⟨a, y0.symm⟩)
      · exact .inr a
    · rintro ((a | a) | a)
      · exact .inr (a ▸ hx)
      · exact .inl a.1
      · exact .inr a
  · show k.room = ((S.fr.set j x).length : Int) + _
    rw [fl]
    exact h.room
  · obtain ⟨i', y, rfl, e', y0, yp⟩ := h.p1 i hi
    refine ⟨i', y, rfl, ?_, y0, yp⟩
    show (S.fr.set j x)[i']? = some y
    rw [List.getElem?_set_ne fun z => y0 (by rw [z, e'] at e; exact Option.some.inj e)]
    exact e'
  · obtain ⟨i', e', y0, m⟩ := h.p2 y hy
    refine ⟨i', ?_, y0, m⟩
    show (S.fr.set j x)[i']? = some y
    rw [List.getElem?_set_ne fun z => y0 (by rw [z, e'] at e; exact Option.some.inj e)]
    exact e'
/-- a new stamp comes into an empty frame -/
theorem GI.new {c : Cont} {j : Nat} (h : GI k S pins) (e : S.fr[j]? = some 0) (nx : c.st ∉ S.cs.map (·.st)) (x0 : c.st ≠ 0) (l : (S.cs.length : Int) + 1 ≤ k.room) : GI k (fillG ⟨S.fr, S.pl, S.calls, S.hand, S.fl, S.us, S.bits, S.cs ++ [c], S.pn, S.lf⟩ j c.st) pins := by
  have nf : c.st ∉ S.fr := fun z => nx ((h.lv _).mpr ⟨x0, .inl z⟩)
  have ns : c.st ∉ S.pl.st := fun z => nx ((h.lv _).mpr ⟨x0, .inr z⟩)
  have fl : (S.fr.set j c.st).length = S.fr.length := List.length_set ..
  refine ⟨h.kd, h.n.trans fl.symm, fl ▸ h.n1, fl ▸ h.n2, h.h0, ?_, h.uf.set fun _ => nf, h.us, fun y => ?_, ?_, ?_, ?_, h.pn, fun i hi => ?_, fun y hy => ?_⟩
  · show S.hand < ((S.fr.set j c.st).length : Int)
    rw [fl]
    exact h.h1
  · show y ∈ (S.cs ++ [c]).map (·.st) ↔ y ≠ 0 ∧ (y ∈ S.fr.set j c.st ∨ y ∈ S.pl.st)
    rw [List.map_append, List.mem_append, h.lv y]
    show _ ∨ y ∈ [c.st] ↔ _
    rw [List.mem_singleton]
    by_cases y0 : y = 0
    · subst y0
      exact ⟨fun z => z.elim (fun a => absurd rfl a.1) fun a => absurd a.symm x0, fun z => absurd rfl z.1⟩
    rw [mset h.uf e y0]
    constructor
    · rintro (⟨_, a | a⟩ | a)
      · exact ⟨y0, .inl (.inr ⟨a, fun z => y0 z.symm⟩)⟩
      · exact ⟨y0, .inr a⟩
      · exact ⟨y0, .inl (.inl a)⟩
    · rintro ⟨_, (a | a) | a⟩
      · exact .inr a
      · exact .inl ⟨y0, .inl a.1⟩
      · exact .inl ⟨y0, .inr a⟩
  · show ((S.cs ++ [c]).map (·.st)).Nodup
    rw [List.map_append]
    refine List.nodup_append.mpr ⟨h.nd, by simp, fun a ha b hb z => nx ?_⟩
    have hb : b ∈ [c.st] := hb
    rw [← List.mem_singleton.mp hb, ← z]
    exact ha
  · show k.room = ((S.fr.set j c.st).length : Int) + _
    rw [fl]
    exact h.room
  · show ((S.cs ++ [c]).length : Int) ≤ k.room
    rw [List.length_append, List.length_singleton]
    exact l
  · obtain ⟨i', y, rfl, e', y0, yp⟩ := h.p1 i hi
    refine ⟨i', y, rfl, ?_, y0, yp⟩
    show (S.fr.set j c.st)[i']? = some y
    rw [List.getElem?_set_ne fun z => y0 (by rw [z, e'] at e; exact Option.some.inj e)]
    exact e'
  · obtain ⟨i', e', y0, m⟩ := h.p2 y hy
    refine ⟨i', ?_, y0, m⟩
    show (S.fr.set j c.st)[i']? = some y
    rw [List.getElem?_set_ne fun z => y0 (by rw [z, e'] at e; exact Option.some.inj e)]
    exact e'
/-- a place can be had -/
theorem GI.both (h : GI k S pins) (zf : 0 ∉ S.fr) (zs : 0 ∉ S.pl.st) (nb : both S = []) : S.fr.length + S.pl.st.length ≤ S.cs.length := by
  have n1 := h.uf.nodup zf
  have n2 := h.us.nodup zs
  have := nd_len (l := S.fr ++ S.pl.st) (m := S.cs.map (·.st)) (List.nodup_append.mpr ⟨n1, n2, fun a ha c hc z => ?_⟩) fun x hx => (h.lv x).mpr ?_
  · rw [List.length_append, List.length_map] at this
    exact this
  · have a0 : a ≠ 0 := fun y => zf (y ▸ ha)
    have : a ∈ Lw.both S := List.mem_filter.mpr ⟨ha, by rw [decide_eq_true a0, decide_eq_true (show a ∈ S.pl.st from z ▸ hc)]; rfl⟩
    rw [nb] at this
    cases this
  · rcases List.mem_append.mp hx with y | y
    · exact ⟨fun z => zf (z ▸ y), .inl y⟩
    · exact ⟨fun z => zs (z ▸ y), .inr y⟩
theorem GI.can {x : Int} (h : GI k S pins) (hx : x ∈ S.cs.map (·.st)) (nx : x ∉ S.fr) (zf : 0 ∉ S.fr) : CanO S := fun _ _ _ zs nb => by
  have := h.both zf zs nb
  have l := h.lr
  have r := h.room
  have ps := List.length_pos_of_mem (((h.lv x).mp hx).2.resolve_left nx)
  have e : max 0 ((S.pl.st.length : Int) - 1) = (S.pl.st.length : Int) - 1 := by omega
  rw [e] at r
  omega
theorem GI.can1 (h : GI k S pins) (zf : 0 ∉ S.fr) (l : (S.cs.length : Int) + 1 ≤ k.room) : CanO S := fun _ _ _ zs nb => by
  have := h.both zf zs nb
  have r := h.room
  have e : max 0 ((S.pl.st.length : Int) - 1) ≤ (S.pl.st.length : Int) := by omega
  omega
end

end

section

-- a condition of an operator
local macro_rules | `(tactic| walk_at "cond") => `(tactic| first
  | (show (0 : Int) < _; omega)
  | (show CDiv _ _; constructor <;> (first | decide | omega))
  | (show CMul _ _; first | (refine cmul_l ?_; constructor <;> (first | decide | omega)) | (refine cmul_r ?_; constructor <;> (first | decide | omega)))
  | (show CPow _ _; exact (by refine ⟨by decide, by decide, by decide⟩))
  | (show CDivW _ _; exact ⟨by decide, by decide +kernel⟩))
local macro_rules | `(tactic| walk_at "sq") => `(tactic| first | assumption | exact Dh.mono (same_upd (by assumption)) _ _ (by assumption) | exact .inl (.inl (.inl (by assumption))) | exact .inr (.inl (.inl (by assumption))) | exact SqL.of (by assumption) | exact .inl (by assumption) | exact .inl (SqL.of (by assumption)) | exact SqT.of (by assumption) | exact .inr (SqT.of (by assumption)))
local macro_rules | `(tactic| walk_at "st") => `(tactic| first
  | refine ⟨_, rfl, ?_⟩
  | refine ⟨_, _, rfl, rfl, ?_⟩
  | refine .inl ⟨_, rfl, ?_⟩
  | refine ⟨rfl, ?_⟩
  | refine ⟨_, _, rfl, by walk_at "sq", ?_⟩
  | refine ⟨.inl ⟨rfl, _, SqL.of (by assumption)⟩, ?_⟩
  | refine ⟨by walk_at "cond", ?_⟩
  | (refine' ifBT ?hh ?_; (case hh => first | rfl | assumption))
  | (refine' ifBF ?hh ?_; (case hh => first | rfl | assumption)))
local macro_rules | `(tactic| walk_at "go") => `(tactic| repeat walk_at "st")
local macro_rules | `(tactic| walk_at "yes") => `(tactic| (refine' ifT ?hh ?_; (case hh => first | rfl | decide +kernel)))
local macro_rules | `(tactic| walk_at "no") => `(tactic| (refine' ifF ?hh ?_; (case hh => first | decide +kernel | (intro z; cases z; done))))

local macro_rules | `(tactic| walk_at "st") => `(tactic| refine ⟨_, _, _, _, _, rfl, by assumption, by assumption, by omega, by omega, by omega, by omega, by omega, ?_⟩)
local macro_rules | `(tactic| walk_at "st") => `(tactic| refine ⟨_, _, _, _, _, rfl, Same.seq (by assumption) (by assumption), by assumption, by omega, by omega, by omega, by omega, by omega, ?_⟩)

/-! ### each deed keeps it -/
def setC (cs : List Cont) (x : Int) (b' : List Int) : List Cont := cs.map fun c => if c.st = x then ⟨c.st, c.ad, b'⟩ else c
def renC (cs : List Cont) (x y : Int) : List Cont := cs.filter (fun c => decide (c.st ≠ x)) ++ (cs.filter fun c => decide (c.st = x)).map fun c => ⟨y, c.ad, c.by'⟩
def stoG (S : GS) (x : Int) (b' : List Int) : GS := ⟨S.fr, freeS S.pl x, S.calls, S.hand, S.fl, S.us, S.bits, setC S.cs x b', S.pn, S.lf⟩
def renG (S : GS) (x y : Int) : GS := ⟨S.fr.set (S.fr.idxOf x) y, freeS S.pl x, S.calls, S.hand, S.fl, S.us, S.bits, renC S.cs x y, S.pn, S.lf⟩
def addG (S : GS) (c : Cont) : GS := ⟨S.fr, S.pl, S.calls, S.hand, S.fl, S.us, S.bits, S.cs ++ [c], S.pn, S.lf⟩
def unG (S : GS) : GS := ⟨S.fr, S.pl, S.calls, S.hand, S.fl, S.us, S.bits, S.cs, [], S.lf⟩
theorem setC_st (cs : List Cont) (x : Int) (b' : List Int) : (setC cs x b').map (·.st) = cs.map (·.st) := by
  unfold setC
  rw [List.map_map]
  refine List.map_congr_left fun c _ => ?_
  show (if c.st = x then (⟨c.st, c.ad, b'⟩ : Cont) else c).st = c.st
  split <;> rfl
section
variable {k : GK} {S S' : GS} {pins pins' : List Int} {b : Nat}
theorem GI.free (h : GI k S pins) (l : pins.length + 1 ≤ S.fr.length) : 0 ∈ S.fr ∨ freeF S ≠ [] := by
  by_cases zf : 0 ∈ S.fr
  · exact .inl zf
  refine .inr fun e => ?_
  have := nd_len (h.uf.nodup zf) (m := pins) fun x hx => ?_
  · omega
  · obtain ⟨i, hi⟩ := List.getElem?_of_mem hx
    have ip : (i : Int) ∈ S.pn := by
      refine Decidable.byContradiction fun c => ?_
      have : (i : Int) ∈ freeF S := List.mem_filter.mpr ⟨?_, decide_eq_true c⟩
      · rw [e] at this
        cases this
      · unfold natsI
        exact List.mem_map.mpr ⟨i, List.mem_range.mpr (List.getElem?_eq_some_iff.mp hi).1, rfl⟩
    obtain ⟨j, y, ij, e1, _, yp⟩ := h.p1 _ ip
    have : i = j := by omega
    subst this
    rw [hi] at e1
    rw [Option.some.inj e1]
    exact yp
theorem GI.idx (h : GI k S pins) {x : Int} (hx : x ∈ pins) : x ∈ S.fr ∧ ((S.fr.idxOf x : Nat) : Int) ∈ S.pn := by
  obtain ⟨j, e, x0, m⟩ := h.p2 x hx
  exact ⟨List.mem_of_getElem? e, by rw [h.uf.idx e x0]; exact m⟩
theorem GI.touch {i : Nat} (h : GI k S pins) : GI k (touchG S i) pins := ⟨h.kd, h.n, h.n1, h.n2, h.h0, h.h1, h.uf, h.us, h.lv, h.nd, h.room, h.lr, h.pn, h.p1, h.p2⟩
theorem GI.readd {x : Int} (h : GI k S pins) : GI k (readG S x) pins := ⟨h.kd, h.n, h.n1, h.n2, h.h0, h.h1, h.uf, h.us, h.lv, h.nd, h.room, h.lr, h.pn, h.p1, h.p2⟩
theorem GI.br {x : Int} (h : GI k S pins) (lb : S.bits.length = k.n) (d : Bd S b) (hx : x ∈ S.cs.map (·.st)) (o : BrR k S x S') : GI k S' pins ∧ x ∈ S'.fr ∧ S'.cs = S.cs ∧ Bd S' (b + 2) := by
  have x0 := ((h.lv x).mp hx).1
  rcases o with ⟨c, rfl⟩ | ⟨c, j, S1, jl, o, rfl⟩
  · exact ⟨h.touch, c, rfl, ⟨Nat.le_trans d.r (Nat.le_add_right ..), Nat.le_trans d.l (Nat.le_add_right ..)⟩⟩
  · obtain ⟨h1, e1, c1, f1, f2, d1, _⟩ := h.obt lb (fun _ y => y) d o
    have hx1 : x ∈ S1.cs.map (·.st) := c1 ▸ hx
    have nx : x ∉ S1.fr := fun z => c (f1 x x0 z)
    refine ⟨h1.readd.fill e1 nx x0 (((h1.lv x).mp hx1).2.resolve_left nx), ?_, c1, ⟨?_, Nat.le_trans d1.l (Nat.le_succ _)⟩⟩
    · exact List.mem_of_getElem? (i := j) (by show (S1.fr.set j x)[j]? = some x; rw [List.getElem?_set_self (List.getElem?_eq_some_iff.mp e1).1])
    · show (_ ++ _ : List _).length ≤ _
      rw [List.length_append]
      exact Nat.succ_le_succ d1.r
theorem frees_mem {ps : PS} (u : UQ ps.st) {x y : Int} (y0 : y ≠ 0) : y ∈ (freeS ps x).st ↔ y ∈ ps.st ∧ x ≠ y := by
  unfold freeS
  show y ∈ (if x ∈ ps.st then ps.st.set (ps.st.idxOf x) 0 else ps.st) ↔ _
  by_cases m : x ∈ ps.st
  · rw [if_pos m, mset u (idx_ok m).1 y0]
    exact ⟨fun z => z.elim (fun a => absurd a y0) id, .inr⟩
  · rw [if_neg m]
    exact ⟨fun z => ⟨z, fun e => m (e ▸ z)⟩, fun z => z.1⟩
theorem frees_uq {ps : PS} (u : UQ ps.st) {x : Int} : UQ (freeS ps x).st ∧ (freeS ps x).st.length = ps.st.length := by
  unfold freeS
  show UQ (if x ∈ ps.st then ps.st.set (ps.st.idxOf x) 0 else ps.st) ∧ (if x ∈ ps.st then ps.st.set (ps.st.idxOf x) 0 else ps.st).length = _
  split
  · exact ⟨u.set0, List.length_set ..⟩
  · exact ⟨u, rfl⟩
theorem GI.sto {x : Int} {b' : List Int} (h : GI k S pins) (hx : x ∈ S.fr) : GI k (stoG S x b') pins := by
  obtain ⟨u1, l1⟩ := frees_uq h.us (x := x)
  have lc : (setC S.cs x b').length = S.cs.length := List.length_map ..
  refine ⟨h.kd, h.n, h.n1, h.n2, h.h0, h.h1, h.uf, u1, fun y => ?_, ?_, ?_, ?_, h.pn, h.p1, h.p2⟩
  · show y ∈ (setC S.cs x b').map (·.st) ↔ y ≠ 0 ∧ (y ∈ S.fr ∨ y ∈ (freeS S.pl x).st)
    rw [setC_st, h.lv y]
    refine and_congr_right fun y0 => ?_
    rw [frees_mem h.us y0]
    constructor
    · rintro (a | a)
      · exact .inl a
      · by_cases e : x = y
        · exact .inl (e ▸ hx)
        · exact .inr ⟨a, e⟩
    · exact fun z => z.imp id (·.1)
  · show ((setC S.cs x b').map (·.st)).Nodup
    rw [setC_st]
    exact h.nd
  · show k.room = _ + max 0 (((freeS S.pl x).st.length : Int) - 1)
    rw [l1]
    exact h.room
  · show ((setC S.cs x b').length : Int) ≤ k.room
    rw [lc]
    exact h.lr
theorem filt_st (cs : List Cont) (x y : Int) : y ∈ (cs.filter fun c => decide (c.st ≠ x)).map (·.st) ↔ y ∈ cs.map (·.st) ∧ y ≠ x := by
  constructor
  · intro m
    obtain ⟨c, hc, rfl⟩ := List.mem_map.mp m
    obtain ⟨h1, h2⟩ := List.mem_filter.mp hc
    exact ⟨List.mem_map.mpr ⟨c, h1, rfl⟩, of_decide_eq_true h2⟩
  · rintro ⟨m, n⟩
    obtain ⟨c, hc, rfl⟩ := List.mem_map.mp m
    exact List.mem_map.mpr ⟨c, List.mem_filter.mpr ⟨hc, decide_eq_true n⟩, rfl⟩
theorem filt_one {cs : List Cont} (nd : (cs.map (·.st)).Nodup) {c : Cont} (hc : c ∈ cs) : cs.filter (fun d => decide (d.st = c.st)) = [c] := by
  induction cs with
  | nil => cases hc
  | cons d ds ih =>
    obtain ⟨n1, n2⟩ := List.nodup_cons.mp nd
    rcases List.mem_cons.mp hc with rfl | hc
    · rw [List.filter_cons_of_pos (by simp)]
      congr 1
      refine List.filter_eq_nil_iff.mpr fun e he => ?_
      simp only [decide_eq_true_eq]
      exact fun z => n1 (by show c.st ∈ ds.map _; rw [← z]; exact List.mem_map.mpr ⟨e, he, rfl⟩)
    · rw [List.filter_cons_of_neg (by simp only [decide_eq_true_eq]; exact fun z => n1 (by show d.st ∈ ds.map _; rw [z]; exact List.mem_map.mpr ⟨c, hc, rfl⟩))]
      exact ih n2 hc
theorem filt_len : ∀ {cs : List Cont} {c : Cont}, (cs.map (·.st)).Nodup → c ∈ cs → (cs.filter fun d => decide (d.st ≠ c.st)).length + 1 = cs.length
  | [], _, _, h => by cases h
  | d :: ds, c, nd, hc => by
    obtain ⟨n1, n2⟩ := List.nodup_cons.mp nd
    rcases List.mem_cons.mp hc with rfl | hc
    · have e : ds.filter (fun d => decide (d.st ≠ c.st)) = ds := List.filter_eq_self.mpr fun e he => decide_eq_true (by
        intro z
        exact n1 (by show c.st ∈ ds.map (·.st); rw [← z]; exact List.mem_map.mpr ⟨e, he, rfl⟩))
      rw [List.filter_cons_of_neg (by simp), e]
      rfl
    · have e : decide (d.st ≠ c.st) = true := decide_eq_true (by
        intro z
        exact n1 (by show d.st ∈ ds.map (·.st); rw [z]; exact List.mem_map.mpr ⟨c, hc, rfl⟩))
      rw [List.filter_cons_of_pos (p := fun d : Cont => decide (d.st ≠ c.st)) e]
      have := filt_len n2 hc
      rw [List.length_cons, List.length_cons]
      omega
theorem GI.rel {x : Int} (h : GI k S pins) (hx : x ∈ S.cs.map (·.st)) (hp : ∀ y, y ∈ pins' ↔ y ∈ pins ∧ y ≠ x) : GI k (relG S x) pins' := by
  have x0 := ((h.lv x).mp hx).1
  obtain ⟨u1, l1⟩ := frees_uq h.us (x := x)
  obtain ⟨c, hc, ec⟩ := List.mem_map.mp hx
  have lc := filt_len h.nd hc
  rw [ec] at lc
  have lv : ∀ fr : List Int, (∀ y, y ≠ 0 → (y ∈ fr ↔ y ∈ S.fr ∧ x ≠ y)) → ∀ y, y ∈ (S.cs.filter fun c => decide (c.st ≠ x)).map (·.st) ↔ y ≠ 0 ∧ (y ∈ fr ∨ y ∈ (freeS S.pl x).st) := fun fr hf y => by
    rw [filt_st, h.lv y]
    constructor
    · rintro ⟨⟨y0, a⟩, n⟩
      refine ⟨y0, ?_⟩
      rw [hf y y0, frees_mem h.us y0]
      exact a.imp (fun z => ⟨z, n.symm⟩) fun z => ⟨z, n.symm⟩
    · rintro ⟨y0, a⟩
      rw [hf y y0, frees_mem h.us y0] at a
      exact ⟨⟨y0, a.imp (·.1) (·.1)⟩, fun z => a.elim (fun t => t.2 z.symm) fun t => t.2 z.symm⟩
  have nd : ((S.cs.filter fun c => decide (c.st ≠ x)).map (·.st)).Nodup := h.nd.sublist ((List.filter_sublist).map _)
  have lr : ((S.cs.filter fun c => decide (c.st ≠ x)).length : Int) ≤ k.room := by have := h.lr; omega
  by_cases xf : x ∈ S.fr
  · have ix := (idx_ok xf).1
    have fl : (S.fr.set (S.fr.idxOf x) 0).length = S.fr.length := List.length_set ..
    have e : relF S x = emptyG S (S.fr.idxOf x) := by
      unfold relF
      rw [if_pos xf]
    unfold relG
    rw [e]
    refine ⟨h.kd, h.n.trans fl.symm, fl ▸ h.n1, fl ▸ h.n2, h.h0, ?_, h.uf.set0, u1, lv _ fun y y0 => ?_, nd, ?_, lr, h.pn.sublist List.filter_sublist, fun i hi => ?_, fun y hy => ?_⟩
    · show S.hand < ((S.fr.set _ 0).length : Int)
      rw [fl]
      exact h.h1
    · show y ∈ S.fr.set _ 0 ↔ _
      rw [mset h.uf ix y0]
      exact ⟨fun z => z.elim (fun a => absurd a y0) id, .inr⟩
    · show k.room = ((S.fr.set _ 0).length : Int) + max 0 (((freeS S.pl x).st.length : Int) - 1)
      rw [fl, l1]
      exact h.room
    · obtain ⟨hi1, hi2⟩ := List.mem_filter.mp hi
      obtain ⟨j, y, rfl, e', y0, yp⟩ := h.p1 i hi1
      have jn : S.fr.idxOf x ≠ j := fun z => of_decide_eq_true hi2 (by rw [z])
      refine ⟨j, y, rfl, ?_, y0, (hp y).mpr ⟨yp, fun z => jn ?_⟩⟩
      · show (S.fr.set _ 0)[j]? = some y
        rw [List.getElem?_set_ne jn]
        exact e'
      · rw [z] at e'
        exact h.uf.idx e' x0
    · obtain ⟨yp, yx⟩ := (hp y).mp hy
      obtain ⟨j, e', y0, m⟩ := h.p2 y yp
      have jn : S.fr.idxOf x ≠ j := fun z => yx (by rw [z, e'] at ix; exact Option.some.inj ix)
      refine ⟨j, ?_, y0, List.mem_filter.mpr ⟨m, decide_eq_true fun z => jn (by omega)⟩⟩
      show (S.fr.set _ 0)[j]? = some y
      rw [List.getElem?_set_ne jn]
      exact e'
  · have e : relF S x = S := by
      unfold relF
      rw [if_neg xf]
    unfold relG
    rw [e]
    refine ⟨h.kd, h.n, h.n1, h.n2, h.h0, h.h1, h.uf, u1, lv _ fun y y0 => ⟨fun z => ⟨z, fun t => xf (t ▸ z)⟩, fun z => z.1⟩, nd, ?_, lr, h.pn, fun i hi => ?_, fun y hy => ?_⟩
    · show k.room = (S.fr.length : Int) + max 0 (((freeS S.pl x).st.length : Int) - 1)
      rw [l1]
      exact h.room
    · obtain ⟨j, y, rfl, e', y0, yp⟩ := h.p1 i hi
      exact ⟨j, y, rfl, e', y0, (hp y).mpr ⟨yp, fun z => xf (z ▸ List.mem_of_getElem? e')⟩⟩
    · exact h.p2 y ((hp y).mp hy).1
theorem GI.ren {x y : Int} (h : GI k S pins) (hx : x ∈ S.cs.map (·.st)) (xf : x ∈ S.fr) (y0 : y ≠ 0) (ny : y ∉ S.cs.map (·.st)) (hp : ∀ z, z ∈ pins' ↔ (z ∈ pins ∧ z ≠ x) ∨ (z = y ∧ x ∈ pins)) : GI k (renG S x y) pins' := by
  have x0 := ((h.lv x).mp hx).1
  obtain ⟨u1, l1⟩ := frees_uq h.us (x := x)
  obtain ⟨c, hc, ec⟩ := List.mem_map.mp hx
  subst ec
  have lc := filt_len h.nd hc
  have fo := filt_one h.nd hc
  have nf : y ∉ S.fr := fun z => ny ((h.lv y).mpr ⟨y0, .inl z⟩)
  have ns : y ∉ S.pl.st := fun z => ny ((h.lv y).mpr ⟨y0, .inr z⟩)
  have ix := (idx_ok xf).1
  have fl : (S.fr.set (S.fr.idxOf c.st) y).length = S.fr.length := List.length_set ..
  have er : renC S.cs c.st y = S.cs.filter (fun d => decide (d.st ≠ c.st)) ++ [⟨y, c.ad, c.by'⟩] := by
    unfold renC
    rw [fo]
    rfl
  refine ⟨h.kd, h.n.trans fl.symm, fl ▸ h.n1, fl ▸ h.n2, h.h0, ?_, h.uf.set fun _ => nf, u1, fun z => ?_, ?_, ?_, ?_, h.pn, fun i hi => ?_, fun z hz => ?_⟩
  · show S.hand < ((S.fr.set _ y).length : Int)
    rw [fl]
    exact h.h1
  · show z ∈ (renC S.cs c.st y).map (·.st) ↔ z ≠ 0 ∧ (z ∈ S.fr.set _ y ∨ z ∈ (freeS S.pl c.st).st)
    rw [er, List.map_append, List.mem_append, filt_st, h.lv z]
    show _ ∨ z ∈ [y] ↔ _
    rw [List.mem_singleton]
    by_cases z0 : z = 0
    · subst z0
      exact ⟨fun t => t.elim (fun a => absurd rfl a.1.1) fun a => absurd a.symm y0, fun t => absurd rfl t.1⟩
    rw [mset h.uf ix z0, frees_mem h.us z0]
    constructor
    · rintro (⟨⟨_, a⟩, n⟩ | a)
      · exact ⟨z0, a.imp (fun t => .inr ⟨t, n.symm⟩) fun t => ⟨t, n.symm⟩⟩
      · exact ⟨z0, .inl (.inl a)⟩
    · rintro ⟨_, (a | a) | a⟩
      · exact .inr a
      · exact .inl ⟨⟨z0, .inl a.1⟩, fun t => a.2 t.symm⟩
      · exact .inl ⟨⟨z0, .inr a.1⟩, fun t => a.2 t.symm⟩
  · show ((renC S.cs c.st y).map (·.st)).Nodup
    rw [er, List.map_append]
    refine List.nodup_append.mpr ⟨h.nd.sublist ((List.filter_sublist).map _), by simp, fun a ha b hb z => ny ?_⟩
    have hb : b ∈ [y] := hb
    rw [← List.mem_singleton.mp hb, ← z]
    exact ((filt_st _ _ _).mp ha).1
  · show k.room = ((S.fr.set _ y).length : Int) + max 0 (((freeS S.pl c.st).st.length : Int) - 1)
    rw [fl, l1]
    exact h.room
  · show ((renC S.cs c.st y).length : Int) ≤ k.room
    rw [er, List.length_append, List.length_singleton, lc]
    exact h.lr
  · obtain ⟨j, z, rfl, e', z0, zp⟩ := h.p1 i hi
    by_cases jx : S.fr.idxOf c.st = j
    · refine ⟨j, y, rfl, ?_, y0, (hp y).mpr (.inr ⟨rfl, ?_⟩)⟩
      · show (S.fr.set _ y)[j]? = some y
        rw [jx, List.getElem?_set_self (List.getElem?_eq_some_iff.mp e').1]
      · rw [jx, e'] at ix
        rw [← Option.some.inj ix]
        exact zp
    · refine ⟨j, z, rfl, ?_, z0, (hp z).mpr (.inl ⟨zp, fun t => jx ?_⟩)⟩
      · show (S.fr.set _ y)[j]? = some z
        rw [List.getElem?_set_ne jx]
        exact e'
      · rw [t] at e'
        exact h.uf.idx e' x0
  · rcases (hp z).mp hz with ⟨zp, zx⟩ | ⟨rfl, xp⟩
    · obtain ⟨j, e', z0, m⟩ := h.p2 z zp
      refine ⟨j, ?_, z0, m⟩
      show (S.fr.set _ y)[j]? = some z
      rw [List.getElem?_set_ne fun t => zx (by rw [t, e'] at ix; exact Option.some.inj ix)]
      exact e'
    · obtain ⟨j, e', _, m⟩ := h.p2 c.st xp
      refine ⟨j, ?_, y0, m⟩
      show (S.fr.set (S.fr.idxOf c.st) z)[j]? = some z
      rw [h.uf.idx e' x0, List.getElem?_set_self (List.getElem?_eq_some_iff.mp e').1]
theorem GI.pin {x : Int} (h : GI k S pins) (xf : x ∈ S.fr) (x0 : x ≠ 0) (hp : ∀ y, y ∈ pins' ↔ y ∈ pins ∨ y = x) : GI k (pinG S x) pins' := by
  have ix := (idx_ok xf).1
  refine ⟨h.kd, h.n, h.n1, h.n2, h.h0, h.h1, h.uf, h.us, h.lv, h.nd, h.room, h.lr, ?_, fun i hi => ?_, fun y hy => ?_⟩
  · show (pinP S.pn _).Nodup
    unfold pinP
    split
    · exact h.pn
    · next c =>
      refine List.nodup_append.mpr ⟨h.pn, by simp, fun a ha b hb z => c ?_⟩
      rw [← List.mem_singleton.mp hb, ← z]
      exact ha
  · have hi : i ∈ pinP S.pn ((S.fr.idxOf x : Nat) : Int) := hi
    have : i ∈ S.pn ∨ i = ((S.fr.idxOf x : Nat) : Int) := by
      unfold pinP at hi
      split at hi
      · exact .inl hi
      · exact (List.mem_append.mp hi).imp id fun z => List.mem_singleton.mp z
    rcases this with a | a
    · obtain ⟨j, y, e1, e2, y0, yp⟩ := h.p1 i a
      exact ⟨j, y, e1, e2, y0, (hp y).mpr (.inl yp)⟩
    · exact ⟨_, x, a, ix, x0, (hp x).mpr (.inr rfl)⟩
  · rcases (hp y).mp hy with a | a
    · obtain ⟨j, e, y0, m⟩ := h.p2 y a
      refine ⟨j, e, y0, ?_⟩
      show (j : Int) ∈ pinP S.pn _
      unfold pinP
      split
      · exact m
      · exact List.mem_append_left _ m
    · rw [a]
      refine ⟨_, ix, x0, ?_⟩
      show _ ∈ pinP S.pn _
      unfold pinP
      split
      · next c => exact c
      · exact List.mem_append_right _ (List.mem_singleton.mpr rfl)
theorem GI.unp (h : GI k S pins) : GI k (unG S) [] := ⟨h.kd, h.n, h.n1, h.n2, h.h0, h.h1, h.uf, h.us, h.lv, h.nd, h.room, h.lr, List.nodup_nil, fun _ z => (by cases z), fun _ z => (by cases z)⟩
theorem GI.bes {f : Nat} {x : Int} (h : GI k S pins) (e : S.fr[f]? = some x) (x0 : x ≠ 0) (eb : beside S f = []) : 0 ∉ S.fr := fun z => by
  have i0 := (idx_ok z).1
  have np : ((S.fr.idxOf 0 : Nat) : Int) ∉ S.pn := fun m => by
    obtain ⟨j, y, ij, e1, y0, _⟩ := h.p1 _ m
    have : S.fr.idxOf 0 = j := by omega
    rw [this, e1] at i0
    exact y0 (Option.some.inj i0)
  have fn : S.fr.idxOf 0 ≠ f := fun t => x0 (by rw [t, e] at i0; exact Option.some.inj i0)
  have m1 : ((S.fr.idxOf 0 : Nat) : Int) ∈ freeF S := List.mem_filter.mpr ⟨by unfold natsI; exact List.mem_map.mpr ⟨_, List.mem_range.mpr (idx_lt z), rfl⟩, decide_eq_true np⟩
  have m2 : ((S.fr.idxOf 0 : Nat) : Int) ∈ beside S f := List.mem_filter.mpr ⟨m1, decide_eq_true fun t => fn (by omega)⟩
  rw [eb] at m2
  cases m2
theorem GI.bes2 {f : Nat} (h : GI k S pins) (l : pins.length + 1 ≤ S.fr.length) : 0 ∈ S.fr ∨ beside S f ≠ [] ∨ (f : Int) ∉ S.pn := by
  rcases h.free l with z | z
  · exact .inl z
  by_cases m : (f : Int) ∈ S.pn
  · refine .inr (.inl fun e => z (List.eq_nil_iff_forall_not_mem.mpr fun i hi => ?_))
    have hn : i ∉ beside S f := by
      rw [e]
      exact List.not_mem_nil
    have : i ≠ (f : Int) := fun t => by
      have := (List.mem_filter.mp hi).2
      rw [t] at this
      exact of_decide_eq_true this m
    exact hn (List.mem_filter.mpr ⟨hi, decide_eq_true this⟩)
  · exact .inr (.inr m)
theorem GI.obB {f j : Nat} {x : Int} (h : GI k S pins) (lb : S.bits.length = k.n) (d : Bd S b) (e : S.fr[f]? = some x) (x0 : x ≠ 0) (o : ObBR k S f j S') : GI k S' pins ∧ S'.fr[j]? = some 0 ∧ S'.cs = S.cs ∧ Bd S' (b + 1) := by
  rcases o with ⟨_, o⟩ | ⟨eb, np, rfl, y, ps, e2, m, rfl⟩
  · obtain ⟨a1, a2, a3, _, _, a4, _⟩ := h.obt lb (fun i hi => (List.mem_filter.mp hi).1) d o
    exact ⟨a1, a2, a3, a4⟩
  · obtain rfl : x = y := by
      rw [e] at e2
      exact Option.some.inj e2
    have xf := List.mem_of_getElem? e
    have ij := h.uf.idx e x0
    refine ⟨(h.out xf x0 (by rw [ij]; exact np) m).1, ?_, rfl, mv_bd d m⟩
    show (S.fr.set (S.fr.idxOf x) 0)[j]? = some 0
    rw [ij, List.getElem?_set_self (List.getElem?_eq_some_iff.mp e).1]
theorem GI.pnl (h : GI k S pins) : S.pn.length ≤ 1000 := by
  have := nd_len (m := natsI S.fr.length) h.pn fun i hi => by
    obtain ⟨j, y, rfl, e, _⟩ := h.p1 i hi
    unfold natsI
    exact List.mem_map.mpr ⟨j, List.mem_range.mpr (List.getElem?_eq_some_iff.mp e).1, rfl⟩
  unfold natsI at this
  rw [List.length_map, List.length_range] at this
  have := h.n2
  omega
end

end

section

-- a condition of an operator
local macro_rules | `(tactic| walk_at "cond") => `(tactic| first
  | (show (0 : Int) < _; omega)
  | (show CDiv _ _; constructor <;> (first | decide | omega))
  | (show CMul _ _; first | (refine cmul_l ?_; constructor <;> (first | decide | omega)) | (refine cmul_r ?_; constructor <;> (first | decide | omega)))
  | (show CPow _ _; exact (by refine ⟨by decide, by decide, by decide⟩))
  | (show CDivW _ _; exact ⟨by decide, by decide +kernel⟩))
local macro_rules | `(tactic| walk_at "sq") => `(tactic| first | assumption | exact Dh.mono (same_upd (by assumption)) _ _ (by assumption) | exact .inl (.inl (.inl (by assumption))) | exact .inr (.inl (.inl (by assumption))) | exact SqL.of (by assumption) | exact .inl (by assumption) | exact .inl (SqL.of (by assumption)) | exact SqT.of (by assumption) | exact .inr (SqT.of (by assumption)))
local macro_rules | `(tactic| walk_at "st") => `(tactic| first
  | refine ⟨_, rfl, ?_⟩
  | refine ⟨_, _, rfl, rfl, ?_⟩
  | refine .inl ⟨_, rfl, ?_⟩
  | refine ⟨rfl, ?_⟩
  | refine ⟨_, _, rfl, by walk_at "sq", ?_⟩
  | refine ⟨.inl ⟨rfl, _, SqL.of (by assumption)⟩, ?_⟩
  | refine ⟨by walk_at "cond", ?_⟩
  | (refine' ifBT ?hh ?_; (case hh => first | rfl | assumption))
  | (refine' ifBF ?hh ?_; (case hh => first | rfl | assumption)))
local macro_rules | `(tactic| walk_at "go") => `(tactic| repeat walk_at "st")
local macro_rules | `(tactic| walk_at "yes") => `(tactic| (refine' ifT ?hh ?_; (case hh => first | rfl | decide +kernel)))
local macro_rules | `(tactic| walk_at "no") => `(tactic| (refine' ifF ?hh ?_; (case hh => first | decide +kernel | (intro z; cases z; done))))

local macro_rules | `(tactic| walk_at "st") => `(tactic| refine ⟨_, _, _, _, _, rfl, by assumption, by assumption, by omega, by omega, by omega, by omega, by omega, ?_⟩)
local macro_rules | `(tactic| walk_at "st") => `(tactic| refine ⟨_, _, _, _, _, rfl, Same.seq (by assumption) (by assumption), by assumption, by omega, by omega, by omega, by omega, by omega, ?_⟩)

/-! ### a slice of a list is written -/
def sSls (to' : TE) (tl th : TO) (tv : TE) : TS := fun D σ H => tv σ H fun v H1 => to' σ H1 fun x H2 => tl σ H2 fun l H3 => th σ H3 fun u H4 => ∃ (a b : Addr) (xs ys : List V) (lo hi : Int), x = .ref a ∧ v = .ref b ∧ l = some lo ∧ u = some hi ∧ H4 a = some (.lst xs) ∧ H4 b = some (.lst ys) ∧ a ≠ b ∧ 0 ≤ lo ∧ lo ≤ hi ∧ hi ≤ xs.length ∧ xs.length + ys.length ≤ sizeLine ∧ D.nx σ (upd H4 a (.lst (xs.take lo.toNat ++ ys ++ xs.drop hi.toNat)))
theorem ps_sls {X : Cx} {o value : Expr} {lo hi : Option Expr} {p2 pos pos' : Pos} {to' tv : TE} {tl th : TO} (ho : PE X o to') (hl : PO X lo tl) (hu : PO X hi th) (hv : PE X value tv) (hs : swapsWith value (some (.Subscript o (.Slice lo hi none p2) pos')) pos.line X.env = pure false) :
    L2.PS X (.Assign [.Subscript o (.Slice lo hi none p2) pos'] value pos) (sSls to' tl th tv) :=
  ⟨fun pins s σ H D I h => by
    refine wpAny_Assign_Subscript (thn (hv.run pins s σ H _ I h) fun r s1 ⟨v, H1, I1, rv, q1⟩ => ?_) hs
    refine thn (ho.run pins s1 σ H1 _ I1 q1) fun ou s2 ⟨x, H2, I2, rx, q2⟩ => ?_
    refine wpAny_Slice (thn (hl.run pins s2 σ H2 _ I2 q2) fun vl s3 ⟨l, H3, I3, pl, q3⟩ => ?_)
    refine thn (hu.run pins s3 σ H3 _ I3 q3) fun vu s4 ⟨u, H4, I4, pu, q4⟩ => ?_
    rw [evalPart_none]
    refine wpAny_pure ?_
    obtain ⟨a, b, xs, ys, lo', hi', rfl, rfl, rfl, rfl, ga, gb, n, l0, lh, hx, sz, q⟩ := q4
    have I5 := I4.kept (t' := s4.toks) fun b ob q => Heap.get?_push_of_some { cls := Value.type "slice", data := Data.fields #[vl, vu, Value.none] } q
    cases (show ou = Value.ref a from rx)
    cases (show r = Value.ref b from rv)
    cases pl
    cases pu
    exact set_slice I5 ga gb n (Heap.IsSliceOf.new s4.1 _ _ _) ⟨_, rfl⟩ ⟨_, rfl⟩ l0 lh hx sz fun s6 I6 => ⟨σ, _, I6, q⟩⟩

end

section

-- a condition of an operator
local macro_rules | `(tactic| walk_at "cond") => `(tactic| first
  | (show (0 : Int) < _; omega)
  | (show CDiv _ _; constructor <;> (first | decide | omega))
  | (show CMul _ _; first | (refine cmul_l ?_; constructor <;> (first | decide | omega)) | (refine cmul_r ?_; constructor <;> (first | decide | omega)))
  | (show CPow _ _; exact (by refine ⟨by decide, by decide, by decide⟩))
  | (show CDivW _ _; exact ⟨by decide, by decide +kernel⟩))
local macro_rules | `(tactic| walk_at "sq") => `(tactic| first | assumption | exact Dh.mono (same_upd (by assumption)) _ _ (by assumption) | exact .inl (.inl (.inl (by assumption))) | exact .inr (.inl (.inl (by assumption))) | exact SqL.of (by assumption) | exact .inl (by assumption) | exact .inl (SqL.of (by assumption)) | exact SqT.of (by assumption) | exact .inr (SqT.of (by assumption)))
local macro_rules | `(tactic| walk_at "st") => `(tactic| first
  | refine ⟨_, rfl, ?_⟩
  | refine ⟨_, _, rfl, rfl, ?_⟩
  | refine .inl ⟨_, rfl, ?_⟩
  | refine ⟨rfl, ?_⟩
  | refine ⟨_, _, rfl, by walk_at "sq", ?_⟩
  | refine ⟨.inl ⟨rfl, _, SqL.of (by assumption)⟩, ?_⟩
  | refine ⟨by walk_at "cond", ?_⟩
  | (refine' ifBT ?hh ?_; (case hh => first | rfl | assumption))
  | (refine' ifBF ?hh ?_; (case hh => first | rfl | assumption)))
local macro_rules | `(tactic| walk_at "go") => `(tactic| repeat walk_at "st")
local macro_rules | `(tactic| walk_at "yes") => `(tactic| (refine' ifT ?hh ?_; (case hh => first | rfl | decide +kernel)))
local macro_rules | `(tactic| walk_at "no") => `(tactic| (refine' ifF ?hh ?_; (case hh => first | decide +kernel | (intro z; cases z; done))))

local macro_rules | `(tactic| walk_at "st") => `(tactic| refine ⟨_, _, _, _, _, rfl, by assumption, by assumption, by omega, by omega, by omega, by omega, by omega, ?_⟩)
local macro_rules | `(tactic| walk_at "st") => `(tactic| refine ⟨_, _, _, _, _, rfl, Same.seq (by assumption) (by assumption), by assumption, by omega, by omega, by omega, by omega, by omega, ?_⟩)

/-! ### a method that may raise, without arguments -/
def tMtE0 (C : Addr) (m : Str) (sp : Sp) (E : L2.St → XK) (ta : TE) : TE := fun σ H Q => ta σ H fun x H1 => ∃ a dx fs, x = .ref a ∧ H1 a = some (.ins C dx fs) ∧ fs.lookup m = none ∧ sp [x] H1 Q (E σ)
section
variable {X : Cx} {m : Str} {C : Addr} {pos apos : Pos} {o : Expr} {ta : TE} {sp : Sp} {k j : Nat}
theorem pe_mE0 {pl : Sem Bool} (c : MetE X.prog X.w X.K X.mg X.base k C m sp) {W : WX} (tk : Takes X W) (hr : Room j X.A) (hk : k ≤ j) (he : PE X o ta)
    (ht : eval (.Call (.Attribute o m apos) [] [] pos) X.env = (do
      let ov ← eval o X.env
      standAt apos.atName
      let (f, first) ← holding [ov] (getMethod ov m pl)
      callWith pos f first (backTo pos (starEach [] X.env)) (backToKw pos (keywordEach [] X.env))) := by rfl) : PE X (.Call (.Attribute o m apos) [] [] pos) (tMtE0 C m sp (WE W) ta) := by
  obtain ⟨f, fd, ps, hc, hm, F, b⟩ := c.ex
  refine ⟨fun pins s σ H Q I h => PySem.W.methodCall_KW (pl := pl) (thn (he.run pins s σ H _ I h) fun u s1 ⟨x, H1, I1, rx, a, dx, fs, ex, ea, l, q⟩ => ?_) ht⟩
  subst ex
  cases (show u = Value.ref a from rx)
  exact getmeth_ok I1 ea hc hm l (PySem.W.callWith_K0 (first := [.ref a]) I1.kIn hm.kp (run_fnS (us := [.ref a]) (vs := [.ref a]) (F.mono hk) hr b (passAt tk σ) I1 (.cons rfl .nil) q))
end

end

section

-- a condition of an operator
local macro_rules | `(tactic| walk_at "cond") => `(tactic| first
  | (show (0 : Int) < _; omega)
  | (show CDiv _ _; constructor <;> (first | decide | omega))
  | (show CMul _ _; first | (refine cmul_l ?_; constructor <;> (first | decide | omega)) | (refine cmul_r ?_; constructor <;> (first | decide | omega)))
  | (show CPow _ _; exact (by refine ⟨by decide, by decide, by decide⟩))
  | (show CDivW _ _; exact ⟨by decide, by decide +kernel⟩))
local macro_rules | `(tactic| walk_at "sq") => `(tactic| first | assumption | exact Dh.mono (same_upd (by assumption)) _ _ (by assumption) | exact .inl (.inl (.inl (by assumption))) | exact .inr (.inl (.inl (by assumption))) | exact SqL.of (by assumption) | exact .inl (by assumption) | exact .inl (SqL.of (by assumption)) | exact SqT.of (by assumption) | exact .inr (SqT.of (by assumption)))
local macro_rules | `(tactic| walk_at "st") => `(tactic| first
  | refine ⟨_, rfl, ?_⟩
  | refine ⟨_, _, rfl, rfl, ?_⟩
  | refine .inl ⟨_, rfl, ?_⟩
  | refine ⟨rfl, ?_⟩
  | refine ⟨_, _, rfl, by walk_at "sq", ?_⟩
  | refine ⟨.inl ⟨rfl, _, SqL.of (by assumption)⟩, ?_⟩
  | refine ⟨by walk_at "cond", ?_⟩
  | (refine' ifBT ?hh ?_; (case hh => first | rfl | assumption))
  | (refine' ifBF ?hh ?_; (case hh => first | rfl | assumption)))
local macro_rules | `(tactic| walk_at "go") => `(tactic| repeat walk_at "st")
local macro_rules | `(tactic| walk_at "yes") => `(tactic| (refine' ifT ?hh ?_; (case hh => first | rfl | decide +kernel)))
local macro_rules | `(tactic| walk_at "no") => `(tactic| (refine' ifF ?hh ?_; (case hh => first | decide +kernel | (intro z; cases z; done))))

local macro_rules | `(tactic| walk_at "st") => `(tactic| refine ⟨_, _, _, _, _, rfl, by assumption, by assumption, by omega, by omega, by omega, by omega, by omega, ?_⟩)
local macro_rules | `(tactic| walk_at "st") => `(tactic| refine ⟨_, _, _, _, _, rfl, Same.seq (by assumption) (by assumption), by assumption, by omega, by omega, by omega, by omega, by omega, ?_⟩)

/-! ### begin -/
abbrev s_Pager_begin : Stmt := inClass (topS 13) 3
theorem sc_Pager_begin : FnScope ["self", "stamp", "frame"] ["self", "stamp"] (C8.fnScope s_Pager_begin) := C8.fnScope_by (by decide +kernel)
theorem cs_put {cs : List Cont} {c : Cont} (n : c.st ∉ cs.map (·.st)) : putK (cs.map Cont.row) (.inl c.st) (.ref c.ad) = (cs ++ [c]).map Cont.row := by
  unfold putK
  have e : ((cs.map Cont.row).any fun kv => decide (kv.1 = .inl c.st)) = false := by
    rw [List.any_map, List.any_eq_false]
    intro d hd z
    have : (Cont.row d).1 = .inl c.st := of_decide_eq_true z
    exact n (List.mem_map.mpr ⟨d, hd, Sum.inl.inj this⟩)
  rw [e, List.map_append]
  rfl
/-- a content is added -/
theorem PgAt.add {C : GC} {H H' : Hp} {A : GA} {k : GK} {S : GS} {c : Cont} (h : PgAt C H A k S) (b : ButT [A.da] H H') (n : H c.ad = none) (e : H' A.da = some (.dK ((S.cs ++ [c]).map Cont.row))) (g : H' c.ad = some (.lst (c.by'.map V.int))) : PgAt C H' A k (addG S c) := by
  have na : c.ad ∉ A.all S.cs := fun z => h.live _ z n
  refine h.putD (cs := S.cs ++ [c]) b (fun a _ z => List.mem_singleton.mp z) (fun a z => by rw [List.mem_singleton.mp z]; exact .dK h.d) e (fun x hx => ?_) ?_
  · rcases List.mem_append.mp hx with y | y
    · exact b _ _ (by simpa using h.xn (a := A.da) (by simp [GA.fix]) y) (fun _ z => by cases z) (h.c x y)
    · rw [List.mem_singleton.mp y]
      exact g
  · unfold GA.all
    rw [List.map_append, ← List.append_assoc]
    refine List.nodup_append.mpr ⟨h.nd, by simp, fun a ha x hx z => na ?_⟩
    have hx : x ∈ [c.ad] := hx
    rw [← List.mem_singleton.mp hx, ← z]
    exact ha
theorem fr_fix {A : GA} {a : Addr} (h : a ∈ A.fr) : a ∈ A.fix := by
  simp only [GA.fr, GA.plc, GA.fix, List.mem_cons, List.not_mem_nil, or_false] at h ⊢
  rcases h with rfl | rfl | rfl | rfl | rfl | rfl | rfl | rfl | rfl <;> simp
theorem add_len (S : GS) (c : Cont) : (addG S c).fr.length = S.fr.length := rfl
/-- an address that no object but a table had -/
def NewA (H : Hp) (a : Addr) : Prop := ∀ o, H a = some o → ∃ ps, o = HO.tbl ps
theorem NewA.of {H : Hp} {a : Addr} (h : H a = none) : NewA H a := fun o e => by
  rw [h] at e
  cases e
theorem NewA.same {H H' : Hp} {a : Addr} (h : NewA H' a) (s : Same H H') : NewA H a := fun o e => h o (s _ _ e)
theorem NewA.butT {H H' : Hp} {a : Addr} {l : List Addr} (h : NewA H' a) (b : ButT l H H') (n : a ∉ l) : NewA H a := fun o e => by
  refine Classical.byContradiction fun c => c (h o (b a o n (fun ps z => c ⟨ps, z⟩) e))
theorem NewA.ne {H : Hp} {a b : Addr} {o : HO} (h : NewA H a) (e : H b = some o) (n : ∀ ps, o ≠ .tbl ps) : a ≠ b := fun z => by
  subst z
  obtain ⟨ps, z⟩ := h o e
  exact n ps z
def spBeg (C : GC) (PT D D2 : Addr) : Sp := fun vs H Q E => ∃ (A : GA) (k : GK) (S : GS) (x : Int) (z : Nat), vs = [.ref A.p, .int x] ∧ PgAt C H A k S ∧ GOk k S ∧ k.size = z ∧ z ≤ 1000 ∧ S.cs.length ≤ 10000 ∧ 0 ≤ k.room ∧ k.room ≤ 100000 ∧ x ∉ S.cs.map (·.st) ∧ (0 ∉ S.fr → (S.cs.length : Int) + 1 ≤ k.room → CanO S) ∧ Tabs (chT PT) H ∧
  ((S.cs.length : Int) + 1 ≤ k.room → 0 ∈ S.fr ∨ freeF S ≠ [] → ∀ (j : Nat) S1 ad H', j < S.fr.length → ObR k S (freeF S) j S1 → NewA H ad → PgAt C H' A k (fillG (addG S1 (Cont.mk x ad (List.replicate z 0))) j x) → ButT (A.cf :: A.cu :: A.da :: A.fr) H H' → Tabs (chT PT) H' → Q .non H') ∧
  (¬ (S.cs.length : Int) + 1 ≤ k.room → ∀ d, H d = none → E (.ref D2) (some d) (upd H d (.xd (nlF ((S.cs.length : Int) + 1) k.room)))) ∧
  ((S.cs.length : Int) + 1 ≤ k.room → 0 ∉ S.fr → freeF S = [] → ∀ H1 d, Same H H1 → H1 d = none → E (.ref D) (some d) (upd H1 d (.xd (nlF ((S.fr.length : Int) + 1) S.fr.length))))
theorem obr_cs {k : GK} {S S' : GS} {als : List Int} {j : Nat} (h : ObR k S als j S') : S'.cs = S.cs := by
  rcases h with ⟨_, _, rfl⟩ | ⟨_, _, _, _, _, _, _, mv, rfl⟩ <;> rfl
section
variable {P : Program} {w : World} {K : PySem.W.Frag} {mg : Str → Option Value} {base : Heap} {C : GC} {PT D2 D : Addr}
theorem ok_beg {f : Addr} {fd : FuncData} (F : C8.Fun K "begin" "Pager.begin" s_Pager_begin f fd) (M : Meth K C.g "begin" f) (b : Binds K fd ["self", "stamp"] []) (T : GTxt K mg C.g) (m_check_room : MetE P w K mg base 3 C.g "_check_room" (spChkR C D2)) (m_frames_to_choose : C8.Met P w K mg base 1 C.g "_frames_to_choose" (spFtc C) [])
    (m_obtain : MetE P w K mg base 4 C.g "_obtain" (spObG C PT D)) (m_fill : C8.Met P w K mg base 3 C.g "_fill" (spFillG C) []) : MetE P w K mg base 5 C.g "begin" (spBeg C PT D D2) := by
  refine metE T.cl M F b sc_Pager_begin (fun vs H Q E h => ?_) (fun cdv A0 outer s H vs Q E hr h => ?_)
  · obtain ⟨A, k, S, x, z, rfl, _⟩ := h
    rfl
  obtain ⟨A, k, S, x, z, rfl, hp, ok, ez, lz, lc, r0, r1, nx, can, hT, q1, q2, q3⟩ := h
  have m_frames_to_choose := metI m_frames_to_choose
  have m_fill := metI m_fill
  refine ⟨_, (pss_cons (ps_expr (pe_mE0 m_check_room (takes_of rfl rfl rfl rfl) hr (by omega) (pv 0)))
      (pss_cons (ps_set (i := 2) sc_Pager_begin.nd rfl (.inl rfl) (pe_mE m_obtain (takes_of rfl rfl rfl rfl) hr (by omega) (pv 0) (pa_cons (C8.pe_mt0 m_frames_to_choose hr (by omega) (pv 0)) pa_nil)))
      (pss_cons (ps_dput (hu_of hr) (pe_fld (pv 0) rfl) (pv 1) (pe_op op_rep (pe_lst (pa_cons pe_int pa_nil)) (pe_fld (pv 0) rfl)) rfl)
      (pss_one (ps_expr (C8.pe_mt m_fill hr (by omega) (pv 0) (pa_cons (pv 2) (pa_cons (pv 1) pa_nil)))))))), ?_⟩
  obtain ⟨dx, g⟩ := hp.g
  have kn := ok.n
  have n1 := ok.n1
  have n2 := ok.n2
  walk_at "go"
  refine ⟨A.p, _, _, rfl, g, pg_m2, ?_⟩
  refine ⟨A, k, S, rfl, hp, by omega, r0, r1, fun l => ?_, fun nl d nd => q2 nl d nd⟩
  walk_at "go"
  refine ⟨A.p, _, _, rfl, g, pg_m4, ?_⟩
  walk_at "go"
  refine ⟨A.p, _, _, rfl, g, pg_m3, ?_⟩
  walk_at "go"
  refine SpI.mk ⟨A, k, S, rfl, hp, n2, fun r H1 s1 rn gr => ?_⟩
  have hp1 := hp.same s1
  have hT1 := hT.ext s1
  walk_at "go"
  refine ⟨A, k, S, r, freeF S, rfl, hp1, ok, gr, (ne_of_none hp.ch.b rn).symm, Nat.le_trans (freeF_len S) n2, fun y hy => freeF_rng hy, fun z => can z l, hT1, fun zz j S1 H2 jl ob2 h2 b2 T2 => ?_, fun z0 ze d nd => q3 l z0 ze H1 d s1 nd⟩
  obtain ⟨l2, r2⟩ := obr_len ob2
  obtain ⟨dx2, g2⟩ := h2.g
  walk_at "go"
  refine ⟨sz, fun l1 n1' => ?_⟩
  have s3 := same_upd (o := HO.lst [V.int 0]) n1'
  have g3 := upd_same (H := H2) (a := l1) (o := HO.lst [V.int 0])
  have h3 := h2.same s3
  have T3 := T2.ext s3
  obtain ⟨dx3, gp3⟩ := h3.g
  show _
  generalize upd H2 l1 (HO.lst [V.int 0]) = H3 at *
  walk_at "go"
  refine ⟨_, _, _, _, _, rfl, gp3, T.cl, T.n4, pg_size, ?_⟩
  rw [ez]
  refine ⟨l1, z, [V.int 0], rfl, rfl, g3, by omega, by omega, (by rw [Int.toNat_natCast, List.length_singleton, sizeLine_eq]; omega), fun ad nad => ?_⟩
  rw [Int.toNat_natCast, rep1]
  have s4 := same_upd (o := HO.lst (List.replicate z (V.int 0))) nad
  have g4 := upd_same (H := H3) (a := ad) (o := HO.lst (List.replicate z (V.int 0)))
  have h4 := h3.same s4
  have T4 := T3.ext s4
  obtain ⟨dx4, gp4⟩ := h4.g
  have na0 : NewA H ad := ((NewA.of (s3.free nad)).butT b2 fun z => h2.live _ (List.mem_append_left _ (fr_fix z)) (s3.free nad)).same s1
  show _
  generalize upd H3 ad (HO.lst (List.replicate z (V.int 0))) = H4 at *
  walk_at "go"
  refine ⟨_, _, _, _, _, rfl, gp4, T.cl, T.n6, pg_c, ?_⟩
  walk_at "go"
  refine ⟨A.da, _, rfl, DPut.k (k := .inl x) h4.d (sz5 (by rw [List.length_map, obr_cs ob2]; omega)), ?_⟩
  have nx1 : x ∉ S1.cs.map (·.st) := by
    rw [obr_cs ob2]
    exact nx
  rw [cs_put (c := (Cont.mk x ad (List.replicate z 0))) nx1]
  have dne : ad ≠ A.da := fun e => by
    rw [e, h3.d] at nad
    cases nad
  have h5 : PgAt C (upd H4 A.da (.dK ((S1.cs ++ [(Cont.mk x ad (List.replicate z 0))]).map Cont.row))) A k (addG S1 (Cont.mk x ad (List.replicate z 0))) := h3.add (c := (Cont.mk x ad (List.replicate z 0))) ((Same.t s4).trans (ButL.put (by simp)).t) nad upd_same (by
    rw [upd_ne dne, g4, List.map_replicate])
  have b5 : ButL [A.da] H4 (upd H4 A.da (.dK ((S1.cs ++ [(Cont.mk x ad (List.replicate z 0))]).map Cont.row))) := ButL.put (by simp)
  have T5 := tabs_but T4 b5 fun z hz => h4.plain z (List.mem_append_left _ (by rw [List.mem_singleton.mp hz]; simp [GA.fix]))
  show _
  generalize upd H4 A.da (HO.dK ((S1.cs ++ [(Cont.mk x ad (List.replicate z 0))]).map Cont.row)) = H5 at *
  obtain ⟨dx5, gp5⟩ := h5.g
  walk_at "go"
  refine ⟨A.p, _, _, rfl, gp5, pg_m6, ?_⟩
  walk_at "go"
  refine SpI.mk ⟨A, k, addG S1 (Cont.mk x ad (List.replicate z 0)), j, x, rfl, h5, by show j < S1.fr.length; omega, by show k.n = S1.fr.length; omega, fun H6 h6 b6 => ?_⟩
  walk_at "go"
  refine q1 l zz j S1 ad H6 jl ob2 na0 h6 (((((Same.t s1).trans (b2.mono fun z hz => List.mem_cons_of_mem _ (List.mem_cons_of_mem _ (List.mem_cons_of_mem _ hz)))).trans (Same.t (s3.trans s4))).trans (b5.t.mono ?_)).trans (b6.t.mono ?_)) (tabs_but T5 b6 fun z hz => h5.plain z (List.mem_append_left _ ?_))
  · intro z hz
    rw [List.mem_singleton.mp hz]
    simp
  · intro z hz
    simp only [GA.fr, GA.plc, List.mem_cons, List.not_mem_nil, or_false] at hz ⊢
    rcases hz with rfl | rfl | rfl | rfl | rfl <;> simp
  · simp only [GA.fix, List.mem_cons, List.not_mem_nil, or_false] at hz ⊢
    rcases hz with rfl | rfl | rfl | rfl | rfl <;> simp
end

end

section

-- a condition of an operator
local macro_rules | `(tactic| walk_at "cond") => `(tactic| first
  | (show (0 : Int) < _; omega)
  | (show CDiv _ _; constructor <;> (first | decide | omega))
  | (show CMul _ _; first | (refine cmul_l ?_; constructor <;> (first | decide | omega)) | (refine cmul_r ?_; constructor <;> (first | decide | omega)))
  | (show CPow _ _; exact (by refine ⟨by decide, by decide, by decide⟩))
  | (show CDivW _ _; exact ⟨by decide, by decide +kernel⟩))
local macro_rules | `(tactic| walk_at "sq") => `(tactic| first | assumption | exact Dh.mono (same_upd (by assumption)) _ _ (by assumption) | exact .inl (.inl (.inl (by assumption))) | exact .inr (.inl (.inl (by assumption))) | exact SqL.of (by assumption) | exact .inl (by assumption) | exact .inl (SqL.of (by assumption)) | exact SqT.of (by assumption) | exact .inr (SqT.of (by assumption)))
local macro_rules | `(tactic| walk_at "st") => `(tactic| first
  | refine ⟨_, rfl, ?_⟩
  | refine ⟨_, _, rfl, rfl, ?_⟩
  | refine .inl ⟨_, rfl, ?_⟩
  | refine ⟨rfl, ?_⟩
  | refine ⟨_, _, rfl, by walk_at "sq", ?_⟩
  | refine ⟨.inl ⟨rfl, _, SqL.of (by assumption)⟩, ?_⟩
  | refine ⟨by walk_at "cond", ?_⟩
  | (refine' ifBT ?hh ?_; (case hh => first | rfl | assumption))
  | (refine' ifBF ?hh ?_; (case hh => first | rfl | assumption)))
local macro_rules | `(tactic| walk_at "go") => `(tactic| repeat walk_at "st")
local macro_rules | `(tactic| walk_at "yes") => `(tactic| (refine' ifT ?hh ?_; (case hh => first | rfl | decide +kernel)))
local macro_rules | `(tactic| walk_at "no") => `(tactic| (refine' ifF ?hh ?_; (case hh => first | decide +kernel | (intro z; cases z; done))))

local macro_rules | `(tactic| walk_at "st") => `(tactic| refine ⟨_, _, _, _, _, rfl, by assumption, by assumption, by omega, by omega, by omega, by omega, by omega, ?_⟩)
local macro_rules | `(tactic| walk_at "st") => `(tactic| refine ⟨_, _, _, _, _, rfl, Same.seq (by assumption) (by assumption), by assumption, by omega, by omega, by omega, by omega, by omega, ?_⟩)

/-! ### duplicate -/
abbrev s_Pager_duplicate : Stmt := inClass (topS 13) 4
theorem sc_Pager_duplicate : FnScope ["self", "old", "new", "frame"] ["self", "old", "new"] (C8.fnScope s_Pager_duplicate) := C8.fnScope_by (by decide +kernel)
def dupG (S : GS) (c : Cont) (j : Nat) : GS := fillG (addG S c) j c.st
def spDup (C : GC) (PT D D2 U : Addr) : Sp := fun vs H Q E => ∃ (A : GA) (k : GK) (S : GS) (x y : Int) (pins : List Int) (b : Nat), vs = [.ref A.p, .int x, .int y] ∧ PgAt C H A k S ∧ GI k S pins ∧ Bd S b ∧ b ≤ 70000 ∧ x.natAbs.log2 < 1920 ∧ y ∉ S.cs.map (·.st) ∧ S.cs.length ≤ 10000 ∧ 0 ≤ k.room ∧ k.room ≤ 100000 ∧ Tabs (chT PT) H ∧ (∀ c ∈ S.cs, c.by'.length ≤ 10000) ∧
  (∀ c ∈ S.cs, c.st = x → (S.cs.length : Int) + 1 ≤ k.room → x ∈ S.fr ∨ 0 ∈ S.fr ∨ freeF S ≠ [] → ∀ S1 (j : Nat) S2 ad H', BrR k S x S1 → 0 ∈ S1.fr ∨ beside S1 (S1.fr.idxOf x) ≠ [] ∨ ((S1.fr.idxOf x : Nat) : Int) ∉ S1.pn → j < S.fr.length → ObBR k S1 (S1.fr.idxOf x) j S2 → NewA H ad →
    PgAt C H' A k (dupG S2 ⟨y, ad, c.by'⟩ j) → ButT (A.cf :: A.cu :: A.da :: A.fr) H H' → Tabs (chT PT) H' → Q .non H') ∧
  (x ∉ S.cs.map (·.st) → ∀ d, H d = none → E (.ref U) (some d) (upd H d (.xd (nsF x)))) ∧
  (x ∈ S.cs.map (·.st) → ¬ (S.cs.length : Int) + 1 ≤ k.room → ∀ d, H d = none → E (.ref D2) (some d) (upd H d (.xd (nlF ((S.cs.length : Int) + 1) k.room)))) ∧
  (x ∈ S.cs.map (·.st) → (S.cs.length : Int) + 1 ≤ k.room → x ∉ S.fr → 0 ∉ S.fr → freeF S = [] → ∀ H1 d, Same H H1 → H1 d = none → E (.ref D) (some d) (upd H1 d (.xd (nlF ((S.fr.length : Int) + 1) S.fr.length)))) ∧
  (x ∈ S.cs.map (·.st) → (S.cs.length : Int) + 1 ≤ k.room → x ∈ S.fr ∨ 0 ∈ S.fr ∨ freeF S ≠ [] → ∀ S1 H1, BrR k S x S1 → PgAt C H1 A k S1 → ButT (A.cf :: A.cu :: A.fr) H H1 → Tabs (chT PT) H1 → 0 ∉ S1.fr → beside S1 (S1.fr.idxOf x) = [] → ((S1.fr.idxOf x : Nat) : Int) ∈ S1.pn → ∀ H2 d, Same H1 H2 → H2 d = none → E (.ref D) (some d) (upd H2 d (.xd (nlF ((S1.fr.length : Int) + 1) S1.fr.length))))
section
variable {P : Program} {w : World} {K : PySem.W.Frag} {mg : Str → Option Value} {base : Heap} {C : GC} {PT D2 D U : Addr}
theorem ok_dup {f : Addr} {fd : FuncData} (F : C8.Fun K "duplicate" "Pager.duplicate" s_Pager_duplicate f fd) (M : Meth K C.g "duplicate" f) (b : Binds K fd ["self", "old", "new"] []) (T : GTxt K mg C.g) (m_check_live : MetE P w K mg base 3 C.g "_check_live" (spChkL C U)) (m_check_room : MetE P w K mg base 3 C.g "_check_room" (spChkR C D2)) (m_bring : MetE P w K mg base 5 C.g "bring" (spBrG C PT D U))
    (m_obtain_beside : MetE P w K mg base 5 C.g "_obtain_beside" (spObB C PT D)) (m_fill : C8.Met P w K mg base 3 C.g "_fill" (spFillG C) []) : MetE P w K mg base 6 C.g "duplicate" (spDup C PT D D2 U) := by
  refine metE T.cl M F b sc_Pager_duplicate (fun vs H Q E h => ?_) (fun cdv A0 outer s H vs Q E hr h => ?_)
  · obtain ⟨A, k, S, x, y, pins, b, rfl, _⟩ := h
    rfl
  obtain ⟨A, k, S, x, y, pins, b, rfl, hp, gi, bd, lb, lx, ny, lc, r0, r1, hT, lby, q1, q2, q3, q4, q5⟩ := h
  have m_fill := metI m_fill
  refine ⟨_, (pss_cons (ps_expr (pe_mE m_check_live (takes_of rfl rfl rfl rfl) hr (by omega) (pv 0) (pa_cons (pv 1) pa_nil)))
      (pss_cons (ps_expr (pe_mE0 m_check_room (takes_of rfl rfl rfl rfl) hr (by omega) (pv 0)))
      (pss_cons (ps_expr (pe_mE m_bring (takes_of rfl rfl rfl rfl) hr (by omega) (pv 0) (pa_cons (pv 1) pa_nil)))
      (pss_cons (ps_set (i := 3) sc_Pager_duplicate.nd rfl (.inl rfl) (pe_mE m_obtain_beside (takes_of rfl rfl rfl rfl) hr (by omega) (pv 0) (pa_cons (pe_bm PySem.F.plainAttrs_list PySem.F.slot_list_index PySem.F.type_list_index (mtI mt_index) (pe_fld (pv 0) rfl) (pa_cons (pv 1) pa_nil)) pa_nil)))
      (pss_cons (ps_dput (hu_of hr) (pe_fld (pv 0) rfl) (pv 2) (pe_callTy (listQ K rfl) (by rfl) T.list (by decide +kernel) (pa_cons (pe_dget (hu_of hr) (pe_fld (pv 0) rfl) (pv 1) (fun _ _ => rfl)) pa_nil)) rfl)
      (pss_one (ps_expr (C8.pe_mt m_fill hr (by omega) (pv 0) (pa_cons (pv 3) (pa_cons (pv 2) pa_nil)))))))))), ?_⟩
  obtain ⟨dx, g⟩ := hp.g
  have ok := gi.ok bd (by omega)
  have kn := ok.n
  have n1 := ok.n1
  have n2 := ok.n2
  walk_at "go"
  refine ⟨A.p, _, _, rfl, g, pg_m1, ?_⟩
  walk_at "go"
  refine ⟨A, k, S, x, rfl, hp, lx, fun m => ?_, fun m d nd => q2 m d nd⟩
  walk_at "go"
  refine ⟨A.p, _, _, rfl, g, pg_m2, ?_⟩
  refine ⟨A, k, S, rfl, hp, by omega, r0, r1, fun l => ?_, fun nl d nd => q3 m nl d nd⟩
  walk_at "go"
  refine ⟨A.p, _, _, rfl, g, pg_m10, ?_⟩
  walk_at "go"
  refine ⟨A, k, S, x, rfl, hp, ok, by have := bd.r; omega, lx, fun m' => ⟨((gi.lv x).mp m').1, fun nf => ((gi.lv x).mp m').2.resolve_left nf⟩, fun m' z nf => gi.can m' nf z, hT, fun m' zz S1 H1 br h1 b1 T1 => ?_, fun m' d nd => q2 m' d nd, fun m' c z0 ze H1 d s1 nd => q4 m' l c z0 ze H1 d s1 nd⟩
  obtain ⟨gi1, xin, ec, bd1⟩ := gi.br hp.ch.lb bd m br
  obtain ⟨dx1, g1⟩ := h1.g
  have ok1 := gi1.ok bd1 (by omega)
  have x0 := ((gi.lv x).mp m).1
  have sF : SqL K H1 A.fa (S1.fr.map V.int) := SqL.of h1.f
  have kn1 := ok1.n
  have il := idx_lt xin
  have ix := (idx_ok xin).1
  have l1 : (S1.cs.length : Int) + 1 ≤ k.room := by rw [ec]; exact l
  walk_at "go"
  refine ⟨A.p, _, _, rfl, g1, pg_m5, ?_⟩
  walk_at "go"
  refine ⟨_, _, _, _, _, rfl, g1, T.cl, T.n1, pg_fr, ?_⟩
  walk_at "go"
  refine ⟨.inl ⟨rfl, _, sF⟩, ?_⟩
  walk_at "go"
  refine RmI.mk (index_mk sF xin ?_)
  walk_at "go"
  refine ⟨A, k, S1, S1.fr.idxOf x, rfl, h1, ok1, il, fun z => gi1.can1 z l1, fun eb _ x' e' c1 c2 => gi1.can1 (gi1.bes ix x0 eb) l1 x' (List.mem_of_getElem? e') c1 c2, T1, fun zo j S2 H2 jl ob2 h2 b2 T2 => ?_, fun z0 eb np H2 d s2 nd => q5 m l zz S1 H1 br h1 b1 T1 z0 eb np H2 d s2 nd⟩
  obtain ⟨gi2, e2, ec2, bd2⟩ := gi1.obB h1.ch.lb bd1 ix x0 ob2
  obtain ⟨dx2, g2⟩ := h2.g
  obtain ⟨c, hc, ec0⟩ := List.mem_map.mp m
  subst ec0
  walk_at "go"
  refine ⟨_, _, _, _, _, rfl, g2, T.cl, T.n6, pg_c, ?_⟩
  walk_at "go"
  have gc : valV (S2.cs.map Cont.row) (.inl c.st) = some (.ref c.ad) := by
    rw [ec2, ec]
    exact cs_at hc gi.nd
  refine ⟨A.da, .ref c.ad, rfl, gc ▸ DGet.k (k := .inl c.st) h2.d, ?_⟩
  have hcc := h2.c c (by rw [ec2, ec]; exact hc)
  walk_at "go"
  intro ad nad
  have s4 := same_upd (o := HO.lst (List.map V.int c.by')) nad
  have g4 := upd_same (H := H2) (a := ad) (o := HO.lst (List.map V.int c.by'))
  have h4 := h2.same s4
  have T4 := T2.ext s4
  obtain ⟨dx4, gp4⟩ := h4.g
  have nf : ∀ z ∈ A.cf :: A.cu :: A.fr, z ∈ A.fix := fun z hz => by
    rcases List.mem_cons.mp hz with rfl | hz
    · simp [GA.fix]
    rcases List.mem_cons.mp hz with rfl | hz
    · simp [GA.fix]
    exact fr_fix hz
  have na1 : NewA H1 ad := (NewA.of nad).butT b2 fun z => h2.live _ (List.mem_append_left _ (fr_fix z)) nad
  have na0 : NewA H ad := na1.butT b1 fun z => h2.live _ (List.mem_append_left _ (nf _ z)) nad
  show _
  generalize upd H2 ad (HO.lst (List.map V.int c.by')) = H4 at *
  walk_at "go"
  refine ⟨_, _, _, _, _, rfl, gp4, T.cl, T.n6, pg_c, ?_⟩
  walk_at "go"
  refine ⟨A.da, _, rfl, DPut.k (k := .inl y) h4.d (sz5 (by rw [List.length_map, ec2, ec]; omega)), ?_⟩
  have ny2 : y ∉ S2.cs.map (·.st) := by
    rw [ec2, ec]
    exact ny
  rw [cs_put (c := Cont.mk y ad c.by') ny2]
  have dne : ad ≠ A.da := fun e => by
    rw [e, h2.d] at nad
    cases nad
  have h5 : PgAt C (upd H4 A.da (.dK ((S2.cs ++ [(Cont.mk y ad c.by')]).map Cont.row))) A k (addG S2 (Cont.mk y ad c.by')) := h2.add (c := Cont.mk y ad c.by') ((Same.t s4).trans (ButL.put (by simp)).t) nad upd_same (by
    rw [upd_ne dne, g4])
  have b5 : ButL [A.da] H4 (upd H4 A.da (.dK ((S2.cs ++ [(Cont.mk y ad c.by')]).map Cont.row))) := ButL.put (by simp)
  have T5 := tabs_but T4 b5 fun z hz => h4.plain z (List.mem_append_left _ (by rw [List.mem_singleton.mp hz]; simp [GA.fix]))
  show _
  generalize upd H4 A.da (HO.dK ((S2.cs ++ [(Cont.mk y ad c.by')]).map Cont.row)) = H5 at *
  obtain ⟨dx5, gp5⟩ := h5.g
  have jl2 : j < S2.fr.length := (List.getElem?_eq_some_iff.mp e2).1
  walk_at "go"
  refine ⟨A.p, _, _, rfl, gp5, pg_m6, ?_⟩
  walk_at "go"
  refine SpI.mk ⟨A, k, addG S2 (Cont.mk y ad c.by'), j, y, rfl, h5, jl2, gi2.n, fun H6 h6 b6 => ?_⟩
  walk_at "go"
  refine q1 c hc rfl l zz S1 j S2 ad H6 br zo (by rw [← gi.n, gi1.n]; exact jl) ob2 na0 h6 ((((b1.mono ?_).trans (b2.mono fun z hz => List.mem_cons_of_mem _ (List.mem_cons_of_mem _ (List.mem_cons_of_mem _ hz)))).trans (((Same.t s4).trans (b5.t.mono ?_)))).trans (b6.t.mono ?_)) (tabs_but T5 b6 fun z hz => h5.plain z (List.mem_append_left _ ?_))
  · intro z hz
    simp only [GA.fr, GA.plc, List.mem_cons, List.not_mem_nil, or_false] at hz ⊢
    rcases hz with rfl | rfl | rfl | rfl | rfl | rfl | rfl | rfl | rfl | rfl | rfl <;> simp
  · intro z hz
    rw [List.mem_singleton.mp hz]
    simp
  · intro z hz
    simp only [GA.fr, GA.plc, List.mem_cons, List.not_mem_nil, or_false] at hz ⊢
    rcases hz with rfl | rfl | rfl | rfl | rfl <;> simp
  · simp only [GA.fix, List.mem_cons, List.not_mem_nil, or_false] at hz ⊢
    rcases hz with rfl | rfl | rfl | rfl | rfl <;> simp
end

end

section

-- a condition of an operator
local macro_rules | `(tactic| walk_at "cond") => `(tactic| first
  | (show (0 : Int) < _; omega)
  | (show CDiv _ _; constructor <;> (first | decide | omega))
  | (show CMul _ _; first | (refine cmul_l ?_; constructor <;> (first | decide | omega)) | (refine cmul_r ?_; constructor <;> (first | decide | omega)))
  | (show CPow _ _; exact (by refine ⟨by decide, by decide, by decide⟩))
  | (show CDivW _ _; exact ⟨by decide, by decide +kernel⟩))
local macro_rules | `(tactic| walk_at "sq") => `(tactic| first | assumption | exact Dh.mono (same_upd (by assumption)) _ _ (by assumption) | exact .inl (.inl (.inl (by assumption))) | exact .inr (.inl (.inl (by assumption))) | exact SqL.of (by assumption) | exact .inl (by assumption) | exact .inl (SqL.of (by assumption)) | exact SqT.of (by assumption) | exact .inr (SqT.of (by assumption)))
local macro_rules | `(tactic| walk_at "st") => `(tactic| first
  | refine ⟨_, rfl, ?_⟩
  | refine ⟨_, _, rfl, rfl, ?_⟩
  | refine .inl ⟨_, rfl, ?_⟩
  | refine ⟨rfl, ?_⟩
  | refine ⟨_, _, rfl, by walk_at "sq", ?_⟩
  | refine ⟨.inl ⟨rfl, _, SqL.of (by assumption)⟩, ?_⟩
  | refine ⟨by walk_at "cond", ?_⟩
  | (refine' ifBT ?hh ?_; (case hh => first | rfl | assumption))
  | (refine' ifBF ?hh ?_; (case hh => first | rfl | assumption)))
local macro_rules | `(tactic| walk_at "go") => `(tactic| repeat walk_at "st")
local macro_rules | `(tactic| walk_at "yes") => `(tactic| (refine' ifT ?hh ?_; (case hh => first | rfl | decide +kernel)))
local macro_rules | `(tactic| walk_at "no") => `(tactic| (refine' ifF ?hh ?_; (case hh => first | decide +kernel | (intro z; cases z; done))))

local macro_rules | `(tactic| walk_at "st") => `(tactic| refine ⟨_, _, _, _, _, rfl, by assumption, by assumption, by omega, by omega, by omega, by omega, by omega, ?_⟩)
local macro_rules | `(tactic| walk_at "st") => `(tactic| refine ⟨_, _, _, _, _, rfl, Same.seq (by assumption) (by assumption), by assumption, by omega, by omega, by omega, by omega, by omega, ?_⟩)

/-! ### rename -/
abbrev s_Pager_rename : Stmt := inClass (topS 13) 5
theorem sc_Pager_rename : FnScope ["self", "old", "new"] ["self", "old", "new"] (C8.fnScope s_Pager_rename) := C8.fnScope_by (by decide +kernel)
theorem ad_inj : ∀ {cs : List Cont} {c d : Cont}, (cs.map (·.ad)).Nodup → c ∈ cs → d ∈ cs → c.ad = d.ad → c = d
  | [], _, _, _, h, _, _ => by cases h
  | e :: es, c, d, n, hc, hd, h => by
    obtain ⟨n1, n2⟩ := List.nodup_cons.mp n
    rcases List.mem_cons.mp hc with e1 | c1
    · rcases List.mem_cons.mp hd with e2 | d1
      · rw [e1, e2]
      · exact (n1 (List.mem_map.mpr ⟨d, d1, by rw [← h, e1]⟩)).elim
    · rcases List.mem_cons.mp hd with e2 | d1
      · exact (n1 (List.mem_map.mpr ⟨c, c1, by rw [h, e2]⟩)).elim
      · exact ad_inj n2 c1 d1 h
theorem renC_at {cs : List Cont} {c : Cont} {y : Int} (nd : (cs.map (·.st)).Nodup) (hc : c ∈ cs) : renC cs c.st y = cs.filter (fun d => decide (d.st ≠ c.st)) ++ [⟨y, c.ad, c.by'⟩] := by
  unfold renC
  rw [filt_one nd hc]
  rfl
theorem renC_nd {A : GA} {cs : List Cont} {c : Cont} {y : Int} (nd : (cs.map (·.st)).Nodup) (hc : c ∈ cs) (h : (A.all cs).Nodup) : (A.all (renC cs c.st y)).Nodup := by
  obtain ⟨h1, h2, h3⟩ := List.nodup_append.mp h
  rw [renC_at nd hc]
  unfold GA.all
  rw [List.map_append]
  refine List.nodup_append.mpr ⟨h1, List.nodup_append.mpr ⟨h2.sublist ((List.filter_sublist).map _), by simp, fun a ha b hb z => ?_⟩, fun a ha b hb => ?_⟩
  · have hb : b ∈ [c.ad] := hb
    rw [List.mem_singleton.mp hb] at z
    obtain ⟨d, hd, e⟩ := List.mem_map.mp ha
    obtain ⟨d1, d2⟩ := List.mem_filter.mp hd
    have := ad_inj h2 d1 hc (e.trans z)
    exact of_decide_eq_true d2 (by rw [this])
  · rcases List.mem_append.mp hb with t | t
    · obtain ⟨d, hd, e⟩ := List.mem_map.mp t
      exact h3 a ha b (List.mem_map.mpr ⟨d, (List.mem_filter.mp hd).1, e⟩)
    · have t : b ∈ [c.ad] := t
      exact h3 a ha b (List.mem_map.mpr ⟨c, hc, (List.mem_singleton.mp t).symm⟩)
def spRen (C : GC) (PT D U : Addr) : Sp := fun vs H Q E => ∃ (A : GA) (k : GK) (S : GS) (x y : Int) (pins : List Int) (b : Nat), vs = [.ref A.p, .int x, .int y] ∧ PgAt C H A k S ∧ GI k S pins ∧ Bd S b ∧ b ≤ 70000 ∧ x.natAbs.log2 < 1920 ∧ y ∉ S.cs.map (·.st) ∧ S.cs.length ≤ 10000 ∧ Tabs (chT PT) H ∧
  (∀ c ∈ S.cs, c.st = x → x ∈ S.fr ∨ 0 ∈ S.fr ∨ freeF S ≠ [] → ∀ S1 H', BrR k S x S1 → PgAt C H' A k (renG S1 x y) → ButT (A.cf :: A.cu :: A.da :: A.fr) H H' → Tabs (chT PT) H' → Q .non H') ∧
  (x ∉ S.cs.map (·.st) → ∀ d, H d = none → E (.ref U) (some d) (upd H d (.xd (nsF x)))) ∧
  (x ∈ S.cs.map (·.st) → x ∉ S.fr → 0 ∉ S.fr → freeF S = [] → ∀ H1 d, Same H H1 → H1 d = none → E (.ref D) (some d) (upd H1 d (.xd (nlF ((S.fr.length : Int) + 1) S.fr.length))))
section
variable {P : Program} {w : World} {K : PySem.W.Frag} {mg : Str → Option Value} {base : Heap} {C : GC} {PT D U : Addr}
theorem ok_ren {f : Addr} {fd : FuncData} (F : C8.Fun K "rename" "Pager.rename" s_Pager_rename f fd) (M : Meth K C.g "rename" f) (b : Binds K fd ["self", "old", "new"] []) (T : GTxt K mg C.g) (m_bring : MetE P w K mg base 5 C.g "bring" (spBrG C PT D U))
    (m_free : C8.Met P w K mg base 1 C.p "free" (spFree C.p) []) : MetE P w K mg base 6 C.g "rename" (spRen C PT D U) := by
  refine metE T.cl M F b sc_Pager_rename (fun vs H Q E h => ?_) (fun cdv A0 outer s H vs Q E hr h => ?_)
  · obtain ⟨A, k, S, x, y, pins, b, rfl, _⟩ := h
    rfl
  obtain ⟨A, k, S, x, y, pins, b, rfl, hp, gi, bd, lb, lx, ny, lc, hT, q1, q2, q3⟩ := h
  have m_free := metI m_free
  refine ⟨_, (pss_cons (ps_expr (pe_mE m_bring (takes_of rfl rfl rfl rfl) hr (by omega) (pv 0) (pa_cons (pv 1) pa_nil)))
      (pss_cons (ps_asg (pv 2) (pg_sub (pe_fld (pv 0) rfl) (pe_bm PySem.F.plainAttrs_list PySem.F.slot_list_index PySem.F.type_list_index (mtI mt_index) (pe_fld (pv 0) rfl) (pa_cons (pv 1) pa_nil)) set_list))
      (pss_cons (ps_expr (C8.pe_mt m_free hr (by omega) (pe_fld (pv 0) rfl) (pa_cons (pv 1) pa_nil)))
      (pss_one (ps_dput (hu_of hr) (pe_fld (pv 0) rfl) (pv 2) (pe_dpop1 (pe_fld (pv 0) rfl) (pv 1) (by constructor <;> rfl)) rfl))))), ?_⟩
  obtain ⟨dx, g⟩ := hp.g
  have ok := gi.ok bd (by omega)
  walk_at "go"
  refine ⟨A.p, _, _, rfl, g, pg_m10, ?_⟩
  walk_at "go"
  refine ⟨A, k, S, x, rfl, hp, ok, by have := bd.r; omega, lx, fun m' => ⟨((gi.lv x).mp m').1, fun nf => ((gi.lv x).mp m').2.resolve_left nf⟩, fun m' z nf => gi.can m' nf z, hT, fun m zz S1 H1 br h1 b1 T1 => ?_, fun m' d nd => q2 m' d nd, fun m' c z0 ze H1 d s1 nd => q3 m' c z0 ze H1 d s1 nd⟩
  obtain ⟨gi1, xin, ec, bd1⟩ := gi.br hp.ch.lb bd m br
  obtain ⟨dx1, g1⟩ := h1.g
  have sF : SqL K H1 A.fa (S1.fr.map V.int) := SqL.of h1.f
  have il := idx_lt xin
  obtain ⟨c, hc, ec0⟩ := List.mem_map.mp m
  subst ec0
  walk_at "go"
  refine ⟨_, _, _, _, _, rfl, g1, T.cl, T.n1, pg_fr, ?_⟩
  walk_at "go"
  refine ⟨_, _, _, _, _, rfl, g1, T.cl, T.n1, pg_fr, ?_⟩
  walk_at "go"
  refine ⟨.inl ⟨rfl, _, sF⟩, ?_⟩
  walk_at "go"
  refine RmI.mk (index_mk sF xin ?_)
  walk_at "go"
  refine ⟨A.fa, _, _, _, rfl, rfl, h1.f, ix_ok (by omega) (by rw [List.length_map]; omega), ?_⟩
  rw [set_ints, Int.toNat_natCast]
  have b2 : ButL [A.fa] H1 (upd H1 A.fa (.lst ((S1.fr.set (S1.fr.idxOf c.st) y).map V.int))) := ButL.put (by simp)
  have h2 := h1.putF b2.t upd_same
  have T2 := tabs_but T1 b2 fun z hz => h1.plain z (List.mem_append_left _ (by rw [List.mem_singleton.mp hz]; simp [GA.fix]))
  show _
  generalize upd H1 A.fa (HO.lst ((S1.fr.set (S1.fr.idxOf c.st) y).map V.int)) = H2 at *
  clear sF
  obtain ⟨dx2, g2⟩ := h2.g
  obtain ⟨dp2, gp2⟩ := h2.pl.g
  walk_at "go"
  refine ⟨_, _, _, _, _, rfl, g2, T.cl, T.n2, pg_pl, ?_⟩
  walk_at "go"
  refine ⟨A.pp, _, _, rfl, gp2, pl_m3, ?_⟩
  walk_at "go"
  refine SpI.mk ⟨A.pp, A.sa, A.ra, A.wa, S1.pl, c.st, rfl, h2.pl, fun H3 h3' b3 => ?_⟩
  have h3 := h2.putP (b3.t.mono (by simp)) h3'
  have T3 := tabs_but T2 b3 fun z hz => h2.plain z (List.mem_append_left _ (by rw [List.mem_singleton.mp hz]; simp [GA.fix]))
  obtain ⟨dx3, g3⟩ := h3.g
  walk_at "go"
  refine ⟨_, _, _, _, _, rfl, g3, T.cl, T.n6, pg_c, ?_⟩
  walk_at "go"
  have gc : valV (S1.cs.map Cont.row) (.inl c.st) = some (.ref c.ad) := by
    rw [ec]
    exact cs_at hc gi.nd
  have hcd : H3 A.da = some (.dK (S1.cs.map Cont.row)) := h3.d
  refine ⟨.inl ⟨_, .inl hcd⟩, ?_⟩
  walk_at "go"
  refine ⟨_, .inl c.st, _, hcd, rfl, gc, ?_⟩
  rw [cs_drop]
  have g4 := upd_same (H := H3) (a := A.da) (o := HO.dK ((S1.cs.filter fun d => decide (d.st ≠ c.st)).map Cont.row))
  have b4 : ButL [A.da] H3 (upd H3 A.da (.dK ((S1.cs.filter fun d => decide (d.st ≠ c.st)).map Cont.row))) := ButL.put (by simp)
  have gp4 := b4 _ _ (show A.p ∉ [A.da] from fun z => fix_ne h3.fn (i := 0) (j := 2) rfl rfl (by decide) (List.mem_singleton.mp z)) g3
  have T4 := tabs_but T3 b4 fun z hz => h3.plain z (List.mem_append_left _ (by rw [List.mem_singleton.mp hz]; simp [GA.fix]))
  show _
  generalize upd H3 A.da (HO.dK ((S1.cs.filter fun d => decide (d.st ≠ c.st)).map Cont.row)) = H4 at *
  walk_at "go"
  refine ⟨_, _, _, _, _, rfl, gp4, T.cl, T.n6, pg_c, ?_⟩
  walk_at "go"
  have lf : (S1.cs.filter fun d => decide (d.st ≠ c.st)).length ≤ 10000 := Nat.le_trans (List.length_filter_le _ _) (by rw [ec]; exact lc)
  refine ⟨A.da, _, rfl, DPut.k (k := .inl y) g4 (sz5 (by rw [List.length_map]; omega)), ?_⟩
  have ny2 : y ∉ (S1.cs.filter fun d => decide (d.st ≠ c.st)).map (·.st) := fun z => ny (by
    have := ((filt_st _ _ _).mp z).1
    rw [ec] at this
    exact this)
  have hc1 : c ∈ S1.cs := ec ▸ hc
  have nd1 : (S1.cs.map (·.st)).Nodup := gi1.nd
  rw [cs_put (c := Cont.mk y c.ad c.by') ny2, ← renC_at nd1 hc1]
  have b5 : ButL [A.da] H4 (upd H4 A.da (.dK ((renC S1.cs c.st y).map Cont.row))) := ButL.put (by simp)
  have T5 := tabs_but T4 b5 fun z hz => ⟨_, (List.mem_singleton.mp hz).symm ▸ g4, plainK⟩
  have b45 := b4.trans b5
  have h5 := h3.putD (cs := renC S1.cs c.st y) b45.t (fun a _ z => List.mem_singleton.mp z) (fun a z => by rw [List.mem_singleton.mp z]; exact .dK hcd) upd_same
    (fun d hd => by
      rw [renC_at nd1 hc1] at hd
      rcases List.mem_append.mp hd with t | t
      · have hd1 := (List.mem_filter.mp t).1
        exact b45 _ _ (by simpa using h3.xn (a := A.da) (by simp [GA.fix]) hd1) (h3.c d hd1)
      · rw [List.mem_singleton.mp t]
        exact b45 _ _ (by simpa using h3.xn (a := A.da) (by simp [GA.fix]) hc1) (h3.c c hc1))
    (renC_nd nd1 hc1 h3.nd)
  refine q1 c hc rfl zz S1 _ br h5 ((((b1.mono ?_).trans (b2.t.mono ?_)).trans (b3.t.mono ?_)).trans (b45.t.mono ?_)) T5
  · intro z hz
    simp only [GA.fr, GA.plc, List.mem_cons, List.not_mem_nil, or_false] at hz ⊢
    rcases hz with rfl | rfl | rfl | rfl | rfl | rfl | rfl | rfl | rfl | rfl | rfl <;> simp
  · intro z hz
    rw [List.mem_singleton.mp hz]
    simp [GA.fr]
  · intro z hz
    rw [List.mem_singleton.mp hz]
    simp [GA.fr, GA.plc]
  · intro z hz
    rw [List.mem_singleton.mp hz]
    simp
end

end

section

-- a condition of an operator
local macro_rules | `(tactic| walk_at "cond") => `(tactic| first
  | (show (0 : Int) < _; omega)
  | (show CDiv _ _; constructor <;> (first | decide | omega))
  | (show CMul _ _; first | (refine cmul_l ?_; constructor <;> (first | decide | omega)) | (refine cmul_r ?_; constructor <;> (first | decide | omega)))
  | (show CPow _ _; exact (by refine ⟨by decide, by decide, by decide⟩))
  | (show CDivW _ _; exact ⟨by decide, by decide +kernel⟩))
local macro_rules | `(tactic| walk_at "sq") => `(tactic| first | assumption | exact Dh.mono (same_upd (by assumption)) _ _ (by assumption) | exact .inl (.inl (.inl (by assumption))) | exact .inr (.inl (.inl (by assumption))) | exact SqL.of (by assumption) | exact .inl (by assumption) | exact .inl (SqL.of (by assumption)) | exact SqT.of (by assumption) | exact .inr (SqT.of (by assumption)))
local macro_rules | `(tactic| walk_at "st") => `(tactic| first
  | refine ⟨_, rfl, ?_⟩
  | refine ⟨_, _, rfl, rfl, ?_⟩
  | refine .inl ⟨_, rfl, ?_⟩
  | refine ⟨rfl, ?_⟩
  | refine ⟨_, _, rfl, by walk_at "sq", ?_⟩
  | refine ⟨.inl ⟨rfl, _, SqL.of (by assumption)⟩, ?_⟩
  | refine ⟨by walk_at "cond", ?_⟩
  | (refine' ifBT ?hh ?_; (case hh => first | rfl | assumption))
  | (refine' ifBF ?hh ?_; (case hh => first | rfl | assumption)))
local macro_rules | `(tactic| walk_at "go") => `(tactic| repeat walk_at "st")
local macro_rules | `(tactic| walk_at "yes") => `(tactic| (refine' ifT ?hh ?_; (case hh => first | rfl | decide +kernel)))
local macro_rules | `(tactic| walk_at "no") => `(tactic| (refine' ifF ?hh ?_; (case hh => first | decide +kernel | (intro z; cases z; done))))

local macro_rules | `(tactic| walk_at "st") => `(tactic| refine ⟨_, _, _, _, _, rfl, by assumption, by assumption, by omega, by omega, by omega, by omega, by omega, ?_⟩)
local macro_rules | `(tactic| walk_at "st") => `(tactic| refine ⟨_, _, _, _, _, rfl, Same.seq (by assumption) (by assumption), by assumption, by omega, by omega, by omega, by omega, by omega, ?_⟩)

/-! ### store -/
abbrev s_Pager_store : Stmt := inClass (topS 13) 7
theorem sc_Pager_store : FnScope ["self", "stamp", "offset", "data"] ["self", "stamp", "offset", "data"] (C8.fnScope s_Pager_store) := C8.fnScope_by (by decide +kernel)
theorem setC_row (cs : List Cont) (x : Int) (b' : List Int) : (setC cs x b').map Cont.row = cs.map Cont.row := by
  unfold setC
  rw [List.map_map]
  refine List.map_congr_left fun c _ => ?_
  show Cont.row (if c.st = x then (⟨c.st, c.ad, b'⟩ : Cont) else c) = Cont.row c
  split <;> rfl
theorem setC_ad (cs : List Cont) (x : Int) (b' : List Int) : (setC cs x b').map (·.ad) = cs.map (·.ad) := by
  unfold setC
  rw [List.map_map]
  refine List.map_congr_left fun c _ => ?_
  show (if c.st = x then (⟨c.st, c.ad, b'⟩ : Cont) else c).ad = c.ad
  split <;> rfl
def cutB (b' : List Int) (o : Int) (ds : List Int) : List Int := b'.take o.toNat ++ ds ++ b'.drop (o + ds.length).toNat
def spSto (C : GC) (PT D U : Addr) : Sp := fun vs H Q E => ∃ (A : GA) (k : GK) (S : GS) (x o : Int) (dr : Addr) (ds : List Int) (pins : List Int) (b : Nat), vs = [.ref A.p, .int x, .int o, .ref dr] ∧ PgAt C H A k S ∧ GI k S pins ∧ Bd S b ∧ b ≤ 70000 ∧ x.natAbs.log2 < 1920 ∧ H dr = some (.lst (ds.map V.int)) ∧ dr ∉ A.all S.cs ∧ Tabs (chT PT) H ∧ 0 ≤ o ∧
  (∀ c ∈ S.cs, c.st = x → o + ds.length ≤ c.by'.length ∧ c.by'.length ≤ 10000) ∧
  (∀ c ∈ S.cs, c.st = x → x ∈ S.fr ∨ 0 ∈ S.fr ∨ freeF S ≠ [] → ∀ S1 H', BrR k S x S1 → PgAt C H' A k (stoG S1 x (cutB c.by' o ds)) → ButT (c.ad :: A.cf :: A.cu :: A.fr) H H' → Tabs (chT PT) H' → Q .non H') ∧
  (x ∉ S.cs.map (·.st) → ∀ d, H d = none → E (.ref U) (some d) (upd H d (.xd (nsF x)))) ∧
  (x ∈ S.cs.map (·.st) → x ∉ S.fr → 0 ∉ S.fr → freeF S = [] → ∀ H1 d, Same H H1 → H1 d = none → E (.ref D) (some d) (upd H1 d (.xd (nlF ((S.fr.length : Int) + 1) S.fr.length))))
section
variable {P : Program} {w : World} {K : PySem.W.Frag} {mg : Str → Option Value} {base : Heap} {C : GC} {PT D U : Addr}
theorem ok_sto {f : Addr} {fd : FuncData} (F : C8.Fun K "store" "Pager.store" s_Pager_store f fd) (M : Meth K C.g "store" f) (b : Binds K fd ["self", "stamp", "offset", "data"] []) (T : GTxt K mg C.g) (m_bring : MetE P w K mg base 5 C.g "bring" (spBrG C PT D U))
    (m_free : C8.Met P w K mg base 1 C.p "free" (spFree C.p) []) : MetE P w K mg base 6 C.g "store" (spSto C PT D U) := by
  refine metE T.cl M F b sc_Pager_store (fun vs H Q E h => ?_) (fun cdv A0 outer s H vs Q E hr h => ?_)
  · obtain ⟨A, k, S, x, o, dr, ds, pins, b, rfl, _⟩ := h
    rfl
  obtain ⟨A, k, S, x, o, dr, ds, pins, b, rfl, hp, gi, bd, lb, lx, gd, nd0, hT, o0, lo, q1, q2, q3⟩ := h
  have m_free := metI m_free
  refine ⟨_, (pss_cons (ps_expr (pe_mE m_bring (takes_of rfl rfl rfl rfl) hr (by omega) (pv 0) (pa_cons (pv 1) pa_nil)))
      (pss_cons (ps_sls (pe_dget (hu_of hr) (pe_fld (pv 0) rfl) (pv 1) (fun _ _ => rfl)) (po_some (pv 2)) (po_some (pe_op op_add (pv 2) (pe_callB (lenQ K rfl) (by rfl) T.len PySem.boot_len (pa_cons (pv 3) pa_nil)))) (pv 3) rfl)
      (pss_one (ps_expr (C8.pe_mt m_free hr (by omega) (pe_fld (pv 0) rfl) (pa_cons (pv 1) pa_nil)))))), ?_⟩
  obtain ⟨dx, g⟩ := hp.g
  have ok := gi.ok bd (by omega)
  walk_at "go"
  refine ⟨A.p, _, _, rfl, g, pg_m10, ?_⟩
  walk_at "go"
  refine ⟨A, k, S, x, rfl, hp, ok, by have := bd.r; omega, lx, fun m' => ⟨((gi.lv x).mp m').1, fun nf => ((gi.lv x).mp m').2.resolve_left nf⟩, fun m' z nf => gi.can m' nf z, hT, fun m zz S1 H1 br h1 b1 T1 => ?_, fun m' d nd => q2 m' d nd, fun m' c z0 ze H1 d s1 nd => q3 m' c z0 ze H1 d s1 nd⟩
  obtain ⟨gi1, xin, ec, bd1⟩ := gi.br hp.ch.lb bd m br
  obtain ⟨dx1, g1⟩ := h1.g
  obtain ⟨c, hc, ec0⟩ := List.mem_map.mp m
  subst ec0
  have ff : ∀ z ∈ A.cf :: A.cu :: A.fr, z ∈ A.fix := fun z hz => by
    rcases List.mem_cons.mp hz with rfl | hz
    · simp [GA.fix]
    rcases List.mem_cons.mp hz with rfl | hz
    · simp [GA.fix]
    exact fr_fix hz
  have gd1 : H1 dr = some (.lst (ds.map V.int)) := b1 _ _ (fun z => nd0 (List.mem_append_left _ (ff _ z))) (fun _ z => by cases z) gd
  have hc1 : c ∈ S1.cs := ec ▸ hc
  have hcc := h1.c c hc1
  have dn : c.ad ≠ dr := fun z => nd0 (List.mem_append_right _ (List.mem_map.mpr ⟨c, hc, z⟩))
  obtain ⟨lo1, lo2⟩ := lo c hc rfl
  walk_at "go"
  refine ⟨_, _, _, _, _, rfl, g1, T.cl, T.n6, pg_c, ?_⟩
  walk_at "go"
  have gc : valV (S1.cs.map Cont.row) (.inl c.st) = some (.ref c.ad) := by
    rw [ec]
    exact cs_at hc gi.nd
  refine ⟨A.da, .ref c.ad, rfl, gc ▸ DGet.k (k := .inl c.st) h1.d, ?_⟩
  walk_at "go"
  refine ⟨c.ad, dr, c.by'.map V.int, ds.map V.int, o, o + ds.length, rfl, rfl, rfl, by rw [List.length_map], hcc, gd1, dn, o0, by omega, by rw [List.length_map]; exact lo1, by rw [List.length_map, List.length_map, sizeLine_eq]; omega, ?_⟩
  have ecut : List.take o.toNat (c.by'.map V.int) ++ ds.map V.int ++ List.drop (o + ds.length).toNat (c.by'.map V.int) = (cutB c.by' o ds).map V.int := by
    unfold cutB
    rw [List.map_append, List.map_append, List.map_take, List.map_drop]
  rw [ecut]
  have can : c.ad ∉ A.fix := fun z => h1.xn z hc1 rfl
  have b2 : ButL [c.ad] H1 (upd H1 c.ad (.lst ((cutB c.by' o ds).map V.int))) := ButL.put (by simp)
  have h2 := h1.putD (cs := setC S1.cs c.st (cutB c.by' o ds)) b2.t (fun a ha z => absurd (List.mem_singleton.mp z ▸ ha) can) (fun a z => by rw [List.mem_singleton.mp z]; exact .lst hcc)
    (by
      rw [setC_row]
      exact b2 _ _ (by simpa using (h1.xn (a := A.da) (by simp [GA.fix]) hc1).symm) h1.d)
    (fun d hd => by
      unfold setC at hd
      obtain ⟨d0, hd0, rfl⟩ := List.mem_map.mp hd
      by_cases e : d0.st = c.st
      · rw [if_pos e]
        have : d0 = c := by
          have f1 := filt_one gi1.nd hc1
          have : d0 ∈ S1.cs.filter (fun d => decide (d.st = c.st)) := List.mem_filter.mpr ⟨hd0, decide_eq_true e⟩
          rw [f1] at this
          exact List.mem_singleton.mp this
        subst this
        exact upd_same
      · rw [if_neg e]
        have ne : d0.ad ≠ c.ad := fun z => e (by rw [ad_inj h1.cn hd0 hc1 z])
        exact b2 _ _ (by simpa using ne) (h1.c d0 hd0))
    (by
      unfold GA.all
      rw [setC_ad]
      exact h1.nd)
  have T2 := tabs_but T1 b2 fun z hz => ⟨_, (List.mem_singleton.mp hz).symm ▸ hcc, plainL⟩
  show _
  generalize upd H1 c.ad (HO.lst ((cutB c.by' o ds).map V.int)) = H2 at *
  obtain ⟨dx2, g2⟩ := h2.g
  obtain ⟨dp2, gp2⟩ := h2.pl.g
  walk_at "go"
  refine ⟨_, _, _, _, _, rfl, g2, T.cl, T.n2, pg_pl, ?_⟩
  walk_at "go"
  refine ⟨A.pp, _, _, rfl, gp2, pl_m3, ?_⟩
  walk_at "go"
  refine SpI.mk ⟨A.pp, A.sa, A.ra, A.wa, S1.pl, c.st, rfl, h2.pl, fun H3 h3' b3 => ?_⟩
  have h3 := h2.putP (b3.t.mono (by simp)) h3'
  have T3 := tabs_but T2 b3 fun z hz => h2.plain z (List.mem_append_left _ (by rw [List.mem_singleton.mp hz]; simp [GA.fix]))
  walk_at "go"
  refine q1 c hc rfl zz S1 _ br h3 (((b1.mono fun z hz => List.mem_cons_of_mem _ hz).trans (b2.t.mono ?_)).trans (b3.t.mono ?_)) T3
  · intro z hz
    rw [List.mem_singleton.mp hz]
    simp
  · intro z hz
    rw [List.mem_singleton.mp hz]
    simp [GA.fr, GA.plc]
end

end

section

-- a condition of an operator
local macro_rules | `(tactic| walk_at "cond") => `(tactic| first
  | (show (0 : Int) < _; omega)
  | (show CDiv _ _; constructor <;> (first | decide | omega))
  | (show CMul _ _; first | (refine cmul_l ?_; constructor <;> (first | decide | omega)) | (refine cmul_r ?_; constructor <;> (first | decide | omega)))
  | (show CPow _ _; exact (by refine ⟨by decide, by decide, by decide⟩))
  | (show CDivW _ _; exact ⟨by decide, by decide +kernel⟩))
local macro_rules | `(tactic| walk_at "sq") => `(tactic| first | assumption | exact Dh.mono (same_upd (by assumption)) _ _ (by assumption) | exact .inl (.inl (.inl (by assumption))) | exact .inr (.inl (.inl (by assumption))) | exact SqL.of (by assumption) | exact .inl (by assumption) | exact .inl (SqL.of (by assumption)) | exact SqT.of (by assumption) | exact .inr (SqT.of (by assumption)))
local macro_rules | `(tactic| walk_at "st") => `(tactic| first
  | refine ⟨_, rfl, ?_⟩
  | refine ⟨_, _, rfl, rfl, ?_⟩
  | refine .inl ⟨_, rfl, ?_⟩
  | refine ⟨rfl, ?_⟩
  | refine ⟨_, _, rfl, by walk_at "sq", ?_⟩
  | refine ⟨.inl ⟨rfl, _, SqL.of (by assumption)⟩, ?_⟩
  | refine ⟨by walk_at "cond", ?_⟩
  | (refine' ifBT ?hh ?_; (case hh => first | rfl | assumption))
  | (refine' ifBF ?hh ?_; (case hh => first | rfl | assumption)))
local macro_rules | `(tactic| walk_at "go") => `(tactic| repeat walk_at "st")
local macro_rules | `(tactic| walk_at "yes") => `(tactic| (refine' ifT ?hh ?_; (case hh => first | rfl | decide +kernel)))
local macro_rules | `(tactic| walk_at "no") => `(tactic| (refine' ifF ?hh ?_; (case hh => first | decide +kernel | (intro z; cases z; done))))

local macro_rules | `(tactic| walk_at "st") => `(tactic| refine ⟨_, _, _, _, _, rfl, by assumption, by assumption, by omega, by omega, by omega, by omega, by omega, ?_⟩)
local macro_rules | `(tactic| walk_at "st") => `(tactic| refine ⟨_, _, _, _, _, rfl, Same.seq (by assumption) (by assumption), by assumption, by omega, by omega, by omega, by omega, by omega, ?_⟩)

/-! ### put_out -/
abbrev s_Pager_put_out : Stmt := inClass (topS 13) 9
theorem sc_Pager_put_out : FnScope ["self", "stamp"] ["self", "stamp"] (C8.fnScope s_Pager_put_out) := C8.fnScope_by (by decide +kernel)
def spPout (C : GC) (PT U : Addr) : Sp := fun vs H Q E => ∃ (A : GA) (k : GK) (S : GS) (x : Int), vs = [.ref A.p, .int x] ∧ PgAt C H A k S ∧ GOk k S ∧ x.natAbs.log2 < 1920 ∧ Tabs (chT PT) H ∧
  (x ∈ S.cs.map (·.st) → x ∉ S.fr ∨ ((S.fr.idxOf x : Nat) : Int) ∈ S.pn ∨ (0 ∉ S.pl.st ∧ both S = []) → ∀ H', Same H H' → Q (.bl false) H') ∧
  (x ∈ S.cs.map (·.st) → x ∈ S.fr → ((S.fr.idxOf x : Nat) : Int) ∉ S.pn → 0 ∈ S.pl.st ∨ both S ≠ [] → ∀ ps H', MvR S x ps → PgAt C H' A k (outG S x ps) → ButT A.fr H H' → Tabs (chT PT) H' → Q (.bl true) H') ∧
  (x ∉ S.cs.map (·.st) → ∀ d, H d = none → E (.ref U) (some d) (upd H d (.xd (nsF x))))
section
variable {P : Program} {w : World} {K : PySem.W.Frag} {mg : Str → Option Value} {base : Heap} {C : GC} {PT D U : Addr}
theorem ok_pout {f : Addr} {fd : FuncData} (F : C8.Fun K "put_out" "Pager.put_out" s_Pager_put_out f fd) (M : Meth K C.g "put_out" f) (b : Binds K fd ["self", "stamp"] []) (T : GTxt K mg C.g) (m_check_live : MetE P w K mg base 3 C.g "_check_live" (spChkL C U)) (m_has_free : C8.Met P w K mg base 1 C.p "has_free" (spHasF C.p) [])
    (m_stamps_on_both : C8.Met P w K mg base 2 C.g "_stamps_on_both" (spBoth C) []) (m_move_out : C8.Met P w K mg base 3 C.g "_move_out" (spMvG C) []) : MetE P w K mg base 4 C.g "put_out" (spPout C PT U) := by
  refine metE T.cl M F b sc_Pager_put_out (fun vs H Q E h => ?_) (fun cdv A0 outer s H vs Q E hr h => ?_)
  · obtain ⟨A, k, S, x, rfl, _⟩ := h
    rfl
  obtain ⟨A, k, S, x, rfl, hp, ok, lx, hT, q1, q2, q3⟩ := h
  have m_has_free := metI m_has_free
  have m_stamps_on_both := metI m_stamps_on_both
  have m_move_out := metI m_move_out
  refine ⟨_, (pss_cons (ps_expr (pe_mE m_check_live (takes_of rfl rfl rfl rfl) hr (by omega) (pv 0) (pa_cons (pv 1) pa_nil)))
      (pss_cons (ps_mk (ps_if (PW.pt (pw_or (pt_cmpR (notInQ K rfl) (pv 1) (pe_fld (pv 0) rfl) (by rfl)) (pw_or1 (pt_cmp (pc_din (hu_of hr) (pe_bm PySem.F.plainAttrs_list PySem.F.slot_list_index PySem.F.type_list_index (mtI mt_index) (pe_fld (pv 0) rfl) (pa_cons (pv 1) pa_nil)) (pe_fld (pv 0) rfl))))))
      (pss_one (ps_ret pe_bl))
      pss_nil))
      (pss_cons (ps_mk (ps_if (PW.pt (pw_and (pt_not (pt_val (C8.pe_mt0 m_has_free hr (by omega) (pe_fld (pv 0) rfl) ))) (pw_and1 (pt_not (pt_truth (C8.pe_mt0 m_stamps_on_both hr (by omega) (pv 0)) (by intro _; rfl))))))
      (pss_one (ps_ret pe_bl))
      pss_nil))
      (pss_cons (ps_expr (C8.pe_mt m_move_out hr (by omega) (pv 0) (pa_cons (pv 1) pa_nil)))
      (pss_one (ps_ret pe_bl)))))), ?_⟩
  obtain ⟨dx, g⟩ := hp.g
  obtain ⟨dp, gp⟩ := hp.pl.g
  have sF : SqL K H A.fa (S.fr.map V.int) := SqL.of hp.f
  have n2 := ok.n2
  walk_at "go"
  refine ⟨A.p, _, _, rfl, g, pg_m1, ?_⟩
  walk_at "go"
  refine ⟨A, k, S, x, rfl, hp, lx, fun m => ?_, fun m d nd => q3 m d nd⟩
  refine un ?_
  walk_at "go"
  refine ⟨_, _, _, _, _, rfl, g, T.cl, T.n1, pg_fr, ?_⟩
  walk_at "go"
  refine ⟨flat_ints _, ?_⟩
  rw [show inV (V.int x) (S.fr.map V.int) = decide (x ∈ S.fr) from inInt _ _]
  walk_at "go"
  by_cases c : x ∈ S.fr
  · rw [decide_eq_true c]
    walk_at "go"
    refine ⟨_, _, _, _, _, rfl, g, T.cl, T.n1, pg_fr, ?_⟩
    walk_at "go"
    refine ⟨.inl ⟨rfl, _, sF⟩, ?_⟩
    walk_at "go"
    refine RmI.mk (index_mk sF c ?_)
    walk_at "go"
    refine ⟨_, _, _, _, _, rfl, g, T.cl, T.n7, pg_pin, ?_⟩
    refine ⟨A.na, _, rfl, DGet.k (k := .inl ((S.fr.idxOf x : Nat) : Int)) hp.pin, ?_⟩
    walk_at "go"
    rw [pn_get]
    refine ifD (fun np => ?_) (fun np => ?_)
    · walk_at "go"
      exact q1 m (.inr (.inl np)) H fun _ _ e => e
    refine jnS (M := fun σ H' => Same H H' ∧ (0 ∈ S.pl.st ∨ both S ≠ []) ∧ σ = [sR A.p, sI x]) ?_ (fun N kk => ?_)
    rotate_left
    · walk_at "go"
      refine ⟨_, _, _, _, _, rfl, g, T.cl, T.n2, pg_pl, ?_⟩
      walk_at "go"
      refine ⟨A.pp, _, _, rfl, gp, pl_m2, ?_⟩
      walk_at "go"
      refine SpI.mk ⟨A.pp, A.sa, A.ra, A.wa, S.pl, rfl, hp.pl, ?_⟩
      by_cases z0 : 0 ∈ S.pl.st
      · rw [decide_eq_true z0]
        walk_at "go"
        exact kk _ _ ⟨fun _ _ e => e, .inl z0, rfl⟩
      rw [decide_eq_false z0]
      walk_at "go"
      refine ⟨A.p, _, _, rfl, g, pg_m9, ?_⟩
      walk_at "go"
      refine SpI.mk ⟨A, k, S, rfl, hp, n2, fun r H1 s1 rn gr => ?_⟩
      by_cases eb : both S = []
      · refine ⟨false, .inl ⟨_, SqL.of gr, by rw [eb]; rfl⟩, ?_⟩
        walk_at "go"
        exact q1 m (.inr (.inr ⟨z0, eb⟩)) H1 s1
      · refine ⟨true, .inl ⟨_, SqL.of gr, ?_⟩, ?_⟩
        · revert eb
          cases both S <;> simp
        walk_at "go"
        exact kk _ _ ⟨s1, .inr eb, rfl⟩
    rintro σ H1 ⟨s1, zz, rfl⟩
    have hp1 := hp.same s1
    have hT1 := hT.ext s1
    obtain ⟨dx1, g1⟩ := hp1.g
    walk_at "go"
    refine ⟨A.p, _, _, rfl, g1, pg_m8, ?_⟩
    walk_at "go"
    refine SpI.mk ⟨A, k, S, x, rfl, hp1, c, ok.n, n2, ok.r, ok.l, fun _ c2 => zz.resolve_left c2, fun ps H4 mv h4 b4 => ?_⟩
    walk_at "go"
    refine q2 m c np zz ps H4 mv h4 ((Same.t s1).trans (b4.t.mono fun z hz => List.mem_cons_of_mem _ hz)) (tabs_but hT1 b4 fun z hz => hp1.plain z (List.mem_append_left _ (fr_fix (List.mem_cons_of_mem _ hz))))
  · rw [decide_eq_false c]
    walk_at "go"
    exact q1 m (.inl c) H fun _ _ e => e
end

end

section

-- a condition of an operator
local macro_rules | `(tactic| walk_at "cond") => `(tactic| first
  | (show (0 : Int) < _; omega)
  | (show CDiv _ _; constructor <;> (first | decide | omega))
  | (show CMul _ _; first | (refine cmul_l ?_; constructor <;> (first | decide | omega)) | (refine cmul_r ?_; constructor <;> (first | decide | omega)))
  | (show CPow _ _; exact (by refine ⟨by decide, by decide, by decide⟩))
  | (show CDivW _ _; exact ⟨by decide, by decide +kernel⟩))
local macro_rules | `(tactic| walk_at "sq") => `(tactic| first | assumption | exact Dh.mono (same_upd (by assumption)) _ _ (by assumption) | exact .inl (.inl (.inl (by assumption))) | exact .inr (.inl (.inl (by assumption))) | exact SqL.of (by assumption) | exact .inl (by assumption) | exact .inl (SqL.of (by assumption)) | exact SqT.of (by assumption) | exact .inr (SqT.of (by assumption)))
local macro_rules | `(tactic| walk_at "st") => `(tactic| first
  | refine ⟨_, rfl, ?_⟩
  | refine ⟨_, _, rfl, rfl, ?_⟩
  | refine .inl ⟨_, rfl, ?_⟩
  | refine ⟨rfl, ?_⟩
  | refine ⟨_, _, rfl, by walk_at "sq", ?_⟩
  | refine ⟨.inl ⟨rfl, _, SqL.of (by assumption)⟩, ?_⟩
  | refine ⟨by walk_at "cond", ?_⟩
  | (refine' ifBT ?hh ?_; (case hh => first | rfl | assumption))
  | (refine' ifBF ?hh ?_; (case hh => first | rfl | assumption)))
local macro_rules | `(tactic| walk_at "go") => `(tactic| repeat walk_at "st")
local macro_rules | `(tactic| walk_at "yes") => `(tactic| (refine' ifT ?hh ?_; (case hh => first | rfl | decide +kernel)))
local macro_rules | `(tactic| walk_at "no") => `(tactic| (refine' ifF ?hh ?_; (case hh => first | decide +kernel | (intro z; cases z; done))))

local macro_rules | `(tactic| walk_at "st") => `(tactic| refine ⟨_, _, _, _, _, rfl, by assumption, by assumption, by omega, by omega, by omega, by omega, by omega, ?_⟩)
local macro_rules | `(tactic| walk_at "st") => `(tactic| refine ⟨_, _, _, _, _, rfl, Same.seq (by assumption) (by assumption), by assumption, by omega, by omega, by omega, by omega, by omega, ?_⟩)

/-! ### Pager is made -/
abbrev s_Pager___init__ : Stmt := inClass (topS 13) 0
theorem sc_Pager___init__ : FnScope ["self", "frames", "places", "page_size", "chooser"] ["self", "frames", "places", "page_size", "chooser"] (C8.fnScope s_Pager___init__) := C8.fnScope_by (by decide +kernel)
def pgS0 (n m : Nat) : GS := ⟨List.replicate n 0, plS0 m, 0, 0, List.replicate n 0, List.replicate n 0, List.replicate n 0, [], [], []⟩
def spPgI (C : GC) : Sp := fun vs H Q _ => ∃ (p dx : Addr) (kd : Str) (n m z : Nat), vs = [.ref p, .int n, .int m, .int z, .str kd] ∧ H p = some (.ins C.g dx []) ∧ n ≤ 1000 ∧ m ≤ 1000 ∧ ∀ (A : GA) H', A.p = p → PgAt C H' A ⟨kd, n, n + max 0 ((m : Int) - 1), z⟩ (pgS0 n m) → (∀ a ∈ A.fix, a ≠ p → H a = none) → But H H' p → Q .non H'
/-- a pager is made with the kind by its name -/
structure MakPg (P : Program) (w : World) (K : PySem.W.Frag) (mg : Str → Option Value) (base : Heap) (k : Nat) (C : GC) : Prop where
  ex : ∃ (f : Addr) (fd : FuncData) (g : List Value → List Value → List Value), Mk K C.g f ∧ FnOk P w K mg base C8.CX0 k f fd ["self", "frames", "places", "page_size", "chooser"] (spPgI C) ∧ mg "Pager" = some (.ref C.g) ∧ KBn K fd ["self", "frames", "places", "page_size", "chooser"] 4 ["chooser"] g (fun vs zs => vs ++ zs)
theorem But.t1 {H H' : Hp} {p : Addr} (b : But H H' p) : ButT [p] H H' := fun a o n _ e => b a o (by simpa using n) e
theorem But.none {H H' : Hp} {p a : Addr} (b : But H H' p) (n : a ≠ p) (e : H' a = none) : H a = none := by
  cases h : H a with
  | none => rfl
  | some o =>
    rw [b a o n h] at e
    cases e
theorem nd_app {H : Hp} {L : List Addr} {b : Addr} (n : L.Nodup) (l : Live H L) (f : H b = none) : (L ++ [b]).Nodup := List.nodup_append.mpr ⟨n, by simp, fun a ha c hc z => by
  rw [List.mem_singleton.mp hc] at z
  exact l a ha (by rw [z]; exact f)⟩
theorem PlcAt.but {C : Addr} {H H' : Hp} {p pp sa ra wa Cp dx : Addr} {fs : List (Str × V)} {S : PS} (h : PlcAt C H pp sa ra wa S) (b : But H H' p) (g : H p = some (.ins Cp dx fs)) (n : p ∉ [pp, sa, ra, wa]) : PlcAt C H' pp sa ra wa S := h.offT b.t1 (b.t1.tups fun a z => by rw [List.mem_singleton.mp z]; exact .ins g) fun a ha z => n (List.mem_singleton.mp z ▸ ha)
theorem ChAt.but {C : Addr} {H H' : Hp} {q p fa ua ba dx : Addr} {kd : Str} {n : Nat} {calls hand : Int} {fl us bits : List Int} (h : ChAt C H p fa ua ba dx kd n calls hand fl us bits) (b : But H H' q) (d : q ∉ [p, fa, ua, ba]) : ChAt C H' p fa ua ba dx kd n calls hand fl us bits := h.butL b.t1 fun a ha z => d (List.mem_singleton.mp z ▸ ha)
theorem putF_le (k : Str) (v : V) : ∀ (fs : List (Str × V)), (putF k v fs).length ≤ fs.length + 1
  | [] => Nat.le_refl _
  | x :: fs => by
    have := putF_le k v fs
    unfold putF
    split
    · simp
    · simp only [List.length_cons]
      omega
theorem live_app {H : Hp} {L : List Addr} {b : Addr} {o : HO} (l : Live H L) (n : H b = none) : Live (upd H b o) (L ++ [b]) := fun a ha => by
  rcases List.mem_append.mp ha with z | z
  · rw [upd_ne (fun e => l a z (by rw [e]; exact n))]
    exact l a z
  · rw [List.mem_singleton.mp z]
    exact live_of upd_same
theorem live_but {H H' : Hp} {p : Addr} {o : HO} {L : List Addr} (l : Live H L) : Live (upd H p o) L := fun a ha => by
  by_cases e : a = p
  · rw [e]
    exact live_of upd_same
  · rw [upd_ne e]
    exact l a ha
section
variable {P : Program} {w : World} {K : PySem.W.Frag} {mg : Str → Option Value} {base : Heap} {C : GC}
theorem ok_pgi {f : Addr} {fd : FuncData} (F : FunD K "__init__" "Pager.__init__" (C8.fnArgs s_Pager___init__) (C8.fnBody s_Pager___init__) (C8.fnScope s_Pager___init__) [] [("chooser", .str "lru")] f fd) (T : GTxt K mg C.g) (c_Places : C8.Mak P w K mg base 1 "Places" C.p (spPlI C.p) []) (c_Chooser : C8.Mak P w K mg base 1 "Chooser" C.c (spChI C.c) []) : FnOk P w K mg base C8.CX0 3 f fd ["self", "frames", "places", "page_size", "chooser"] (spPgI C) := by
  refine F.ok sc_Pager___init__ (fun vs H Q E h => ?_) (fun cdv A0 outer s H vs Q E hr h => ?_)
  · obtain ⟨p, dx, kd, n, m, z, rfl, _⟩ := h
    rfl
  obtain ⟨p, dx, kd, n, m, z, rfl, hp, hn, hm, q⟩ := h
  refine ⟨_, (pss_cons (ps_fld (pv 0) (pe_op op_rep (pe_lst (pa_cons pe_int pa_nil)) (pv 1)) rfl)
      (pss_cons (ps_fld (pv 0) (C8.pe_mk c_Places hr (by omega) (by rfl) (pa_cons (pv 2) pa_nil)) rfl)
      (pss_cons (ps_fld (pv 0) (pe_op op_add (pv 1) (pe_callB (call_max2 rfl) (by rfl) T.max (by decide +kernel) (pa_cons pe_int (pa_cons (pe_op op_sub (pv 2) pe_int) pa_nil)))) rfl)
      (pss_cons (ps_fld (pv 0) (pv 3) rfl)
      (pss_cons (ps_fld (pv 0) (C8.pe_mk c_Chooser hr (by omega) (by rfl) (pa_cons (pv 4) (pa_cons (pv 1) pa_nil))) rfl)
      (pss_cons (ps_fld (pv 0) pe_dnewK rfl)
      (pss_cons (ps_fld (pv 0) pe_dnewK rfl)
      (pss_one (ps_fld (pv 0) (pe_lst pa_nil) rfl))))))))), ?_⟩
  walk_at "go"
  refine ⟨sz, fun l1 n1 => ?_⟩
  have s1 := same_upd (o := HO.lst [V.int 0]) n1
  have g1 := upd_same (H := H) (a := l1) (o := HO.lst [V.int 0])
  have hp1 := s1 _ _ hp
  show _
  generalize upd H l1 (HO.lst [V.int 0]) = H1 at *
  walk_at "go"
  refine ⟨l1, n, [V.int 0], rfl, rfl, g1, by omega, by omega, (by rw [Int.toNat_natCast, List.length_singleton, sizeLine_eq]; omega), fun fa nfa => ?_⟩
  rw [Int.toNat_natCast, rep_ints]
  have s2 := same_upd (o := HO.lst ((List.replicate n (0 : Int)).map V.int)) nfa
  have gf2 := upd_same (H := H1) (a := fa) (o := HO.lst ((List.replicate n (0 : Int)).map V.int))
  have hp2 := s2 _ _ hp1
  have ffa := s1.free nfa
  have npf : p ≠ fa := ne_of_none hp1 nfa
  have s12 := s1.trans s2
  show _
  generalize upd H1 fa (HO.lst ((List.replicate n (0 : Int)).map V.int)) = H2 at *
  clear s1 s2 g1 hp1 nfa n1
  walk_at "go"
  refine ⟨p, C.g, dx, _, rfl, hp2, T.cl, T.n1, (by show 0 < 1000; decide), ?_⟩
  have b3 : But H (upd H2 p (.ins C.g dx (putF "_frames" (V.ref fa) []))) p := (Same.one (p := p) s12).trans But.put
  have g3 := upd_same (H := H2) (a := p) (o := HO.ins C.g dx (putF "_frames" (V.ref fa) []))
  have gf3 : upd H2 p (.ins C.g dx (putF "_frames" (V.ref fa) [])) fa = some (.lst ((List.replicate n (0 : Int)).map V.int)) := by
    rw [upd_ne npf.symm]
    exact gf2
  show _
  generalize upd H2 p (HO.ins C.g dx (putF "_frames" (V.ref fa) [])) = H3 at *
  clear s12 gf2 hp2
  walk_at "go"
  intro pp dxp npp ndx nne
  refine ⟨pp, dxp, m, rfl, upd_same, hm, fun sa ra wa H4 h4 nsa nra nwa b4 => ⟨rfl, ?_⟩⟩
  have nz : ∀ {a : Addr}, upd (upd H3 dxp (.own pp)) pp (.ins C.p dxp []) a = none → a ≠ pp ∧ H3 a = none := fun {a} e => by
    have e1 : a ≠ pp := fun z => by rw [z, upd_same] at e; cases e
    rw [upd_ne e1] at e
    have e2 : a ≠ dxp := fun z => by rw [z, upd_same] at e; cases e
    rw [upd_ne e2] at e
    exact ⟨e1, e⟩
  have s4 : Same H3 H4 := fun a o e => b4 a o (fun z => by rw [z, npp] at e; cases e) (by
    rw [upd_ne (fun z => by rw [z, npp] at e; cases e), upd_ne (fun z => by rw [z, ndx] at e; cases e)]
    exact e)
  obtain ⟨_, nsa⟩ := nz nsa
  obtain ⟨_, nra⟩ := nz nra
  obtain ⟨_, nwa⟩ := nz nwa
  have b34 := b3.trans (Same.one (p := p) s4)
  have g4 := s4 _ _ g3
  have gf4 := s4 _ _ gf3
  have npp' : p ≠ pp := ne_of_none g3 npp
  have nps : p ≠ sa := ne_of_none g3 nsa
  have npr : p ≠ ra := ne_of_none g3 nra
  have npw : p ≠ wa := ne_of_none g3 nwa
  have f0 := b3.none npp'.symm npp
  have f1 := b3.none nps.symm nsa
  have f2' := b3.none npr.symm nra
  have f3 := b3.none npw.symm nwa
  have dj1 : fa ∉ [pp, sa, ra, wa] := fun z => by
    simp only [List.mem_cons, List.not_mem_nil, or_false] at z
    rcases z with rfl | rfl | rfl | rfl
    · rw [npp] at gf3
      cases gf3
    · rw [nsa] at gf3
      cases gf3
    · rw [nra] at gf3
      cases gf3
    · rw [nwa] at gf3
      cases gf3
  clear s4 b3 b4 g3 gf3 nz npp ndx nsa nra nwa
  walk_at "go"
  refine ⟨p, C.g, dx, _, rfl, g4, T.cl, T.n2, (by show 1 < 1000; decide), ?_⟩
  walk_at "go"
  refine ⟨0, (m : Int) - 1, rfl, ?_⟩
  refine ⟨_, _, rfl, rfl, ?_⟩
  walk_at "go"
  refine ⟨p, C.g, dx, _, rfl, upd_same, T.cl, T.n3, (by show 2 < 1000; decide), ?_⟩
  rw [upd_upd]
  walk_at "go"
  refine ⟨p, C.g, dx, _, rfl, upd_same, T.cl, T.n4, (by show 3 < 1000; decide), ?_⟩
  rw [upd_upd]
  have er : (if (m : Int) - 1 > 0 then (m : Int) - 1 else 0) = max 0 ((m : Int) - 1) := by
    split <;> omega
  rw [er]
  have dj2 : p ∉ [pp, sa, ra, wa] := by simp [npp', nps, npr, npw]
  have b7 := But.put (H := H4) (p := p) (o := HO.ins C.g dx (putF "_page_size" (V.int z) (putF "_room" (V.int (n + max 0 ((m : Int) - 1))) (putF "_places" (V.ref pp) (putF "_frames" (V.ref fa) [])))))
  have g7 := upd_same (H := H4) (a := p) (o := HO.ins C.g dx (putF "_page_size" (V.int z) (putF "_room" (V.int (n + max 0 ((m : Int) - 1))) (putF "_places" (V.ref pp) (putF "_frames" (V.ref fa) [])))))
  have h7 := h4.but b7 g4 dj2
  have gf7 := b7 _ _ npf.symm gf4
  have b37 := b34.trans b7
  show _
  generalize upd H4 p (HO.ins C.g dx (putF "_page_size" (V.int z) (putF "_room" (V.int (n + max 0 ((m : Int) - 1))) (putF "_places" (V.ref pp) (putF "_frames" (V.ref fa) []))))) = H7 at *
  generalize ef : (putF "_page_size" (V.int z) (putF "_room" (V.int (n + max 0 ((m : Int) - 1))) (putF "_places" (V.ref pp) (putF "_frames" (V.ref fa) [])))) = f4 at *
  have lf4 : f4.length = 4 := by
    rw [← ef]
    kernel_rfl
  clear b34 b7 g4 gf4 h4
  walk_at "go"
  intro cp cdx ncp ncd nce
  refine ⟨cp, cdx, kd, n, rfl, upd_same, hn, fun cf cu cb H8 h8 ncf ncu ncb b8 => ⟨rfl, ?_⟩⟩
  have nz : ∀ {a : Addr}, upd (upd H7 cdx (.own cp)) cp (.ins C.c cdx []) a = none → a ≠ cp ∧ H7 a = none := fun {a} e => by
    have e1 : a ≠ cp := fun z => by rw [z, upd_same] at e; cases e
    rw [upd_ne e1] at e
    have e2 : a ≠ cdx := fun z => by rw [z, upd_same] at e; cases e
    rw [upd_ne e2] at e
    exact ⟨e1, e⟩
  have s8 : Same H7 H8 := fun a o e => b8 a o (fun z => by rw [z, ncp] at e; cases e) (by
    rw [upd_ne (fun z => by rw [z, ncp] at e; cases e), upd_ne (fun z => by rw [z, ncd] at e; cases e)]
    exact e)
  obtain ⟨nf1, ncf⟩ := nz ncf
  obtain ⟨nu1, ncu⟩ := nz ncu
  obtain ⟨nb1, ncb⟩ := nz ncb
  have L7 : Live H7 ([p, fa] ++ [pp, sa, ra, wa]) := fun a ha => by
    rcases List.mem_append.mp ha with z | z
    · simp only [List.mem_cons, List.not_mem_nil, or_false] at z
      rcases z with rfl | rfl
      · exact live_of g7
      · exact live_of gf7
    · exact h7.live a z
  have N7 : ([p, fa] ++ [pp, sa, ra, wa]).Nodup := by
    refine List.nodup_append.mpr ⟨by simp [npf], ?_, fun a ha b hb z => ?_⟩
    · obtain ⟨e1, e2, e3⟩ := h7.ne
      simp [e1, e2, e3, h7.n1, h7.n2, h7.n3]
    · simp only [List.mem_cons, List.not_mem_nil, or_false] at ha
      rcases ha with rfl | rfl
      · exact dj2 (z ▸ hb)
      · exact dj1 (z ▸ hb)
  have Z7 : ∀ b ∈ [cp, cf, cu, cb], H7 b = none := fun b hb => by
    simp only [List.mem_cons, List.not_mem_nil, or_false] at hb
    rcases hb with rfl | rfl | rfl | rfl
    · exact ncp
    · exact ncf
    · exact ncu
    · exact ncb
  have N8 : (([p, fa] ++ [pp, sa, ra, wa]) ++ [cp, cf, cu, cb]).Nodup := by
    refine List.nodup_append.mpr ⟨N7, ?_, fun a ha b hb z => L7 a ha (by rw [z]; exact Z7 b hb)⟩
    obtain ⟨e1, e2, e3⟩ := h8.nd
    simp [nf1.symm, nu1.symm, nb1.symm, e1, e2, e3]
  have F8 : ∀ b ∈ [cp, cf, cu, cb], H b = none := fun b hb => b37.none (fun z => by
    have := Z7 b hb
    rw [z, g7] at this
    cases this) (Z7 b hb)
  have pc : p ∉ [cp, cf, cu, cb] := fun z => by
    have := Z7 p z
    rw [g7] at this
    cases this
  have p8 := h7.same s8
  have g8 := s8 _ _ g7
  have gf8 := s8 _ _ gf7
  have b08 := b37.trans (Same.one (p := p) s8)
  clear s8 b37 g7 gf7 h7 b8 nz ncp ncd nce ncf ncu ncb Z7 L7 N7 nf1 nu1 nb1
  walk_at "go"
  refine ⟨p, C.g, dx, _, rfl, g8, T.cl, T.n5, (by show f4.length < 1000; omega), ?_⟩
  have b9 := But.put (H := H8) (p := p) (o := HO.ins C.g dx (putF "_chooser" (V.ref cp) f4))
  have g9 := upd_same (H := H8) (a := p) (o := HO.ins C.g dx (putF "_chooser" (V.ref cp) f4))
  have p9 := p8.but b9 g8 dj2
  have c9 := h8.but b9 pc
  have gf9 := b9 _ _ npf.symm gf8
  have b09 := b08.trans b9
  show _
  generalize upd H8 p (HO.ins C.g dx (putF "_chooser" (V.ref cp) f4)) = H9 at *
  clear b9 b08 p8 h8 g8 gf8
  have La : Live H9 (([p, fa] ++ [pp, sa, ra, wa]) ++ [cp, cf, cu, cb]) := fun a ha => by
    rcases List.mem_append.mp ha with z | z
    · rcases List.mem_append.mp z with z | z
      · simp only [List.mem_cons, List.not_mem_nil, or_false] at z
        rcases z with rfl | rfl
        · exact live_of g9
        · exact live_of gf9
      · exact p9.live a z
    · exact c9.live a z
  have lf5 := putF_le "_chooser" (V.ref cp) f4
  generalize ef5 : putF "_chooser" (V.ref cp) f4 = f5 at *
  refine fun da nda => ?_
  have sx := same_upd (o := HO.dK []) nda
  have gda := upd_same (H := H9) (a := da) (o := HO.dK [])
  have px := sx _ _ g9
  have q1 := p9.same sx
  have k1 := ChAt.but (q := p) c9 (Same.one sx) pc
  have y1 := sx _ _ gf9
  have npda : p ≠ da := ne_of_none g9 nda
  have N1 := nd_app N8 La nda
  have L1 := live_app (o := HO.dK []) La nda
  have Fda := b09.none npda.symm nda
  have B1 := b09.trans (Same.one (p := p) sx)
  show _
  generalize upd H9 da (HO.dK []) = Ha at *
  clear sx b09 p9 c9 gf9 g9 nda La N8 
  walk_at "go"
  refine ⟨p, C.g, dx, _, rfl, px, T.cl, T.n6, (by show (List.length f5) < 1000; omega), ?_⟩
  have bx := But.put (H := Ha) (p := p) (o := HO.ins C.g dx (putF "_contents" (V.ref da) f5))
  have P1 := upd_same (H := Ha) (a := p) (o := HO.ins C.g dx (putF "_contents" (V.ref da) f5))
  have Q1 := q1.but bx px dj2
  have K1 := k1.but bx pc
  have Y1 := bx _ _ npf.symm y1
  have Gda := bx _ _ npda.symm gda
  have M1 := live_but (H' := Ha) (p := p) (o := HO.ins C.g dx (putF "_contents" (V.ref da) f5)) L1
  have D1 := B1.trans bx
  have E1 := putF_le "_contents" (V.ref da) f5
  show _
  generalize upd Ha p (HO.ins C.g dx (putF "_contents" (V.ref da) f5)) = Ha' at *
  generalize ef1 : putF "_contents" (V.ref da) f5 = f1 at *
  clear bx B1 q1 k1 y1 px L1 gda 
  walk_at "go"
  refine fun na nna => ?_
  have sx := same_upd (o := HO.dK []) nna
  have gna := upd_same (H := Ha') (a := na) (o := HO.dK [])
  have px := sx _ _ P1
  have q2 := Q1.same sx
  have k2 := ChAt.but (q := p) K1 (Same.one sx) pc
  have y2 := sx _ _ Y1
  have rda := sx _ _ Gda
  have npna : p ≠ na := ne_of_none P1 nna
  have N2 := nd_app N1 M1 nna
  have L2 := live_app (o := HO.dK []) M1 nna
  have Fna := D1.none npna.symm nna
  have B2 := D1.trans (Same.one (p := p) sx)
  show _
  generalize upd Ha' na (HO.dK []) = Hb at *
  clear sx D1 Q1 K1 Y1 P1 nna M1 N1 Gda
  walk_at "go"
  refine ⟨p, C.g, dx, _, rfl, px, T.cl, T.n7, (by show (List.length f1) < 1000; omega), ?_⟩
  have bx := But.put (H := Hb) (p := p) (o := HO.ins C.g dx (putF "_pinned" (V.ref na) f1))
  have P2 := upd_same (H := Hb) (a := p) (o := HO.ins C.g dx (putF "_pinned" (V.ref na) f1))
  have Q2 := q2.but bx px dj2
  have K2 := k2.but bx pc
  have Y2 := bx _ _ npf.symm y2
  have Gna := bx _ _ npna.symm gna
  have Gda2 := bx _ _ npda.symm rda
  have M2 := live_but (H' := Hb) (p := p) (o := HO.ins C.g dx (putF "_pinned" (V.ref na) f1)) L2
  have D2 := B2.trans bx
  have E2 := putF_le "_pinned" (V.ref na) f1
  show _
  generalize upd Hb p (HO.ins C.g dx (putF "_pinned" (V.ref na) f1)) = Hb' at *
  generalize ef2 : putF "_pinned" (V.ref na) f1 = f2 at *
  clear bx B2 q2 k2 y2 px L2 gna rda
  walk_at "go"
  refine ⟨sz, fun la nla => ?_⟩
  have sx := same_upd (o := HO.lst []) nla
  have gla := upd_same (H := Hb') (a := la) (o := HO.lst [])
  have px := sx _ _ P2
  have q3 := Q2.same sx
  have k3 := ChAt.but (q := p) K2 (Same.one sx) pc
  have y3 := sx _ _ Y2
  have rda := sx _ _ Gda2
  have rna := sx _ _ Gna
  have npla : p ≠ la := ne_of_none P2 nla
  have N3 := nd_app N2 M2 nla
  have Fla := D2.none npla.symm nla
  have B3 := D2.trans (Same.one (p := p) sx)
  show _
  generalize upd Hb' la (HO.lst []) = Hc at *
  clear sx D2 Q2 K2 Y2 P2 nla M2 N2 Gda2 Gna
  walk_at "go"
  refine ⟨p, C.g, dx, _, rfl, px, T.cl, T.n8, (by show (List.length f2) < 1000; omega), ?_⟩
  have bx := But.put (H := Hc) (p := p) (o := HO.ins C.g dx (putF "_left" (V.ref la) f2))
  have ez : putF "_left" (V.ref la) f2 = pgF fa pp cp da na la (n + max 0 ((m : Int) - 1)) z := by
    rw [← ef2, ← ef1, ← ef5, ← ef, pg_make]
  rw [ez] at bx ⊢
  let A : GA := ⟨p, fa, da, na, la, pp, sa, ra, wa, cp, cf, cu, cb, cdx⟩
  refine q A _ rfl ⟨⟨dx, upd_same⟩, bx _ _ npf.symm y3, bx _ _ npda.symm rda, fun x hx => (by cases hx), bx _ _ npna.symm rna, bx _ _ npla.symm gla, q3.but bx px dj2, k3.but bx pc, ?_⟩ (fun a ha hn => ?_) (B3.trans bx)
  · have pm : List.Perm ((((([p, fa] ++ [pp, sa, ra, wa]) ++ [cp, cf, cu, cb]) ++ [da]) ++ [na]) ++ [la]) (A.fix ++ []) := by
      show List.Perm ([p, fa] ++ ([pp, sa, ra, wa, cp, cf, cu, cb] ++ [da, na, la])) ([p, fa] ++ ([da, na, la] ++ [pp, sa, ra, wa, cp, cf, cu, cb]))
      exact List.Perm.append_left _ List.perm_append_comm
    exact pm.nodup_iff.mp N3
  · simp only [A, GA.fix, List.mem_cons, List.not_mem_nil, or_false] at ha
    rcases ha with rfl | rfl | rfl | rfl | rfl | rfl | rfl | rfl | rfl | ha
    · exact absurd rfl hn
    · exact ffa
    · exact Fda
    · exact Fna
    · exact Fla
    · exact f0
    · exact f1
    · exact f2'
    · exact f3
    · exact F8 a (by simpa using ha)
end

end

section

-- a condition of an operator
local macro_rules | `(tactic| walk_at "cond") => `(tactic| first
  | (show (0 : Int) < _; omega)
  | (show CDiv _ _; constructor <;> (first | decide | omega))
  | (show CMul _ _; first | (refine cmul_l ?_; constructor <;> (first | decide | omega)) | (refine cmul_r ?_; constructor <;> (first | decide | omega)))
  | (show CPow _ _; exact (by refine ⟨by decide, by decide, by decide⟩))
  | (show CDivW _ _; exact ⟨by decide, by decide +kernel⟩))
local macro_rules | `(tactic| walk_at "sq") => `(tactic| first | assumption | exact Dh.mono (same_upd (by assumption)) _ _ (by assumption) | exact .inl (.inl (.inl (by assumption))) | exact .inr (.inl (.inl (by assumption))) | exact SqL.of (by assumption) | exact .inl (by assumption) | exact .inl (SqL.of (by assumption)) | exact SqT.of (by assumption) | exact .inr (SqT.of (by assumption)))
local macro_rules | `(tactic| walk_at "st") => `(tactic| first
  | refine ⟨_, rfl, ?_⟩
  | refine ⟨_, _, rfl, rfl, ?_⟩
  | refine .inl ⟨_, rfl, ?_⟩
  | refine ⟨rfl, ?_⟩
  | refine ⟨_, _, rfl, by walk_at "sq", ?_⟩
  | refine ⟨.inl ⟨rfl, _, SqL.of (by assumption)⟩, ?_⟩
  | refine ⟨by walk_at "cond", ?_⟩
  | (refine' ifBT ?hh ?_; (case hh => first | rfl | assumption))
  | (refine' ifBF ?hh ?_; (case hh => first | rfl | assumption)))
local macro_rules | `(tactic| walk_at "go") => `(tactic| repeat walk_at "st")
local macro_rules | `(tactic| walk_at "yes") => `(tactic| (refine' ifT ?hh ?_; (case hh => first | rfl | decide +kernel)))
local macro_rules | `(tactic| walk_at "no") => `(tactic| (refine' ifF ?hh ?_; (case hh => first | decide +kernel | (intro z; cases z; done))))

local macro_rules | `(tactic| walk_at "st") => `(tactic| refine ⟨_, _, _, _, _, rfl, by assumption, by assumption, by omega, by omega, by omega, by omega, by omega, ?_⟩)
local macro_rules | `(tactic| walk_at "st") => `(tactic| refine ⟨_, _, _, _, _, rfl, Same.seq (by assumption) (by assumption), by assumption, by omega, by omega, by omega, by omega, by omega, ?_⟩)

/-! ### Pager(.., chooser=..) -/
section
variable {P : Program} {w : World} {K : PySem.W.Frag} {mg : Str → Option Value} {base : Heap} {C : GC}
theorem kb_pg {f : Addr} {fd : FuncData} (F : FunD K "__init__" "Pager.__init__" (C8.fnArgs s_Pager___init__) (C8.fnBody s_Pager___init__) (C8.fnScope s_Pager___init__) [] [("chooser", .str "lru")] f fd) :
    ∃ g, KBn K fd ["self", "frames", "places", "page_size", "chooser"] 4 ["chooser"] g (fun vs zs => vs ++ zs) := by
  obtain ⟨mv, k⟩ := F.kbinds0 4 ["chooser"] [] (fun vs _ zs => vs ++ zs) (ps := ["self", "frames", "places", "page_size", "chooser"]) (by simp) (by simp) (fun h _ k => h.append k) (fun D doc pm an cdv ct us mv ws h1 h2 h3 => by
    match us, h1, mv, h2, ws, h3 with
    | [a, b, c, d], _, [], _, [x], _ => exact (by kernel_rfl : bindArgs (PySem.W.fnOf "__init__" "Pager.__init__" (C8.fnArgs s_Pager___init__) (C8.fnBody s_Pager___init__) (C8.fnScope s_Pager___init__) .none (.ref D) doc pm an cdv ct) ⟨[a, b, c, d], [(("chooser" : Str), x)]⟩ = pure ([(("self" : Str), a), (("frames" : Str), b), (("places" : Str), c), (("page_size" : Str), d), (("chooser" : Str), x)] : List (Str × Value))))
  exact ⟨_, k⟩
theorem ok_mkpg {f : Addr} {fd : FuncData} (F : FunD K "__init__" "Pager.__init__" (C8.fnArgs s_Pager___init__) (C8.fnBody s_Pager___init__) (C8.fnScope s_Pager___init__) [] [("chooser", .str "lru")] f fd) (M : Mk K C.g f) (T : GTxt K mg C.g) (c_Places : C8.Mak P w K mg base 1 "Places" C.p (spPlI C.p) []) (c_Chooser : C8.Mak P w K mg base 1 "Chooser" C.c (spChI C.c) []) : MakPg P w K mg base 3 C := by
  obtain ⟨g, k⟩ := kb_pg F
  exact ⟨f, fd, g, M, ok_pgi F T c_Places c_Chooser, T.mgC, k⟩
def tMkPg (C : GC) (t tk : TA) : TE := fun σ H Q => t σ H fun vs H1 => tk σ H1 fun zs H2 => vs.length = 3 ∧ zs.length = 1 ∧ ∀ x dx, H2 x = none → H2 dx = none → dx ≠ x → spPgI C ((.ref x :: vs) ++ zs) (upd (upd H2 dx (.own x)) x (.ins C.g dx [])) (fun v H3 => v = .non ∧ Q (.ref x) H3) C8.E0
theorem pe_mkPg {X : Cx} {k j : Nat} {C : GC} {p pos : Pos} {e : Expr} {es : List Expr} {kws : List Keyword} {t tk : TA} (c : MakPg X.prog X.w X.K X.mg X.base k C) (hr : Room j X.A) (hk : k + 1 ≤ j) (hg : Gl X "Pager") (ha : PA X (e :: es) t) (hkw : PK X kws tk)
    (hall : (backToKw pos (keywordEach kws X.env)).all (·.1.isSome) = true := by rfl) (hks : (backToKw pos (keywordEach kws X.env)).filterMap (·.1) = (["chooser"] : List Str) := by rfl)
    (hst : starEach (e :: es) X.env = (false, eval e X.env) :: starEach es X.env := by rfl) (hpl : ((backTo pos (starEach (e :: es) X.env)).any (·.1) || (backToKw pos (keywordEach kws X.env)).any (·.1.isNone)) = false := by rfl) :
    PE X (.Call (.Name "Pager" p) (e :: es) kws pos) (tMkPg C t tk) := by
  obtain ⟨f, fd, g, M, F, hm, b⟩ := c.ex
  exact pe_makeK (n := 3) M F (hr.mono hk) hg hm b C8.pass0 ha hkw hall hks (by decide) hst hpl
end

end

section

-- a condition of an operator
local macro_rules | `(tactic| walk_at "cond") => `(tactic| first
  | (show (0 : Int) < _; omega)
  | (show CDiv _ _; constructor <;> (first | decide | omega))
  | (show CMul _ _; first | (refine cmul_l ?_; constructor <;> (first | decide | omega)) | (refine cmul_r ?_; constructor <;> (first | decide | omega)))
  | (show CPow _ _; exact (by refine ⟨by decide, by decide, by decide⟩))
  | (show CDivW _ _; exact ⟨by decide, by decide +kernel⟩))
local macro_rules | `(tactic| walk_at "sq") => `(tactic| first | assumption | exact Dh.mono (same_upd (by assumption)) _ _ (by assumption) | exact .inl (.inl (.inl (by assumption))) | exact .inr (.inl (.inl (by assumption))) | exact SqL.of (by assumption) | exact .inl (by assumption) | exact .inl (SqL.of (by assumption)) | exact SqT.of (by assumption) | exact .inr (SqT.of (by assumption)))
local macro_rules | `(tactic| walk_at "st") => `(tactic| first
  | refine ⟨_, rfl, ?_⟩
  | refine ⟨_, _, rfl, rfl, ?_⟩
  | refine .inl ⟨_, rfl, ?_⟩
  | refine ⟨rfl, ?_⟩
  | refine ⟨_, _, rfl, by walk_at "sq", ?_⟩
  | refine ⟨.inl ⟨rfl, _, SqL.of (by assumption)⟩, ?_⟩
  | refine ⟨by walk_at "cond", ?_⟩
  | (refine' ifBT ?hh ?_; (case hh => first | rfl | assumption))
  | (refine' ifBF ?hh ?_; (case hh => first | rfl | assumption)))
local macro_rules | `(tactic| walk_at "go") => `(tactic| repeat walk_at "st")
local macro_rules | `(tactic| walk_at "yes") => `(tactic| (refine' ifT ?hh ?_; (case hh => first | rfl | decide +kernel)))
local macro_rules | `(tactic| walk_at "no") => `(tactic| (refine' ifF ?hh ?_; (case hh => first | decide +kernel | (intro z; cases z; done))))

local macro_rules | `(tactic| walk_at "st") => `(tactic| refine ⟨_, _, _, _, _, rfl, by assumption, by assumption, by omega, by omega, by omega, by omega, by omega, ?_⟩)
local macro_rules | `(tactic| walk_at "st") => `(tactic| refine ⟨_, _, _, _, _, rfl, Same.seq (by assumption) (by assumption), by assumption, by omega, by omega, by omega, by omega, by omega, ?_⟩)

/-! ### _law_fresh_stamp -/
abbrev s_fresh_stamp : Stmt := topS 18
theorem sc_fresh_stamp : FnScope ["_law_script", "_law_at", "_law_known", "_law_ended", "_law_rest", "_law_stamp", "_law_step"] ["_law_script", "_law_at", "_law_known", "_law_ended"] (C8.fnScope s_fresh_stamp) := C8.fnScope_by (by decide +kernel)
def stB : Int := 20000000000
def spFs (K : PySem.W.Frag) : Sp := fun vs H Q _ => ∃ (a kr er : Addr) (ns : List Int) (i : Int) (kn en : List Int), vs = [.ref a, .int i, .ref kr, .ref er] ∧ SqL K H a (ns.map V.int) ∧ ns.length ≤ 63 ∧ 0 ≤ i ∧ i ≤ 1000 ∧ H kr = some (.lst (kn.map V.int)) ∧ H er = some (.lst (en.map V.int)) ∧ kn.length ≤ 60 ∧ en.length ≤ 1000 ∧ (∀ y ∈ en, 0 < y ∧ y ≤ stB) ∧
  ∀ y H', Same H H' → y ∉ kn → 0 < y → y ≤ stB → Q (.int y) H'
theorem pigeon {kn : List Int} {s : Int} {n : Nat} (h : ∀ t : Nat, t < n → s + t ∈ kn) : n ≤ kn.length := by
  have nd : ((List.range n).map fun t : Nat => s + (t : Int)).Nodup := by
    refine List.pairwise_map.mpr (List.Pairwise.imp (fun {a b} hab e => hab (by omega)) List.nodup_range)
  have := nd_len nd (m := kn) fun x hx => by
    obtain ⟨t, ht, rfl⟩ := List.mem_map.mp hx
    exact h t (List.mem_range.mp ht)
  rw [List.length_map, List.length_range] at this
  exact this
section
variable {P : Program} {w : World} {K : PySem.W.Frag} {mg : Str → Option Value} {base : Heap}
theorem ok_fs {f : Addr} {fd : FuncData} (Df : Def K mg "_law_fresh_stamp" s_fresh_stamp f fd) (b : Binds K fd ["_law_script", "_law_at", "_law_known", "_law_ended"] []) (T : Txt mg) (c_number : Cal P w K mg base 1 "_law_number" (spNum K) []) : Cal P w K mg base 2 "_law_fresh_stamp" (spFs K) [] := by
  refine cal0 Df b .nil sc_fresh_stamp (fun vs H Q E h => ?_) (fun cdv A outer s H vs Q E hr h => ?_)
  · obtain ⟨a, kr, er, ns, i, kn, en, rfl, _⟩ := h
    rfl
  obtain ⟨a, kr, er, ns, i, kn, en, rfl, hS, hl, i0, i1, gk, ge, lk, le, he, q⟩ := h
  refine ⟨_, (pss_cons (ps_setLc (i := 4) (own := [("_law_stamp", 5)]) (g := gName 5) rfl sc_fresh_stamp.nd rfl rfl (sw_true rfl rfl rfl (by decide +kernel)) (pi_list (pv 3)) (blkOk_by (own := [("_law_stamp", 5)]) (N := ["_law_script", "_law_at", "_law_known", "_law_ended", "_law_rest", "_law_stamp", "_law_step"]) (sc := C8.fnScope s_fresh_stamp) (by decide +kernel)) (fun _ _ _ _ _ => (pg_name (i := 5) sc_fresh_stamp.nd rfl (.inl rfl))) (fun _ _ _ _ _ => (pts_one (pt_cmpR (notInQ K rfl) (pv 5) (pv 2) (by rfl)))) (fun _ _ _ _ _ => (pv 5)))
      (pss_cons (ps_mk (ps_if (PW.pt (pw_and (pt_cmpR op_gt (pe_callB (lenQ K rfl) (by rfl) T.len PySem.boot_len (pa_cons (pv 4) pa_nil)) pe_int (nomark _)) (pw_and1 (pt_cmpR op_eq (C8.pe_c c_number hr (by omega) (by rfl) (pa_cons (pv 0) (pa_cons (pv 1) (pa_cons pe_int (pa_cons pe_int pa_nil))))) pe_int (nomark _)))))
      (pss_one (ps_ret (pe_ix (ixL K rfl) (pv 4) (C8.pe_c c_number hr (by omega) (by rfl) (pa_cons (pv 0) (pa_cons (pv 1) (pa_cons pe_int (pa_cons (pe_callB (lenQ K rfl) (by rfl) T.len PySem.boot_len (pa_cons (pv 4) pa_nil)) pa_nil))))) (fun _ _ => rfl))))
      pss_nil))
      (pss_cons (ps_set (i := 5) sc_fresh_stamp.nd rfl (.inl rfl) (pe_op op_add pe_int (C8.pe_c c_number hr (by omega) (by rfl) (pa_cons (pv 0) (pa_cons (pv 1) (pa_cons pe_int (pa_cons pe_int pa_nil)))))))
      (pss_cons (ps_mk (ps_if (pt_cmpR op_eq (C8.pe_c c_number hr (by omega) (by rfl) (pa_cons (pv 0) (pa_cons (pv 1) (pa_cons pe_int (pa_cons pe_int pa_nil))))) pe_int (nomark _))
      (pss_one (ps_set (i := 5) sc_fresh_stamp.nd rfl (.inl rfl) (pe_op op_mul (pv 5) pe_int)))
      pss_nil))
      (pss_cons (ps_mk (ps_for PassesOwn.never rfl (pi_range1 (by rfl) T.range (pa_cons (pe_callB (lenQ K rfl) (by rfl) T.len PySem.boot_len (pa_cons (pv 2) pa_nil)) pa_nil)) (pg_name (i := 6) sc_fresh_stamp.nd rfl (.inl rfl))
      (pss_one (ps_mk (ps_if (pt_cmpR (inQ K rfl) (pv 5) (pv 2) (by rfl))
      (pss_one (ps_set (i := 5) sc_fresh_stamp.nd rfl (.inl rfl) (pe_op op_add (pv 5) pe_int)))
      pss_nil)))))
      (pss_one (ps_ret (pv 5)))))))), ?_⟩
  walk_at "go"
  refine ⟨⟨_, SqL.of ge⟩, fun N1 nN => lc_list (K := K) (a := er) (xs := en.map V.int) (fun j H' => Ob (Same H H' ∧ H' N1 = some (.lst (((en.take j).filter fun y => decide (y ∉ kn)).map V.int)))) (ob ⟨same_upd nN, upd_same⟩) (fun j H' _ h => SqL.of ((unob h).1 _ _ ge)) ?_ ?_⟩
  · intro j v H' hv h
    obtain ⟨s2, g2⟩ := unob h
    clear h
    rw [List.getElem?_map] at hv
    obtain ⟨x, hx, rfl⟩ := Option.map_eq_some_iff.mp hv
    have enx : ((en.take (j + 1)).filter fun y => decide (y ∉ kn)) = ((en.take j).filter fun y => decide (y ∉ kn)) ++ [x].filter fun y => decide (y ∉ kn) := by
      rw [List.take_add_one, hx, List.filter_append]
      rfl
    have ll : ((en.take j).filter fun y => decide (y ∉ kn)).length ≤ 1000 := Nat.le_trans (List.length_filter_le _ _) (by rw [List.length_take]; omega)
    have gk2 := s2 _ _ gk
    walk_at "go"
    refine ⟨flat_ints _, ?_⟩
    rw [show inV (V.int x) (kn.map V.int) = decide (x ∈ kn) from inInt _ _]
    walk_at "go"
    by_cases c : x ∈ kn
    · rw [decide_eq_true c]
      walk_at "go"
      refine ob ⟨s2, ?_⟩
      have e0 : ([x].filter fun y => decide (y ∉ kn)) = [] := by
        rw [List.filter_cons_of_neg (by simpa using c)]
        rfl
      rw [enx, e0, List.append_nil]
      exact g2
    · rw [decide_eq_false c]
      walk_at "go"
      refine ⟨_, g2, sz5 (by rw [List.length_map]; omega), ob ⟨same_put s2 nN, ?_⟩⟩
      have e1 : ([x].filter fun y => decide (y ∉ kn)) = [x] := by
        rw [List.filter_cons_of_pos (by simpa using c)]
        rfl
      rw [enx, e1, List.map_append]
      exact upd_same
  intro H1 h
  obtain ⟨s1, g1⟩ := unob h
  clear h
  rw [List.take_of_length_le (by rw [List.length_map]; exact Nat.le_refl _)] at g1
  generalize er0 : (en.filter fun y => decide (y ∉ kn)) = rest at *
  have hre : ∀ y ∈ rest, 0 < y ∧ y ≤ stB ∧ y ∉ kn := fun y hy => by
    rw [← er0] at hy
    obtain ⟨h1, h2⟩ := List.mem_filter.mp hy
    exact ⟨(he y h1).1, (he y h1).2, of_decide_eq_true h2⟩
  have lr : rest.length ≤ 1000 := by
    rw [← er0]
    exact Nat.le_trans (List.length_filter_le _ _) le
  have gk1 := s1 _ _ gk
  have hS1 := s1.seq hS
  have sR1 : SqL K H1 N1 (rest.map V.int) := SqL.of g1
  show tSeq _ _ _ _ _
  refine jnS (M := fun σ H' => H' = H1 ∧ σ = [sR a, sI i, sR kr, sR er, sR N1, none, none]) ?_ (fun N kk => ?_)
  rotate_left
  · walk_at "go"
    refine ifD (fun c => ?_) (fun c => ?_)
    · have c0 : 0 < rest.length := by
        rw [List.length_map] at c
        omega
      walk_at "go"
      refine ifEq (fun z => ?_) (fun z => ?_)
      · have y0 : 0 ≤ num ns i 2 rest.length := num_nn (by omega)
        have y1 : num ns i 2 rest.length < rest.length := num_lt (by omega)
        walk_at "go"
        rw [List.length_map]
        obtain ⟨m, hm⟩ : ∃ m : Nat, num ns i 2 rest.length = m := ⟨(num ns i 2 rest.length).toNat, by omega⟩
        rw [hm]
        have em : rest[m]? = some rest[m] := List.getElem?_eq_getElem (by omega)
        refine ⟨N1, _, _, .int rest[m], rfl, rfl, sR1, atI_nat (by rw [List.getElem?_map, em]; rfl), ?_⟩
        obtain ⟨h1, h2, h3⟩ := hre _ (List.mem_of_getElem? em)
        exact q _ _ s1 h3 h1 h2
      · walk_at "go"
        exact kk _ _ ⟨rfl, rfl⟩
    · walk_at "go"
      exact kk _ _ ⟨rfl, rfl⟩
  rintro σ H2 ⟨rfl, rfl⟩
  have y0 : 0 ≤ num ns i 2 15 := num_nn (by decide)
  have y1 : num ns i 2 15 < 15 := num_lt (by decide)
  walk_at "go"
  show tSeq _ _ _ _ _
  refine jnS (M := fun σ H' => H' = H2 ∧ ∃ s0 : Int, 0 < s0 ∧ s0 ≤ 15000000105 ∧ σ = [sR a, sI i, sR kr, sR er, sR N1, sI s0, none]) ?_ (fun N kk => ?_)
  rotate_left
  · have z0 : 0 ≤ num ns i 3 6 := num_nn (by decide)
    walk_at "go"
    refine ifEq (fun z => ?_) (fun z => ?_)
    · walk_at "go"
      exact kk _ _ ⟨rfl, (1 + num ns i 2 15) * 1000000007, by omega, by omega, rfl⟩
    · walk_at "go"
      exact kk _ _ ⟨rfl, _, by omega, by omega, rfl⟩
  rintro σ H1 ⟨rfl, s0, s1', s2', rfl⟩
  refine un ?_
  walk_at "go"
  rw [List.length_map, Int.toNat_natCast]
  refine ⟨by omega, by omega, for_range (lo := 0) (n := kn.length) (fun j σ H' => Ob (H' = H1 ∧ ∃ (y : Int) (y6 : Option V), (y ∉ kn ∨ (y = s0 + j ∧ ∀ t : Nat, t < j → s0 + t ∈ kn)) ∧ s0 ≤ y ∧ y ≤ s0 + j ∧ σ = [sR a, sI i, sR kr, sR er, sR N1, sI y, y6])) (ob ⟨rfl, s0, none, .inr ⟨by omega, fun t ht => absurd ht (Nat.not_lt_zero _)⟩, by omega, by omega, rfl⟩) ?_ ?_⟩
  · intro j σ H2 hj h
    obtain ⟨rfl, y, y6, hy, b1, b2, rfl⟩ := unob h
    clear h
    show tMk _ _ _ _
    refine un ?_
    walk_at "go"
    refine ⟨flat_ints _, ?_⟩
    rw [show inV (V.int y) (kn.map V.int) = decide (y ∈ kn) from inInt _ _]
    walk_at "go"
    refine ifD (fun c => ?_) (fun c => ?_)
    · walk_at "go"
      rcases hy with hy | ⟨hy, ht⟩
      · exact absurd c hy
      · refine ob ⟨rfl, y + 1, _, .inr ⟨by omega, fun t l => ?_⟩, by omega, by omega, rfl⟩
        rcases Nat.lt_or_ge t j with z | z
        · exact ht t z
        · have : t = j := by omega
          rw [this, ← hy]
          exact c
    · walk_at "go"
      exact ob ⟨rfl, y, _, .inl c, by omega, by omega, rfl⟩
  intro σ H2 h
  obtain ⟨rfl, y, y6, hy, b1, b2, rfl⟩ := unob h
  clear h
  walk_at "go"
  refine q y _ s1 ?_ (by omega) (by unfold stB; omega)
  rcases hy with hy | ⟨hy, ht⟩
  · exact hy
  · intro c
    have := pigeon (kn := kn) (s := s0) (n := kn.length + 1) fun t l => by
      rcases Nat.lt_or_ge t kn.length with z | z
      · exact ht t z
      · have : t = kn.length := by omega
        rw [this, ← hy]
        exact c
    omega
end

end

section

-- a condition of an operator
local macro_rules | `(tactic| walk_at "cond") => `(tactic| first
  | (show (0 : Int) < _; omega)
  | (show CDiv _ _; constructor <;> (first | decide | omega))
  | (show CMul _ _; first | (refine cmul_l ?_; constructor <;> (first | decide | omega)) | (refine cmul_r ?_; constructor <;> (first | decide | omega)))
  | (show CPow _ _; exact (by refine ⟨by decide, by decide, by decide⟩))
  | (show CDivW _ _; exact ⟨by decide, by decide +kernel⟩))
local macro_rules | `(tactic| walk_at "sq") => `(tactic| first | assumption | exact Dh.mono (same_upd (by assumption)) _ _ (by assumption) | exact .inl (.inl (.inl (by assumption))) | exact .inr (.inl (.inl (by assumption))) | exact SqL.of (by assumption) | exact .inl (by assumption) | exact .inl (SqL.of (by assumption)) | exact SqT.of (by assumption) | exact .inr (SqT.of (by assumption)))
local macro_rules | `(tactic| walk_at "st") => `(tactic| first
  | refine ⟨_, rfl, ?_⟩
  | refine ⟨_, _, rfl, rfl, ?_⟩
  | refine .inl ⟨_, rfl, ?_⟩
  | refine ⟨rfl, ?_⟩
  | refine ⟨_, _, rfl, by walk_at "sq", ?_⟩
  | refine ⟨.inl ⟨rfl, _, SqL.of (by assumption)⟩, ?_⟩
  | refine ⟨by walk_at "cond", ?_⟩
  | (refine' ifBT ?hh ?_; (case hh => first | rfl | assumption))
  | (refine' ifBF ?hh ?_; (case hh => first | rfl | assumption)))
local macro_rules | `(tactic| walk_at "go") => `(tactic| repeat walk_at "st")
local macro_rules | `(tactic| walk_at "yes") => `(tactic| (refine' ifT ?hh ?_; (case hh => first | rfl | decide +kernel)))
local macro_rules | `(tactic| walk_at "no") => `(tactic| (refine' ifF ?hh ?_; (case hh => first | decide +kernel | (intro z; cases z; done))))

local macro_rules | `(tactic| walk_at "st") => `(tactic| refine ⟨_, _, _, _, _, rfl, by assumption, by assumption, by omega, by omega, by omega, by omega, by omega, ?_⟩)
local macro_rules | `(tactic| walk_at "st") => `(tactic| refine ⟨_, _, _, _, _, rfl, Same.seq (by assumption) (by assumption), by assumption, by omega, by omega, by omega, by omega, by omega, ?_⟩)

/-! ### _law_pager_call -/
abbrev s_pager_call : Stmt := topS 19
theorem sc_pager_call : FnScope ["_law_script", "_law_at", "_law_known", "_law_ended", "_law_width", "_law_fresh", "_law_stamp", "_law_kind", "_law_low", "_law_many", "_law_data", "_law_k"] ["_law_script", "_law_at", "_law_known", "_law_ended", "_law_width"] (C8.fnScope s_pager_call) := C8.fnScope_by (by decide +kernel)
@[irreducible] def CbI (r : List V → Hp → VK → Prop) : List V → Hp → VK → Prop := r
theorem CbI.mk {r : List V → Hp → VK → Prop} {xs : List V} {H : Hp} {Q : VK} (h : r xs H Q) : CbI r xs H Q := by
  unfold CbI
  exact h
theorem cbI {X : Cx} {f : Value} {r : List V → Hp → VK → Prop} (h : CallR X f r) : CallR X f (CbI r) := by
  unfold CbI
  exact h
structure LTxt (mg : Str → Option Value) : Prop extends Txt mg where
  max : mg "max" = none
  sorted : mg "sorted" = none
inductive PCall where
  | beg (y : Int) | dup (x y : Int) | ren (x y : Int) | sto (x o : Int) (dr : Addr) (ds : List Int) | rd (x o l : Int) | rel (x : Int) | brg (x : Int) | put (x : Int) | pin (x : Int) | unp
def PCall.vs : PCall → List V
  | .beg y => [.str "begin", .int y]
  | .dup x y => [.str "duplicate", .int x, .int y]
  | .ren x y => [.str "rename", .int x, .int y]
  | .sto x o dr _ => [.str "store", .int x, .int o, .ref dr]
  | .rd x o l => [.str "read", .int x, .int o, .int l]
  | .rel x => [.str "release", .int x]
  | .brg x => [.str "bring", .int x]
  | .put x => [.str "put_out", .int x]
  | .pin x => [.str "pin", .int x]
  | .unp => [.str "unpin"]
theorem PCall.small (c : PCall) : c.vs.length ≤ sizeLine := by
  rw [sizeLine_eq]
  cases c <;> simp [PCall.vs]
def PCall.data (H : Hp) : PCall → Prop
  | .sto _ _ dr ds => H dr = some (.lst (ds.map V.int))
  | _ => True
def inB (x : Int) : Prop := 0 < x ∧ x ≤ stB
def PCall.ok (kn : List Int) (wd : Nat) : PCall → Prop
  | .beg y => y ∉ kn ∧ inB y
  | .dup x y => inB x ∧ y ∉ kn ∧ inB y
  | .ren x y => inB x ∧ y ∉ kn ∧ inB y
  | .sto x o _ ds => inB x ∧ 0 ≤ o ∧ o + ds.length ≤ wd ∧ 0 < ds.length
  | .rd x o l => inB x ∧ 0 ≤ o ∧ 0 ≤ l ∧ o + l ≤ wd
  | .rel x => inB x
  | .brg x => inB x
  | .put x => inB x
  | .pin x => inB x
  | .unp => True
structure CallAt (H : Hp) (r : Addr) (c : PCall) : Prop where
  g : H r = some (.tup c.vs)
  d : c.data H
def spPc (K : PySem.W.Frag) : Sp := fun vs H Q _ => ∃ (a kr er : Addr) (ns : List Int) (i : Int) (kn en : List Int) (wd : Nat), vs = [.ref a, .int i, .ref kr, .ref er, .int wd] ∧ SqL K H a (ns.map V.int) ∧ ns.length ≤ 63 ∧ 0 ≤ i ∧ i ≤ 1000 ∧ H kr = some (.lst (kn.map V.int)) ∧ H er = some (.lst (en.map V.int)) ∧ kn.length ≤ 60 ∧ en.length ≤ 1000 ∧ (∀ y ∈ en, inB y) ∧ (∀ y ∈ kn, inB y) ∧ 1 ≤ wd ∧ wd ≤ 16 ∧
  ∀ r (c : PCall) H', Same H H' → H r = none → CallAt H' r c → (∀ x o dr ds, c = .sto x o dr ds → H dr = none) → c.ok kn wd → Q (.ref r) H'
section
variable {P : Program} {w : World} {K : PySem.W.Frag} {mg : Str → Option Value} {base : Heap}
theorem ok_pc {f : Addr} {fd : FuncData} (Df : Def K mg "_law_pager_call" s_pager_call f fd) (b : Binds K fd ["_law_script", "_law_at", "_law_known", "_law_ended", "_law_width"] []) (T : LTxt mg) (c_number : Cal P w K mg base 1 "_law_number" (spNum K) []) (c_fresh_stamp : Cal P w K mg base 2 "_law_fresh_stamp" (spFs K) []) : Cal P w K mg base 3 "_law_pager_call" (spPc K) [] := by
  refine cal0 Df b .nil sc_pager_call (fun vs H Q E h => ?_) (fun cdv A outer s H vs Q E hr h => ?_)
  · obtain ⟨a, kr, er, ns, i, kn, en, wd, rfl, _⟩ := h
    rfl
  obtain ⟨a, kr, er, ns, i, kn, en, wd, rfl, hS, hl, i0, i1, gk, ge, lk, le, he, hk, w1, w2, q⟩ := h
  refine ⟨_, (pss_cons (ps_set (i := 5) sc_pager_call.nd rfl (.inl rfl) (C8.pe_c c_fresh_stamp hr (by omega) (by rfl) (pa_cons (pv 0) (pa_cons (pv 1) (pa_cons (pv 2) (pa_cons (pv 3) pa_nil))))))
      (pss_cons (ps_set (i := 6) sc_pager_call.nd rfl (.inl rfl) (pv 5))
      (pss_cons (ps_mk (ps_if (PW.pt (pw_and (pt_cmpR op_gt (pe_callB (lenQ K rfl) (by rfl) T.len PySem.boot_len (pa_cons (pv 2) pa_nil)) pe_int (nomark _)) (pw_and1 (pt_cmpR op_gt (C8.pe_c c_number hr (by omega) (by rfl) (pa_cons (pv 0) (pa_cons (pv 1) (pa_cons pe_int (pa_cons pe_int pa_nil))))) pe_int (nomark _)))))
      (pss_one (ps_set (i := 6) sc_pager_call.nd rfl (.inl rfl) (pe_ix (ixL K rfl) (pv 2) (C8.pe_c c_number hr (by omega) (by rfl) (pa_cons (pv 0) (pa_cons (pv 1) (pa_cons pe_int (pa_cons (pe_callB (lenQ K rfl) (by rfl) T.len PySem.boot_len (pa_cons (pv 2) pa_nil)) pa_nil))))) (fun _ _ => rfl))))
      pss_nil))
      (pss_cons (ps_set (i := 7) sc_pager_call.nd rfl (.inl rfl) (C8.pe_c c_number hr (by omega) (by rfl) (pa_cons (pv 0) (pa_cons (pv 1) (pa_cons pe_int (pa_cons pe_int pa_nil))))))
      (pss_cons (ps_mk (ps_if (PW.pt (pw_or (pt_cmpR op_lt (pv 7) pe_int (nomark _)) (pw_or1 (PW.pt (pw_and (pt_cmpR op_eq (pe_callB (lenQ K rfl) (by rfl) T.len PySem.boot_len (pa_cons (pv 2) pa_nil)) pe_int (nomark _)) (pw_and1 (pt_cmpR op_lt (pv 7) pe_int (nomark _))))))))
      (pss_one (ps_ret (pe_tup (pa_cons pe_str (pa_cons (pv 5) pa_nil)))))
      pss_nil))
      (pss_cons (ps_mk (ps_if (pt_cmpR op_lt (pv 7) pe_int (nomark _))
      (pss_one (ps_ret (pe_tup (pa_cons (pe_ix (ixL K rfl) (pe_lst (pa_cons pe_str (pa_cons pe_str (pa_cons pe_str pa_nil)))) (pe_op op_sub (pv 7) pe_int) (fun _ _ => rfl)) (pa_cons (pv 6) (pa_cons (pv 5) pa_nil))))))
      pss_nil))
      (pss_cons (ps_set (i := 8) sc_pager_call.nd rfl (.inl rfl) (C8.pe_c c_number hr (by omega) (by rfl) (pa_cons (pv 0) (pa_cons (pv 1) (pa_cons pe_int (pa_cons (pv 4) pa_nil))))))
      (pss_cons (ps_set (i := 9) sc_pager_call.nd rfl (.inl rfl) (C8.pe_c c_number hr (by omega) (by rfl) (pa_cons (pv 0) (pa_cons (pv 1) (pa_cons pe_int (pa_cons (pe_op op_add (pe_op op_sub (pv 4) (pv 8)) pe_int) pa_nil))))))
      (pss_cons (ps_mk (ps_if (pt_cmpR op_lt (pv 7) pe_int (nomark _))
      (pss_cons (ps_setLc (i := 10) (own := [("_law_k", 11)]) (g := gName 11) (tt := tYes) rfl sc_pager_call.nd rfl rfl (sw_true rfl rfl rfl (by decide +kernel)) (pi_range1 (by rfl) T.range (pa_cons (pe_callB (cbI (call_max2 rfl)) (by rfl) T.max (by decide +kernel) (pa_cons pe_int (pa_cons (pv 9) pa_nil))) pa_nil)) (blkOk_by (own := [("_law_k", 11)]) (N := ["_law_script", "_law_at", "_law_known", "_law_ended", "_law_width", "_law_fresh", "_law_stamp", "_law_kind", "_law_low", "_law_many", "_law_data", "_law_k"]) (sc := C8.fnScope s_pager_call) (by decide +kernel)) (fun _ _ _ _ _ => (pg_name (i := 11) sc_pager_call.nd rfl (.inl rfl))) (fun _ _ _ _ _ => pts_nil) (fun _ _ _ _ _ => (pe_op op_mod (pe_callTy call_int1 (by rfl) T.int (by decide +kernel) (pa_cons (pe_op op_add (C8.pe_c c_number hr (by omega) (by rfl) (pa_cons (pv 0) (pa_cons (pv 1) (pa_cons (pe_op op_add pe_int (pe_op op_mod (pe_callTy call_int1 (by rfl) T.int (by decide +kernel) (pa_cons (pv 11) pa_nil)) pe_int)) (pa_cons pe_int pa_nil))))) (pe_op op_mul pe_int (pe_op op_fdiv (pv 11) pe_int))) pa_nil)) pe_int)))
      (pss_one (ps_ret (pe_tup (pa_cons pe_str (pa_cons (pv 6) (pa_cons (pv 8) (pa_cons (pv 10) pa_nil))))))))
      pss_nil))
      (pss_cons (ps_mk (ps_if (pt_cmpR op_lt (pv 7) pe_int (nomark _))
      (pss_one (ps_ret (pe_tup (pa_cons pe_str (pa_cons (pv 6) (pa_cons (pv 8) (pa_cons (pv 9) pa_nil)))))))
      pss_nil))
      (pss_cons (ps_mk (ps_if (PW.pt (pw_and (pt_cmpR op_eq (pv 7) pe_int (nomark _)) (pw_and1 (pt_cmpR op_eq (C8.pe_c c_number hr (by omega) (by rfl) (pa_cons (pv 0) (pa_cons (pv 1) (pa_cons pe_int (pa_cons pe_int pa_nil))))) pe_int (nomark _)))))
      (pss_one (ps_ret (pe_tup (pa_cons pe_str pa_nil))))
      pss_nil))
      (pss_one (ps_ret (pe_tup (pa_cons (pe_ix (ixL K rfl) (pe_lst (pa_cons pe_str (pa_cons pe_str (pa_cons pe_str (pa_cons pe_str (pa_cons pe_str (pa_cons pe_str (pa_cons pe_str pa_nil)))))))) (pe_op op_sub (pv 7) pe_int) (fun _ _ => rfl)) (pa_cons (pv 6) pa_nil)))))))))))))))), ?_⟩
  walk_at "go"
  refine ⟨a, kr, er, ns, i, kn, en, rfl, hS, hl, i0, i1, gk, ge, lk, le, he, fun y H1 s1 yn y0 yB => ?_⟩
  have hS1 := s1.seq hS
  have gk1 := s1 _ _ gk
  have sk1 : SqL K H1 kr (kn.map V.int) := SqL.of gk1
  walk_at "go"
  show tSeq _ _ _ _ _
  refine jnS (M := fun σ H' => H' = H1 ∧ ∃ x : Int, inB x ∧ σ = [sR a, sI i, sR kr, sR er, sI wd, sI y, sI x, none, none, none, none, none]) ?_ (fun N kk => ?_)
  rotate_left
  · walk_at "go"
    refine ifD (fun c => ?_) (fun c => ?_)
    · have c0 : 0 < kn.length := by
        rw [List.length_map] at c
        omega
      have z0 : 0 ≤ num ns i 4 9 := num_nn (by decide)
      walk_at "go"
      refine ifD (fun z => ?_) (fun z => ?_)
      · have y0 : 0 ≤ num ns i 5 kn.length := num_nn (by omega)
        have y1 : num ns i 5 kn.length < kn.length := num_lt (by omega)
        walk_at "go"
        rw [List.length_map]
        obtain ⟨m, hm⟩ : ∃ m : Nat, num ns i 5 kn.length = m := ⟨(num ns i 5 kn.length).toNat, by omega⟩
        rw [hm]
        have em : kn[m]? = some kn[m] := List.getElem?_eq_getElem (by omega)
        refine ⟨kr, _, _, .int kn[m], rfl, rfl, sk1, atI_nat (by rw [List.getElem?_map, em]; rfl), ?_⟩
        exact kk _ _ ⟨rfl, kn[m], hk _ (List.mem_of_getElem? em), rfl⟩
      · walk_at "go"
        exact kk _ _ ⟨rfl, y, ⟨y0, yB⟩, rfl⟩
    · walk_at "go"
      exact kk _ _ ⟨rfl, y, ⟨y0, yB⟩, rfl⟩
  rintro σ H2 ⟨rfl, x, xB, rfl⟩
  have k0 : 0 ≤ num ns i 0 20 := num_nn (by decide)
  have k1 : num ns i 0 20 < 20 := num_lt (by decide)
  walk_at "go"
  generalize num ns i 0 20 = kd at *
  show tSeq _ _ _ _ _
  refine jnS (M := fun σ H' => H' = H2 ∧ 5 ≤ kd ∧ σ = [sR a, sI i, sR kr, sR er, sI wd, sI y, sI x, sI kd, none, none, none, none]) ?_ (fun N kk => ?_)
  rotate_left
  · walk_at "go"
    have fb : ∀ r, H2 r = none → Q (.ref r) (upd H2 r (.tup [.str "begin", .int y])) := fun r nr => q r (.beg y) _ (s1.trans (same_upd nr)) (s1.free nr) ⟨upd_same, trivial⟩ (fun _ _ _ _ z => by cases z) ⟨yn, y0, yB⟩
    refine ifD (fun c => ?_) (fun c => ?_)
    · walk_at "go"
      exact ⟨sz, fun r nr => fb r nr⟩
    · walk_at "go"
      refine ifEq (fun z => ?_) (fun z => ?_)
      · walk_at "go"
        refine ifD (fun z2 => ?_) (fun z2 => ?_)
        · walk_at "go"
          exact ⟨sz, fun r nr => fb r nr⟩
        · walk_at "go"
          exact kk _ _ ⟨rfl, by omega, rfl⟩
      · walk_at "go"
        exact kk _ _ ⟨rfl, by omega, rfl⟩
  rintro σ H1 ⟨rfl, k5, rfl⟩
  refine jnS (M := fun σ H' => H' = H1 ∧ 8 ≤ kd ∧ σ = [sR a, sI i, sR kr, sR er, sI wd, sI y, sI x, sI kd, none, none, none, none]) ?_ (fun N kk => ?_)
  rotate_left
  · walk_at "go"
    refine ifD (fun c => ?_) (fun c => ?_)
    · refine ⟨sz, fun l nl => ?_⟩
      have s2 := same_upd (o := HO.lst [V.str "duplicate", V.str "rename", V.str "duplicate"]) nl
      have gl := upd_same (H := H1) (a := l) (o := HO.lst [V.str "duplicate", V.str "rename", V.str "duplicate"])
      show _
      generalize upd H1 l (HO.lst [V.str "duplicate", V.str "rename", V.str "duplicate"]) = H3 at *
      have s3 := s1.trans s2
      walk_at "go"
      obtain rfl | rfl | rfl : kd = 5 ∨ kd = 6 ∨ kd = 7 := by omega
      · refine ⟨l, _, _, V.str "duplicate", rfl, rfl, SqL.of gl, (by rfl), ?_⟩
        walk_at "go"
        exact ⟨sz, fun r nr => q r (.dup x y) _ (s3.trans (same_upd nr)) (s3.free nr) ⟨upd_same, trivial⟩ (fun _ _ _ _ z => by cases z) ⟨xB, yn, y0, yB⟩⟩
      · refine ⟨l, _, _, V.str "rename", rfl, rfl, SqL.of gl, (by rfl), ?_⟩
        walk_at "go"
        exact ⟨sz, fun r nr => q r (.ren x y) _ (s3.trans (same_upd nr)) (s3.free nr) ⟨upd_same, trivial⟩ (fun _ _ _ _ z => by cases z) ⟨xB, yn, y0, yB⟩⟩
      · refine ⟨l, _, _, V.str "duplicate", rfl, rfl, SqL.of gl, (by rfl), ?_⟩
        walk_at "go"
        exact ⟨sz, fun r nr => q r (.dup x y) _ (s3.trans (same_upd nr)) (s3.free nr) ⟨upd_same, trivial⟩ (fun _ _ _ _ z => by cases z) ⟨xB, yn, y0, yB⟩⟩
    · walk_at "go"
      exact kk _ _ ⟨rfl, by omega, rfl⟩
  rintro σ H2 ⟨rfl, k8, rfl⟩
  have lw0 : 0 ≤ num ns i 6 wd := num_nn (by omega)
  have lw1 : num ns i 6 wd < wd := num_lt (by omega)
  walk_at "go"
  generalize num ns i 6 wd = low at *
  have mn0 : 0 ≤ num ns i 7 (wd - low + 1) := num_nn (by omega)
  have mn1 : num ns i 7 (wd - low + 1) < wd - low + 1 := num_lt (by omega)
  walk_at "go"
  generalize num ns i 7 (wd - low + 1) = many at *
  show tSeq _ _ _ _ _
  refine jnS (M := fun σ H' => H' = H2 ∧ 11 ≤ kd ∧ ∃ y1 y2, σ = [sR a, sI i, sR kr, sR er, sI wd, sI y, sI x, sI kd, sI low, sI many, y1, y2]) ?_ (fun N kk => ?_)
  rotate_left
  · walk_at "go"
    refine ifD (fun c => ?_) (fun c => ?_)
    · walk_at "go"
      refine CbI.mk ⟨1, many, rfl, ?_⟩
      have mx0 : (if many > 1 then many else 1) ≤ wd - low := by split <;> omega
      have mx1 : 1 ≤ (if many > 1 then many else 1) := by split <;> omega
      generalize (if many > 1 then many else 1) = mx at *
      walk_at "go"
      refine ⟨by omega, by omega, fun dr ndr => lc_range (lo := 0) (n := mx.toNat) (fun j H' => Ob (Same H2 H' ∧ ∃ ds : List Int, H' dr = some (.lst (ds.map V.int)) ∧ ds.length = j)) (ob ⟨same_upd ndr, [], upd_same, rfl⟩) ?_ ?_⟩
      · intro j H8 hj h
        obtain ⟨s8, ds, g8, l8⟩ := unob h
        clear h
        have hS8 := (s1.trans s8).seq hS
        refine ⟨rfl, ?_⟩
        walk_at "go"
        refine ⟨_, g8, sz5 (by rw [List.length_map, l8]; omega), ob ⟨same_put s8 ndr, ds ++ [(num ns i (8 + (0 + (j : Int)) % 6) 256 + 37 * ((0 + (j : Int)) / 6)) % 256], ?_, by rw [List.length_append, l8]; rfl⟩⟩
        rw [List.map_append]
        exact upd_same
      intro H3 h
      obtain ⟨s3, ds, g3, l3⟩ := unob h
      clear h
      show tSeq _ _ _ _ _
      walk_at "go"
      refine ⟨sz, fun r nr => q r (.sto x low dr ds) _ ((s1.trans s3).trans (same_upd nr)) (s1.free (s3.free nr)) ⟨upd_same, same_upd nr _ _ g3⟩ (fun _ _ _ _ z => by cases z; exact s1.free ndr) ⟨xB, by omega, by omega, by omega⟩⟩
    · walk_at "go"
      exact kk _ _ ⟨rfl, by omega, _, _, rfl⟩
  rintro σ H1 ⟨rfl, k11, y1, y2, rfl⟩
  refine jnS (M := fun σ H' => H' = H1 ∧ 13 ≤ kd ∧ σ = [sR a, sI i, sR kr, sR er, sI wd, sI y, sI x, sI kd, sI low, sI many, y1, y2]) ?_ (fun N kk => ?_)
  rotate_left
  · walk_at "go"
    refine ifD (fun c => ?_) (fun c => ?_)
    · walk_at "go"
      exact ⟨sz, fun r nr => q r (.rd x low many) _ (s1.trans (same_upd nr)) (s1.free nr) ⟨upd_same, trivial⟩ (fun _ _ _ _ z => by cases z) ⟨xB, by omega, by omega, by omega⟩⟩
    · walk_at "go"
      exact kk _ _ ⟨rfl, by omega, rfl⟩
  rintro σ H2 ⟨rfl, k13, rfl⟩
  refine jnS (M := fun σ H' => H' = H2 ∧ σ = [sR a, sI i, sR kr, sR er, sI wd, sI y, sI x, sI kd, sI low, sI many, y1, y2]) ?_ (fun N kk => ?_)
  rotate_left
  · have z0 : 0 ≤ num ns i 6 2 := num_nn (by decide)
    walk_at "go"
    refine ifEq (fun c => ?_) (fun c => ?_)
    · walk_at "go"
      refine ifEq (fun c => ?_) (fun c => ?_)
      · walk_at "go"
        exact ⟨sz, fun r nr => q r .unp _ (s1.trans (same_upd nr)) (s1.free nr) ⟨upd_same, trivial⟩ (fun _ _ _ _ z => by cases z) trivial⟩
      · walk_at "go"
        exact kk _ _ ⟨rfl, rfl⟩
    · walk_at "go"
      exact kk _ _ ⟨rfl, rfl⟩
  rintro σ H1 ⟨rfl, rfl⟩
  refine ⟨sz, fun l nl => ?_⟩
  have gl := upd_same (H := H1) (a := l) (o := HO.lst [V.str "release", V.str "bring", V.str "put_out", V.str "put_out", V.str "put_out", V.str "bring", V.str "pin"])
  have s2 := same_upd (o := HO.lst [V.str "release", V.str "bring", V.str "put_out", V.str "put_out", V.str "put_out", V.str "bring", V.str "pin"]) nl
  show _
  generalize upd H1 l (HO.lst [V.str "release", V.str "bring", V.str "put_out", V.str "put_out", V.str "put_out", V.str "bring", V.str "pin"]) = H3 at *
  have s3 := s1.trans s2
  have fin : ∀ c : PCall, (∀ H', c.data H') → (∀ x o dr ds, c ≠ .sto x o dr ds) → c.ok kn wd → c.vs.length ≤ sizeLine ∧ ∀ p, H3 p = none → Q (.ref p) (upd H3 p (.tup c.vs)) := fun c hd hn ho => ⟨c.small, fun r nr => q r c _ (s3.trans (same_upd nr)) (s3.free nr) ⟨upd_same, hd _⟩ (fun _ _ _ _ z => absurd z (hn _ _ _ _)) ho⟩
  walk_at "go"
  obtain rfl | rfl | rfl | rfl | rfl | rfl | rfl : kd = 13 ∨ kd = 14 ∨ kd = 15 ∨ kd = 16 ∨ kd = 17 ∨ kd = 18 ∨ kd = 19 := by omega
  · refine ⟨l, _, _, V.str "release", rfl, rfl, SqL.of gl, (by rfl), ?_⟩
    walk_at "go"
    exact fin (.rel x) (fun _ => trivial) (fun _ _ _ _ z => by cases z) xB
  · refine ⟨l, _, _, V.str "bring", rfl, rfl, SqL.of gl, (by rfl), ?_⟩
    walk_at "go"
    exact fin (.brg x) (fun _ => trivial) (fun _ _ _ _ z => by cases z) xB
  · refine ⟨l, _, _, V.str "put_out", rfl, rfl, SqL.of gl, (by rfl), ?_⟩
    walk_at "go"
    exact fin (.put x) (fun _ => trivial) (fun _ _ _ _ z => by cases z) xB
  · refine ⟨l, _, _, V.str "put_out", rfl, rfl, SqL.of gl, (by rfl), ?_⟩
    walk_at "go"
    exact fin (.put x) (fun _ => trivial) (fun _ _ _ _ z => by cases z) xB
  · refine ⟨l, _, _, V.str "put_out", rfl, rfl, SqL.of gl, (by rfl), ?_⟩
    walk_at "go"
    exact fin (.put x) (fun _ => trivial) (fun _ _ _ _ z => by cases z) xB
  · refine ⟨l, _, _, V.str "bring", rfl, rfl, SqL.of gl, (by rfl), ?_⟩
    walk_at "go"
    exact fin (.brg x) (fun _ => trivial) (fun _ _ _ _ z => by cases z) xB
  · refine ⟨l, _, _, V.str "pin", rfl, rfl, SqL.of gl, (by rfl), ?_⟩
    walk_at "go"
    exact fin (.pin x) (fun _ => trivial) (fun _ _ _ _ z => by cases z) xB
end

end

section

-- a condition of an operator
local macro_rules | `(tactic| walk_at "cond") => `(tactic| first
  | (show (0 : Int) < _; omega)
  | (show CDiv _ _; constructor <;> (first | decide | omega))
  | (show CMul _ _; first | (refine cmul_l ?_; constructor <;> (first | decide | omega)) | (refine cmul_r ?_; constructor <;> (first | decide | omega)))
  | (show CPow _ _; exact (by refine ⟨by decide, by decide, by decide⟩))
  | (show CDivW _ _; exact ⟨by decide, by decide +kernel⟩))
local macro_rules | `(tactic| walk_at "sq") => `(tactic| first | assumption | exact Dh.mono (same_upd (by assumption)) _ _ (by assumption) | exact .inl (.inl (.inl (by assumption))) | exact .inr (.inl (.inl (by assumption))) | exact SqL.of (by assumption) | exact .inl (by assumption) | exact .inl (SqL.of (by assumption)) | exact SqT.of (by assumption) | exact .inr (SqT.of (by assumption)))
local macro_rules | `(tactic| walk_at "st") => `(tactic| first
  | refine ⟨_, rfl, ?_⟩
  | refine ⟨_, _, rfl, rfl, ?_⟩
  | refine .inl ⟨_, rfl, ?_⟩
  | refine ⟨rfl, ?_⟩
  | refine ⟨_, _, rfl, by walk_at "sq", ?_⟩
  | refine ⟨.inl ⟨rfl, _, SqL.of (by assumption)⟩, ?_⟩
  | refine ⟨by walk_at "cond", ?_⟩
  | (refine' ifBT ?hh ?_; (case hh => first | rfl | assumption))
  | (refine' ifBF ?hh ?_; (case hh => first | rfl | assumption)))
local macro_rules | `(tactic| walk_at "go") => `(tactic| repeat walk_at "st")
local macro_rules | `(tactic| walk_at "yes") => `(tactic| (refine' ifT ?hh ?_; (case hh => first | rfl | decide +kernel)))
local macro_rules | `(tactic| walk_at "no") => `(tactic| (refine' ifF ?hh ?_; (case hh => first | decide +kernel | (intro z; cases z; done))))

local macro_rules | `(tactic| walk_at "st") => `(tactic| refine ⟨_, _, _, _, _, rfl, by assumption, by assumption, by omega, by omega, by omega, by omega, by omega, ?_⟩)
local macro_rules | `(tactic| walk_at "st") => `(tactic| refine ⟨_, _, _, _, _, rfl, Same.seq (by assumption) (by assumption), by assumption, by omega, by omega, by omega, by omega, by omega, ?_⟩)

/-! ### what the law expects of a pager -/
def mc (S : GS) : List (Int × List Int) := S.cs.map fun c => (c.st, c.by')
def getM (M : List (Int × List Int)) (x : Int) : List Int := ((M.find? fun p => decide (p.1 = x)).map (·.2)).getD []
def doM (wd : Nat) (M : List (Int × List Int)) : PCall → List (Int × List Int)
  | .beg y => M ++ [(y, List.replicate wd 0)]
  | .dup x y => M ++ [(y, getM M x)]
  | .ren x y => M.filter (fun p => decide (p.1 ≠ x)) ++ [(y, getM M x)]
  | .sto x o _ ds => M.map fun p => if p.1 = x then (p.1, cutB p.2 o ds) else p
  | .rel x => M.filter fun p => decide (p.1 ≠ x)
  | _ => M
def doP (pins : List Int) : PCall → List Int
  | .ren x y => pins.filter (fun z => decide (z ≠ x)) ++ (if x ∈ pins then [y] else [])
  | .rel x => pins.filter fun z => decide (z ≠ x)
  | .pin x => if x ∈ pins then pins else pins ++ [x]
  | .unp => []
  | _ => pins
def PCall.ask : PCall → Option Int
  | .beg _ => none
  | .dup x _ => some x
  | .ren x _ => some x
  | .sto x _ _ _ => some x
  | .rd x _ _ => some x
  | .rel x => some x
  | .brg x => some x
  | .put x => some x
  | .pin x => some x
  | .unp => none
theorem mc_st (S : GS) : (mc S).map (·.1) = S.cs.map (·.st) := by
  unfold mc
  rw [List.map_map]
  rfl
theorem get_mc : ∀ {cs : List Cont} {c : Cont}, c ∈ cs → (cs.map (·.st)).Nodup → getM (cs.map fun c => (c.st, c.by')) c.st = c.by'
  | [], _, h, _ => by cases h
  | d :: ds, c, h, n => by
    obtain ⟨n1, n2⟩ := List.nodup_cons.mp n
    unfold getM
    rw [List.map_cons, List.find?_cons]
    rcases List.mem_cons.mp h with rfl | h
    · simp
    · have e : decide (d.st = c.st) = false := decide_eq_false (by
        intro z
        exact n1 (by show d.st ∈ ds.map (·.st); rw [z]; exact List.mem_map.mpr ⟨c, h, rfl⟩))
      rw [e]
      exact get_mc h n2
theorem chs_bits {kd : Str} {n : Nat} {hand f hand' : Int} {bits fl us bits' als : List Int} (n1 : 1 ≤ n) (h0 : 0 ≤ hand) (h1 : hand < n) (lb : bits.length = n) (c : ChsR kd n hand bits fl us als f hand' bits') : bits'.length = n := by
  rcases c with ⟨_, hh⟩ | ⟨_, _, _, _, e⟩
  · exact (hunt_res n1 _ _ _ _ hh lb h0 h1).2.1
  · rw [e]
    exact lb
section
variable {k : GK} {S S' : GS} {pins : List Int} {b : Nat}
theorem GI.obt_bits {als : List Int} {j : Nat} (h : GI k S pins) (lb : S.bits.length = k.n) (o : ObR k S als j S') : S'.bits.length = k.n := by
  rcases o with ⟨_, _, rfl⟩ | ⟨_, hand', bits', x, ps, c, _, _, rfl⟩
  · exact lb
  · show (bits'.set _ 0).length = k.n
    rw [List.length_set]
    exact chs_bits (by rw [h.n]; exact h.n1) h.h0 (by rw [h.n]; exact h.h1) lb c
theorem GI.br_bits {x : Int} (h : GI k S pins) (lb : S.bits.length = k.n) (o : BrR k S x S') : S'.bits.length = k.n := by
  rcases o with ⟨_, rfl⟩ | ⟨_, j, S1, _, o, rfl⟩
  · show (S.bits.set _ 1).length = k.n
    rw [List.length_set]
    exact lb
  · show (S1.bits.set _ 1).length = k.n
    rw [List.length_set]
    exact h.obt_bits lb o
theorem mc_add (S : GS) (c : Cont) : mc (addG S c) = mc S ++ [(c.st, c.by')] := by
  unfold mc addG
  rw [List.map_append]
  rfl
theorem mc_set (cs : List Cont) (x o : Int) (b' : List Int) (ds : List Int) (h : ∀ c ∈ cs, c.st = x → cutB c.by' o ds = b') : (setC cs x b').map (fun c => (c.st, c.by')) = (cs.map fun c => (c.st, c.by')).map fun p => if p.1 = x then (p.1, cutB p.2 o ds) else p := by
  unfold setC
  rw [List.map_map, List.map_map]
  refine List.map_congr_left fun c hc => ?_
  show ((if c.st = x then (⟨c.st, c.ad, b'⟩ : Cont) else c).st, (if c.st = x then (⟨c.st, c.ad, b'⟩ : Cont) else c).by') = if c.st = x then (c.st, cutB c.by' o ds) else (c.st, c.by')
  by_cases e : c.st = x
  · rw [if_pos e, if_pos e, h c hc e]
  · rw [if_neg e, if_neg e]
theorem mc_filt (cs : List Cont) (x : Int) : (cs.filter fun c => decide (c.st ≠ x)).map (fun c => (c.st, c.by')) = (cs.map fun c => (c.st, c.by')).filter fun p => decide (p.1 ≠ x) := by
  rw [List.filter_map]
  rfl
end
/-- a pager's step, as the law sees it -/
structure Post (C : GC) (PT : Addr) (k : GK) (A : GA) (S : GS) (H : Hp) (A' : GA) (S' : GS) (pins : List Int) (M : List (Int × List Int)) (b : Nat) (H' : Hp) : Prop where
  at_ : PgAt C H' A' k S'
  gi : GI k S' pins
  bd : Bd S' b
  m : mc S' = M
  p : A'.p = A.p
  ad : ∀ a ∈ A'.all S'.cs, a ∈ A.all S.cs ∨ NewA H a
  bt : ButT (A.all S.cs) H H'
  tb : Tabs (chT PT) H'

end

section

-- a condition of an operator
local macro_rules | `(tactic| walk_at "cond") => `(tactic| first
  | (show (0 : Int) < _; omega)
  | (show CDiv _ _; constructor <;> (first | decide | omega))
  | (show CMul _ _; first | (refine cmul_l ?_; constructor <;> (first | decide | omega)) | (refine cmul_r ?_; constructor <;> (first | decide | omega)))
  | (show CPow _ _; exact (by refine ⟨by decide, by decide, by decide⟩))
  | (show CDivW _ _; exact ⟨by decide, by decide +kernel⟩))
local macro_rules | `(tactic| walk_at "sq") => `(tactic| first | assumption | exact Dh.mono (same_upd (by assumption)) _ _ (by assumption) | exact .inl (.inl (.inl (by assumption))) | exact .inr (.inl (.inl (by assumption))) | exact SqL.of (by assumption) | exact .inl (by assumption) | exact .inl (SqL.of (by assumption)) | exact SqT.of (by assumption) | exact .inr (SqT.of (by assumption)))
local macro_rules | `(tactic| walk_at "st") => `(tactic| first
  | refine ⟨_, rfl, ?_⟩
  | refine ⟨_, _, rfl, rfl, ?_⟩
  | refine .inl ⟨_, rfl, ?_⟩
  | refine ⟨rfl, ?_⟩
  | refine ⟨_, _, rfl, by walk_at "sq", ?_⟩
  | refine ⟨.inl ⟨rfl, _, SqL.of (by assumption)⟩, ?_⟩
  | refine ⟨by walk_at "cond", ?_⟩
  | (refine' ifBT ?hh ?_; (case hh => first | rfl | assumption))
  | (refine' ifBF ?hh ?_; (case hh => first | rfl | assumption)))
local macro_rules | `(tactic| walk_at "go") => `(tactic| repeat walk_at "st")
local macro_rules | `(tactic| walk_at "yes") => `(tactic| (refine' ifT ?hh ?_; (case hh => first | rfl | decide +kernel)))
local macro_rules | `(tactic| walk_at "no") => `(tactic| (refine' ifF ?hh ?_; (case hh => first | decide +kernel | (intro z; cases z; done))))

local macro_rules | `(tactic| walk_at "st") => `(tactic| refine ⟨_, _, _, _, _, rfl, by assumption, by assumption, by omega, by omega, by omega, by omega, by omega, ?_⟩)
local macro_rules | `(tactic| walk_at "st") => `(tactic| refine ⟨_, _, _, _, _, rfl, Same.seq (by assumption) (by assumption), by assumption, by omega, by omega, by omega, by omega, by omega, ?_⟩)

/-! ### lists of numbers as data -/
theorem dh_ints {H : Hp} : ∀ (ns : List Int), DhAll H (ns.map PyData.int) (ns.map V.int)
  | [] => rfl
  | n :: ns => ⟨.int n, ns.map V.int, rfl, rfl, dh_ints ns⟩
theorem lay_ints : ∀ ns : List Int, PyData.canLayAll0 (ns.map PyData.int) = true
  | [] => by simp [PyData.canLayAll0]
  | n :: ns => by
    simp only [List.map_cons, PyData.canLayAll0, PyData.canLay0, lay_ints ns, Bool.and_self]
theorem depth_ints : ∀ ns : List Int, PyData.depthAll (ns.map PyData.int) ≤ 1
  | [] => by simp [PyData.depthAll]
  | n :: ns => by
    have h := depth_ints ns
    simp only [List.map_cons, PyData.depthAll, PyData.depth]
    omega
theorem shaped_ints (ns : List Int) : SeqAt.shaped (.list (ns.map PyData.int)) = true := by
  have h1 := depth_ints ns
  have h2 : PyData.depth (.list (ns.map PyData.int)) ≤ 64 := by
    simp only [PyData.depth]
    omega
  show (PyData.canLay0 (.list (ns.map PyData.int)) && decide (PyData.depth (.list (ns.map PyData.int)) ≤ 64)) = true
  rw [Bool.and_eq_true]
  exact ⟨by simp only [PyData.canLay0]; exact lay_ints ns, decide_eq_true h2⟩
theorem eqvA_ints : ∀ ns : List Int, PyData.eqvAll (ns.map PyData.int) (ns.map PyData.int) = true
  | [] => by simp [PyData.eqvAll]
  | n :: ns => by
    simp only [List.map_cons, PyData.eqvAll, PyData.eqv, eqvA_ints ns, beq_self_eq_true, Bool.and_self]
theorem eqv_ints (ns : List Int) : PyData.eqv (.list (ns.map PyData.int)) (.list (ns.map PyData.int)) = true := by
  rw [PyData.eqv]
  exact eqvA_ints ns
theorem dle_ints (n : Nat) (ns : List Int) (h : ns.length ≤ 100000) : Dle (n + 2) (.list (ns.map PyData.int)) := ⟨by rw [List.length_map]; exact h, fun e he => by
  obtain ⟨x, _, rfl⟩ := List.mem_map.mp he
  trivial⟩
theorem dh_li {H : Hp} {p : Addr} {ns : List Int} (g : H p = some (.lst (ns.map V.int))) : Dh H (.list (ns.map PyData.int)) (.ref p) := ⟨p, _, rfl, g, dh_ints ns⟩
theorem dle_li {n : Nat} {ns : List Int} (h : ns.length ≤ 100000) : Dle (n + 2) (.list (ns.map PyData.int)) := ⟨by rw [List.length_map]; exact h, fun d m => by
  obtain ⟨i, _, rfl⟩ := List.mem_map.mp m
  exact trivial⟩

end

section

-- a condition of an operator
local macro_rules | `(tactic| walk_at "cond") => `(tactic| first
  | (show (0 : Int) < _; omega)
  | (show CDiv _ _; constructor <;> (first | decide | omega))
  | (show CMul _ _; first | (refine cmul_l ?_; constructor <;> (first | decide | omega)) | (refine cmul_r ?_; constructor <;> (first | decide | omega)))
  | (show CPow _ _; exact (by refine ⟨by decide, by decide, by decide⟩))
  | (show CDivW _ _; exact ⟨by decide, by decide +kernel⟩))
local macro_rules | `(tactic| walk_at "sq") => `(tactic| first | assumption | exact Dh.mono (same_upd (by assumption)) _ _ (by assumption) | exact .inl (.inl (.inl (by assumption))) | exact .inr (.inl (.inl (by assumption))) | exact SqL.of (by assumption) | exact .inl (by assumption) | exact .inl (SqL.of (by assumption)) | exact SqT.of (by assumption) | exact .inr (SqT.of (by assumption)))
local macro_rules | `(tactic| walk_at "st") => `(tactic| first
  | refine ⟨_, rfl, ?_⟩
  | refine ⟨_, _, rfl, rfl, ?_⟩
  | refine .inl ⟨_, rfl, ?_⟩
  | refine ⟨rfl, ?_⟩
  | refine ⟨_, _, rfl, by walk_at "sq", ?_⟩
  | refine ⟨.inl ⟨rfl, _, SqL.of (by assumption)⟩, ?_⟩
  | refine ⟨by walk_at "cond", ?_⟩
  | (refine' ifBT ?hh ?_; (case hh => first | rfl | assumption))
  | (refine' ifBF ?hh ?_; (case hh => first | rfl | assumption)))
local macro_rules | `(tactic| walk_at "go") => `(tactic| repeat walk_at "st")
local macro_rules | `(tactic| walk_at "yes") => `(tactic| (refine' ifT ?hh ?_; (case hh => first | rfl | decide +kernel)))
local macro_rules | `(tactic| walk_at "no") => `(tactic| (refine' ifF ?hh ?_; (case hh => first | decide +kernel | (intro z; cases z; done))))

local macro_rules | `(tactic| walk_at "st") => `(tactic| refine ⟨_, _, _, _, _, rfl, by assumption, by assumption, by omega, by omega, by omega, by omega, by omega, ?_⟩)
local macro_rules | `(tactic| walk_at "st") => `(tactic| refine ⟨_, _, _, _, _, rfl, Same.seq (by assumption) (by assumption), by assumption, by omega, by omega, by omega, by omega, by omega, ?_⟩)

/-! ### _law_pager_tell -/
abbrev s_pager_tell : Stmt := topS 20
theorem sc_pager_tell : FnScope ["_law_pager", "_law_call", "_law_data", "_law_told"] ["_law_pager", "_law_call"] (C8.fnScope s_pager_tell) := C8.fnScope_by (by decide +kernel)
structure PgM (P : Program) (w : World) (K : PySem.W.Frag) (mg : Str → Option Value) (base : Heap) (C : GC) (PT D D2 U : Addr) : Prop where
  beg : MetE P w K mg base 5 C.g "begin" (spBeg C PT D D2)
  dup : MetE P w K mg base 6 C.g "duplicate" (spDup C PT D D2 U)
  ren : MetE P w K mg base 6 C.g "rename" (spRen C PT D U)
  sto : MetE P w K mg base 6 C.g "store" (spSto C PT D U)
  rd : MetE P w K mg base 6 C.g "read" (spRdG C PT D U)
  rel : MetE P w K mg base 4 C.g "release" (spRel C U)
  brg : MetE P w K mg base 5 C.g "bring" (spBrG C PT D U)
  put : MetE P w K mg base 4 C.g "put_out" (spPout C PT U)
  pin : MetE P w K mg base 6 C.g "pin" (spPin C PT D U)
  unp : C8.Met P w K mg base 1 C.g "unpin" (spUnp C) []
  live : C8.Met P w K mg base 1 C.g "live" (spLive C) []
def TellV (M : List (Int × List Int)) (pins : List Int) (H H' : Hp) (L : List Addr) (v : V) : PCall → Prop
  | .rd x o l => ∃ a, v = .ref a ∧ NewA H a ∧ a ∉ L ∧ H' a = some (.lst (cutV ((getM M x).map V.int) (some o) (some (o + l))))
  | .put x => ∃ b, v = .bl b ∧ (b = true → x ∉ pins)
  | _ => v = .non
def PCall.roomy : PCall → Prop
  | .beg _ => True
  | .dup _ _ => True
  | _ => False
def spTell (C : GC) (PT U : Addr) : Sp := fun vs H Q E => ∃ (A : GA) (k : GK) (S : GS) (pins : List Int) (b : Nat) (r : Addr) (c : PCall) (wd : Nat), vs = [.ref A.p, .ref r] ∧ PgAt C H A k S ∧ GI k S pins ∧ Bd S b ∧ b ≤ 60000 ∧ Tabs (chT PT) H ∧ CallAt H r c ∧ (∀ x o dr ds, c = .sto x o dr ds → dr ∉ A.all S.cs) ∧ c.ok (S.cs.map (·.st)) wd ∧ k.size = wd ∧ wd ≤ 16 ∧ (∀ d ∈ S.cs, d.by'.length = wd) ∧ S.cs.length ≤ 60 ∧ pins.length + 1 ≤ S.fr.length ∧ k.room ≤ 100000 ∧ r ∉ A.all S.cs ∧
  (c.roomy → (∀ x, c.ask = some x → x ∈ S.cs.map (·.st)) → (S.cs.length : Int) + 1 ≤ k.room) ∧
  ((∀ x, c.ask = some x → x ∈ S.cs.map (·.st)) → ∀ v A' S' H', Post C PT k A S H A' S' (doP pins c) (doM wd (mc S) c) (b + 3) H' → TellV (mc S) pins H H' (A'.all S'.cs) v c → CallAt H' r c → Q v H') ∧
  (∀ x, c.ask = some x → x ∉ S.cs.map (·.st) → ∀ H1 d, Same H H1 → H1 d = none → E (.ref U) (some d) (upd H1 d (.xd (nsF x))))
section
variable {fa pp ca da na la x : Addr} {room size : Int}
theorem pg_b1 : (pgF fa pp ca da na la room size).lookup ("begin" : Str) = none := by kernel_rfl
theorem pg_b2 : (pgF fa pp ca da na la room size).lookup ("duplicate" : Str) = none := by kernel_rfl
theorem pg_b3 : (pgF fa pp ca da na la room size).lookup ("rename" : Str) = none := by kernel_rfl
theorem pg_b4 : (pgF fa pp ca da na la room size).lookup ("store" : Str) = none := by kernel_rfl
theorem pg_b5 : (pgF fa pp ca da na la room size).lookup ("read" : Str) = none := by kernel_rfl
theorem pg_b6 : (pgF fa pp ca da na la room size).lookup ("release" : Str) = none := by kernel_rfl
theorem pg_b7 : (pgF fa pp ca da na la room size).lookup ("put_out" : Str) = none := by kernel_rfl
theorem pg_b8 : (pgF fa pp ca da na la room size).lookup ("pin" : Str) = none := by kernel_rfl
theorem pg_b9 : (pgF fa pp ca da na la room size).lookup ("unpin" : Str) = none := by kernel_rfl
theorem pg_b10 : (pgF fa pp ca da na la room size).lookup ("live" : Str) = none := by kernel_rfl
end
theorem CallAt.keep {H H' : Hp} {r : Addr} {c : PCall} {F : List Addr} (h : CallAt H r c) (b : ButT F H H') (n : r ∉ F) (d : ∀ x o dr ds, c = .sto x o dr ds → dr ∉ F) : CallAt H' r c :=
  ⟨b _ _ n (fun _ z => by cases z) h.g, by
    have := h.d
    cases c
    case sto x o dr ds => exact b _ _ (d x o dr ds rfl) (fun _ z => by cases z) this
    all_goals trivial⟩
theorem fr4 {A : GA} {cs : List Cont} {z : Addr} (h : z ∈ A.cf :: A.cu :: A.da :: A.fr) : z ∈ A.all cs := List.mem_append_left _ (by
  rcases List.mem_cons.mp h with rfl | h
  · simp [GA.fix]
  rcases List.mem_cons.mp h with rfl | h
  · simp [GA.fix]
  rcases List.mem_cons.mp h with rfl | h
  · simp [GA.fix]
  exact fr_fix h)
theorem fr3 {A : GA} {cs : List Cont} {z : Addr} (h : z ∈ A.cf :: A.cu :: A.fr) : z ∈ A.all cs := fr4 (by
  rcases List.mem_cons.mp h with rfl | h
  · simp
  rcases List.mem_cons.mp h with rfl | h
  · simp
  exact List.mem_cons_of_mem _ (List.mem_cons_of_mem _ (List.mem_cons_of_mem _ h)))
theorem mc_eq {S S' : GS} (h : S'.cs = S.cs) : mc S' = mc S := by
  unfold mc
  rw [h]
theorem all_sub {A : GA} {cs cs' : List Cont} (h : ∀ a ∈ cs'.map (·.ad), a ∈ cs.map (·.ad)) {a : Addr} (m : a ∈ A.all cs') : a ∈ A.all cs := by
  rcases List.mem_append.mp m with z | z
  · exact List.mem_append_left _ z
  · exact List.mem_append_right _ (h a z)
section
variable {P : Program} {w : World} {K : PySem.W.Frag} {mg : Str → Option Value} {base : Heap} {C : GC} {PT D D2 U : Addr}
theorem inB_log {x : Int} (h : inB x) : x.natAbs.log2 < 1920 := log_of (by have := h.1; omega) (by have := h.2; unfold stB at this; omega)
theorem ok_tell {f : Addr} {fd : FuncData} (Df : Def K mg "_law_pager_tell" s_pager_tell f fd) (b : Binds K fd ["_law_pager", "_law_call"] []) (T : LTxt mg) (PM : PgM P w K mg base C PT D D2 U) : CalE P w K mg base 7 "_law_pager_tell" (spTell C PT U) := by
  refine calE Df b sc_pager_tell (fun vs H Q E h => ?_) (fun cdv A0 outer s H vs Q E hr h => ?_)
  · obtain ⟨A, k, S, pins, b, r, c, wd, rfl, _⟩ := h
    rfl
  obtain ⟨A, k, S, pins, b, r, c, wd, rfl, hp, gi, bd, lb, hT, hc, ndr, cok, ks, w16, lby, lc, lp, room, nr, rm, q1, q2⟩ := h
  have m_unpin := metI PM.unp
  refine ⟨_, (pss_cons (ps_mk (ps_if (pt_cmpR op_eq (pe_ix (ixT K rfl) (pv 1) pe_int (fun _ _ => rfl)) pe_str (nomark _))
      (pss_one (ps_ret (pe_mE PM.beg (takes_of rfl rfl rfl rfl) hr (by omega) (pv 0) (pa_cons (pe_ix (ixT K rfl) (pv 1) pe_int (fun _ _ => rfl)) pa_nil))))
      pss_nil))
      (pss_cons (ps_mk (ps_if (pt_cmpR op_eq (pe_ix (ixT K rfl) (pv 1) pe_int (fun _ _ => rfl)) pe_str (nomark _))
      (pss_one (ps_ret (pe_mE PM.dup (takes_of rfl rfl rfl rfl) hr (by omega) (pv 0) (pa_cons (pe_ix (ixT K rfl) (pv 1) pe_int (fun _ _ => rfl)) (pa_cons (pe_ix (ixT K rfl) (pv 1) pe_int (fun _ _ => rfl)) pa_nil)))))
      pss_nil))
      (pss_cons (ps_mk (ps_if (pt_cmpR op_eq (pe_ix (ixT K rfl) (pv 1) pe_int (fun _ _ => rfl)) pe_str (nomark _))
      (pss_one (ps_ret (pe_mE PM.ren (takes_of rfl rfl rfl rfl) hr (by omega) (pv 0) (pa_cons (pe_ix (ixT K rfl) (pv 1) pe_int (fun _ _ => rfl)) (pa_cons (pe_ix (ixT K rfl) (pv 1) pe_int (fun _ _ => rfl)) pa_nil)))))
      pss_nil))
      (pss_cons (ps_mk (ps_if (pt_cmpR op_eq (pe_ix (ixT K rfl) (pv 1) pe_int (fun _ _ => rfl)) pe_str (nomark _))
      (pss_one (ps_ret (pe_mE PM.rd (takes_of rfl rfl rfl rfl) hr (by omega) (pv 0) (pa_cons (pe_ix (ixT K rfl) (pv 1) pe_int (fun _ _ => rfl)) (pa_cons (pe_ix (ixT K rfl) (pv 1) pe_int (fun _ _ => rfl)) (pa_cons (pe_ix (ixT K rfl) (pv 1) pe_int (fun _ _ => rfl)) pa_nil))))))
      pss_nil))
      (pss_cons (ps_mk (ps_if (pt_cmpR op_eq (pe_ix (ixT K rfl) (pv 1) pe_int (fun _ _ => rfl)) pe_str (nomark _))
      (pss_one (ps_ret (pe_mE PM.rel (takes_of rfl rfl rfl rfl) hr (by omega) (pv 0) (pa_cons (pe_ix (ixT K rfl) (pv 1) pe_int (fun _ _ => rfl)) pa_nil))))
      pss_nil))
      (pss_cons (ps_mk (ps_if (pt_cmpR op_eq (pe_ix (ixT K rfl) (pv 1) pe_int (fun _ _ => rfl)) pe_str (nomark _))
      (pss_one (ps_ret (pe_mE PM.brg (takes_of rfl rfl rfl rfl) hr (by omega) (pv 0) (pa_cons (pe_ix (ixT K rfl) (pv 1) pe_int (fun _ _ => rfl)) pa_nil))))
      pss_nil))
      (pss_cons (ps_mk (ps_if (pt_cmpR op_eq (pe_ix (ixT K rfl) (pv 1) pe_int (fun _ _ => rfl)) pe_str (nomark _))
      (pss_one (ps_ret (pe_mE PM.put (takes_of rfl rfl rfl rfl) hr (by omega) (pv 0) (pa_cons (pe_ix (ixT K rfl) (pv 1) pe_int (fun _ _ => rfl)) pa_nil))))
      pss_nil))
      (pss_cons (ps_mk (ps_if (pt_cmpR op_eq (pe_ix (ixT K rfl) (pv 1) pe_int (fun _ _ => rfl)) pe_str (nomark _))
      (pss_one (ps_ret (pe_mE PM.pin (takes_of rfl rfl rfl rfl) hr (by omega) (pv 0) (pa_cons (pe_ix (ixT K rfl) (pv 1) pe_int (fun _ _ => rfl)) pa_nil))))
      pss_nil))
      (pss_cons (ps_mk (ps_if (pt_cmpR op_eq (pe_ix (ixT K rfl) (pv 1) pe_int (fun _ _ => rfl)) pe_str (nomark _))
      (pss_one (ps_ret (C8.pe_mt0 m_unpin hr (by omega) (pv 0))))
      pss_nil))
      (pss_cons (ps_set (i := 2) sc_pager_tell.nd rfl (.inl rfl) (pe_callTy (listQ K rfl) (by rfl) T.list (by decide +kernel) (pa_cons (pe_ix (ixT K rfl) (pv 1) pe_int (fun _ _ => rfl)) pa_nil)))
      (pss_cons (ps_set (i := 3) sc_pager_tell.nd rfl (.inl rfl) (pe_mE PM.sto (takes_of rfl rfl rfl rfl) hr (by omega) (pv 0) (pa_cons (pe_ix (ixT K rfl) (pv 1) pe_int (fun _ _ => rfl)) (pa_cons (pe_ix (ixT K rfl) (pv 1) pe_int (fun _ _ => rfl)) (pa_cons (pv 2) pa_nil)))))
      (pss_cons (ps_mk (ps_if (pt_cmpR (neQ K rfl hr.units) (pv 2) (pe_ix (ixT K rfl) (pv 1) pe_int (fun _ _ => rfl)) (nomark _))
      (pss_one (ps_ret pe_str))
      pss_nil))
      (pss_cons (ps_asg (pe_op op_mod (pe_callTy call_int1 (by rfl) T.int (by decide +kernel) (pa_cons (pe_op op_add (pe_ix (ixL K rfl) (pv 2) pe_int (fun _ _ => rfl)) pe_int) pa_nil)) pe_int) (pg_sub (pv 2) pe_int set_list))
      (pss_cons (ps_expr (pe_bm PySem.F.plainAttrs_list PySem.F.slot_list_append PySem.F.type_list_append mt_append (pv 2) (pa_cons pe_int pa_nil)))
      (pss_one (ps_ret (pv 3))))))))))))))))), ?_⟩
  obtain ⟨dx, g⟩ := hp.g
  have gr := hc.g
  have ok := gi.ok bd (by omega)
  have fr0 := gi.free lp
  have r0 : 0 ≤ k.room := by have := gi.room; omega
  cases c with
  | beg y =>
    have gr : H r = some (.tup [.str "begin", .int y]) := gr
    refine un ?_
    walk_at "go"
    refine ⟨r, _, _, .str "begin", rfl, rfl, SqT.of gr, atI_nat (j := 0) rfl, ?_⟩
    walk_at "go"
    refine ⟨A.p, _, _, rfl, g, pg_b1, ?_⟩
    walk_at "go"
    refine ⟨r, _, _, .int y, rfl, rfl, SqT.of gr, atI_nat (j := 1) rfl, ?_⟩
    walk_at "go"
    obtain ⟨yn, yB⟩ := cok
    refine ⟨yn, fun z l => gi.can1 z l, hT, fun l zz j S1 ad H1 jl ob na h1 b1 T1 => ?_, fun nl => absurd (rm trivial (fun _ z => by cases z)) nl, fun l z0 ze => absurd fr0 (fun t => t.elim z0 fun t => t ze)⟩
    obtain ⟨g1, e1, c1, f1, f2, d1, _⟩ := gi.obt hp.ch.lb (fun _ t => t) bd ob
    have b2 : ButT (A.all S.cs) H H1 := b1.mono fun z hz => fr4 hz
    refine q1 (fun _ z => by cases z) .non A _ H1 ⟨h1, g1.new (c := Cont.mk y ad (List.replicate wd 0)) e1 (c1.symm ▸ yn) (by have := yB.1; show y ≠ 0; omega) (by rw [c1]; exact l), ⟨Nat.le_trans d1.r (by omega), Nat.le_trans d1.l (by omega)⟩, ?_, rfl, fun a ha => ?_, b2, T1⟩ rfl (hc.keep b2 nr ndr)
    · refine (mc_add S1 (Cont.mk y ad (List.replicate wd 0))).trans ?_
      rw [mc_eq c1]
      rfl
    · have ha : a ∈ A.all (S1.cs ++ [Cont.mk y ad (List.replicate wd 0)]) := ha
      unfold GA.all at ha
      rw [List.map_append, ← List.append_assoc, c1] at ha
      rcases List.mem_append.mp ha with z | z
      · exact .inl z
      · have z : a ∈ [ad] := z
        rw [List.mem_singleton.mp z]
        exact .inr na
  | dup x y =>
    have gr : H r = some (.tup [.str "duplicate", .int x, .int y]) := gr
    refine un ?_
    walk_at "go"
    refine ⟨r, _, _, .str "duplicate", rfl, rfl, SqT.of gr, atI_nat (j := 0) rfl, ?_⟩
    walk_at "go"
    refine un ?_
    walk_at "go"
    refine ⟨r, _, _, .str "duplicate", rfl, rfl, SqT.of gr, atI_nat (j := 0) rfl, ?_⟩
    walk_at "go"
    refine ⟨A.p, _, _, rfl, g, pg_b2, ?_⟩
    walk_at "go"
    refine ⟨r, _, _, .int x, rfl, rfl, SqT.of gr, atI_nat (j := 1) rfl, ?_⟩
    walk_at "go"
    refine ⟨r, _, _, .int y, rfl, rfl, SqT.of gr, atI_nat (j := 2) rfl, ?_⟩
    walk_at "go"
    obtain ⟨xB, yn, yB⟩ := cok
    have lp1 : ∀ {S1}, GI k S1 pins → pins.length + 1 ≤ S1.fr.length := fun g1 => by rw [← g1.n, gi.n]; exact lp
    refine ⟨A, k, S, x, y, pins, b, rfl, hp, gi, bd, by omega, inB_log xB, yn, by omega, r0, room, hT, fun d hd => by rw [lby d hd]; omega, fun d hd ed l zz S1 j S2 ad H1 br zo jl ob na h1 b1 T1 => ?_, fun m e nd => q2 x rfl m H e (fun _ _ t => t) nd, fun m nl => absurd (rm trivial fun _ z => by cases z; exact m) nl, fun m l c z0 ze => absurd fr0 (fun t => t.elim z0 fun t => t ze), fun m l zz S1 H1 br h1 b1 T1 z0 eb np => ?_⟩
    · subst ed
      have m : d.st ∈ S.cs.map (·.st) := List.mem_map.mpr ⟨d, hd, rfl⟩
      obtain ⟨g1, xin, c1, d1⟩ := gi.br hp.ch.lb bd m br
      obtain ⟨g2, e2, c2, d2⟩ := g1.obB (gi.br_bits hp.ch.lb br) d1 (idx_ok xin).1 ((gi.lv _).mp m).1 ob
      have b2 : ButT (A.all S.cs) H H1 := b1.mono fun z hz => fr4 hz
      have c3 : S2.cs = S.cs := c2.trans c1
      refine q1 (fun _ z => by cases z; exact m) .non A _ H1 ⟨h1, g2.new (c := Cont.mk y ad d.by') e2 (c3.symm ▸ yn) (by have := yB.1; show y ≠ 0; omega) (by rw [c3]; exact l), ⟨Nat.le_trans d2.r (by omega), Nat.le_trans d2.l (by omega)⟩, ?_, rfl, fun a ha => ?_, b2, T1⟩ rfl (hc.keep b2 nr ndr)
      · refine (mc_add S2 (Cont.mk y ad d.by')).trans ?_
        rw [mc_eq c3]
        show _ = mc S ++ [(y, getM (mc S) d.st)]
        rw [show getM (mc S) d.st = d.by' from get_mc hd gi.nd]
      · have ha : a ∈ A.all (S2.cs ++ [Cont.mk y ad d.by']) := ha
        unfold GA.all at ha
        rw [List.map_append, ← List.append_assoc, c3] at ha
        rcases List.mem_append.mp ha with z | z
        · exact .inl z
        · have z : a ∈ [ad] := z
          rw [List.mem_singleton.mp z]
          exact .inr na
    · obtain ⟨g1, xin, c1, d1⟩ := gi.br hp.ch.lb bd m br
      rcases g1.bes2 (f := S1.fr.idxOf x) (lp1 g1) with t | t | t
      · exact absurd t z0
      · exact absurd eb t
      · exact absurd np t
  | ren x y =>
    have gr : H r = some (.tup [.str "rename", .int x, .int y]) := gr
    refine un ?_
    walk_at "go"
    refine ⟨r, _, _, .str "rename", rfl, rfl, SqT.of gr, atI_nat (j := 0) rfl, ?_⟩
    walk_at "go"
    refine un ?_
    walk_at "go"
    refine ⟨r, _, _, .str "rename", rfl, rfl, SqT.of gr, atI_nat (j := 0) rfl, ?_⟩
    walk_at "go"
    refine un ?_
    walk_at "go"
    refine ⟨r, _, _, .str "rename", rfl, rfl, SqT.of gr, atI_nat (j := 0) rfl, ?_⟩
    walk_at "go"
    refine ⟨A.p, _, _, rfl, g, pg_b3, ?_⟩
    walk_at "go"
    refine ⟨r, _, _, .int x, rfl, rfl, SqT.of gr, atI_nat (j := 1) rfl, ?_⟩
    walk_at "go"
    refine ⟨r, _, _, .int y, rfl, rfl, SqT.of gr, atI_nat (j := 2) rfl, ?_⟩
    walk_at "go"
    obtain ⟨xB, yn, yB⟩ := cok
    refine ⟨A, k, S, x, y, pins, b, rfl, hp, gi, bd, by omega, inB_log xB, yn, by omega, hT, fun d hd ed zz S1 H1 br h1 b1 T1 => ?_, fun m e nd => q2 x rfl m H e (fun _ _ t => t) nd, fun m c z0 ze => absurd fr0 (fun t => t.elim z0 fun t => t ze)⟩
    subst ed
    have m : d.st ∈ S.cs.map (·.st) := List.mem_map.mpr ⟨d, hd, rfl⟩
    obtain ⟨g1, xin, c1, d1⟩ := gi.br hp.ch.lb bd m br
    have b2 : ButT (A.all S.cs) H H1 := b1.mono fun z hz => fr4 hz
    have hd1 : d ∈ S1.cs := c1.symm ▸ hd
    refine q1 (fun _ z => by cases z; exact m) .non A _ H1 ⟨h1, g1.ren (c1.symm ▸ m) xin (by have := yB.1; omega) (c1.symm ▸ yn) (fun z => ?_), ⟨Nat.le_trans d1.r (by omega), Nat.le_trans d1.l (by omega)⟩, ?_, rfl, fun a ha => .inl (all_sub (fun a ha => ?_) ha), b2, T1⟩ rfl (hc.keep b2 nr ndr)
    · show z ∈ _ ++ _ ↔ _
      rw [List.mem_append, List.mem_filter]
      constructor
      · rintro (⟨t1, t2⟩ | t)
        · exact .inl ⟨t1, of_decide_eq_true t2⟩
        · split at t
          · next c => exact .inr ⟨List.mem_singleton.mp t, c⟩
          · cases t
      · rintro (⟨t1, t2⟩ | ⟨t1, t2⟩)
        · exact .inl ⟨t1, decide_eq_true t2⟩
        · exact .inr (by rw [if_pos t2, t1]; exact List.mem_singleton.mpr rfl)
    · show (renC S1.cs d.st y).map _ = (mc S).filter _ ++ [(y, getM (mc S) d.st)]
      rw [renC_at g1.nd hd1, List.map_append, mc_filt, c1, show getM (mc S) d.st = d.by' from get_mc hd gi.nd]
      rfl
    · have ha : a ∈ (renC S1.cs d.st y).map (·.ad) := ha
      rw [renC_at g1.nd hd1, List.map_append, c1] at ha
      rcases List.mem_append.mp ha with t | t
      · obtain ⟨e, he, rfl⟩ := List.mem_map.mp t
        exact List.mem_map.mpr ⟨e, (List.mem_filter.mp he).1, rfl⟩
      · have t : a ∈ [d.ad] := t
        rw [List.mem_singleton.mp t]
        exact List.mem_map.mpr ⟨d, hd, rfl⟩
  | rd x o l =>
    have gr : H r = some (.tup [.str "read", .int x, .int o, .int l]) := gr
    refine un ?_
    walk_at "go"
    refine ⟨r, _, _, .str "read", rfl, rfl, SqT.of gr, atI_nat (j := 0) rfl, ?_⟩
    walk_at "go"
    refine un ?_
    walk_at "go"
    refine ⟨r, _, _, .str "read", rfl, rfl, SqT.of gr, atI_nat (j := 0) rfl, ?_⟩
    walk_at "go"
    refine un ?_
    walk_at "go"
    refine ⟨r, _, _, .str "read", rfl, rfl, SqT.of gr, atI_nat (j := 0) rfl, ?_⟩
    walk_at "go"
    refine un ?_
    walk_at "go"
    refine ⟨r, _, _, .str "read", rfl, rfl, SqT.of gr, atI_nat (j := 0) rfl, ?_⟩
    walk_at "go"
    refine ⟨A.p, _, _, rfl, g, pg_b5, ?_⟩
    walk_at "go"
    refine ⟨r, _, _, .int x, rfl, rfl, SqT.of gr, atI_nat (j := 1) rfl, ?_⟩
    walk_at "go"
    refine ⟨r, _, _, .int o, rfl, rfl, SqT.of gr, atI_nat (j := 2) rfl, ?_⟩
    walk_at "go"
    refine ⟨r, _, _, .int l, rfl, rfl, SqT.of gr, atI_nat (j := 3) rfl, ?_⟩
    walk_at "go"
    obtain ⟨xB, o0, l0, ol⟩ := cok
    refine ⟨A, k, S, x, o, l, rfl, hp, ok, by have := bd.r; omega, inB_log xB, fun m' => ⟨((gi.lv x).mp m').1, fun nf => ((gi.lv x).mp m').2.resolve_left nf⟩, fun m' z nf => gi.can m' nf z, hT, gi.nd, fun d hd ed zz S1 r1 H1 H2 br h1 b1 T1 s2 n2 g2 => ?_, fun m e nd => q2 x rfl m H e (fun _ _ t => t) nd, fun m c z0 ze => absurd fr0 (fun t => t.elim z0 fun t => t ze)⟩
    subst ed
    have m : d.st ∈ S.cs.map (·.st) := List.mem_map.mpr ⟨d, hd, rfl⟩
    obtain ⟨g1, xin, c1, d1⟩ := gi.br hp.ch.lb bd m br
    have b2 : ButT (A.all S.cs) H H1 := b1.mono fun z hz => fr3 hz
    have b3 : ButT (A.all S.cs) H H2 := b2.trans (Same.t s2)
    refine q1 (fun _ z => by cases z; exact m) (.ref r1) A _ H2 ⟨h1.same s2, g1, d1.mono (by omega), mc_eq c1, rfl, fun a ha => .inl (by rw [c1] at ha; exact ha), b3, T1.ext s2⟩ ⟨r1, rfl, (NewA.of n2).butT b1 (fun z => h1.live r1 (fr3 z) n2), fun z => h1.live r1 z n2, ?_⟩ (hc.keep b3 nr ndr)
    rw [g2, show getM (mc S) d.st = d.by' from get_mc hd gi.nd]
  | rel x =>
    have gr : H r = some (.tup [.str "release", .int x]) := gr
    refine un ?_
    walk_at "go"
    refine ⟨r, _, _, .str "release", rfl, rfl, SqT.of gr, atI_nat (j := 0) rfl, ?_⟩
    walk_at "go"
    refine un ?_
    walk_at "go"
    refine ⟨r, _, _, .str "release", rfl, rfl, SqT.of gr, atI_nat (j := 0) rfl, ?_⟩
    walk_at "go"
    refine un ?_
    walk_at "go"
    refine ⟨r, _, _, .str "release", rfl, rfl, SqT.of gr, atI_nat (j := 0) rfl, ?_⟩
    walk_at "go"
    refine un ?_
    walk_at "go"
    refine ⟨r, _, _, .str "release", rfl, rfl, SqT.of gr, atI_nat (j := 0) rfl, ?_⟩
    walk_at "go"
    refine un ?_
    walk_at "go"
    refine ⟨r, _, _, .str "release", rfl, rfl, SqT.of gr, atI_nat (j := 0) rfl, ?_⟩
    walk_at "go"
    refine ⟨A.p, _, _, rfl, g, pg_b6, ?_⟩
    walk_at "go"
    refine ⟨r, _, _, .int x, rfl, rfl, SqT.of gr, atI_nat (j := 1) rfl, ?_⟩
    walk_at "go"
    have xB : inB x := cok
    refine ⟨A, k, S, x, rfl, hp, gi.n, gi.n2, inB_log xB, fun m H1 h1 b1 => ?_, fun m e nd => q2 x rfl m H e (fun _ _ t => t) nd⟩
    have ff : ∀ z ∈ [A.fa, A.na, A.cb, A.sa, A.da], z ∈ A.fix := fun z hz => by
      simp only [GA.fix, List.mem_cons, List.not_mem_nil, or_false] at hz ⊢
      rcases hz with rfl | rfl | rfl | rfl | rfl <;> simp
    have b3 : ButT (A.all S.cs) H H1 := b1.t.mono fun z hz => List.mem_append_left _ (ff z hz)
    obtain ⟨e1, e2, e3, e4, e5, e6, e7⟩ := relF_cs S x
    refine q1 (fun _ z => by cases z; exact m) .non A _ H1 ⟨h1, gi.rel m (fun y => ?_), ⟨Nat.le_trans bd.r (by omega), Nat.le_trans bd.l (by omega)⟩, mc_filt S.cs x, rfl, fun a ha => .inl (all_sub (fun a ha => ?_) ha), b3, tabs_but hT b1 fun z hz => hp.plain z (List.mem_append_left _ (ff z hz))⟩ rfl (hc.keep b3 nr ndr)
    · show y ∈ pins.filter _ ↔ _
      rw [List.mem_filter]
      exact ⟨fun t => ⟨t.1, of_decide_eq_true t.2⟩, fun t => ⟨t.1, decide_eq_true t.2⟩⟩
    · obtain ⟨e, he, rfl⟩ := List.mem_map.mp ha
      exact List.mem_map.mpr ⟨e, (List.mem_filter.mp he).1, rfl⟩
  | brg x =>
    have gr : H r = some (.tup [.str "bring", .int x]) := gr
    refine un ?_
    walk_at "go"
    refine ⟨r, _, _, .str "bring", rfl, rfl, SqT.of gr, atI_nat (j := 0) rfl, ?_⟩
    walk_at "go"
    refine un ?_
    walk_at "go"
    refine ⟨r, _, _, .str "bring", rfl, rfl, SqT.of gr, atI_nat (j := 0) rfl, ?_⟩
    walk_at "go"
    refine un ?_
    walk_at "go"
    refine ⟨r, _, _, .str "bring", rfl, rfl, SqT.of gr, atI_nat (j := 0) rfl, ?_⟩
    walk_at "go"
    refine un ?_
    walk_at "go"
    refine ⟨r, _, _, .str "bring", rfl, rfl, SqT.of gr, atI_nat (j := 0) rfl, ?_⟩
    walk_at "go"
    refine un ?_
    walk_at "go"
    refine ⟨r, _, _, .str "bring", rfl, rfl, SqT.of gr, atI_nat (j := 0) rfl, ?_⟩
    walk_at "go"
    refine un ?_
    walk_at "go"
    refine ⟨r, _, _, .str "bring", rfl, rfl, SqT.of gr, atI_nat (j := 0) rfl, ?_⟩
    walk_at "go"
    refine ⟨A.p, _, _, rfl, g, pg_m10, ?_⟩
    walk_at "go"
    refine ⟨r, _, _, .int x, rfl, rfl, SqT.of gr, atI_nat (j := 1) rfl, ?_⟩
    walk_at "go"
    have xB : inB x := cok
    refine ⟨A, k, S, x, rfl, hp, ok, by have := bd.r; omega, inB_log xB, fun m' => ⟨((gi.lv x).mp m').1, fun nf => ((gi.lv x).mp m').2.resolve_left nf⟩, fun m' z nf => gi.can m' nf z, hT, fun m zz S1 H1 br h1 b1 T1 => ?_, fun m e nd => q2 x rfl m H e (fun _ _ t => t) nd, fun m c z0 ze => absurd fr0 (fun t => t.elim z0 fun t => t ze)⟩
    obtain ⟨g1, xin, c1, d1⟩ := gi.br hp.ch.lb bd m br
    have b2 : ButT (A.all S.cs) H H1 := b1.mono fun z hz => fr3 hz
    exact q1 (fun _ z => by cases z; exact m) .non A _ H1 ⟨h1, g1, d1.mono (by omega), mc_eq c1, rfl, fun a ha => .inl (by rw [c1] at ha; exact ha), b2, T1⟩ rfl (hc.keep b2 nr ndr)
  | put x =>
    have gr : H r = some (.tup [.str "put_out", .int x]) := gr
    refine un ?_
    walk_at "go"
    refine ⟨r, _, _, .str "put_out", rfl, rfl, SqT.of gr, atI_nat (j := 0) rfl, ?_⟩
    walk_at "go"
    refine un ?_
    walk_at "go"
    refine ⟨r, _, _, .str "put_out", rfl, rfl, SqT.of gr, atI_nat (j := 0) rfl, ?_⟩
    walk_at "go"
    refine un ?_
    walk_at "go"
    refine ⟨r, _, _, .str "put_out", rfl, rfl, SqT.of gr, atI_nat (j := 0) rfl, ?_⟩
    walk_at "go"
    refine un ?_
    walk_at "go"
    refine ⟨r, _, _, .str "put_out", rfl, rfl, SqT.of gr, atI_nat (j := 0) rfl, ?_⟩
    walk_at "go"
    refine un ?_
    walk_at "go"
    refine ⟨r, _, _, .str "put_out", rfl, rfl, SqT.of gr, atI_nat (j := 0) rfl, ?_⟩
    walk_at "go"
    refine un ?_
    walk_at "go"
    refine ⟨r, _, _, .str "put_out", rfl, rfl, SqT.of gr, atI_nat (j := 0) rfl, ?_⟩
    walk_at "go"
    refine un ?_
    walk_at "go"
    refine ⟨r, _, _, .str "put_out", rfl, rfl, SqT.of gr, atI_nat (j := 0) rfl, ?_⟩
    walk_at "go"
    refine ⟨A.p, _, _, rfl, g, pg_b7, ?_⟩
    walk_at "go"
    refine ⟨r, _, _, .int x, rfl, rfl, SqT.of gr, atI_nat (j := 1) rfl, ?_⟩
    walk_at "go"
    have xB : inB x := cok
    refine ⟨A, k, S, x, rfl, hp, ok, inB_log xB, hT, fun m zz H1 s1 => ?_, fun m xf np zz ps H1 mv h1 b1 T1 => ?_, fun m e nd => q2 x rfl m H e (fun _ _ t => t) nd⟩
    · have b2 : ButT (A.all S.cs) H H1 := Same.t s1
      exact q1 (fun _ z => by cases z; exact m) (.bl false) A _ H1 ⟨hp.same s1, gi, bd.mono (by omega), rfl, rfl, fun a ha => .inl ha, b2, hT.ext s1⟩ ⟨false, rfl, fun z => by cases z⟩ (hc.keep b2 nr ndr)
    · have b2 : ButT (A.all S.cs) H H1 := b1.mono fun z hz => List.mem_append_left _ (fr_fix hz)
      exact q1 (fun _ z => by cases z; exact m) (.bl true) A _ H1 ⟨h1, (gi.out xf ((gi.lv x).mp m).1 np mv).1, (mv_bd bd mv).mono (by omega), rfl, rfl, fun a ha => .inl ha, b2, T1⟩ ⟨true, rfl, fun _ z => np (gi.idx z).2⟩ (hc.keep b2 nr ndr)
  | pin x =>
    have gr : H r = some (.tup [.str "pin", .int x]) := gr
    refine un ?_
    walk_at "go"
    refine ⟨r, _, _, .str "pin", rfl, rfl, SqT.of gr, atI_nat (j := 0) rfl, ?_⟩
    walk_at "go"
    refine un ?_
    walk_at "go"
    refine ⟨r, _, _, .str "pin", rfl, rfl, SqT.of gr, atI_nat (j := 0) rfl, ?_⟩
    walk_at "go"
    refine un ?_
    walk_at "go"
    refine ⟨r, _, _, .str "pin", rfl, rfl, SqT.of gr, atI_nat (j := 0) rfl, ?_⟩
    walk_at "go"
    refine un ?_
    walk_at "go"
    refine ⟨r, _, _, .str "pin", rfl, rfl, SqT.of gr, atI_nat (j := 0) rfl, ?_⟩
    walk_at "go"
    refine un ?_
    walk_at "go"
    refine ⟨r, _, _, .str "pin", rfl, rfl, SqT.of gr, atI_nat (j := 0) rfl, ?_⟩
    walk_at "go"
    refine un ?_
    walk_at "go"
    refine ⟨r, _, _, .str "pin", rfl, rfl, SqT.of gr, atI_nat (j := 0) rfl, ?_⟩
    walk_at "go"
    refine un ?_
    walk_at "go"
    refine ⟨r, _, _, .str "pin", rfl, rfl, SqT.of gr, atI_nat (j := 0) rfl, ?_⟩
    walk_at "go"
    refine un ?_
    walk_at "go"
    refine ⟨r, _, _, .str "pin", rfl, rfl, SqT.of gr, atI_nat (j := 0) rfl, ?_⟩
    walk_at "go"
    refine ⟨A.p, _, _, rfl, g, pg_b8, ?_⟩
    walk_at "go"
    refine ⟨r, _, _, .int x, rfl, rfl, SqT.of gr, atI_nat (j := 1) rfl, ?_⟩
    walk_at "go"
    have xB : inB x := cok
    refine ⟨A, k, S, x, rfl, hp, ok, by have := bd.r; omega, inB_log xB, fun m' => ⟨((gi.lv x).mp m').1, fun nf => ((gi.lv x).mp m').2.resolve_left nf⟩, fun m' z nf => gi.can m' nf z, hT, fun S1 br => ?_, fun m zz S1 H1 br h1 b1 T1 => ?_, fun m e nd => q2 x rfl m H e (fun _ _ t => t) nd, fun m c z0 ze => absurd fr0 (fun t => t.elim z0 fun t => t ze)⟩
    · rcases br with ⟨_, rfl⟩ | ⟨_, j, S2, _, o, rfl⟩
      · exact gi.pnl
      · exact (gi.obt hp.ch.lb (fun _ t => t) bd o).1.pnl
    obtain ⟨g1, xin, c1, d1⟩ := gi.br hp.ch.lb bd m br
    have b2 : ButT (A.all S.cs) H H1 := b1.mono fun z hz => fr3 hz
    refine q1 (fun _ z => by cases z; exact m) .non A _ H1 ⟨h1, g1.pin xin ((gi.lv x).mp m).1 (fun y => ?_), ⟨Nat.le_trans d1.r (by omega), Nat.le_trans d1.l (by omega)⟩, mc_eq c1, rfl, fun a ha => .inl (by rw [show (pinG S1 x).cs = S.cs from c1] at ha; exact ha), b2, T1⟩ rfl (hc.keep b2 nr ndr)
    show y ∈ (if x ∈ pins then pins else pins ++ [x]) ↔ _
    split
    · next c => exact ⟨.inl, fun t => t.elim id fun t => t ▸ c⟩
    · rw [List.mem_append, List.mem_singleton]
  | unp =>
    have gr : H r = some (.tup [.str "unpin"]) := gr
    refine un ?_
    walk_at "go"
    refine ⟨r, _, _, .str "unpin", rfl, rfl, SqT.of gr, atI_nat (j := 0) rfl, ?_⟩
    walk_at "go"
    refine un ?_
    walk_at "go"
    refine ⟨r, _, _, .str "unpin", rfl, rfl, SqT.of gr, atI_nat (j := 0) rfl, ?_⟩
    walk_at "go"
    refine un ?_
    walk_at "go"
    refine ⟨r, _, _, .str "unpin", rfl, rfl, SqT.of gr, atI_nat (j := 0) rfl, ?_⟩
    walk_at "go"
    refine un ?_
    walk_at "go"
    refine ⟨r, _, _, .str "unpin", rfl, rfl, SqT.of gr, atI_nat (j := 0) rfl, ?_⟩
    walk_at "go"
    refine un ?_
    walk_at "go"
    refine ⟨r, _, _, .str "unpin", rfl, rfl, SqT.of gr, atI_nat (j := 0) rfl, ?_⟩
    walk_at "go"
    refine un ?_
    walk_at "go"
    refine ⟨r, _, _, .str "unpin", rfl, rfl, SqT.of gr, atI_nat (j := 0) rfl, ?_⟩
    walk_at "go"
    refine un ?_
    walk_at "go"
    refine ⟨r, _, _, .str "unpin", rfl, rfl, SqT.of gr, atI_nat (j := 0) rfl, ?_⟩
    walk_at "go"
    refine un ?_
    walk_at "go"
    refine ⟨r, _, _, .str "unpin", rfl, rfl, SqT.of gr, atI_nat (j := 0) rfl, ?_⟩
    walk_at "go"
    refine un ?_
    walk_at "go"
    refine ⟨r, _, _, .str "unpin", rfl, rfl, SqT.of gr, atI_nat (j := 0) rfl, ?_⟩
    walk_at "go"
    refine ⟨A.p, _, _, rfl, g, pg_b9, ?_⟩
    walk_at "go"
    refine SpI.mk ⟨A, k, S, rfl, hp, fun na H1 h1 nn b1 => ?_⟩
    have b2 : ButT (A.all S.cs) H H1 := b1.t.mono fun z hz => List.mem_append_left _ (by rw [List.mem_singleton.mp hz]; simp [GA.fix])
    refine q1 (fun _ z => by cases z) .non { A with na := na } _ H1 ⟨h1, gi.unp, ⟨Nat.le_trans bd.r (by omega), Nat.le_trans bd.l (by omega)⟩, rfl, rfl, fun a ha => ?_, b2, tabs_but hT b1 fun z hz => hp.plain z (List.mem_append_left _ (by rw [List.mem_singleton.mp hz]; simp [GA.fix]))⟩ rfl (hc.keep b2 nr ndr)
    rcases List.mem_append.mp ha with z | z
    · simp only [GA.fix, List.mem_cons, List.not_mem_nil, or_false] at z
      by_cases e : a = na
      · exact .inr (e ▸ NewA.of nn)
      · refine .inl (List.mem_append_left _ ?_)
        simp only [GA.fix, List.mem_cons, List.not_mem_nil, or_false]
        rcases z with z | z | z | z | z
        · exact .inl z
        · exact .inr (.inl z)
        · exact .inr (.inr (.inl z))
        · exact absurd z e
        · exact .inr (.inr (.inr (.inr z)))
    · exact .inl (List.mem_append_right _ z)
  | sto x o dr ds =>
    have gr : H r = some (.tup [.str "store", .int x, .int o, .ref dr]) := gr
    refine un ?_
    walk_at "go"
    refine ⟨r, _, _, .str "store", rfl, rfl, SqT.of gr, atI_nat (j := 0) rfl, ?_⟩
    walk_at "go"
    refine un ?_
    walk_at "go"
    refine ⟨r, _, _, .str "store", rfl, rfl, SqT.of gr, atI_nat (j := 0) rfl, ?_⟩
    walk_at "go"
    refine un ?_
    walk_at "go"
    refine ⟨r, _, _, .str "store", rfl, rfl, SqT.of gr, atI_nat (j := 0) rfl, ?_⟩
    walk_at "go"
    refine un ?_
    walk_at "go"
    refine ⟨r, _, _, .str "store", rfl, rfl, SqT.of gr, atI_nat (j := 0) rfl, ?_⟩
    walk_at "go"
    refine un ?_
    walk_at "go"
    refine ⟨r, _, _, .str "store", rfl, rfl, SqT.of gr, atI_nat (j := 0) rfl, ?_⟩
    walk_at "go"
    refine un ?_
    walk_at "go"
    refine ⟨r, _, _, .str "store", rfl, rfl, SqT.of gr, atI_nat (j := 0) rfl, ?_⟩
    walk_at "go"
    refine un ?_
    walk_at "go"
    refine ⟨r, _, _, .str "store", rfl, rfl, SqT.of gr, atI_nat (j := 0) rfl, ?_⟩
    walk_at "go"
    refine un ?_
    walk_at "go"
    refine ⟨r, _, _, .str "store", rfl, rfl, SqT.of gr, atI_nat (j := 0) rfl, ?_⟩
    walk_at "go"
    refine un ?_
    walk_at "go"
    refine ⟨r, _, _, .str "store", rfl, rfl, SqT.of gr, atI_nat (j := 0) rfl, ?_⟩
    walk_at "go"
    have gdr : H dr = some (.lst (ds.map V.int)) := hc.d
    walk_at "go"
    refine ⟨r, _, _, .ref dr, rfl, rfl, SqT.of gr, atI_nat (j := 3) rfl, ?_⟩
    walk_at "go"
    intro l nl
    have s1 := same_upd (o := HO.lst (ds.map V.int)) nl
    have gl1 := upd_same (H := H) (a := l) (o := HO.lst (ds.map V.int))
    have hp1 := hp.same s1
    have hc1 : CallAt _ r (.sto x o dr ds) := hc.keep (F := []) (Same.t s1) (fun z => by cases z) (fun _ _ _ _ _ z => by cases z)
    have hT1 := hT.ext s1
    have lA : l ∉ A.all S.cs := fun z => hp.live l z nl
    have ndl : dr ≠ l := ne_of_none gdr nl
    have nrl : r ≠ l := ne_of_none gr nl
    show _
    generalize upd H l (HO.lst (ds.map V.int)) = H0 at *
    obtain ⟨xB, o0, ol, dl⟩ := cok
    obtain ⟨dx1, g1⟩ := hp1.g
    have gr1 : H0 r = some (.tup [.str "store", .int x, .int o, .ref dr]) := hc1.g
    walk_at "go"
    refine ⟨A.p, _, _, rfl, g1, pg_b4, ?_⟩
    walk_at "go"
    refine ⟨r, _, _, .int x, rfl, rfl, SqT.of gr1, atI_nat (j := 1) rfl, ?_⟩
    walk_at "go"
    refine ⟨r, _, _, .int o, rfl, rfl, SqT.of gr1, atI_nat (j := 2) rfl, ?_⟩
    walk_at "go"
    refine ⟨A, k, S, x, o, l, ds, pins, b, rfl, hp1, gi, bd, by omega, inB_log xB, gl1, lA, hT1, o0, fun d hd ed => ⟨by rw [lby d hd]; exact ol, by rw [lby d hd]; omega⟩, fun d hd ed zz S1 H1 br h1 b1 T1 => ?_, fun m e nd => q2 x rfl m H0 e s1 nd, fun m c z0 ze => absurd fr0 (fun t => t.elim z0 fun t => t ze)⟩
    subst ed
    have m : d.st ∈ S.cs.map (·.st) := List.mem_map.mpr ⟨d, hd, rfl⟩
    obtain ⟨gi1, xin, c1, d1⟩ := gi.br hp.ch.lb bd m br
    have b2 : ButT (A.all S.cs) H0 H1 := b1.mono fun z hz => by
      rcases List.mem_cons.mp hz with t | t
      · exact t ▸ List.mem_append_right _ (List.mem_map.mpr ⟨d, hd, rfl⟩)
      · exact fr3 t
    have gl2 : H1 l = some (.lst (ds.map V.int)) := b2 _ _ lA (fun _ z => by cases z) gl1
    have hc2 := hc1.keep b2 nr ndr
    have gdr2 : H1 dr = some (.lst (ds.map V.int)) := hc2.d
    have gr2 : H1 r = some (.tup [.str "store", .int d.st, .int o, .ref dr]) := hc2.g
    refine un ?_
    walk_at "go"
    refine ⟨r, _, _, .ref dr, rfl, rfl, SqT.of gr2, atI_nat (j := 3) rfl, ?_⟩
    walk_at "go"
    refine ⟨.list (ds.map PyData.int), .list (ds.map PyData.int), Dh.dp _ _ ⟨l, _, rfl, gl2, dh_ints _⟩, Dh.dp _ _ ⟨dr, _, rfl, gdr2, dh_ints _⟩, shaped_ints _, shaped_ints _, ?_⟩
    walk_at "go"
    refine ifN ?_
    refine ifBT (eqv_ints _) ?_
    obtain ⟨y, ys, eds⟩ : ∃ y ys, ds = y :: ys := by
      cases ds with
      | nil => cases dl
      | cons y ys => exact ⟨y, ys, rfl⟩
    have gl3 : H1 l = some (.lst (.int y :: ys.map V.int)) := by
      rw [gl2, eds]
      rfl
    have sl3 : SqL K H1 l (.int y :: ys.map V.int) := SqL.of gl3
    walk_at "go"
    refine ⟨l, _, _, .int y, rfl, rfl, sl3, atI_nat (j := 0) rfl, ?_⟩
    walk_at "go"
    refine ⟨l, _, _, _, rfl, rfl, gl2, ix_ok (by omega) (by rw [List.length_map]; omega), ?_⟩
    walk_at "go"
    refine ⟨.inl ⟨rfl, _, SqL.of upd_same⟩, ?_⟩
    walk_at "go"
    refine ⟨l, _, _, rfl, rfl, upd_same, sz5 (by rw [List.length_set, List.length_map]; omega), ?_⟩
    rw [upd_upd]
    walk_at "go"
    generalize (_ ++ _ : List V) = us
    have b4 : ButL [l] H1 (upd H1 l (.lst us)) := ButL.put (by simp)
    have h4 : PgAt C (upd H1 l (.lst us)) A k (stoG S1 d.st (cutB d.by' o ds)) := h1.offT b4.t (b4.tups fun a z => by rw [List.mem_singleton.mp z]; exact .lst gl2) (fun a ha z => by
      rw [List.mem_singleton.mp z] at ha
      have ha : l ∈ A.all (setC S1.cs d.st (cutB d.by' o ds)) := ha
      unfold GA.all at ha
      rw [setC_ad, c1] at ha
      exact lA ha)
    have b5 : ButT (A.all S.cs) H (upd H1 l (.lst us)) := fun a u n nt e => by
      have na : a ≠ l := fun z => by rw [z, nl] at e; cases e
      rw [upd_ne na]
      exact b2 a u n nt (s1 _ _ e)
    have hd1 : d ∈ S1.cs := c1.symm ▸ hd
    refine q1 (fun _ z => by cases z; exact m) .non A _ _ ⟨h4, gi1.sto xin, ⟨Nat.le_trans d1.r (by omega), Nat.le_trans d1.l (by omega)⟩, ?_, rfl, fun a ha => .inl ?_, b5, tabs_but T1 b4 fun z hz => ⟨_, (List.mem_singleton.mp hz).symm ▸ gl2, plainL⟩⟩ rfl ⟨?_, ?_⟩
    · show (setC S1.cs d.st (cutB d.by' o ds)).map _ = _
      rw [c1]
      refine mc_set S.cs d.st o (cutB d.by' o ds) ds fun e he ee => ?_
      have : e ∈ S.cs.filter (fun c => decide (c.st = d.st)) := List.mem_filter.mpr ⟨he, decide_eq_true ee⟩
      rw [filt_one gi.nd hd] at this
      rw [List.mem_singleton.mp this]
    · have ha : a ∈ A.all (setC S1.cs d.st (cutB d.by' o ds)) := ha
      unfold GA.all at ha ⊢
      rw [setC_ad, c1] at ha
      exact ha
    · rw [upd_ne nrl]
      exact gr2
    · show upd H1 l (.lst us) dr = _
      rw [upd_ne ndl]
      exact gdr2
end

end

/-! ### a try whose wish the body sees as a letter -/
def tTry (K : PySem.W.Frag) (c : Value) (i : Nat) (tb : WX → TS) (ts : Addr → Value → Option Addr → TS) (Wout : WX) : TS := fun D σ H => ∀ W : WX, (∀ cls d σ2 H2, wAs K c i ts Wout D cls d σ2 H2 → W cls d σ2 H2) → tb W D σ H
theorem ps_try_m {X : Cx} {x n : Str} {c : Value} {i : Nat} {body suite : List Stmt} {b0 : Stmt} {np pos pos2 : Pos} {tb : WX → TS} {ts : Addr → Value → Option Addr → TS} {Wout : WX} (hs : X.stack = X.env :: X.outer) (hf : X.env.frame = some X.env.locals) (hN : X.N.Nodup) (hi : X.N[i]? = some n) (hln : X.env.kindOf n = some .local) (hc : Names X x c) (tk : Takes X Wout)
    (hb : ∀ (W : WX) (pn : List (Addr × Obj)) (xe : Value → Shared → Prop), Takes (X.tr pn xe) W → PassesOwn (model X.prog X.w) X.A X.env xe → PSs (X.tr pn xe) body (tb W))
    (hu : ∀ (a : Addr) (oe : Obj) (cls : Value) (d : Option Addr) (pn : List (Addr × Obj)), Zc cls d oe → (∃ vs, oe.data = .fields vs) → PSs (X.suite a ((a, oe) :: pn)) (b0 :: suite) (ts a cls d)) :
    L2.PS X (.Try body [.ExceptHandler (some (.Name x np)) (some n) (b0 :: suite) pos2] [] [] pos) (tTry X.K c i tb ts Wout) :=
  ⟨fun pins s σ H D I h => (ps_try_as hs hf hN hi hln hc tk hb hu).run pins s σ H D I (h _ fun _ _ _ _ z => z)⟩
/-- the catch takes it -/
theorem catch_yes {K : PySem.W.Frag} {c : Value} {i : Nat} {ts : Addr → Value → Option Addr → TS} {Wout : WX} {D : Ends} {cls : Value} {d : Option Addr} {σ : L2.St} {H : Hp} (e : PySem.W.exmOne K cls c = some true)
    (h : ∀ a, H a = none → ts a cls d { nx := fun σ' H' => D.nx (σ'.set i none) H', rt := D.rt, bk := fun σ' H' => D.bk (σ'.set i none) H', ct := fun σ' H' => D.ct (σ'.set i none) H' } (σ.set i (some (.ref a))) H) : wAs K c i ts Wout D cls d σ H :=
  ⟨true, e, fun _ => h, fun z => by cases z⟩
/-! ### several except clauses, each with a name; the body sees the wish as a letter -/
def wManyAs (K : PySem.W.Frag) (Wout : WX) (D : Ends) : List (Value × Nat × (Addr → Value → Option Addr → TS)) → WX
  | [] => Wout
  | (c, i, ts) :: r => fun cls d σ H => ∃ b, PySem.W.exmOne K cls c = some b ∧ (b = true → ∀ a, H a = none → ts a cls d { nx := fun σ' H' => D.nx (σ'.set i none) H', rt := D.rt, bk := fun σ' H' => D.bk (σ'.set i none) H', ct := fun σ' H' => D.ct (σ'.set i none) H' } (σ.set i (some (.ref a))) H) ∧ (b = false → wManyAs K Wout D r cls d σ H)
inductive HdsAs (X : Cx) : List ExceptHandler → List (Value × Nat × (Addr → Value → Option Addr → TS)) → Prop
  | nil : HdsAs X [] []
  | cons {x n : Str} {c : Value} {i : Nat} {ts : Addr → Value → Option Addr → TS} {b0 : Stmt} {suite : List Stmt} {np pos2 : Pos} {hds : List ExceptHandler} {l : List (Value × Nat × (Addr → Value → Option Addr → TS))} (hi : X.N[i]? = some n) (hln : X.env.kindOf n = some .local) (hc : Names X x c)
      (hsu : ∀ (a : Addr) (oe : Obj) (cls : Value) (d : Option Addr) (pn : List (Addr × Obj)), Zc cls d oe → (∃ vs, oe.data = .fields vs) → PSs (X.suite a ((a, oe) :: pn)) (b0 :: suite) (ts a cls d)) (r : HdsAs X hds l) :
      HdsAs X (.ExceptHandler (some (.Name x np)) (some n) (b0 :: suite) pos2 :: hds) ((c, i, ts) :: l)
section
variable {X : Cx} {body : List Stmt} {h0 : ExceptHandler} {hds : List ExceptHandler} {l : List (Value × Nat × (Addr → Value → Option Addr → TS))} {pos : Pos} {tb : WX → TS} {Wout : WX}
theorem ps_try_mas (hs : X.stack = X.env :: X.outer) (hf : X.env.frame = some X.env.locals) (hN : X.N.Nodup) (tk : Takes X Wout)
    (hb : ∀ (W : WX) (pn : List (Addr × Obj)) (xe : Value → Shared → Prop), Takes (X.tr pn xe) W → PassesOwn (model X.prog X.w) X.A X.env xe → PSs (X.tr pn xe) body (tb W))
    (hh : HdsAs X (h0 :: hds) l) : L2.PS X (.Try body (h0 :: hds) [] [] pos) (fun D σ H => tb (wManyAs X.K Wout D l) D σ H) := by
  refine ⟨fun pins s σ H D I h => ?_⟩
  have ok := I.ok
  have hfr : X.A.frames = some (X.env :: X.outer) := by rw [ok.frames, hs]
  refine wpAny_Try_except ?_
  refine wpAny_mono ((hb (wManyAs X.K Wout D l) (X.pn ++ pins) (fun e s₁ => wpAny (model X.prog X.w) X.A (noteFrame e X.env) (fun _ s₂ => wpAny (model X.prog X.w) X.A (setFlight e none) (fun _ s₃ =>
    wpAny (model X.prog X.w) X.A (handleBy e X.env (h0 :: hds)) (SP X pins D) X.xe s₃) X.xe s₂) X.xe s₁) (fun u s' xx => ?_) PassesOwn.looking).run [] s σ H D (I.toTry _) h) (fun f s1 hsp => ?_) (fun e s1 he => he)
  · obtain ⟨a, B, sI, pins', σ', H', cls, d, rfl, J', nb, up, sky, na, os, ag, w⟩ := xx
    have J : Inv X pins σ' H' sI := J'.ofTry ok
    have sky' : Sky B (X.env :: X.outer) a (Zc cls d) X.env.locals s'.heap := by rw [← hs]; exact sky
    show wpAny (model X.prog X.w) X.A (noteFrame (.ref a) X.env) _ _ _
    refine Sky.land Zc.steady hfr hf sky' fun h3 fl3 up3 => ?_
    have J3 : Inv X pins σ' H' { s' with heap := h3 } := J.landed nb fl3.1 (up.trans up3) os ag
    obtain ⟨oe3, vs3, he3, hz3, hd3⟩ := fl3.there
    have notFr : ∀ {h : Heap} {o : Obj} {vs : Array Value}, h.FunFrames B (X.env :: X.outer) → h.get? a = some o → o.data = .fields vs → a ∉ frs (X.env :: X.outer) := fun {h o vs} ff e dd hm => by
      obtain ⟨_, o', e', hnf⟩ := ff.mem hm
      rw [e] at e'; cases e'
      exact hnf _ dd
    have nfr := notFr fl3.2.2.1 he3 hd3
    have nL : a ≠ X.env.locals := fun z => nfr (List.mem_filterMap.mpr ⟨X.env, List.mem_cons_self, by rw [hf, z]⟩)
    have nF : a ∉ X.fs := fun hm => by
      obtain ⟨e, he, q⟩ := List.mem_filterMap.mp hm
      exact nfr (List.mem_filterMap.mpr ⟨e, List.mem_cons_of_mem _ he, q⟩)
    have S3 := J3.suite he3 hd3 na nL nF
    have go : ∀ {hds' : List ExceptHandler} {l' : List (Value × Nat × (Addr → Value → Option Addr → TS))}, HdsAs X hds' l' → wManyAs X.K Wout D l' cls d σ' H' →
        wpAny (model X.prog X.w) X.A (handleBy (.ref a) X.env hds') (SP X pins D) X.xe { s' with heap := h3 } := by
      intro hds' l' hk
      induction hk with
      | nil =>
        intro w
        refine wpAny_handleBy_nil ?_
        obtain ⟨k1, k2, k3, oe, vs, T, oT, ts', he, hz, hd, h1, hr⟩ := id fl3
        unfold PySem.passOn
        refine wpAny_bind (wpAny_field he hd h1 ?_)
        rw [if_neg (show ¬ ((Value.ref T == Value.none) = true) from by simp)]
        have fin : wpAny (model X.prog X.w) X.A (setFlight (.ref a) X.env.frame) (fun _ s4 => wpAny (model X.prog X.w) X.A (throw (.ref a) : Sem Flow) (SP X pins D) X.xe s4) X.xe { s' with heap := h3 } := by
          rw [hf]
          refine HandSPX.setFlight_upZ fl3 fun h4 hh4 up4 => wpAny_throw (tk _ _ ?_)
          exact ⟨a, B, sI, pins, σ', H', cls, d, rfl, J, nb, (up.trans up3).trans up4, .inr (.inr (by rw [hs]; exact hh4)), na, os, ag, w⟩
        first
          | exact wpAny_bind (wpAny_pure (wpAny_bind fin))
          | exact wpAny_bind fin
      | @cons x n c i ts b₀ suite np pos' hds2 l2 hi hln hc hsu r ih =>
        intro w
        obtain ⟨b, hb1, hyes, hno⟩ := w
        have hloc : Loc X.env.scope n := .inl hln
        refine wpAny_handleBy_cons (codeAny_handlers_test ?_) (by intro q; cases q)
        have LT : PySem.W.Looks (model X.prog X.w) h3 (typeOf (.ref a)) cls := fun A Q E s k q => wpAny_typeOf_ref (k _ _ he3) (by rw [hz3.1]; exact q)
        have LM := PySem.W.exm_one (M := model X.prog X.w) (J3.kIn) LT hb1
        have test : ∀ {Q : Value → Shared → Prop} {E : Value → Shared → Prop}, Q c { s' with heap := h3 } → wpAny (model X.prog X.w) (X.A.mark (some (.ref a))) (eval (.Name x np) X.env) Q E { s' with heap := h3 } := fun {Q E} q => by
          obtain ⟨hg, hdbg, hm | ⟨hm, hv, hnn⟩⟩ := hc
          · exact ld_glob (X := X.suite a ((a, oe3) :: (X.pn ++ pins))) S3 hg hm q hdbg
          · exact ld_blt (X := X.suite a ((a, oe3) :: (X.pn ++ pins))) S3 hg hm hv q hnn hdbg
        refine test (LM.here ?_)
        cases b with
        | true =>
          refine codeAny_handlers_suite_as ?_
          refine HandSPX.lands_againZ fl3 fun h4 fl4 up4 => ?_
          have J4 : Inv X pins σ' H' { s' with heap := h4 } := J.landed nb fl4.1 ((up.trans up3).trans up4) os ag
          obtain ⟨oe4, vs4, he4, hz4, hd4⟩ := fl4.there
          have S4 := J4.suite he4 hd4 na nL nF
          refine store_ok (X := X.suite a ((a, oe4) :: (X.pn ++ pins))) (v := .ref a) S4 hN hi hloc rfl (fun s5 S5 => ?_) (.inr hln)
          refine wpAny_mono ((hsu a oe4 cls d (X.pn ++ pins) hz4 ⟨_, hd4⟩).run [] s5 _ H' _ S5 (hyes rfl a na)) (fun f s6 hsp => ?_) (fun _ _ z => False.elim z)
          have end_ : ∀ {σ6 : L2.St} {H6 : Hp} {Q : Shared → Prop}, Inv (X.suite a ((a, oe4) :: (X.pn ++ pins))) [] σ6 H6 s6 → (∀ s7, Inv X pins (σ6.set i none) H6 s7 → Q s7) →
              wpAny (model X.prog X.w) X.A (do bindName X.env n .none; unbindBehindTheSuite X.env n pos') (fun _ s7 => Q s7) X.xe s6 := fun {σ6 H6 Q} S6 hq => gone_ok (S6.unsuite ok) hN hi hln hq
          cases f with
          | next =>
            obtain ⟨σ6, H6, S6, q6⟩ := hsp
            exact end_ S6 fun s7 J7 => ⟨_, _, J7, q6⟩
          | brk =>
            obtain ⟨σ6, H6, S6, q6⟩ := hsp
            exact end_ S6 fun s7 J7 => ⟨_, _, J7, q6⟩
          | cont =>
            obtain ⟨σ6, H6, S6, q6⟩ := hsp
            exact end_ S6 fun s7 J7 => ⟨_, _, J7, q6⟩
          | ret u =>
            obtain ⟨v6, σ6, H6, S6, r6, q6⟩ := hsp
            exact end_ S6 fun s7 J7 => ⟨_, _, _, J7, r6, q6⟩
        | false =>
          show wpAny _ X.A (handleBy (.ref a) X.env hds2) _ _ _
          exact ih (hno rfl)
    exact go hh w
  · cases f with
    | next =>
      obtain ⟨σ', H', J', q⟩ := hsp
      exact wpAny_execs_nil ⟨σ', H', J'.ofTry ok, q⟩
    | brk =>
      obtain ⟨σ', H', J', q⟩ := hsp
      exact ⟨σ', H', J'.ofTry ok, q⟩
    | cont =>
      obtain ⟨σ', H', J', q⟩ := hsp
      exact ⟨σ', H', J'.ofTry ok, q⟩
    | ret u =>
      obtain ⟨v, σ', H', J', r, q⟩ := hsp
      exact ⟨v, σ', H', J'.ofTry ok, r, q⟩
def tTryM (K : PySem.W.Frag) (l : List (Value × Nat × (Addr → Value → Option Addr → TS))) (tb : WX → TS) (Wout : WX) : TS := fun D σ H => ∀ W : WX, (∀ cls d σ2 H2, wManyAs K Wout D l cls d σ2 H2 → W cls d σ2 H2) → tb W D σ H
theorem ps_try_ms (hs : X.stack = X.env :: X.outer) (hf : X.env.frame = some X.env.locals) (hN : X.N.Nodup) (tk : Takes X Wout)
    (hb : ∀ (W : WX) (pn : List (Addr × Obj)) (xe : Value → Shared → Prop), Takes (X.tr pn xe) W → PassesOwn (model X.prog X.w) X.A X.env xe → PSs (X.tr pn xe) body (tb W))
    (hh : HdsAs X (h0 :: hds) l) : L2.PS X (.Try body (h0 :: hds) [] [] pos) (tTryM X.K l tb Wout) :=
  ⟨fun pins s σ H D I h => (ps_try_mas hs hf hN tk hb hh).run pins s σ H D I (h _ fun _ _ _ _ z => z)⟩
end
/-- the first clause that takes it -/
theorem many_yes {K : PySem.W.Frag} {c : Value} {i : Nat} {ts : Addr → Value → Option Addr → TS} {Wout : WX} {D : Ends} {l : List (Value × Nat × (Addr → Value → Option Addr → TS))} {cls : Value} {d : Option Addr} {σ : L2.St} {H : Hp} (e : PySem.W.exmOne K cls c = some true)
    (h : ∀ a, H a = none → ts a cls d { nx := fun σ' H' => D.nx (σ'.set i none) H', rt := D.rt, bk := fun σ' H' => D.bk (σ'.set i none) H', ct := fun σ' H' => D.ct (σ'.set i none) H' } (σ.set i (some (.ref a))) H) : wManyAs K Wout D ((c, i, ts) :: l) cls d σ H :=
  ⟨true, e, fun _ => h, fun z => by cases z⟩
theorem many_no {K : PySem.W.Frag} {c : Value} {i : Nat} {ts : Addr → Value → Option Addr → TS} {Wout : WX} {D : Ends} {l : List (Value × Nat × (Addr → Value → Option Addr → TS))} {cls : Value} {d : Option Addr} {σ : L2.St} {H : Hp} (e : PySem.W.exmOne K cls c = some false)
    (h : wManyAs K Wout D l cls d σ H) : wManyAs K Wout D ((c, i, ts) :: l) cls d σ H :=
  ⟨false, e, fun z => (by cases z), fun _ => h⟩

section

-- a condition of an operator
local macro_rules | `(tactic| walk_at "cond") => `(tactic| first
  | (show (0 : Int) < _; omega)
  | (show CDiv _ _; constructor <;> (first | decide | omega))
  | (show CMul _ _; first | (refine cmul_l ?_; constructor <;> (first | decide | omega)) | (refine cmul_r ?_; constructor <;> (first | decide | omega)))
  | (show CPow _ _; exact (by refine ⟨by decide, by decide, by decide⟩))
  | (show CDivW _ _; exact ⟨by decide, by decide +kernel⟩))
local macro_rules | `(tactic| walk_at "sq") => `(tactic| first | assumption | exact Dh.mono (same_upd (by assumption)) _ _ (by assumption) | exact .inl (.inl (.inl (by assumption))) | exact .inr (.inl (.inl (by assumption))) | exact SqL.of (by assumption) | exact .inl (by assumption) | exact .inl (SqL.of (by assumption)) | exact SqT.of (by assumption) | exact .inr (SqT.of (by assumption)))
local macro_rules | `(tactic| walk_at "st") => `(tactic| first
  | refine ⟨_, rfl, ?_⟩
  | refine ⟨_, _, rfl, rfl, ?_⟩
  | refine .inl ⟨_, rfl, ?_⟩
  | refine ⟨rfl, ?_⟩
  | refine ⟨_, _, rfl, by walk_at "sq", ?_⟩
  | refine ⟨.inl ⟨rfl, _, SqL.of (by assumption)⟩, ?_⟩
  | refine ⟨by walk_at "cond", ?_⟩
  | (refine' ifBT ?hh ?_; (case hh => first | rfl | assumption))
  | (refine' ifBF ?hh ?_; (case hh => first | rfl | assumption)))
local macro_rules | `(tactic| walk_at "go") => `(tactic| repeat walk_at "st")
local macro_rules | `(tactic| walk_at "yes") => `(tactic| (refine' ifT ?hh ?_; (case hh => first | rfl | decide +kernel)))
local macro_rules | `(tactic| walk_at "no") => `(tactic| (refine' ifF ?hh ?_; (case hh => first | decide +kernel | (intro z; cases z; done))))

local macro_rules | `(tactic| walk_at "st") => `(tactic| refine ⟨_, _, _, _, _, rfl, by assumption, by assumption, by omega, by omega, by omega, by omega, by omega, ?_⟩)
local macro_rules | `(tactic| walk_at "st") => `(tactic| refine ⟨_, _, _, _, _, rfl, Same.seq (by assumption) (by assumption), by assumption, by omega, by omega, by omega, by omega, by omega, ?_⟩)

/-! ### _law_pager_ask -/
abbrev s_pager_ask : Stmt := topS 21
theorem sc_pager_ask : FnScope ["_law_pager", "_law_call", "e"] ["_law_pager", "_law_call"] (C8.fnScope s_pager_ask) := C8.fnScope_by (by decide +kernel)
structure EAsk (K : PySem.W.Frag) (mg : Str → Option Value) (D D2 U : Addr) : Prop where
  mN : mg "NoStamp" = some (.ref U)
  mR : mg "NoRoom" = some (.ref D2)
  mS : mg "Starved" = some (.ref D)
  xf : XfC K U
  nS : PySem.W.findIn K (.ref U) "stamp" = some none
  xfR : XfC K D2
  nRN : PySem.W.findIn K (.ref D2) "needed" = some none
  nRL : PySem.W.findIn K (.ref D2) "limit" = some none
  xfS : XfC K D
  nSN : PySem.W.findIn K (.ref D) "needed" = some none
  nSL : PySem.W.findIn K (.ref D) "limit" = some none
  eUU : PySem.W.exmOne K (.ref U) (.ref U) = some true
theorem ns_stamp {i : Int} : (nsF i).lookup ("stamp" : Str) = some (.int i) := by
  unfold nsF
  simp [List.lookup]
def nsD (x : Int) : PyData := .tuple [.str "raises", .str "NoStamp", .tuple [.int x]]
def spAskP (C : GC) (PT : Addr) : Sp := fun vs H Q _ => ∃ (A : GA) (k : GK) (S : GS) (pins : List Int) (b : Nat) (r : Addr) (c : PCall) (wd : Nat), vs = [.ref A.p, .ref r] ∧ PgAt C H A k S ∧ GI k S pins ∧ Bd S b ∧ b ≤ 60000 ∧ Tabs (chT PT) H ∧ CallAt H r c ∧ (∀ x o dr ds, c = .sto x o dr ds → dr ∉ A.all S.cs) ∧ c.ok (S.cs.map (·.st)) wd ∧ k.size = wd ∧ wd ≤ 16 ∧ (∀ d ∈ S.cs, d.by'.length = wd) ∧ S.cs.length ≤ 60 ∧ pins.length + 1 ≤ S.fr.length ∧ k.room ≤ 100000 ∧ r ∉ A.all S.cs ∧
  (c.roomy → (∀ x, c.ask = some x → x ∈ S.cs.map (·.st)) → (S.cs.length : Int) + 1 ≤ k.room) ∧
  ((∀ x, c.ask = some x → x ∈ S.cs.map (·.st)) → ∀ v A' S' H1, Post C PT k A S H A' S' (doP pins c) (doM wd (mc S) c) (b + 3) H1 → TellV (mc S) pins H H1 (A'.all S'.cs) v c → CallAt H1 r c → ∀ t H2, Same H1 H2 → H1 t = none → H2 t = some (.tup [.str "gives", v]) → Q (.ref t) H2) ∧
  (∀ x, c.ask = some x → x ∉ S.cs.map (·.st) → ∀ v H', Same H H' → Dh H' (nsD x) v → Q v H')
section
variable {P : Program} {w : World} {K : PySem.W.Frag} {mg : Str → Option Value} {base : Heap} {C : GC} {PT D D2 U : Addr}
theorem ok_askp {f : Addr} {fd : FuncData} (Df : Def K mg "_law_pager_ask" s_pager_ask f fd) (b : Binds K fd ["_law_pager", "_law_call"] []) (TE : EAsk K mg D D2 U) (e_tell : CalE P w K mg base 7 "_law_pager_tell" (spTell C PT U)) : Cal P w K mg base 8 "_law_pager_ask" (spAskP C PT) [] := by
  refine cal0 Df b .nil sc_pager_ask (fun vs H Q E h => ?_) (fun cdv A0 outer s H vs Q E hr h => ?_)
  · obtain ⟨A, k, S, pins, b, r, c, wd, rfl, _⟩ := h
    rfl
  obtain ⟨A, k, S, pins, b, r, c, wd, rfl, hp, gi, bd, lb, hT, hc, ndr, cok, ks, w16, lby, lc, lp, room, nr, rm, q1, q2⟩ := h
  refine ⟨_, (pss_one (ps_mk (ps_try_ms rfl rfl sc_pager_ask.nd LamX.takes0 (fun W pn xe tk _ =>
      (pss_one (ps_ret (pe_tup (pa_cons pe_str (pa_cons (pe_cE e_tell tk hr (by omega) (by rfl) (pa_cons (pv 0) (pa_cons (pv 1) pa_nil))) pa_nil))))))
      (.cons (i := 2) rfl rfl ⟨rfl, by decide, Or.inl TE.mN⟩ (fun a oe cls d pn hz hf =>
      (pss_one (ps_ret (pe_tup (pa_cons pe_str (pa_cons pe_str (pa_cons (pe_tup (pa_cons (pe_xf TE.xf TE.nS hz hf (pv 2)) pa_nil)) pa_nil)))))))
      (.cons (i := 2) rfl rfl ⟨rfl, by decide, Or.inl TE.mR⟩ (fun a oe cls d pn hz hf =>
      (pss_one (ps_ret (pe_tup (pa_cons pe_str (pa_cons pe_str (pa_cons (pe_tup (pa_cons (pe_xf TE.xfR TE.nRN hz hf (pv 2)) (pa_cons (pe_xf TE.xfR TE.nRL hz hf (pv 2)) pa_nil))) pa_nil)))))))
      (.cons (i := 2) rfl rfl ⟨rfl, by decide, Or.inl TE.mS⟩ (fun a oe cls d pn hz hf =>
      (pss_one (ps_ret (pe_tup (pa_cons pe_str (pa_cons pe_str (pa_cons (pe_tup (pa_cons (pe_xf TE.xfS TE.nSN hz hf (pv 2)) (pa_cons (pe_xf TE.xfS TE.nSL hz hf (pv 2)) pa_nil))) pa_nil)))))))
      .nil)))))), ?_⟩
  refine un ?_
  intro W hW
  have bad : ∀ x H1, Same H H1 → c.ask = some x → x ∉ S.cs.map (·.st) → ∀ d, H1 d = none → W (.ref U) (some d) (start ["_law_pager", "_law_call", "e"] [V.ref A.p, V.ref r]) (upd H1 d (.xd (nsF x))) := fun x H1 s0 ea nx d nd => hW _ _ _ _ (many_yes TE.eUU fun a na => by
    have s1 := s0.trans (same_upd (o := HO.xd (nsF x)) nd)
    have gd := upd_same (H := H1) (a := d) (o := HO.xd (nsF x))
    clear hW
    generalize upd H1 d (HO.xd (nsF x)) = H3 at *
    walk_at "go"
    refine ⟨d, _, .int x, rfl, gd, ns_stamp, ?_⟩
    walk_at "go"
    refine ⟨sz, fun t1 n1 => ?_⟩
    have s2 := same_upd (o := HO.tup [V.int x]) n1
    have g1 := upd_same (H := H3) (a := t1) (o := HO.tup [V.int x])
    show _
    generalize upd H3 t1 (HO.tup [V.int x]) = H4 at *
    walk_at "go"
    refine ⟨sz, fun t2 n2 => ?_⟩
    exact q2 x ea nx _ _ ((s1.trans s2).trans (same_upd n2)) ⟨t2, _, rfl, upd_same, _, _, rfl, rfl, _, _, rfl, rfl, _, _, rfl, ⟨t1, _, rfl, same_upd n2 _ _ g1, _, _, rfl, rfl, rfl⟩, rfl⟩)
  walk_at "go"
  refine ⟨A, k, S, pins, b, r, c, wd, rfl, hp, gi, bd, lb, hT, hc, ndr, cok, ks, w16, lby, lc, lp, room, nr, rm, fun ha v A' S' H1 po tv hc1 => ?_, fun x ea nx H1 d s1 nd => bad x H1 s1 ea nx d nd⟩
  walk_at "go"
  exact ⟨sz, fun t nt => q1 ha v A' S' H1 po tv hc1 t _ (same_upd nt) nt upd_same⟩
end

end

section

-- a condition of an operator
local macro_rules | `(tactic| walk_at "cond") => `(tactic| first
  | (show (0 : Int) < _; omega)
  | (show CDiv _ _; constructor <;> (first | decide | omega))
  | (show CMul _ _; first | (refine cmul_l ?_; constructor <;> (first | decide | omega)) | (refine cmul_r ?_; constructor <;> (first | decide | omega)))
  | (show CPow _ _; exact (by refine ⟨by decide, by decide, by decide⟩))
  | (show CDivW _ _; exact ⟨by decide, by decide +kernel⟩))
local macro_rules | `(tactic| walk_at "sq") => `(tactic| first | assumption | exact Dh.mono (same_upd (by assumption)) _ _ (by assumption) | exact .inl (.inl (.inl (by assumption))) | exact .inr (.inl (.inl (by assumption))) | exact SqL.of (by assumption) | exact .inl (by assumption) | exact .inl (SqL.of (by assumption)) | exact SqT.of (by assumption) | exact .inr (SqT.of (by assumption)))
local macro_rules | `(tactic| walk_at "st") => `(tactic| first
  | refine ⟨_, rfl, ?_⟩
  | refine ⟨_, _, rfl, rfl, ?_⟩
  | refine .inl ⟨_, rfl, ?_⟩
  | refine ⟨rfl, ?_⟩
  | refine ⟨_, _, rfl, by walk_at "sq", ?_⟩
  | refine ⟨.inl ⟨rfl, _, SqL.of (by assumption)⟩, ?_⟩
  | refine ⟨by walk_at "cond", ?_⟩
  | (refine' ifBT ?hh ?_; (case hh => first | rfl | assumption))
  | (refine' ifBF ?hh ?_; (case hh => first | rfl | assumption)))
local macro_rules | `(tactic| walk_at "go") => `(tactic| repeat walk_at "st")
local macro_rules | `(tactic| walk_at "yes") => `(tactic| (refine' ifT ?hh ?_; (case hh => first | rfl | decide +kernel)))
local macro_rules | `(tactic| walk_at "no") => `(tactic| (refine' ifF ?hh ?_; (case hh => first | decide +kernel | (intro z; cases z; done))))

local macro_rules | `(tactic| walk_at "st") => `(tactic| refine ⟨_, _, _, _, _, rfl, by assumption, by assumption, by omega, by omega, by omega, by omega, by omega, ?_⟩)
local macro_rules | `(tactic| walk_at "st") => `(tactic| refine ⟨_, _, _, _, _, rfl, Same.seq (by assumption) (by assumption), by assumption, by omega, by omega, by omega, by omega, by omega, ?_⟩)

/-! ### _law_pager_reads -/
abbrev s_pager_reads : Stmt := topS 22
theorem sc_pager_reads : FnScope ["_law_pager", "_law_stamp", "_law_content", "_law_turn", "_law_told"] ["_law_pager", "_law_stamp", "_law_content"] (C8.fnScope s_pager_reads) := C8.fnScope_by (by decide +kernel)
section
variable {C : GC} {PT : Addr} {k : GK} {A A1 A2 : GA} {S S1 S2 : GS} {H H1 H2 : Hp} {pins pins1 pins2 : List Int} {M1 M2 : List (Int × List Int)} {b b1 b2 : Nat}
theorem Post.refl (h : PgAt C H A k S) (gi : GI k S pins) (bd : Bd S b) (hT : Tabs (chT PT) H) : Post C PT k A S H A S pins (mc S) b H := ⟨h, gi, bd, rfl, rfl, fun _ m => .inl m, fun _ _ _ _ e => e, hT⟩
theorem Post.trans (p : Post C PT k A S H A1 S1 pins1 M1 b1 H1) (q : Post C PT k A1 S1 H1 A2 S2 pins2 M2 b2 H2) : Post C PT k A S H A2 S2 pins2 M2 b2 H2 := by
  refine ⟨q.at_, q.gi, q.bd, q.m, q.p.trans p.p, fun a ha => ?_, fun a o n nt e => ?_, q.tb⟩
  · rcases q.ad a ha with z | z
    · exact p.ad a z
    · by_cases m : a ∈ A.all S.cs
      · exact .inl m
      · exact .inr (z.butT p.bt m)
  · refine q.bt a o (fun z => ?_) nt (p.bt a o n nt e)
    rcases p.ad a z with y | y
    · exact n y
    · exact y.ne e nt rfl
theorem Post.same (p : Post C PT k A S H A1 S1 pins1 M1 b1 H1) (s : Same H1 H2) : Post C PT k A S H A1 S1 pins1 M1 b1 H2 := ⟨p.at_.same s, p.gi, p.bd, p.m, p.p, p.ad, p.bt.trans (Same.t s), p.tb.ext s⟩
theorem Post.off {l : Addr} {us : List V} (p : Post C PT k A S H A1 S1 pins1 M1 b1 H1) (w : ButL [l] H1 H2) (g : H1 l = some (.lst us)) (na : NewA H l) (nl : l ∉ A1.all S1.cs) : Post C PT k A S H A1 S1 pins1 M1 b1 H2 :=
  ⟨p.at_.offT w.t (w.tups fun a z => by rw [List.mem_singleton.mp z]; exact .lst g) (fun a ha z => nl (List.mem_singleton.mp z ▸ ha)), p.gi, p.bd, p.m, p.p, p.ad, fun a o n nt e => w a o (fun z => na.ne e nt (List.mem_singleton.mp z).symm) (p.bt a o n nt e), tabs_but p.tb w fun z hz => ⟨_, (List.mem_singleton.mp hz).symm ▸ g, plainL⟩⟩
theorem Post.mono {c : Nat} (p : Post C PT k A S H A1 S1 pins1 M1 b1 H1) (l : b1 ≤ c) : Post C PT k A S H A1 S1 pins1 M1 c H1 := ⟨p.at_, p.gi, p.bd.mono l, p.m, p.p, p.ad, p.bt, p.tb⟩
end
def spReads (C : GC) (PT : Addr) : Sp := fun vs H Q _ => ∃ (A : GA) (k : GK) (S : GS) (pins : List Int) (b : Nat) (c : Cont) (cr : Addr), vs = [.ref A.p, .int c.st, .ref cr] ∧ PgAt C H A k S ∧ GI k S pins ∧ Bd S b ∧ b ≤ 60000 ∧ Tabs (chT PT) H ∧ c ∈ S.cs ∧ inB c.st ∧ H cr = some (.lst (c.by'.map V.int)) ∧ cr ∉ A.all S.cs ∧ 0 < c.by'.length ∧ c.by'.length ≤ 16 ∧ pins.length + 1 ≤ S.fr.length ∧
  ∀ S' H', Post C PT k A S H A S' pins (mc S) (b + 4) H' → Q (.bl true) H'
theorem cutV_all (us : List V) : cutV us (some 0) (some (0 + (us.length : Int))) = us := by
  unfold cutV
  have e1 : HT.sIx us.length 0 (some 0) = 0 := by
    simp [HT.sIx]
  have e2 : HT.sIx us.length us.length (some (0 + (us.length : Int))) = us.length := by
    simp [HT.sIx]
    try omega
  rw [e1, e2, List.drop_zero, Nat.sub_zero, List.take_length]
section
variable {P : Program} {w : World} {K : PySem.W.Frag} {mg : Str → Option Value} {base : Heap} {C : GC} {PT D D2 U : Addr}
theorem ok_reads {f : Addr} {fd : FuncData} (Df : Def K mg "_law_pager_reads" s_pager_reads f fd) (b : Binds K fd ["_law_pager", "_law_stamp", "_law_content"] []) (T : LTxt mg) (PM : PgM P w K mg base C PT D D2 U) (c_same : Cal P w K mg base 3 "_law_same" (spSame 2) []) : Cal P w K mg base 7 "_law_pager_reads" (spReads C PT) [] := by
  refine cal0 Df b .nil sc_pager_reads (fun vs H Q E h => ?_) (fun cdv A0 outer s H vs Q E hr h => ?_)
  · obtain ⟨A, k, S, pins, b, c, cr, rfl, _⟩ := h
    rfl
  obtain ⟨A, k, S, pins, b, c, cr, rfl, hp, gi, bd, lb, hT, hc, cB, gc, ncr, l0, l1, lp, q⟩ := h
  refine ⟨_, (pss_cons (ps_mk (ps_for PassesOwn.never rfl (pi_range1 (by rfl) T.range (pa_cons pe_int pa_nil)) (pg_name (i := 3) sc_pager_reads.nd rfl (.inl rfl))
      (pss_cons (ps_set (i := 4) sc_pager_reads.nd rfl (.inl rfl) (pe_mE PM.rd LamX.takes0 hr (by omega) (pv 0) (pa_cons (pv 1) (pa_cons pe_int (pa_cons (pe_callB (lenQ K rfl) (by rfl) T.len PySem.boot_len (pa_cons (pv 2) pa_nil)) pa_nil)))))
      (pss_cons (ps_mk (ps_if (pt_not (pt_val (C8.pe_c c_same hr (by omega) (by rfl) (pa_cons (pv 4) (pa_cons (pv 2) pa_nil)))))
      (pss_one (ps_ret pe_bl))
      pss_nil))
      (pss_cons (ps_asg (pe_op op_mod (pe_callTy call_int1 (by rfl) T.int (by decide +kernel) (pa_cons (pe_op op_add (pe_ix (ixL K rfl) (pv 4) pe_int (fun _ _ => rfl)) pe_int) pa_nil)) pe_int) (pg_sub (pv 4) pe_int set_list))
      (pss_one (ps_expr (pe_bm PySem.F.plainAttrs_list PySem.F.slot_list_append PySem.F.type_list_append mt_append (pv 4) (pa_cons (pv 3) pa_nil)))))))))
      (pss_one (ps_ret pe_bl))), ?_⟩
  refine un ?_
  walk_at "go"
  refine ⟨by omega, by omega, for_range (lo := 0) (n := 2) (fun j σ H' => Ob (∃ S' y3 y4, Post C PT k A S H A S' pins (mc S) (b + 2 * j) H' ∧ S'.cs = S.cs ∧ σ = [sR A.p, sI c.st, sR cr, y3, y4])) (ob ⟨S, none, none, .refl hp gi bd hT, rfl, rfl⟩) ?_ ?_⟩
  · intro j σ H1 hj h
    obtain ⟨S1, y3, y4, po, sc, rfl⟩ := unob h
    clear h
    have hp1 := po.at_
    obtain ⟨dx1, g1⟩ := hp1.g
    have gc1 : H1 cr = some (.lst (c.by'.map V.int)) := po.bt _ _ ncr (fun _ z => by cases z) gc
    walk_at "go"
    refine ⟨A.p, _, _, rfl, g1, pg_b5, ?_⟩
    walk_at "go"
    have gi1 := po.gi
    have bd1 := po.bd
    obtain ⟨c1, hc1, e⟩ := List.mem_map.mp (show (c.st, c.by') ∈ mc S1 from po.m ▸ List.mem_map.mpr ⟨c, hc, rfl⟩)
    have es : c1.st = c.st := congrArg Prod.fst e
    have eb : c1.by' = c.by' := congrArg Prod.snd e
    have m : c.st ∈ S1.cs.map (·.st) := List.mem_map.mpr ⟨c1, hc1, es⟩
    have fr0 := gi1.free (by rw [← gi1.n, gi.n]; exact lp)
    rw [List.length_map]
    refine ⟨A, k, S1, c.st, 0, c.by'.length, rfl, hp1, gi1.ok bd1 (by omega), by have := bd1.r; omega, inB_log cB, fun m' => ⟨((gi1.lv _).mp m').1, fun nf => ((gi1.lv _).mp m').2.resolve_left nf⟩, fun m' z nf => gi1.can m' nf z, po.tb, gi1.nd, fun d hd ed zz S2 r1 H2 H3 br h2 b2 T2 s3 n3 g3 => ?_, fun m' => absurd m m', fun _ c z0 ze => absurd fr0 (fun t => t.elim z0 fun t => t ze)⟩
    obtain ⟨gi2, xin, c2, bd2⟩ := gi1.br hp1.ch.lb bd1 m br
    have edc : d.by' = c.by' := by
      have t : d ∈ S1.cs.filter (fun x => decide (x.st = c1.st)) := List.mem_filter.mpr ⟨hd, decide_eq_true (ed.trans es.symm)⟩
      rw [filt_one gi1.nd hc1] at t
      rw [List.mem_singleton.mp t, eb]
    have g4 : H3 r1 = some (.lst (c.by'.map V.int)) := by
      rw [g3, edc]
      have := cutV_all (c.by'.map V.int)
      rw [List.length_map] at this
      rw [this]
    have po2 : Post C PT k A S1 H1 A S2 pins (mc S) (b + 2 * j + 2) H3 := ⟨h2.same s3, gi2, bd2, (mc_eq c2).trans po.m, rfl, fun a ha => .inl (by rw [c2] at ha; exact ha), (b2.mono fun z hz => fr3 hz).trans (Same.t s3), T2.ext s3⟩
    have po3 := po.trans po2
    have gc3 : H3 cr = some (.lst (c.by'.map V.int)) := po3.bt _ _ ncr (fun _ z => by cases z) gc
    have nr1 : NewA H1 r1 := (NewA.of n3).butT b2 fun z => h2.live r1 (fr3 z) n3
    have nA1 : r1 ∉ A.all S2.cs := fun z => h2.live r1 z n3
    have nAS : r1 ∉ A.all S.cs := fun z => nA1 (by rw [c2, sc]; exact z)
    have nr0 : NewA H r1 := nr1.butT po.bt nAS
    show tSeq _ _ _ _ _
    refine un ?_
    walk_at "go"
    refine ⟨_, _, .list (c.by'.map .int), .list (c.by'.map .int), rfl, dh_li g4, dh_li gc3, dle_li (by omega), fun bb H9 hb s9 => ?_⟩
    obtain rfl := hb.mpr rfl
    walk_at "go"
    obtain ⟨y, ys, eds⟩ : ∃ y ys, c.by' = y :: ys := by
      cases h : c.by' with
      | nil => rw [h] at l0; cases l0
      | cons y ys => exact ⟨y, ys, rfl⟩
    have g9 := s9 _ _ g4
    have g9' : H9 r1 = some (.lst (.int y :: ys.map V.int)) := by
      rw [g9, eds]
      rfl
    refine ⟨r1, _, _, .int y, rfl, rfl, SqL.of g9', atI_nat (j := 0) rfl, ?_⟩
    walk_at "go"
    refine ⟨r1, _, _, _, rfl, rfl, g9, ix_ok (by omega) (by rw [List.length_map]; omega), ?_⟩
    walk_at "go"
    refine ⟨.inl ⟨rfl, _, SqL.of upd_same⟩, ?_⟩
    walk_at "go"
    refine ⟨r1, _, _, rfl, rfl, upd_same, sz5 (by rw [List.length_set, List.length_map]; omega), ?_⟩
    rw [upd_upd]
    refine ob ⟨S2, _, _, (((po3.same s9).off (l := r1) (ButL.put (by simp)) g9 nr0 nA1).mono (by omega)), c2.trans sc, rfl⟩
  intro σ H1 h
  obtain ⟨S1, y3, y4, po, sc, rfl⟩ := unob h
  walk_at "go"
  exact q S1 H1 po
end

end

section

-- a condition of an operator
local macro_rules | `(tactic| walk_at "cond") => `(tactic| first
  | (show (0 : Int) < _; omega)
  | (show CDiv _ _; constructor <;> (first | decide | omega))
  | (show CMul _ _; first | (refine cmul_l ?_; constructor <;> (first | decide | omega)) | (refine cmul_r ?_; constructor <;> (first | decide | omega)))
  | (show CPow _ _; exact (by refine ⟨by decide, by decide, by decide⟩))
  | (show CDivW _ _; exact ⟨by decide, by decide +kernel⟩))
local macro_rules | `(tactic| walk_at "sq") => `(tactic| first | assumption | exact Dh.mono (same_upd (by assumption)) _ _ (by assumption) | exact .inl (.inl (.inl (by assumption))) | exact .inr (.inl (.inl (by assumption))) | exact SqL.of (by assumption) | exact .inl (by assumption) | exact .inl (SqL.of (by assumption)) | exact SqT.of (by assumption) | exact .inr (SqT.of (by assumption)))
local macro_rules | `(tactic| walk_at "st") => `(tactic| first
  | refine ⟨_, rfl, ?_⟩
  | refine ⟨_, _, rfl, rfl, ?_⟩
  | refine .inl ⟨_, rfl, ?_⟩
  | refine ⟨rfl, ?_⟩
  | refine ⟨_, _, rfl, by walk_at "sq", ?_⟩
  | refine ⟨.inl ⟨rfl, _, SqL.of (by assumption)⟩, ?_⟩
  | refine ⟨by walk_at "cond", ?_⟩
  | (refine' ifBT ?hh ?_; (case hh => first | rfl | assumption))
  | (refine' ifBF ?hh ?_; (case hh => first | rfl | assumption)))
local macro_rules | `(tactic| walk_at "go") => `(tactic| repeat walk_at "st")
local macro_rules | `(tactic| walk_at "yes") => `(tactic| (refine' ifT ?hh ?_; (case hh => first | rfl | decide +kernel)))
local macro_rules | `(tactic| walk_at "no") => `(tactic| (refine' ifF ?hh ?_; (case hh => first | decide +kernel | (intro z; cases z; done))))

local macro_rules | `(tactic| walk_at "st") => `(tactic| refine ⟨_, _, _, _, _, rfl, by assumption, by assumption, by omega, by omega, by omega, by omega, by omega, ?_⟩)
local macro_rules | `(tactic| walk_at "st") => `(tactic| refine ⟨_, _, _, _, _, rfl, Same.seq (by assumption) (by assumption), by assumption, by omega, by omega, by omega, by omega, by omega, ?_⟩)

/-! ### the law's desk -/
structure DK where
  d : Addr
  ka : Addr
  ea : Addr
  pa : Addr
  kn : List Cont
  en : List Int
  pins : List Int
def dkR (ka ea pa : Addr) (few most wd : Nat) : List (Key × V) := [(.inr "known", .ref ka), (.inr "ended", .ref ea), (.inr "pins", .ref pa), (.inr "few", .int few), (.inr "most", .int most), (.inr "width", .int wd)]
section
variable {ka ea pa x : Addr} {few most wd : Nat}
theorem dk_k : valV (dkR ka ea pa few most wd) (.inr "known") = some (.ref ka) := by kernel_rfl
theorem dk_e : valV (dkR ka ea pa few most wd) (.inr "ended") = some (.ref ea) := by kernel_rfl
theorem dk_p : valV (dkR ka ea pa few most wd) (.inr "pins") = some (.ref pa) := by kernel_rfl
theorem dk_f : valV (dkR ka ea pa few most wd) (.inr "few") = some (.int few) := by kernel_rfl
theorem dk_m : valV (dkR ka ea pa few most wd) (.inr "most") = some (.int most) := by kernel_rfl
theorem dk_w : valV (dkR ka ea pa few most wd) (.inr "width") = some (.int wd) := by kernel_rfl
theorem dk_pp : putK (dkR ka ea pa few most wd) (.inr "pins") (.ref x) = dkR ka ea x few most wd := by kernel_rfl
theorem dk_len : (dkR ka ea pa few most wd).length = 6 := rfl
end
def DK.fix (D : DK) : List Addr := [D.d, D.ka, D.ea, D.pa]
def DK.all (D : DK) : List Addr := D.fix ++ D.kn.map (·.ad)
def DK.m (D : DK) : List (Int × List Int) := D.kn.map fun c => (c.st, c.by')
def DK.ks (D : DK) : List Int := D.kn.map (·.st)
structure DkAt (H : Hp) (D : DK) (few most wd : Nat) : Prop where
  g : H D.d = some (.dK (dkR D.ka D.ea D.pa few most wd))
  k : H D.ka = some (.dK (D.kn.map Cont.row))
  e : H D.ea = some (.lst (D.en.map V.int))
  p : H D.pa = some (.lst (D.pins.map V.int))
  c : ∀ x ∈ D.kn, H x.ad = some (.lst (x.by'.map V.int))
  nd : D.all.Nodup
/-- what is always true of a desk -/
structure DkOk (D : DK) (few most wd : Nat) (n : Nat) : Prop where
  nd : D.ks.Nodup
  en : ∀ y ∈ D.en, inB y
  ks : ∀ y ∈ D.ks, inB y
  le : D.en.length ≤ n
  lk : D.kn.length ≤ most
  w : ∀ c ∈ D.kn, c.by'.length = wd
  lp : D.pins.length + 1 ≤ few
  pn : D.pins.Nodup
  pk : ∀ y ∈ D.pins, y ∈ D.ks
theorem DkAt.same {H H' : Hp} {D : DK} {few most wd : Nat} (h : DkAt H D few most wd) (s : Same H H') : DkAt H' D few most wd := ⟨s _ _ h.g, s _ _ h.k, s _ _ h.e, s _ _ h.p, fun x hx => s _ _ (h.c x hx), h.nd⟩
theorem DkAt.live {H : Hp} {D : DK} {few most wd : Nat} (h : DkAt H D few most wd) : Live H D.all := fun a ha => by
  rcases List.mem_append.mp ha with z | z
  · simp only [DK.fix, List.mem_cons, List.not_mem_nil, or_false] at z
    rcases z with rfl | rfl | rfl | rfl
    · exact live_of h.g
    · exact live_of h.k
    · exact live_of h.e
    · exact live_of h.p
  · obtain ⟨x, hx, rfl⟩ := List.mem_map.mp z
    exact live_of (h.c x hx)
theorem DkAt.noT {H : Hp} {D : DK} {few most wd : Nat} (h : DkAt H D few most wd) : ∀ a ∈ D.all, ∃ o, H a = some o ∧ (∀ ps, o ≠ .tbl ps) ∧ NoT H a ∧ Plain o := fun a ha => by
  rcases List.mem_append.mp ha with z | z
  · simp only [DK.fix, List.mem_cons, List.not_mem_nil, or_false] at z
    rcases z with rfl | rfl | rfl | rfl
    · exact ⟨_, h.g, fun _ z => (by cases z), .dK h.g, plainK⟩
    · exact ⟨_, h.k, fun _ z => (by cases z), .dK h.k, plainK⟩
    · exact ⟨_, h.e, fun _ z => (by cases z), .lst h.e, plainL⟩
    · exact ⟨_, h.p, fun _ z => (by cases z), .lst h.p, plainL⟩
  · obtain ⟨x, hx, rfl⟩ := List.mem_map.mp z
    exact ⟨_, h.c x hx, fun _ z => (by cases z), .lst (h.c x hx), plainL⟩
theorem DkAt.offT {H H' : Hp} {D : DK} {few most wd : Nat} {F : List Addr} (h : DkAt H D few most wd) (b : ButT F H H') (d : ∀ a ∈ D.all, a ∉ F) : DkAt H' D few most wd := by
  have df : ∀ a ∈ D.fix, a ∉ F := fun a ha => d a (List.mem_append_left _ ha)
  exact ⟨b _ _ (df _ (by simp [DK.fix])) (fun _ z => by cases z) h.g, b _ _ (df _ (by simp [DK.fix])) (fun _ z => by cases z) h.k, b _ _ (df _ (by simp [DK.fix])) (fun _ z => by cases z) h.e, b _ _ (df _ (by simp [DK.fix])) (fun _ z => by cases z) h.p, fun x hx => b _ _ (d _ (List.mem_append_right _ (List.mem_map.mpr ⟨x, hx, rfl⟩))) (fun _ z => by cases z) (h.c x hx), h.nd⟩
theorem ks_map (D : DK) : (D.kn.map Cont.row).map (fun kv => kV kv.1) = D.ks.map V.int := by
  unfold DK.ks
  rw [List.map_map, List.map_map]
  rfl

end

section

-- a condition of an operator
local macro_rules | `(tactic| walk_at "cond") => `(tactic| first
  | (show (0 : Int) < _; omega)
  | (show CDiv _ _; constructor <;> (first | decide | omega))
  | (show CMul _ _; first | (refine cmul_l ?_; constructor <;> (first | decide | omega)) | (refine cmul_r ?_; constructor <;> (first | decide | omega)))
  | (show CPow _ _; exact (by refine ⟨by decide, by decide, by decide⟩))
  | (show CDivW _ _; exact ⟨by decide, by decide +kernel⟩))
local macro_rules | `(tactic| walk_at "sq") => `(tactic| first | assumption | exact Dh.mono (same_upd (by assumption)) _ _ (by assumption) | exact .inl (.inl (.inl (by assumption))) | exact .inr (.inl (.inl (by assumption))) | exact SqL.of (by assumption) | exact .inl (by assumption) | exact .inl (SqL.of (by assumption)) | exact SqT.of (by assumption) | exact .inr (SqT.of (by assumption)))
local macro_rules | `(tactic| walk_at "st") => `(tactic| first
  | refine ⟨_, rfl, ?_⟩
  | refine ⟨_, _, rfl, rfl, ?_⟩
  | refine .inl ⟨_, rfl, ?_⟩
  | refine ⟨rfl, ?_⟩
  | refine ⟨_, _, rfl, by walk_at "sq", ?_⟩
  | refine ⟨.inl ⟨rfl, _, SqL.of (by assumption)⟩, ?_⟩
  | refine ⟨by walk_at "cond", ?_⟩
  | (refine' ifBT ?hh ?_; (case hh => first | rfl | assumption))
  | (refine' ifBF ?hh ?_; (case hh => first | rfl | assumption)))
local macro_rules | `(tactic| walk_at "go") => `(tactic| repeat walk_at "st")
local macro_rules | `(tactic| walk_at "yes") => `(tactic| (refine' ifT ?hh ?_; (case hh => first | rfl | decide +kernel)))
local macro_rules | `(tactic| walk_at "no") => `(tactic| (refine' ifF ?hh ?_; (case hh => first | decide +kernel | (intro z; cases z; done))))

local macro_rules | `(tactic| walk_at "st") => `(tactic| refine ⟨_, _, _, _, _, rfl, by assumption, by assumption, by omega, by omega, by omega, by omega, by omega, ?_⟩)
local macro_rules | `(tactic| walk_at "st") => `(tactic| refine ⟨_, _, _, _, _, rfl, Same.seq (by assumption) (by assumption), by assumption, by omega, by omega, by omega, by omega, by omega, ?_⟩)

/-! ### _law_content_call -/
abbrev s_content_call : Stmt := topS 23
theorem sc_content_call : FnScope ["_law_script", "_law_at", "_law_desk", "_law_call", "_law_live"] ["_law_script", "_law_at", "_law_desk"] (C8.fnScope s_content_call) := C8.fnScope_by (by decide +kernel)
def PCall.two : PCall → Bool
  | .unp => false
  | _ => true
def PCall.fits (D : DK) (few most wd : Nat) (c : PCall) : Prop := c.ok D.ks wd ∧ (c.roomy → (∀ x, c.ask = some x → x ∈ D.ks) → D.kn.length + 1 ≤ most) ∧ (∀ x, c = .pin x → x ∈ D.ks → D.pins.length + 2 ≤ few)
def spCc (K : PySem.W.Frag) : Sp := fun vs H Q _ => ∃ (a : Addr) (ns : List Int) (i : Int) (D : DK) (few most wd : Nat), vs = [.ref a, .int i, .ref D.d] ∧ SqL K H a (ns.map V.int) ∧ ns.length ≤ 63 ∧ 0 ≤ i ∧ i ≤ 1000 ∧ DkAt H D few most wd ∧ DkOk D few most wd 1000 ∧ most ≤ 60 ∧ 1 ≤ wd ∧ wd ≤ 16 ∧
  ∀ r (c : PCall) H', Same H H' → H r = none → CallAt H' r c → (∀ x o dr ds, c = .sto x o dr ds → H dr = none) → c.fits D few most wd → Q (.ref r) H'
section
variable {P : Program} {w : World} {K : PySem.W.Frag} {mg : Str → Option Value} {base : Heap}
theorem ok_cc {f : Addr} {fd : FuncData} (Df : Def K mg "_law_content_call" s_content_call f fd) (b : Binds K fd ["_law_script", "_law_at", "_law_desk"] []) (T : LTxt mg) (c_pager_call : Cal P w K mg base 3 "_law_pager_call" (spPc K) []) : Cal P w K mg base 4 "_law_content_call" (spCc K) [] := by
  refine cal0 Df b .nil sc_content_call (fun vs H Q E h => ?_) (fun cdv A outer s H vs Q E hr h => ?_)
  · obtain ⟨a, ns, i, D, few, most, wd, rfl, _⟩ := h
    rfl
  obtain ⟨a, ns, i, D, few, most, wd, rfl, hS, hl, i0, i1, hd, ok, lm, w1, w2, q⟩ := h
  refine ⟨_, (pss_cons (ps_set (i := 3) sc_content_call.nd rfl (.inl rfl) (C8.pe_c c_pager_call hr (by omega) (by rfl) (pa_cons (pv 0) (pa_cons (pv 1) (pa_cons (pe_callTy (call_listD rfl) (by rfl) T.list (by decide +kernel) (pa_cons (pe_dget (hu_of hr) (pv 2) pe_str (fun _ _ => rfl)) pa_nil)) (pa_cons (pe_dget (hu_of hr) (pv 2) pe_str (fun _ _ => rfl)) (pa_cons (pe_dget (hu_of hr) (pv 2) pe_str (fun _ _ => rfl)) pa_nil)))))))
      (pss_cons (ps_set (i := 4) sc_content_call.nd rfl (.inl rfl) (pe_and (pe_cmpR op_gt (pe_callB (lenQ K rfl) (by rfl) T.len PySem.boot_len (pa_cons (pv 3) pa_nil)) pe_int (nomark _)) (pe_one (pe_cmp (pc_din (hu_of hr) (pe_ix (ixT K rfl) (pv 3) pe_int (fun _ _ => rfl)) (pe_dget (hu_of hr) (pv 2) pe_str (fun _ _ => rfl))) rfl))))
      (pss_cons (ps_mk (ps_if (PW.pt (pw_and (pt_cmpR op_ge (pe_callB call_lenD (by rfl) T.len PySem.boot_len (pa_cons (pe_dget (hu_of hr) (pv 2) pe_str (fun _ _ => rfl)) pa_nil)) (pe_dget (hu_of hr) (pv 2) pe_str (fun _ _ => rfl)) (nomark _)) (pw_and1 (PW.pt (pw_or (pt_cmpR op_eq (pe_ix (ixT K rfl) (pv 3) pe_int (fun _ _ => rfl)) pe_str (nomark _)) (pw_or1 (PW.pt (pw_and (pt_cmpR op_eq (pe_ix (ixT K rfl) (pv 3) pe_int (fun _ _ => rfl)) pe_str (nomark _)) (pw_and1 (pt_val (pv 4)))))))))))
      (pss_one (ps_ret (pe_tup (pa_cons pe_str pa_nil))))
      pss_nil))
      (pss_cons (ps_mk (ps_if (PW.pt (pw_and (pt_cmpR op_eq (pe_ix (ixT K rfl) (pv 3) pe_int (fun _ _ => rfl)) pe_str (nomark _)) (pw_and (pt_val (pv 4)) (pw_and1 (pt_cmpR op_gt (pe_op op_add (pe_callB (lenQ K rfl) (by rfl) T.len PySem.boot_len (pa_cons (pe_dget (hu_of hr) (pv 2) pe_str (fun _ _ => rfl)) pa_nil)) pe_int) (pe_dget (hu_of hr) (pv 2) pe_str (fun _ _ => rfl)) (nomark _))))))
      (pss_one (ps_ret (pe_tup (pa_cons pe_str (pa_cons (pe_ix (ixT K rfl) (pv 3) pe_int (fun _ _ => rfl)) pa_nil)))))
      pss_nil))
      (pss_one (ps_ret (pv 3))))))), ?_⟩
  have gd := hd.g
  walk_at "go"
  refine ⟨D.d, _, rfl, dk_k ▸ DGet.k (k := .inr "known") gd, ?_⟩
  walk_at "go"
  refine ⟨D.ka, _, rfl, .inl hd.k, fun l nl => ?_⟩
  rw [ks_map]
  have s1 := same_upd (o := HO.lst (D.ks.map V.int)) nl
  have gl := upd_same (H := H) (a := l) (o := HO.lst (D.ks.map V.int))
  have hd1 := hd.same s1
  have gd1 := hd1.g
  have hS1 := s1.seq hS
  have lkn := ok.lk
  show _
  generalize upd H l (HO.lst (D.ks.map V.int)) = H1 at *
  walk_at "go"
  refine ⟨D.d, _, rfl, dk_e ▸ DGet.k (k := .inr "ended") gd1, ?_⟩
  walk_at "go"
  refine ⟨D.d, _, rfl, dk_w ▸ DGet.k (k := .inr "width") gd1, ?_⟩
  walk_at "go"
  refine ⟨a, l, D.ea, ns, i, D.ks, D.en, wd, rfl, hS1, hl, i0, i1, gl, hd1.e, by unfold DK.ks; rw [List.length_map]; omega, ok.le, ok.en, ok.ks, w1, w2, fun r c H2 s2 nr hc ndr cok => ?_⟩
  have hd2 := hd1.same s2
  have gd2 := hd2.g
  have s12 := s1.trans s2
  have gr := hc.g
  have nr0 := s1.free nr
  have few0 := ok.lp
  have ksl : D.ks.length = D.kn.length := List.length_map _
  have fin : c.fits D few most wd → Q (.ref r) H2 := fun h => q r c H2 s12 nr0 hc (fun x o dr ds e => s1.free (ndr x o dr ds e)) h
  have finU : ∀ p, H2 p = none → Q (.ref p) (upd H2 p (.tup [.str "unpin"])) := fun p np => q p .unp _ (s12.trans (same_upd np)) (s12.free np) ⟨upd_same, trivial⟩ (fun _ _ _ _ z => by cases z) ⟨trivial, fun z => z.elim, fun _ z => by cases z⟩
  have hl2 : decide ((1 : Int) < ((c.vs.length : Nat) : Int)) = c.two := by cases c <;> rfl
  walk_at "go"
  rw [hl2]
  cases c with
  | beg y =>
    have gr : H2 r = some (.tup [.str "begin", .int y]) := gr
    refine if_tt ?_
    walk_at "go"
    refine ⟨r, _, _, .int y, rfl, rfl, SqT.of gr, atI_nat (j := 1) rfl, ?_⟩
    walk_at "go"
    refine ⟨D.d, _, rfl, dk_k ▸ DGet.k (k := .inr "known") gd2, ?_⟩
    walk_at "go"
    refine ⟨D.ka, _, rfl, DGet.k (k := .inl y) hd2.k, ?_⟩
    rw [cs_get]
    rw [decide_eq_false (show ¬ y ∈ D.kn.map (·.st) from cok.1)]
    walk_at "go"
    refine un ?_
    walk_at "go"
    refine ⟨D.d, _, rfl, dk_k ▸ DGet.k (k := .inr "known") gd2, ?_⟩
    walk_at "go"
    refine ⟨D.ka, _, rfl, hd2.k, ?_⟩
    walk_at "go"
    refine ⟨D.d, _, rfl, dk_m ▸ DGet.k (k := .inr "most") gd2, ?_⟩
    walk_at "go"
    rw [List.length_map]
    refine ifD (fun lm => ?_) (fun lm => ?_)
    · walk_at "go"
      refine ⟨r, _, _, .str "begin", rfl, rfl, SqT.of gr, atI_nat (j := 0) rfl, ?_⟩
      walk_at "go"
      exact ⟨sz, fun p np => finU p np⟩
    · refine un ?_
      walk_at "go"
      walk_at "go"
      refine ⟨r, _, _, .str "begin", rfl, rfl, SqT.of gr, atI_nat (j := 0) rfl, ?_⟩
      walk_at "go"
      exact fin ⟨cok, fun _ _ => by omega, fun _ z => by cases z⟩
  | dup x y =>
    have gr : H2 r = some (.tup [.str "duplicate", .int x, .int y]) := gr
    refine if_tt ?_
    walk_at "go"
    refine ⟨r, _, _, .int x, rfl, rfl, SqT.of gr, atI_nat (j := 1) rfl, ?_⟩
    walk_at "go"
    refine ⟨D.d, _, rfl, dk_k ▸ DGet.k (k := .inr "known") gd2, ?_⟩
    walk_at "go"
    refine ⟨D.ka, _, rfl, DGet.k (k := .inl x) hd2.k, ?_⟩
    rw [cs_get]
    by_cases nk : x ∈ D.ks
    · rw [decide_eq_true (show x ∈ D.kn.map (·.st) from nk)]
      walk_at "go"
      refine un ?_
      walk_at "go"
      refine ⟨D.d, _, rfl, dk_k ▸ DGet.k (k := .inr "known") gd2, ?_⟩
      walk_at "go"
      refine ⟨D.ka, _, rfl, hd2.k, ?_⟩
      walk_at "go"
      refine ⟨D.d, _, rfl, dk_m ▸ DGet.k (k := .inr "most") gd2, ?_⟩
      walk_at "go"
      rw [List.length_map]
      refine ifD (fun lm => ?_) (fun lm => ?_)
      · walk_at "go"
        refine ⟨r, _, _, .str "duplicate", rfl, rfl, SqT.of gr, atI_nat (j := 0) rfl, ?_⟩
        walk_at "go"
        walk_at "go"
        refine ⟨r, _, _, .str "duplicate", rfl, rfl, SqT.of gr, atI_nat (j := 0) rfl, ?_⟩
        walk_at "go"
        exact ⟨sz, fun p np => finU p np⟩
      · refine un ?_
        walk_at "go"
        walk_at "go"
        refine ⟨r, _, _, .str "duplicate", rfl, rfl, SqT.of gr, atI_nat (j := 0) rfl, ?_⟩
        walk_at "go"
        exact fin ⟨cok, fun _ _ => by omega, fun _ z => by cases z⟩
    · rw [decide_eq_false (show ¬ x ∈ D.kn.map (·.st) from nk)]
      walk_at "go"
      refine un ?_
      walk_at "go"
      refine ⟨D.d, _, rfl, dk_k ▸ DGet.k (k := .inr "known") gd2, ?_⟩
      walk_at "go"
      refine ⟨D.ka, _, rfl, hd2.k, ?_⟩
      walk_at "go"
      refine ⟨D.d, _, rfl, dk_m ▸ DGet.k (k := .inr "most") gd2, ?_⟩
      walk_at "go"
      rw [List.length_map]
      refine ifD (fun lm => ?_) (fun lm => ?_)
      · walk_at "go"
        refine ⟨r, _, _, .str "duplicate", rfl, rfl, SqT.of gr, atI_nat (j := 0) rfl, ?_⟩
        walk_at "go"
        walk_at "go"
        refine ⟨r, _, _, .str "duplicate", rfl, rfl, SqT.of gr, atI_nat (j := 0) rfl, ?_⟩
        walk_at "go"
        refine un ?_
        walk_at "go"
        walk_at "go"
        refine ⟨r, _, _, .str "duplicate", rfl, rfl, SqT.of gr, atI_nat (j := 0) rfl, ?_⟩
        walk_at "go"
        exact fin ⟨cok, fun _ h => absurd (h _ rfl) nk, fun _ z => by cases z⟩
      · refine un ?_
        walk_at "go"
        walk_at "go"
        refine ⟨r, _, _, .str "duplicate", rfl, rfl, SqT.of gr, atI_nat (j := 0) rfl, ?_⟩
        walk_at "go"
        exact fin ⟨cok, fun _ _ => by omega, fun _ z => by cases z⟩
  | ren x y =>
    have gr : H2 r = some (.tup [.str "rename", .int x, .int y]) := gr
    refine if_tt ?_
    walk_at "go"
    refine ⟨r, _, _, .int x, rfl, rfl, SqT.of gr, atI_nat (j := 1) rfl, ?_⟩
    walk_at "go"
    refine ⟨D.d, _, rfl, dk_k ▸ DGet.k (k := .inr "known") gd2, ?_⟩
    walk_at "go"
    refine ⟨D.ka, _, rfl, DGet.k (k := .inl x) hd2.k, ?_⟩
    rw [cs_get]
    generalize decide (x ∈ D.kn.map (·.st)) = lv
    walk_at "go"
    refine un ?_
    walk_at "go"
    refine ⟨D.d, _, rfl, dk_k ▸ DGet.k (k := .inr "known") gd2, ?_⟩
    walk_at "go"
    refine ⟨D.ka, _, rfl, hd2.k, ?_⟩
    walk_at "go"
    refine ⟨D.d, _, rfl, dk_m ▸ DGet.k (k := .inr "most") gd2, ?_⟩
    walk_at "go"
    rw [List.length_map]
    refine ifD (fun lm => ?_) (fun lm => ?_)
    · walk_at "go"
      refine ⟨r, _, _, .str "rename", rfl, rfl, SqT.of gr, atI_nat (j := 0) rfl, ?_⟩
      walk_at "go"
      walk_at "go"
      refine ⟨r, _, _, .str "rename", rfl, rfl, SqT.of gr, atI_nat (j := 0) rfl, ?_⟩
      walk_at "go"
      refine un ?_
      walk_at "go"
      walk_at "go"
      refine ⟨r, _, _, .str "rename", rfl, rfl, SqT.of gr, atI_nat (j := 0) rfl, ?_⟩
      walk_at "go"
      exact fin ⟨cok, fun z => z.elim, fun _ z => by cases z⟩
    · refine un ?_
      walk_at "go"
      walk_at "go"
      refine ⟨r, _, _, .str "rename", rfl, rfl, SqT.of gr, atI_nat (j := 0) rfl, ?_⟩
      walk_at "go"
      exact fin ⟨cok, fun z => z.elim, fun _ z => by cases z⟩
  | sto x o dr ds =>
    have gr : H2 r = some (.tup [.str "store", .int x, .int o, .ref dr]) := gr
    refine if_tt ?_
    walk_at "go"
    refine ⟨r, _, _, .int x, rfl, rfl, SqT.of gr, atI_nat (j := 1) rfl, ?_⟩
    walk_at "go"
    refine ⟨D.d, _, rfl, dk_k ▸ DGet.k (k := .inr "known") gd2, ?_⟩
    walk_at "go"
    refine ⟨D.ka, _, rfl, DGet.k (k := .inl x) hd2.k, ?_⟩
    rw [cs_get]
    generalize decide (x ∈ D.kn.map (·.st)) = lv
    walk_at "go"
    refine un ?_
    walk_at "go"
    refine ⟨D.d, _, rfl, dk_k ▸ DGet.k (k := .inr "known") gd2, ?_⟩
    walk_at "go"
    refine ⟨D.ka, _, rfl, hd2.k, ?_⟩
    walk_at "go"
    refine ⟨D.d, _, rfl, dk_m ▸ DGet.k (k := .inr "most") gd2, ?_⟩
    walk_at "go"
    rw [List.length_map]
    refine ifD (fun lm => ?_) (fun lm => ?_)
    · walk_at "go"
      refine ⟨r, _, _, .str "store", rfl, rfl, SqT.of gr, atI_nat (j := 0) rfl, ?_⟩
      walk_at "go"
      walk_at "go"
      refine ⟨r, _, _, .str "store", rfl, rfl, SqT.of gr, atI_nat (j := 0) rfl, ?_⟩
      walk_at "go"
      refine un ?_
      walk_at "go"
      walk_at "go"
      refine ⟨r, _, _, .str "store", rfl, rfl, SqT.of gr, atI_nat (j := 0) rfl, ?_⟩
      walk_at "go"
      exact fin ⟨cok, fun z => z.elim, fun _ z => by cases z⟩
    · refine un ?_
      walk_at "go"
      walk_at "go"
      refine ⟨r, _, _, .str "store", rfl, rfl, SqT.of gr, atI_nat (j := 0) rfl, ?_⟩
      walk_at "go"
      exact fin ⟨cok, fun z => z.elim, fun _ z => by cases z⟩
  | rd x o l =>
    have gr : H2 r = some (.tup [.str "read", .int x, .int o, .int l]) := gr
    refine if_tt ?_
    walk_at "go"
    refine ⟨r, _, _, .int x, rfl, rfl, SqT.of gr, atI_nat (j := 1) rfl, ?_⟩
    walk_at "go"
    refine ⟨D.d, _, rfl, dk_k ▸ DGet.k (k := .inr "known") gd2, ?_⟩
    walk_at "go"
    refine ⟨D.ka, _, rfl, DGet.k (k := .inl x) hd2.k, ?_⟩
    rw [cs_get]
    generalize decide (x ∈ D.kn.map (·.st)) = lv
    walk_at "go"
    refine un ?_
    walk_at "go"
    refine ⟨D.d, _, rfl, dk_k ▸ DGet.k (k := .inr "known") gd2, ?_⟩
    walk_at "go"
    refine ⟨D.ka, _, rfl, hd2.k, ?_⟩
    walk_at "go"
    refine ⟨D.d, _, rfl, dk_m ▸ DGet.k (k := .inr "most") gd2, ?_⟩
    walk_at "go"
    rw [List.length_map]
    refine ifD (fun lm => ?_) (fun lm => ?_)
    · walk_at "go"
      refine ⟨r, _, _, .str "read", rfl, rfl, SqT.of gr, atI_nat (j := 0) rfl, ?_⟩
      walk_at "go"
      walk_at "go"
      refine ⟨r, _, _, .str "read", rfl, rfl, SqT.of gr, atI_nat (j := 0) rfl, ?_⟩
      walk_at "go"
      refine un ?_
      walk_at "go"
      walk_at "go"
      refine ⟨r, _, _, .str "read", rfl, rfl, SqT.of gr, atI_nat (j := 0) rfl, ?_⟩
      walk_at "go"
      exact fin ⟨cok, fun z => z.elim, fun _ z => by cases z⟩
    · refine un ?_
      walk_at "go"
      walk_at "go"
      refine ⟨r, _, _, .str "read", rfl, rfl, SqT.of gr, atI_nat (j := 0) rfl, ?_⟩
      walk_at "go"
      exact fin ⟨cok, fun z => z.elim, fun _ z => by cases z⟩
  | rel x =>
    have gr : H2 r = some (.tup [.str "release", .int x]) := gr
    refine if_tt ?_
    walk_at "go"
    refine ⟨r, _, _, .int x, rfl, rfl, SqT.of gr, atI_nat (j := 1) rfl, ?_⟩
    walk_at "go"
    refine ⟨D.d, _, rfl, dk_k ▸ DGet.k (k := .inr "known") gd2, ?_⟩
    walk_at "go"
    refine ⟨D.ka, _, rfl, DGet.k (k := .inl x) hd2.k, ?_⟩
    rw [cs_get]
    generalize decide (x ∈ D.kn.map (·.st)) = lv
    walk_at "go"
    refine un ?_
    walk_at "go"
    refine ⟨D.d, _, rfl, dk_k ▸ DGet.k (k := .inr "known") gd2, ?_⟩
    walk_at "go"
    refine ⟨D.ka, _, rfl, hd2.k, ?_⟩
    walk_at "go"
    refine ⟨D.d, _, rfl, dk_m ▸ DGet.k (k := .inr "most") gd2, ?_⟩
    walk_at "go"
    rw [List.length_map]
    refine ifD (fun lm => ?_) (fun lm => ?_)
    · walk_at "go"
      refine ⟨r, _, _, .str "release", rfl, rfl, SqT.of gr, atI_nat (j := 0) rfl, ?_⟩
      walk_at "go"
      walk_at "go"
      refine ⟨r, _, _, .str "release", rfl, rfl, SqT.of gr, atI_nat (j := 0) rfl, ?_⟩
      walk_at "go"
      refine un ?_
      walk_at "go"
      walk_at "go"
      refine ⟨r, _, _, .str "release", rfl, rfl, SqT.of gr, atI_nat (j := 0) rfl, ?_⟩
      walk_at "go"
      exact fin ⟨cok, fun z => z.elim, fun _ z => by cases z⟩
    · refine un ?_
      walk_at "go"
      walk_at "go"
      refine ⟨r, _, _, .str "release", rfl, rfl, SqT.of gr, atI_nat (j := 0) rfl, ?_⟩
      walk_at "go"
      exact fin ⟨cok, fun z => z.elim, fun _ z => by cases z⟩
  | brg x =>
    have gr : H2 r = some (.tup [.str "bring", .int x]) := gr
    refine if_tt ?_
    walk_at "go"
    refine ⟨r, _, _, .int x, rfl, rfl, SqT.of gr, atI_nat (j := 1) rfl, ?_⟩
    walk_at "go"
    refine ⟨D.d, _, rfl, dk_k ▸ DGet.k (k := .inr "known") gd2, ?_⟩
    walk_at "go"
    refine ⟨D.ka, _, rfl, DGet.k (k := .inl x) hd2.k, ?_⟩
    rw [cs_get]
    generalize decide (x ∈ D.kn.map (·.st)) = lv
    walk_at "go"
    refine un ?_
    walk_at "go"
    refine ⟨D.d, _, rfl, dk_k ▸ DGet.k (k := .inr "known") gd2, ?_⟩
    walk_at "go"
    refine ⟨D.ka, _, rfl, hd2.k, ?_⟩
    walk_at "go"
    refine ⟨D.d, _, rfl, dk_m ▸ DGet.k (k := .inr "most") gd2, ?_⟩
    walk_at "go"
    rw [List.length_map]
    refine ifD (fun lm => ?_) (fun lm => ?_)
    · walk_at "go"
      refine ⟨r, _, _, .str "bring", rfl, rfl, SqT.of gr, atI_nat (j := 0) rfl, ?_⟩
      walk_at "go"
      walk_at "go"
      refine ⟨r, _, _, .str "bring", rfl, rfl, SqT.of gr, atI_nat (j := 0) rfl, ?_⟩
      walk_at "go"
      refine un ?_
      walk_at "go"
      walk_at "go"
      refine ⟨r, _, _, .str "bring", rfl, rfl, SqT.of gr, atI_nat (j := 0) rfl, ?_⟩
      walk_at "go"
      exact fin ⟨cok, fun z => z.elim, fun _ z => by cases z⟩
    · refine un ?_
      walk_at "go"
      walk_at "go"
      refine ⟨r, _, _, .str "bring", rfl, rfl, SqT.of gr, atI_nat (j := 0) rfl, ?_⟩
      walk_at "go"
      exact fin ⟨cok, fun z => z.elim, fun _ z => by cases z⟩
  | put x =>
    have gr : H2 r = some (.tup [.str "put_out", .int x]) := gr
    refine if_tt ?_
    walk_at "go"
    refine ⟨r, _, _, .int x, rfl, rfl, SqT.of gr, atI_nat (j := 1) rfl, ?_⟩
    walk_at "go"
    refine ⟨D.d, _, rfl, dk_k ▸ DGet.k (k := .inr "known") gd2, ?_⟩
    walk_at "go"
    refine ⟨D.ka, _, rfl, DGet.k (k := .inl x) hd2.k, ?_⟩
    rw [cs_get]
    generalize decide (x ∈ D.kn.map (·.st)) = lv
    walk_at "go"
    refine un ?_
    walk_at "go"
    refine ⟨D.d, _, rfl, dk_k ▸ DGet.k (k := .inr "known") gd2, ?_⟩
    walk_at "go"
    refine ⟨D.ka, _, rfl, hd2.k, ?_⟩
    walk_at "go"
    refine ⟨D.d, _, rfl, dk_m ▸ DGet.k (k := .inr "most") gd2, ?_⟩
    walk_at "go"
    rw [List.length_map]
    refine ifD (fun lm => ?_) (fun lm => ?_)
    · walk_at "go"
      refine ⟨r, _, _, .str "put_out", rfl, rfl, SqT.of gr, atI_nat (j := 0) rfl, ?_⟩
      walk_at "go"
      walk_at "go"
      refine ⟨r, _, _, .str "put_out", rfl, rfl, SqT.of gr, atI_nat (j := 0) rfl, ?_⟩
      walk_at "go"
      refine un ?_
      walk_at "go"
      walk_at "go"
      refine ⟨r, _, _, .str "put_out", rfl, rfl, SqT.of gr, atI_nat (j := 0) rfl, ?_⟩
      walk_at "go"
      exact fin ⟨cok, fun z => z.elim, fun _ z => by cases z⟩
    · refine un ?_
      walk_at "go"
      walk_at "go"
      refine ⟨r, _, _, .str "put_out", rfl, rfl, SqT.of gr, atI_nat (j := 0) rfl, ?_⟩
      walk_at "go"
      exact fin ⟨cok, fun z => z.elim, fun _ z => by cases z⟩
  | pin x =>
    have gr : H2 r = some (.tup [.str "pin", .int x]) := gr
    refine if_tt ?_
    walk_at "go"
    refine ⟨r, _, _, .int x, rfl, rfl, SqT.of gr, atI_nat (j := 1) rfl, ?_⟩
    walk_at "go"
    refine ⟨D.d, _, rfl, dk_k ▸ DGet.k (k := .inr "known") gd2, ?_⟩
    walk_at "go"
    refine ⟨D.ka, _, rfl, DGet.k (k := .inl x) hd2.k, ?_⟩
    rw [cs_get]
    by_cases nk : x ∈ D.ks
    · rw [decide_eq_true (show x ∈ D.kn.map (·.st) from nk)]
      walk_at "go"
      refine un ?_
      walk_at "go"
      refine ⟨D.d, _, rfl, dk_k ▸ DGet.k (k := .inr "known") gd2, ?_⟩
      walk_at "go"
      refine ⟨D.ka, _, rfl, hd2.k, ?_⟩
      walk_at "go"
      refine ⟨D.d, _, rfl, dk_m ▸ DGet.k (k := .inr "most") gd2, ?_⟩
      walk_at "go"
      rw [List.length_map]
      refine ifD (fun lm => ?_) (fun lm => ?_)
      · walk_at "go"
        refine ⟨r, _, _, .str "pin", rfl, rfl, SqT.of gr, atI_nat (j := 0) rfl, ?_⟩
        walk_at "go"
        walk_at "go"
        refine ⟨r, _, _, .str "pin", rfl, rfl, SqT.of gr, atI_nat (j := 0) rfl, ?_⟩
        walk_at "go"
        refine un ?_
        walk_at "go"
        walk_at "go"
        refine ⟨r, _, _, .str "pin", rfl, rfl, SqT.of gr, atI_nat (j := 0) rfl, ?_⟩
        walk_at "go"
        refine ⟨D.d, _, rfl, dk_p ▸ DGet.k (k := .inr "pins") gd2, ?_⟩
        have gp2 := hd2.p
        walk_at "go"
        refine ⟨D.d, _, rfl, dk_f ▸ DGet.k (k := .inr "few") gd2, ?_⟩
        walk_at "go"
        rw [List.length_map]
        refine ifD (fun pf => ?_) (fun pf => ?_)
        · walk_at "go"
          refine ⟨r, _, _, .int x, rfl, rfl, SqT.of gr, atI_nat (j := 1) rfl, ?_⟩
          walk_at "go"
          exact ⟨sz, fun p np => q p (.brg x) _ (s12.trans (same_upd np)) (s12.free np) ⟨upd_same, trivial⟩ (fun _ _ _ _ z => by cases z) ⟨cok, fun z => z.elim, fun _ z => by cases z⟩⟩
        · walk_at "go"
          exact fin ⟨cok, fun z => z.elim, fun _ z _ => by cases z; omega⟩
      · refine un ?_
        walk_at "go"
        walk_at "go"
        refine ⟨r, _, _, .str "pin", rfl, rfl, SqT.of gr, atI_nat (j := 0) rfl, ?_⟩
        walk_at "go"
        refine ⟨D.d, _, rfl, dk_p ▸ DGet.k (k := .inr "pins") gd2, ?_⟩
        have gp2 := hd2.p
        walk_at "go"
        refine ⟨D.d, _, rfl, dk_f ▸ DGet.k (k := .inr "few") gd2, ?_⟩
        walk_at "go"
        rw [List.length_map]
        refine ifD (fun pf => ?_) (fun pf => ?_)
        · walk_at "go"
          refine ⟨r, _, _, .int x, rfl, rfl, SqT.of gr, atI_nat (j := 1) rfl, ?_⟩
          walk_at "go"
          exact ⟨sz, fun p np => q p (.brg x) _ (s12.trans (same_upd np)) (s12.free np) ⟨upd_same, trivial⟩ (fun _ _ _ _ z => by cases z) ⟨cok, fun z => z.elim, fun _ z => by cases z⟩⟩
        · walk_at "go"
          exact fin ⟨cok, fun z => z.elim, fun _ z _ => by cases z; omega⟩
    · rw [decide_eq_false (show ¬ x ∈ D.kn.map (·.st) from nk)]
      walk_at "go"
      refine un ?_
      walk_at "go"
      refine ⟨D.d, _, rfl, dk_k ▸ DGet.k (k := .inr "known") gd2, ?_⟩
      walk_at "go"
      refine ⟨D.ka, _, rfl, hd2.k, ?_⟩
      walk_at "go"
      refine ⟨D.d, _, rfl, dk_m ▸ DGet.k (k := .inr "most") gd2, ?_⟩
      walk_at "go"
      rw [List.length_map]
      refine ifD (fun lm => ?_) (fun lm => ?_)
      · walk_at "go"
        refine ⟨r, _, _, .str "pin", rfl, rfl, SqT.of gr, atI_nat (j := 0) rfl, ?_⟩
        walk_at "go"
        walk_at "go"
        refine ⟨r, _, _, .str "pin", rfl, rfl, SqT.of gr, atI_nat (j := 0) rfl, ?_⟩
        walk_at "go"
        refine un ?_
        walk_at "go"
        walk_at "go"
        refine ⟨r, _, _, .str "pin", rfl, rfl, SqT.of gr, atI_nat (j := 0) rfl, ?_⟩
        walk_at "go"
        exact fin ⟨cok, fun z => z.elim, fun _ z h => by cases z; exact absurd h nk⟩
      · refine un ?_
        walk_at "go"
        walk_at "go"
        refine ⟨r, _, _, .str "pin", rfl, rfl, SqT.of gr, atI_nat (j := 0) rfl, ?_⟩
        walk_at "go"
        exact fin ⟨cok, fun z => z.elim, fun _ z h => by cases z; exact absurd h nk⟩
  | unp =>
    have gr : H2 r = some (.tup [.str "unpin"]) := gr
    refine if_ff ?_
    walk_at "go"
    refine un ?_
    walk_at "go"
    refine ⟨D.d, _, rfl, dk_k ▸ DGet.k (k := .inr "known") gd2, ?_⟩
    walk_at "go"
    refine ⟨D.ka, _, rfl, hd2.k, ?_⟩
    walk_at "go"
    refine ⟨D.d, _, rfl, dk_m ▸ DGet.k (k := .inr "most") gd2, ?_⟩
    walk_at "go"
    rw [List.length_map]
    refine ifD (fun lm => ?_) (fun lm => ?_)
    · walk_at "go"
      refine ⟨r, _, _, .str "unpin", rfl, rfl, SqT.of gr, atI_nat (j := 0) rfl, ?_⟩
      walk_at "go"
      walk_at "go"
      refine ⟨r, _, _, .str "unpin", rfl, rfl, SqT.of gr, atI_nat (j := 0) rfl, ?_⟩
      walk_at "go"
      refine un ?_
      walk_at "go"
      walk_at "go"
      refine ⟨r, _, _, .str "unpin", rfl, rfl, SqT.of gr, atI_nat (j := 0) rfl, ?_⟩
      walk_at "go"
      exact fin ⟨cok, fun z => z.elim, fun _ z => by cases z⟩
    · refine un ?_
      walk_at "go"
      walk_at "go"
      refine ⟨r, _, _, .str "unpin", rfl, rfl, SqT.of gr, atI_nat (j := 0) rfl, ?_⟩
      walk_at "go"
      exact fin ⟨cok, fun z => z.elim, fun _ z => by cases z⟩
end

end

section

-- a condition of an operator
local macro_rules | `(tactic| walk_at "cond") => `(tactic| first
  | (show (0 : Int) < _; omega)
  | (show CDiv _ _; constructor <;> (first | decide | omega))
  | (show CMul _ _; first | (refine cmul_l ?_; constructor <;> (first | decide | omega)) | (refine cmul_r ?_; constructor <;> (first | decide | omega)))
  | (show CPow _ _; exact (by refine ⟨by decide, by decide, by decide⟩))
  | (show CDivW _ _; exact ⟨by decide, by decide +kernel⟩))
local macro_rules | `(tactic| walk_at "sq") => `(tactic| first | assumption | exact Dh.mono (same_upd (by assumption)) _ _ (by assumption) | exact .inl (.inl (.inl (by assumption))) | exact .inr (.inl (.inl (by assumption))) | exact SqL.of (by assumption) | exact .inl (by assumption) | exact .inl (SqL.of (by assumption)) | exact SqT.of (by assumption) | exact .inr (SqT.of (by assumption)))
local macro_rules | `(tactic| walk_at "st") => `(tactic| first
  | refine ⟨_, rfl, ?_⟩
  | refine ⟨_, _, rfl, rfl, ?_⟩
  | refine .inl ⟨_, rfl, ?_⟩
  | refine ⟨rfl, ?_⟩
  | refine ⟨_, _, rfl, by walk_at "sq", ?_⟩
  | refine ⟨.inl ⟨rfl, _, SqL.of (by assumption)⟩, ?_⟩
  | refine ⟨by walk_at "cond", ?_⟩
  | (refine' ifBT ?hh ?_; (case hh => first | rfl | assumption))
  | (refine' ifBF ?hh ?_; (case hh => first | rfl | assumption)))
local macro_rules | `(tactic| walk_at "go") => `(tactic| repeat walk_at "st")
local macro_rules | `(tactic| walk_at "yes") => `(tactic| (refine' ifT ?hh ?_; (case hh => first | rfl | decide +kernel)))
local macro_rules | `(tactic| walk_at "no") => `(tactic| (refine' ifF ?hh ?_; (case hh => first | decide +kernel | (intro z; cases z; done))))

local macro_rules | `(tactic| walk_at "st") => `(tactic| refine ⟨_, _, _, _, _, rfl, by assumption, by assumption, by omega, by omega, by omega, by omega, by omega, ?_⟩)
local macro_rules | `(tactic| walk_at "st") => `(tactic| refine ⟨_, _, _, _, _, rfl, Same.seq (by assumption) (by assumption), by assumption, by omega, by omega, by omega, by omega, by omega, ?_⟩)

/-! ### a content is replaced -/
theorem cutB_len {b ds : List Int} {o : Int} (o0 : 0 ≤ o) (h : o + ds.length ≤ b.length) : (cutB b o ds).length = b.length := by
  unfold cutB
  rw [List.length_append, List.length_append, List.length_take, List.length_drop]
  omega
theorem cutB_get {b ds : List Int} {o : Int} (o0 : 0 ≤ o) (h : o + ds.length ≤ b.length) (i : Nat) : (cutB b o ds)[i]? = if i < o.toNat then b[i]? else if i < o.toNat + ds.length then ds[i - o.toNat]? else b[i]? := by
  unfold cutB
  have l1 : (b.take o.toNat).length = o.toNat := by rw [List.length_take]; omega
  have e1 : (o + ds.length).toNat = o.toNat + ds.length := by omega
  rw [List.append_assoc, List.getElem?_append, l1]
  split
  · next c => rw [List.getElem?_take, if_pos c]
  · rw [List.getElem?_append]
    split
    · next c1 c2 => rw [if_pos (by omega)]
    · next c1 c2 =>
      rw [if_neg (by omega), List.getElem?_drop, e1]
      congr 1
      omega
theorem cutB_step {b ds : List Int} {o : Int} {j : Nat} {v : Int} (o0 : 0 ≤ o) (h : o + ds.length ≤ b.length) (hj : ds[j]? = some v) : (cutB b o (ds.take j)).set (o + j).toNat v = cutB b o (ds.take (j + 1)) := by
  have jl := (List.getElem?_eq_some_iff.mp hj).1
  have l1 : (ds.take j).length = j := by rw [List.length_take]; omega
  have l2 : (ds.take (j + 1)).length = j + 1 := by rw [List.length_take]; omega
  refine List.ext_getElem? fun i => ?_
  rw [List.getElem?_set, cutB_len o0 (by omega), cutB_get o0 (by omega), cutB_get o0 (by omega), l1, l2]
  by_cases e : (o + (j : Int)).toNat = i
  · rw [if_pos e, if_pos (by omega), if_neg (by omega), if_pos (by omega), List.getElem?_take, if_pos (by omega), show i - o.toNat = j by omega, hj]
  · rw [if_neg e]
    by_cases c1 : i < o.toNat
    · rw [if_pos c1, if_pos c1]
    · rw [if_neg c1, if_neg c1]
      by_cases c2 : i < o.toNat + j
      · rw [if_pos c2, if_pos (by omega), List.getElem?_take, List.getElem?_take, if_pos (by omega), if_pos (by omega)]
      · rw [if_neg c2, if_neg (by omega)]
theorem cutB_nil (b : List Int) (o : Int) (o0 : 0 ≤ o) : cutB b o (List.take 0 ([] : List Int)) = b ∧ ∀ ds : List Int, cutB b o (ds.take 0) = b := by
  have : cutB b o [] = b := by
    unfold cutB
    rw [List.append_nil, List.length_nil]
    show b.take o.toNat ++ b.drop (o + 0).toNat = b
    rw [Int.add_zero, List.take_append_drop]
  exact ⟨this, fun ds => this⟩
def setA (cs : List Cont) (x : Int) (l : Addr) (b' : List Int) : List Cont := cs.map fun c => if c.st = x then ⟨x, l, b'⟩ else c
theorem setA_st (cs : List Cont) (x : Int) (l : Addr) (b' : List Int) : (setA cs x l b').map (·.st) = cs.map (·.st) := by
  unfold setA
  rw [List.map_map]
  refine List.map_congr_left fun c _ => ?_
  show (if c.st = x then (⟨x, l, b'⟩ : Cont) else c).st = c.st
  split
  · next e => exact e.symm
  · rfl
theorem setA_out {x : Int} {l : Addr} {b' : List Int} {cs : List Cont} (h : x ∉ cs.map (·.st)) : setA cs x l b' = cs := by
  unfold setA
  have : cs.map (fun c => if c.st = x then (⟨x, l, b'⟩ : Cont) else c) = cs.map id := List.map_congr_left fun c hc => if_neg fun e => h (List.mem_map.mpr ⟨c, hc, e⟩)
  rw [this, List.map_id]
theorem setA_mem {x : Int} {l : Addr} {b' : List Int} {cs : List Cont} {c : Cont} (h : c ∈ setA cs x l b') : c = ⟨x, l, b'⟩ ∨ (c ∈ cs ∧ c.st ≠ x) := by
  unfold setA at h
  obtain ⟨d, hd, e⟩ := List.mem_map.mp h
  by_cases z : d.st = x
  · rw [if_pos z] at e
    exact .inl e.symm
  · rw [if_neg z] at e
    exact .inr ⟨e ▸ hd, fun y => z (by rw [e]; exact y)⟩
theorem setA_nd {x : Int} {l : Addr} {b' : List Int} : ∀ {cs : List Cont}, (cs.map (·.st)).Nodup → (cs.map (·.ad)).Nodup → l ∉ cs.map (·.ad) → ((setA cs x l b').map (·.ad)).Nodup
  | [], _, _, _ => List.nodup_nil
  | c :: cs, n, m, h => by
    obtain ⟨n1, n2⟩ := List.nodup_cons.mp n
    obtain ⟨m1, m2⟩ := List.nodup_cons.mp m
    by_cases e : c.st = x
    · have : setA (c :: cs) x l b' = ⟨x, l, b'⟩ :: cs := by
        have t := setA_out (x := x) (l := l) (b' := b') (cs := cs) (fun z => n1 (by rw [← e] at z; exact z))
        unfold setA at t ⊢
        rw [List.map_cons, if_pos e, t]
      rw [this]
      exact List.nodup_cons.mpr ⟨fun z => h (List.mem_cons_of_mem _ z), m2⟩
    · have : setA (c :: cs) x l b' = c :: setA cs x l b' := by
        unfold setA
        rw [List.map_cons, if_neg e]
      rw [this]
      refine List.nodup_cons.mpr ⟨fun z => ?_, setA_nd n2 m2 fun z => h (List.mem_cons_of_mem _ z)⟩
      obtain ⟨d, hd, ed⟩ := List.mem_map.mp z
      rcases setA_mem hd with t | t
      · rw [t] at ed
        exact h (by rw [show l = c.ad from ed]; exact List.mem_cons_self ..)
      · exact m1 (List.mem_map.mpr ⟨d, t.1, ed⟩)
theorem cs_putA {cs : List Cont} {x : Int} {l : Addr} {b' : List Int} (h : x ∈ cs.map (·.st)) : putK (cs.map Cont.row) (.inl x) (.ref l) = (setA cs x l b').map Cont.row := by
  unfold putK setA
  have e : ((cs.map Cont.row).any fun kv => decide (kv.1 = .inl x)) = true := by
    rw [List.any_map, List.any_eq_true]
    obtain ⟨c, hc, ec⟩ := List.mem_map.mp h
    refine ⟨c, hc, decide_eq_true ?_⟩
    show (Cont.row c).1 = .inl x
    rw [← ec]
    rfl
  rw [if_pos e, List.map_map, List.map_map]
  refine List.map_congr_left fun c _ => ?_
  show (if (Cont.row c).1 = .inl x then ((Cont.row c).1, V.ref l) else Cont.row c) = Cont.row (if c.st = x then (⟨x, l, b'⟩ : Cont) else c)
  by_cases z : c.st = x
  · rw [if_pos z, if_pos (by rw [← z]; rfl), ← z]
    rfl
  · rw [if_neg z, if_neg (show ¬ (Cont.row c).1 = .inl x from fun t => z (Sum.inl.inj t))]
theorem mc_setA (cs : List Cont) (x o : Int) (l : Addr) (b' : List Int) (ds : List Int) (h : ∀ c ∈ cs, c.st = x → cutB c.by' o ds = b') : (setA cs x l b').map (fun c => (c.st, c.by')) = (cs.map fun c => (c.st, c.by')).map fun p => if p.1 = x then (p.1, cutB p.2 o ds) else p := by
  unfold setA
  rw [List.map_map, List.map_map]
  refine List.map_congr_left fun c hc => ?_
  show ((if c.st = x then (⟨x, l, b'⟩ : Cont) else c).st, (if c.st = x then (⟨x, l, b'⟩ : Cont) else c).by') = if c.st = x then (c.st, cutB c.by' o ds) else (c.st, c.by')
  by_cases e : c.st = x
  · rw [if_pos e, if_pos e, h c hc e, e]
  · rw [if_neg e, if_neg e]
theorem DkAt.setA {D : DK} {few most wd : Nat} {x : Int} {ad : Addr} {bs : List Int} {H H1 H2 : Hp} (hd : DkAt H D few most wd) (nst : D.ks.Nodup) (s : Same H H1) (na : H ad = none) (ga : H1 ad = some (.lst (bs.map V.int))) (b : ButL [D.ka] H1 H2) (g : H2 D.ka = some (.dK ((setA D.kn x ad bs).map Cont.row))) : DkAt H2 { D with kn := Lw.setA D.kn x ad bs } few most wd := by
  obtain ⟨h1, h2, h3⟩ := List.nodup_append.mp hd.nd
  have nA : ad ∉ D.all := fun z => hd.live ad z na
  have fne := h1
  simp only [DK.fix, List.nodup_cons, List.mem_cons, List.not_mem_nil, or_false, not_or] at fne
  obtain ⟨⟨a1, a2, a3⟩, ⟨a4, a5⟩, a6, _⟩ := fne
  refine ⟨b _ _ (by simpa using a1) (s _ _ hd.g), g, b _ _ (by simpa using fun z : D.ea = D.ka => a4 z.symm) (s _ _ hd.e), b _ _ (by simpa using fun z : D.pa = D.ka => a5 z.symm) (s _ _ hd.p), fun y hy => ?_, ?_⟩
  · rcases setA_mem hy with t | t
    · rw [t]
      refine b _ _ ?_ ga
      simp only [List.mem_singleton]
      exact fun z => nA (z ▸ List.mem_append_left _ (by simp [DK.fix]))
    · refine b _ _ ?_ (s _ _ (hd.c y t.1))
      simp only [List.mem_singleton]
      exact fun z => h3 D.ka (by simp [DK.fix]) y.ad (List.mem_map.mpr ⟨y, t.1, rfl⟩) z.symm
  · refine List.nodup_append.mpr ⟨h1, setA_nd nst h2 fun z => nA (List.mem_append_right _ z), fun a ha b hb z => ?_⟩
    have hb : b ∈ (Lw.setA D.kn x ad bs).map (·.ad) := hb
    obtain ⟨y, hy, ey⟩ := List.mem_map.mp hb
    rcases setA_mem hy with t | t
    · rw [t] at ey
      exact nA (by rw [show ad = b from ey, ← z]; exact List.mem_append_left _ ha)
    · exact h3 a ha b (List.mem_map.mpr ⟨y, t.1, ey⟩) z
theorem DkOk.setA {D : DK} {few most wd n : Nat} {x : Int} {ad : Addr} {bs : List Int} (ok : DkOk D few most wd n) (lb : bs.length = wd) : DkOk { D with kn := Lw.setA D.kn x ad bs } few most wd (n + 1) := by
  have ek : ({ D with kn := Lw.setA D.kn x ad bs } : DK).ks = D.ks := setA_st D.kn x ad bs
  refine ⟨by rw [ek]; exact ok.nd, ok.en, by rw [ek]; exact ok.ks, Nat.le_succ_of_le ok.le, ?_, fun c hc => ?_, ok.lp, ok.pn, by rw [ek]; exact ok.pk⟩
  · show (Lw.setA D.kn x ad bs).length ≤ most
    unfold Lw.setA
    rw [List.length_map]
    exact ok.lk
  · rcases setA_mem hc with t | t
    · rw [t]
      exact lb
    · exact ok.w c t.1

end

section

-- a condition of an operator
local macro_rules | `(tactic| walk_at "cond") => `(tactic| first
  | (show (0 : Int) < _; omega)
  | (show CDiv _ _; constructor <;> (first | decide | omega))
  | (show CMul _ _; first | (refine cmul_l ?_; constructor <;> (first | decide | omega)) | (refine cmul_r ?_; constructor <;> (first | decide | omega)))
  | (show CPow _ _; exact (by refine ⟨by decide, by decide, by decide⟩))
  | (show CDivW _ _; exact ⟨by decide, by decide +kernel⟩))
local macro_rules | `(tactic| walk_at "sq") => `(tactic| first | assumption | exact Dh.mono (same_upd (by assumption)) _ _ (by assumption) | exact .inl (.inl (.inl (by assumption))) | exact .inr (.inl (.inl (by assumption))) | exact SqL.of (by assumption) | exact .inl (by assumption) | exact .inl (SqL.of (by assumption)) | exact SqT.of (by assumption) | exact .inr (SqT.of (by assumption)))
local macro_rules | `(tactic| walk_at "st") => `(tactic| first
  | refine ⟨_, rfl, ?_⟩
  | refine ⟨_, _, rfl, rfl, ?_⟩
  | refine .inl ⟨_, rfl, ?_⟩
  | refine ⟨rfl, ?_⟩
  | refine ⟨_, _, rfl, by walk_at "sq", ?_⟩
  | refine ⟨.inl ⟨rfl, _, SqL.of (by assumption)⟩, ?_⟩
  | refine ⟨by walk_at "cond", ?_⟩
  | (refine' ifBT ?hh ?_; (case hh => first | rfl | assumption))
  | (refine' ifBF ?hh ?_; (case hh => first | rfl | assumption)))
local macro_rules | `(tactic| walk_at "go") => `(tactic| repeat walk_at "st")
local macro_rules | `(tactic| walk_at "yes") => `(tactic| (refine' ifT ?hh ?_; (case hh => first | rfl | decide +kernel)))
local macro_rules | `(tactic| walk_at "no") => `(tactic| (refine' ifF ?hh ?_; (case hh => first | decide +kernel | (intro z; cases z; done))))

local macro_rules | `(tactic| walk_at "st") => `(tactic| refine ⟨_, _, _, _, _, rfl, by assumption, by assumption, by omega, by omega, by omega, by omega, by omega, ?_⟩)
local macro_rules | `(tactic| walk_at "st") => `(tactic| refine ⟨_, _, _, _, _, rfl, Same.seq (by assumption) (by assumption), by assumption, by omega, by omega, by omega, by omega, by omega, ?_⟩)

/-! ### _law_content_do -/
abbrev s_content_do : Stmt := topS 24
theorem sc_content_do : FnScope ["_law_desk", "_law_call", "_law_known", "_law_k", "_law_content", "_law_pinned", "_law_stamp"] ["_law_desk", "_law_call"] (C8.fnScope s_content_do) := C8.fnScope_by (by decide +kernel)
structure Dk1 (D : DK) (c : PCall) (few most wd n : Nat) (H : Hp) (D' : DK) (H' : Hp) : Prop where
  at_ : DkAt H' D' few most wd
  ok : DkOk D' few most wd (n + 1)
  m : D'.m = doM wd D.m c
  pins : D'.pins = doP D.pins c
  d : D'.d = D.d
  ad : ∀ a ∈ D'.all, a ∈ D.all ∨ H a = none
  b : ButL D.all H H'
def DueV (M : List (Int × List Int)) (H H' : Hp) (v : V) : PCall → Prop
  | .rd x o l => ∃ q, v = .ref q ∧ H q = none ∧ H' q = some (.lst (cutV ((getM M x).map V.int) (some o) (some (o + l))))
  | _ => v = .non
def spCd : Sp := fun vs H Q _ => ∃ (D : DK) (few most wd n : Nat) (r : Addr) (c : PCall), vs = [.ref D.d, .ref r] ∧ DkAt H D few most wd ∧ DkOk D few most wd n ∧ n ≤ 1000 ∧ most ≤ 60 ∧ few ≤ 60 ∧ wd ≤ 16 ∧ 1 ≤ wd ∧ CallAt H r c ∧ c.fits D few most wd ∧ r ∉ D.all ∧ (∀ x o dr ds, c = .sto x o dr ds → dr ∉ D.all) ∧
  ((∀ x, c.ask = some x → x ∈ D.ks) → ∀ D' v t H', Dk1 D c few most wd n H D' H' → H t = none → H' t = some (.tup [.str "gives", v]) → DueV D.m H H' v c → CallAt H' r c → Q (.ref t) H') ∧
  (∀ x, c.ask = some x → x ∉ D.ks → ∀ t H', Same H H' → H t = none → Dh H' (nsD x) (.ref t) → Q (.ref t) H')
theorem DkOk.up {D : DK} {few most wd n : Nat} (h : DkOk D few most wd n) : DkOk D few most wd (n + 1) := ⟨h.nd, h.en, h.ks, Nat.le_succ_of_le h.le, h.lk, h.w, h.lp, h.pn, h.pk⟩
theorem dk_at {D : DK} {c : Cont} (h : c ∈ D.kn) (n : D.ks.Nodup) : valV (D.kn.map Cont.row) (.inl c.st) = some (.ref c.ad) := cs_at h n
theorem DkAt.fne {H : Hp} {D : DK} {few most wd : Nat} (h : DkAt H D few most wd) : D.d ≠ D.ka ∧ D.d ≠ D.ea ∧ D.d ≠ D.pa ∧ D.ka ≠ D.ea ∧ D.ka ≠ D.pa ∧ D.ea ≠ D.pa ∧ ∀ x ∈ D.kn, x.ad ≠ D.d ∧ x.ad ≠ D.ka ∧ x.ad ≠ D.ea ∧ x.ad ≠ D.pa := by
  obtain ⟨h1, h2, h3⟩ := List.nodup_append.mp h.nd
  simp only [DK.fix, List.nodup_cons, List.mem_cons, List.not_mem_nil, or_false, not_or] at h1
  obtain ⟨⟨a1, a2, a3⟩, ⟨a4, a5⟩, a6, _⟩ := h1
  refine ⟨a1, a2, a3, a4, a5, a6, fun x hx => ?_⟩
  have hm : x.ad ∈ D.kn.map (·.ad) := List.mem_map.mpr ⟨x, hx, rfl⟩
  exact ⟨fun z => h3 D.d (by simp [DK.fix]) _ hm z.symm, fun z => h3 D.ka (by simp [DK.fix]) _ hm z.symm, fun z => h3 D.ea (by simp [DK.fix]) _ hm z.symm, fun z => h3 D.pa (by simp [DK.fix]) _ hm z.symm⟩
theorem dk_nd {D D' : DK} (n : D.all.Nodup) (hd : D'.d = D.d) (hk : D'.ka = D.ka) (he : D'.ea = D.ea) (hp : D'.pa = D.pa ∨ D'.pa ∉ D.all) (hc : (D'.kn.map (·.ad)).Nodup) (hs : ∀ a ∈ D'.kn.map (·.ad), a ∈ D.kn.map (·.ad) ∨ (a ∉ D.all ∧ a ≠ D'.pa)) : D'.all.Nodup := by
  obtain ⟨h1, h2, h3⟩ := List.nodup_append.mp n
  have m1 : D.d ∈ D.all := List.mem_append_left _ (by simp [DK.fix])
  have m2 : D.ka ∈ D.all := List.mem_append_left _ (by simp [DK.fix])
  have m3 : D.ea ∈ D.all := List.mem_append_left _ (by simp [DK.fix])
  have m4 : D.pa ∈ D.all := List.mem_append_left _ (by simp [DK.fix])
  simp only [DK.fix, List.nodup_cons, List.mem_cons, List.not_mem_nil, or_false, not_or] at h1
  obtain ⟨⟨a1, a2, a3⟩, ⟨a4, a5⟩, a6, _⟩ := h1
  have pn : ∀ a ∈ D.fix, a ≠ D.pa → a ≠ D'.pa := fun a ha hn z => by
    rcases hp with e | e
    · exact hn (z.trans e)
    · exact e (z ▸ List.mem_append_left _ ha)
  refine List.nodup_append.mpr ⟨?_, hc, fun a ha b hb z => ?_⟩
  · show [D'.d, D'.ka, D'.ea, D'.pa].Nodup
    rw [hd, hk, he]
    simp only [List.nodup_cons, List.mem_cons, List.not_mem_nil, or_false, not_or]
    exact ⟨⟨a1, a2, pn _ (by simp [DK.fix]) a3⟩, ⟨a4, pn _ (by simp [DK.fix]) a5⟩, pn _ (by simp [DK.fix]) a6, id, List.nodup_nil⟩
  · have ha : a ∈ [D'.d, D'.ka, D'.ea, D'.pa] := ha
    rw [hd, hk, he] at ha
    subst z
    rcases hs a hb with y | ⟨y, yp⟩
    · simp only [List.mem_cons, List.not_mem_nil, or_false] at ha
      rcases ha with e | e | e | e
      · exact h3 D.d (by simp [DK.fix]) a y e.symm
      · exact h3 D.ka (by simp [DK.fix]) a y e.symm
      · exact h3 D.ea (by simp [DK.fix]) a y e.symm
      · rcases hp with t | t
        · exact h3 D.pa (by simp [DK.fix]) a y (e.trans t).symm
        · exact t (e ▸ List.mem_append_right _ y)
    · simp only [List.mem_cons, List.not_mem_nil, or_false] at ha
      rcases ha with e | e | e | e
      · exact y (e ▸ m1)
      · exact y (e ▸ m2)
      · exact y (e ▸ m3)
      · exact yp e
theorem CallAt.keepL {H H' : Hp} {r : Addr} {c : PCall} {F : List Addr} (h : CallAt H r c) (b : ButL F H H') (n : r ∉ F) (d : ∀ x o dr ds, c = .sto x o dr ds → dr ∉ F) : CallAt H' r c := h.keep b.t n d
theorem ks_get {D : DK} {x : Int} (h : x ∈ D.ks) : ∃ c ∈ D.kn, c.st = x := by
  obtain ⟨c, hc, e⟩ := List.mem_map.mp h
  exact ⟨c, hc, e⟩
theorem Dk1.kn {D : DK} {c : PCall} {few most wd n : Nat} {H H1 : Hp} {kn1 : List Cont} (hd : DkAt H D few most wd) (hd1 : DkAt H1 { D with kn := kn1 } few most wd) (b1 : ButL [D.ka] H H1) (m : (kn1.map fun c => (c.st, c.by')) = doM wd D.m c) (p : doP D.pins c = D.pins) (ok1 : DkOk { D with kn := kn1 } few most wd (n + 1)) (ads : ∀ a ∈ kn1.map (·.ad), a ∈ D.kn.map (·.ad) ∨ H a = none) : Dk1 D c few most wd n H { D with kn := kn1 } H1 :=
  ⟨hd1, ok1, m, p.symm, rfl, fun a ha => by
    rcases List.mem_append.mp ha with z | z
    · exact .inl (List.mem_append_left _ z)
    · exact (ads a z).imp (List.mem_append_right _) id, b1.mono fun z hz => by
    rw [List.mem_singleton.mp hz]
    exact List.mem_append_left _ (by simp [DK.fix])⟩
theorem DkOk.add {D : DK} {few most wd n : Nat} {y : Int} {ad : Addr} {bs : List Int} (ok : DkOk D few most wd n) (ny : y ∉ D.ks) (yB : inB y) (l : D.kn.length + 1 ≤ most) (lb : bs.length = wd) : DkOk { D with kn := D.kn ++ [⟨y, ad, bs⟩] } few most wd (n + 1) := by
  have ek : ({ D with kn := D.kn ++ [⟨y, ad, bs⟩] } : DK).ks = D.ks ++ [y] := by
    unfold DK.ks
    rw [List.map_append]
    rfl
  refine ⟨?_, ok.en, fun z hz => ?_, Nat.le_succ_of_le ok.le, ?_, fun c hc => ?_, ok.lp, ok.pn, fun z hz => ?_⟩
  · rw [ek]
    exact List.nodup_append.mpr ⟨ok.nd, by simp, fun a ha b hb z => ny (by rw [← List.mem_singleton.mp hb, ← z]; exact ha)⟩
  · rw [ek] at hz
    rcases List.mem_append.mp hz with t | t
    · exact ok.ks z t
    · rw [List.mem_singleton.mp t]
      exact yB
  · show (D.kn ++ [_]).length ≤ most
    rw [List.length_append, List.length_singleton]
    exact l
  · have hc : c ∈ D.kn ++ [_] := hc
    rcases List.mem_append.mp hc with t | t
    · exact ok.w c t
    · rw [List.mem_singleton.mp t]
      exact lb
  · rw [ek]
    exact List.mem_append_left _ (ok.pk z hz)
theorem DkAt.add {D : DK} {few most wd : Nat} {y : Int} {ad : Addr} {bs : List Int} {H H1 H2 : Hp} (hd : DkAt H D few most wd) (s : Same H H1) (na : H ad = none) (ga : H1 ad = some (.lst (bs.map V.int))) (b : ButL [D.ka] H1 H2) (g : H2 D.ka = some (.dK ((D.kn ++ [(Cont.mk y ad bs)]).map Cont.row))) : DkAt H2 { D with kn := D.kn ++ [(Cont.mk y ad bs)] } few most wd := by
  obtain ⟨e1, e2, e3, e4, e5, e6, e7⟩ := hd.fne
  have nA : ad ∉ D.all := fun z => hd.live ad z na
  refine ⟨b _ _ (by simpa using e1) (s _ _ hd.g), g, b _ _ (by simpa using e4.symm) (s _ _ hd.e), b _ _ (by simpa using e5.symm) (s _ _ hd.p), fun x hx => ?_, dk_nd hd.nd rfl rfl rfl (.inl rfl) ?_ fun a ha => ?_⟩
  · have hx : x ∈ D.kn ++ [Cont.mk y ad bs] := hx
    rcases List.mem_append.mp hx with t | t
    · exact b _ _ (by simpa using (e7 x t).2.1) (s _ _ (hd.c x t))
    · rw [List.mem_singleton.mp t]
      refine b _ _ ?_ ga
      simp only [List.mem_singleton]
      exact fun z => nA (z ▸ List.mem_append_left _ (by simp [DK.fix]))
  · show ((D.kn ++ [Cont.mk y ad bs]).map (·.ad)).Nodup
    rw [List.map_append]
    refine List.nodup_append.mpr ⟨(List.nodup_append.mp hd.nd).2.1, by simp, fun a ha b hb z => nA ?_⟩
    have hb : b ∈ [ad] := hb
    rw [← List.mem_singleton.mp hb, ← z]
    exact List.mem_append_right _ ha
  · have ha : a ∈ (D.kn ++ [Cont.mk y ad bs]).map (·.ad) := ha
    rw [List.map_append] at ha
    rcases List.mem_append.mp ha with t | t
    · exact .inl t
    · have t : a ∈ [ad] := t
      rw [List.mem_singleton.mp t]
      exact .inr ⟨nA, fun z => nA (z ▸ List.mem_append_left _ (by simp [DK.fix]))⟩
section
variable {P : Program} {w : World} {K : PySem.W.Frag} {mg : Str → Option Value} {base : Heap}
theorem ok_cd {f : Addr} {fd : FuncData} (Df : Def K mg "_law_content_do" s_content_do f fd) (b : Binds K fd ["_law_desk", "_law_call"] []) (T : LTxt mg) : Cal P w K mg base 1 "_law_content_do" spCd [] := by
  refine cal0 Df b .nil sc_content_do (fun vs H Q E h => ?_) (fun cdv A outer s H vs Q E hr h => ?_)
  · obtain ⟨D, few, most, wd, n, r, c, rfl, _⟩ := h
    rfl
  obtain ⟨D, few, most, wd, n, r, c, rfl, hd, ok, ln, lm, lfw, w2, w1, hc, cok, nr, ndr, q1, q2⟩ := h
  refine ⟨_, (pss_cons (ps_set (i := 2) sc_content_do.nd rfl (.inl rfl) (pe_dget (hu_of hr) (pv 0) pe_str (fun _ _ => rfl)))
      (pss_cons (ps_mk (ps_if (pt_cmpR op_eq (pe_ix (ixT K rfl) (pv 1) pe_int (fun _ _ => rfl)) pe_str (nomark _))
      (pss_cons (ps_dput (hu_of hr) (pv 0) pe_str (pe_lst pa_nil) rfl)
      (pss_one (ps_ret (pe_tup (pa_cons pe_str (pa_cons pe_non pa_nil))))))
      pss_nil))
      (pss_cons (ps_mk (ps_if (PW.pt (pw_and (pt_cmpR op_ne (pe_ix (ixT K rfl) (pv 1) pe_int (fun _ _ => rfl)) pe_str (nomark _)) (pw_and1 (pt_cmp (pc_dnotin (hu_of hr) (pe_ix (ixT K rfl) (pv 1) pe_int (fun _ _ => rfl)) (pv 2))))))
      (pss_one (ps_ret (pe_tup (pa_cons pe_str (pa_cons pe_str (pa_cons (pe_tup (pa_cons (pe_ix (ixT K rfl) (pv 1) pe_int (fun _ _ => rfl)) pa_nil)) pa_nil))))))
      pss_nil))
      (pss_cons (ps_mk (ps_if (pt_cmpR op_eq (pe_ix (ixT K rfl) (pv 1) pe_int (fun _ _ => rfl)) pe_str (nomark _))
      (pss_one (ps_dput (hu_of hr) (pv 2) (pe_ix (ixT K rfl) (pv 1) pe_int (fun _ _ => rfl)) (pe_lc (own := [("_law_k", 3)]) (g := gName 3) (tt := tYes) rfl sc_content_do.nd (pi_range1 (by rfl) T.range (pa_cons (pe_dget (hu_of hr) (pv 0) pe_str (fun _ _ => rfl)) pa_nil)) (blkOk_by (own := [("_law_k", 3)]) (N := ["_law_desk", "_law_call", "_law_known", "_law_k", "_law_content", "_law_pinned", "_law_stamp"]) (sc := C8.fnScope s_content_do) (by decide +kernel)) (fun _ _ _ _ _ => (pg_name (i := 3) sc_content_do.nd rfl (.inl rfl))) (fun _ _ _ _ _ => pts_nil) (fun _ _ _ _ _ => pe_int)) rfl))
      pss_nil))
      (pss_cons (ps_mk (ps_if (pt_cmpR op_eq (pe_ix (ixT K rfl) (pv 1) pe_int (fun _ _ => rfl)) pe_str (nomark _))
      (pss_one (ps_ret (pe_tup (pa_cons pe_str (pa_cons (pe_slice sl_list (pe_dget (hu_of hr) (pv 2) (pe_ix (ixT K rfl) (pv 1) pe_int (fun _ _ => rfl)) (fun _ _ => rfl)) (po_some (pe_ix (ixT K rfl) (pv 1) pe_int (fun _ _ => rfl))) (po_some (pe_op op_add (pe_ix (ixT K rfl) (pv 1) pe_int (fun _ _ => rfl)) (pe_ix (ixT K rfl) (pv 1) pe_int (fun _ _ => rfl))))) pa_nil)))))
      pss_nil))
      (pss_cons (ps_mk (ps_if (pt_cmpR op_eq (pe_ix (ixT K rfl) (pv 1) pe_int (fun _ _ => rfl)) pe_str (nomark _))
      (pss_cons (ps_set (i := 4) sc_content_do.nd rfl (.inl rfl) (pe_callTy (listQ K rfl) (by rfl) T.list (by decide +kernel) (pa_cons (pe_dget (hu_of hr) (pv 2) (pe_ix (ixT K rfl) (pv 1) pe_int (fun _ _ => rfl)) (fun _ _ => rfl)) pa_nil)))
      (pss_cons (ps_mk (ps_for PassesOwn.never rfl (pi_range1 (by rfl) T.range (pa_cons (pe_callB (lenQ K rfl) (by rfl) T.len PySem.boot_len (pa_cons (pe_ix (ixT K rfl) (pv 1) pe_int (fun _ _ => rfl)) pa_nil)) pa_nil)) (pg_name (i := 3) sc_content_do.nd rfl (.inl rfl))
      (pss_one (ps_asg (pe_ix (ixL K rfl) (pe_ix (ixT K rfl) (pv 1) pe_int (fun _ _ => rfl)) (pv 3) (fun _ _ => rfl)) (pg_sub (pv 4) (pe_op op_add (pe_ix (ixT K rfl) (pv 1) pe_int (fun _ _ => rfl)) (pv 3)) set_list)))))
      (pss_one (ps_dput (hu_of hr) (pv 2) (pe_ix (ixT K rfl) (pv 1) pe_int (fun _ _ => rfl)) (pv 4) rfl))))
      pss_nil))
      (pss_cons (ps_mk (ps_if (pt_cmpR op_eq (pe_ix (ixT K rfl) (pv 1) pe_int (fun _ _ => rfl)) pe_str (nomark _))
      (pss_one (ps_dput (hu_of hr) (pv 2) (pe_ix (ixT K rfl) (pv 1) pe_int (fun _ _ => rfl)) (pe_callTy (listQ K rfl) (by rfl) T.list (by decide +kernel) (pa_cons (pe_dget (hu_of hr) (pv 2) (pe_ix (ixT K rfl) (pv 1) pe_int (fun _ _ => rfl)) (fun _ _ => rfl)) pa_nil)) rfl))
      pss_nil))
      (pss_cons (ps_mk (ps_if (PW.pt (pw_and (pt_cmpR op_eq (pe_ix (ixT K rfl) (pv 1) pe_int (fun _ _ => rfl)) pe_str (nomark _)) (pw_and1 (pt_cmpR (notInQ K rfl) (pe_ix (ixT K rfl) (pv 1) pe_int (fun _ _ => rfl)) (pe_dget (hu_of hr) (pv 0) pe_str (fun _ _ => rfl)) (by rfl)))))
      (pss_one (ps_expr (pe_bm PySem.F.plainAttrs_list PySem.F.slot_list_append PySem.F.type_list_append mt_append (pe_dget (hu_of hr) (pv 0) pe_str (fun _ _ => rfl)) (pa_cons (pe_ix (ixT K rfl) (pv 1) pe_int (fun _ _ => rfl)) pa_nil))))
      pss_nil))
      (pss_cons (ps_mk (ps_if (pt_cmpR (inQ K rfl) (pe_ix (ixT K rfl) (pv 1) pe_int (fun _ _ => rfl)) (pe_tup (pa_cons pe_str (pa_cons pe_str pa_nil))) (by rfl))
      (pss_cons (ps_set (i := 4) sc_content_do.nd rfl (.inl rfl) (pe_dpop1 (pv 2) (pe_ix (ixT K rfl) (pv 1) pe_int (fun _ _ => rfl)) (by constructor <;> rfl)))
      (pss_cons (ps_expr (pe_bm PySem.F.plainAttrs_list PySem.F.slot_list_append PySem.F.type_list_append mt_append (pe_dget (hu_of hr) (pv 0) pe_str (fun _ _ => rfl)) (pa_cons (pe_ix (ixT K rfl) (pv 1) pe_int (fun _ _ => rfl)) pa_nil)))
      (pss_cons (ps_set (i := 5) sc_content_do.nd rfl (.inl rfl) (pe_cmpR (inQ K rfl) (pe_ix (ixT K rfl) (pv 1) pe_int (fun _ _ => rfl)) (pe_dget (hu_of hr) (pv 0) pe_str (fun _ _ => rfl)) (by rfl)))
      (pss_cons (ps_dput (hu_of hr) (pv 0) pe_str (pe_lc (own := [("_law_stamp", 6)]) (g := gName 6) rfl sc_content_do.nd (pi_list (pe_dget (hu_of hr) (pv 0) pe_str (fun _ _ => rfl))) (blkOk_by (own := [("_law_stamp", 6)]) (N := ["_law_desk", "_law_call", "_law_known", "_law_k", "_law_content", "_law_pinned", "_law_stamp"]) (sc := C8.fnScope s_content_do) (by decide +kernel)) (fun _ _ _ _ _ => (pg_name (i := 6) sc_content_do.nd rfl (.inl rfl))) (fun _ _ _ _ _ => (pts_one (pt_cmpR op_ne (pv 6) (pe_ix (ixT K rfl) (pv 1) pe_int (fun _ _ => rfl)) (nomark _)))) (fun _ _ _ _ _ => (pv 6))) rfl)
      (pss_one (ps_mk (ps_if (pt_cmpR op_eq (pe_ix (ixT K rfl) (pv 1) pe_int (fun _ _ => rfl)) pe_str (nomark _))
      (pss_cons (ps_dput (hu_of hr) (pv 2) (pe_ix (ixT K rfl) (pv 1) pe_int (fun _ _ => rfl)) (pv 4) rfl)
      (pss_one (ps_mk (ps_if (pt_val (pv 5))
      (pss_one (ps_expr (pe_bm PySem.F.plainAttrs_list PySem.F.slot_list_append PySem.F.type_list_append mt_append (pe_dget (hu_of hr) (pv 0) pe_str (fun _ _ => rfl)) (pa_cons (pe_ix (ixT K rfl) (pv 1) pe_int (fun _ _ => rfl)) pa_nil))))
      pss_nil))))
      pss_nil)))))))
      pss_nil))
      (pss_one (ps_ret (pe_tup (pa_cons pe_str (pa_cons pe_non pa_nil)))))))))))))), ?_⟩
  have gd := hd.g
  have gk := hd.k
  walk_at "go"
  refine ⟨D.d, _, rfl, dk_k ▸ DGet.k (k := .inr "known") gd, ?_⟩
  cases c with
  | brg x =>
    have gr : H r = some (.tup [.str "bring", .int x]) := hc.g
    walk_at "go"
    refine un ?_
    walk_at "go"
    refine ⟨r, _, _, .str "bring", rfl, rfl, SqT.of gr, atI_nat (j := 0) rfl, ?_⟩
    walk_at "go"
    refine un ?_
    walk_at "go"
    refine ⟨r, _, _, .str "bring", rfl, rfl, SqT.of gr, atI_nat (j := 0) rfl, ?_⟩
    walk_at "go"
    walk_at "go"
    refine ⟨r, _, _, .int x, rfl, rfl, SqT.of gr, atI_nat (j := 1) rfl, ?_⟩
    walk_at "go"
    refine ⟨D.ka, _, rfl, DGet.k (k := .inl x) gk, ?_⟩
    rw [cs_get]
    refine (Classical.em (x ∈ D.ks)).elim (fun nk => ?_) (fun nk => ?_)
    rotate_left
    · rw [decide_eq_false (show ¬ x ∈ D.kn.map (·.st) from nk)]
      walk_at "go"
      walk_at "go"
      refine ⟨r, _, _, .int x, rfl, rfl, SqT.of gr, atI_nat (j := 1) rfl, ?_⟩
      walk_at "go"
      refine ⟨sz, fun t1 n1 => ?_⟩
      have s1 := same_upd (o := HO.tup [V.int x]) n1
      have g1 := upd_same (H := H) (a := t1) (o := HO.tup [V.int x])
      show _
      generalize upd H t1 (HO.tup [V.int x]) = H4 at *
      walk_at "go"
      refine ⟨sz, fun t2 n2 => ?_⟩
      exact q2 x rfl nk _ _ (s1.trans (same_upd n2)) (s1.free n2) ⟨t2, _, rfl, upd_same, _, _, rfl, rfl, _, _, rfl, rfl, _, _, rfl, ⟨t1, _, rfl, same_upd n2 _ _ g1, _, _, rfl, rfl, rfl⟩, rfl⟩
    rw [decide_eq_true (show x ∈ D.kn.map (·.st) from nk)]
    walk_at "go"
    refine un ?_
    walk_at "go"
    refine ⟨r, _, _, .str "bring", rfl, rfl, SqT.of gr, atI_nat (j := 0) rfl, ?_⟩
    walk_at "go"
    refine un ?_
    walk_at "go"
    refine ⟨r, _, _, .str "bring", rfl, rfl, SqT.of gr, atI_nat (j := 0) rfl, ?_⟩
    walk_at "go"
    refine un ?_
    walk_at "go"
    refine ⟨r, _, _, .str "bring", rfl, rfl, SqT.of gr, atI_nat (j := 0) rfl, ?_⟩
    walk_at "go"
    refine un ?_
    walk_at "go"
    refine ⟨r, _, _, .str "bring", rfl, rfl, SqT.of gr, atI_nat (j := 0) rfl, ?_⟩
    walk_at "go"
    refine un ?_
    walk_at "go"
    refine ⟨r, _, _, .str "bring", rfl, rfl, SqT.of gr, atI_nat (j := 0) rfl, ?_⟩
    walk_at "go"
    refine un ?_
    walk_at "go"
    refine ⟨r, _, _, .str "bring", rfl, rfl, SqT.of gr, atI_nat (j := 0) rfl, ?_⟩
    walk_at "go"
    refine ⟨sz, fun tt nt => ?_⟩
    have st := same_upd (o := HO.tup [V.str "rename", V.str "release"]) nt
    have gtt := upd_same (H := H) (a := tt) (o := HO.tup [V.str "rename", V.str "release"])
    show _
    generalize upd H tt (HO.tup [V.str "rename", V.str "release"]) = HT at *
    walk_at "go"
    refine ⟨sz, fun t2 n2 => ?_⟩
    have s2 := st.trans (same_upd (o := HO.tup [V.str "gives", V.non]) n2)
    exact q1 (fun _ z => by cases z; exact nk) D .non t2 _ ⟨hd.same s2, ok.up, rfl, rfl, rfl, fun a m => .inl m, Same.but s2⟩ (st.free n2) upd_same rfl (hc.keep (F := []) (Same.t s2) (fun z => by cases z) fun _ _ _ _ _ z => by cases z)
  | put x =>
    have gr : H r = some (.tup [.str "put_out", .int x]) := hc.g
    walk_at "go"
    refine un ?_
    walk_at "go"
    refine ⟨r, _, _, .str "put_out", rfl, rfl, SqT.of gr, atI_nat (j := 0) rfl, ?_⟩
    walk_at "go"
    refine un ?_
    walk_at "go"
    refine ⟨r, _, _, .str "put_out", rfl, rfl, SqT.of gr, atI_nat (j := 0) rfl, ?_⟩
    walk_at "go"
    walk_at "go"
    refine ⟨r, _, _, .int x, rfl, rfl, SqT.of gr, atI_nat (j := 1) rfl, ?_⟩
    walk_at "go"
    refine ⟨D.ka, _, rfl, DGet.k (k := .inl x) gk, ?_⟩
    rw [cs_get]
    refine (Classical.em (x ∈ D.ks)).elim (fun nk => ?_) (fun nk => ?_)
    rotate_left
    · rw [decide_eq_false (show ¬ x ∈ D.kn.map (·.st) from nk)]
      walk_at "go"
      walk_at "go"
      refine ⟨r, _, _, .int x, rfl, rfl, SqT.of gr, atI_nat (j := 1) rfl, ?_⟩
      walk_at "go"
      refine ⟨sz, fun t1 n1 => ?_⟩
      have s1 := same_upd (o := HO.tup [V.int x]) n1
      have g1 := upd_same (H := H) (a := t1) (o := HO.tup [V.int x])
      show _
      generalize upd H t1 (HO.tup [V.int x]) = H4 at *
      walk_at "go"
      refine ⟨sz, fun t2 n2 => ?_⟩
      exact q2 x rfl nk _ _ (s1.trans (same_upd n2)) (s1.free n2) ⟨t2, _, rfl, upd_same, _, _, rfl, rfl, _, _, rfl, rfl, _, _, rfl, ⟨t1, _, rfl, same_upd n2 _ _ g1, _, _, rfl, rfl, rfl⟩, rfl⟩
    rw [decide_eq_true (show x ∈ D.kn.map (·.st) from nk)]
    walk_at "go"
    refine un ?_
    walk_at "go"
    refine ⟨r, _, _, .str "put_out", rfl, rfl, SqT.of gr, atI_nat (j := 0) rfl, ?_⟩
    walk_at "go"
    refine un ?_
    walk_at "go"
    refine ⟨r, _, _, .str "put_out", rfl, rfl, SqT.of gr, atI_nat (j := 0) rfl, ?_⟩
    walk_at "go"
    refine un ?_
    walk_at "go"
    refine ⟨r, _, _, .str "put_out", rfl, rfl, SqT.of gr, atI_nat (j := 0) rfl, ?_⟩
    walk_at "go"
    refine un ?_
    walk_at "go"
    refine ⟨r, _, _, .str "put_out", rfl, rfl, SqT.of gr, atI_nat (j := 0) rfl, ?_⟩
    walk_at "go"
    refine un ?_
    walk_at "go"
    refine ⟨r, _, _, .str "put_out", rfl, rfl, SqT.of gr, atI_nat (j := 0) rfl, ?_⟩
    walk_at "go"
    refine un ?_
    walk_at "go"
    refine ⟨r, _, _, .str "put_out", rfl, rfl, SqT.of gr, atI_nat (j := 0) rfl, ?_⟩
    walk_at "go"
    refine ⟨sz, fun tt nt => ?_⟩
    have st := same_upd (o := HO.tup [V.str "rename", V.str "release"]) nt
    have gtt := upd_same (H := H) (a := tt) (o := HO.tup [V.str "rename", V.str "release"])
    show _
    generalize upd H tt (HO.tup [V.str "rename", V.str "release"]) = HT at *
    walk_at "go"
    refine ⟨sz, fun t2 n2 => ?_⟩
    have s2 := st.trans (same_upd (o := HO.tup [V.str "gives", V.non]) n2)
    exact q1 (fun _ z => by cases z; exact nk) D .non t2 _ ⟨hd.same s2, ok.up, rfl, rfl, rfl, fun a m => .inl m, Same.but s2⟩ (st.free n2) upd_same rfl (hc.keep (F := []) (Same.t s2) (fun z => by cases z) fun _ _ _ _ _ z => by cases z)
  | unp =>
    have gr : H r = some (.tup [.str "unpin"]) := hc.g
    walk_at "go"
    refine un ?_
    walk_at "go"
    refine ⟨r, _, _, .str "unpin", rfl, rfl, SqT.of gr, atI_nat (j := 0) rfl, ?_⟩
    walk_at "go"
    refine ⟨sz, fun l nl => ?_⟩
    have s1 := same_upd (o := HO.lst []) nl
    have gl := upd_same (H := H) (a := l) (o := HO.lst [])
    have lA : l ∉ D.all := fun z => hd.live l z nl
    have hd1 := hd.same s1
    have nld : D.d ≠ l := ne_of_none hd.g nl
    show _
    generalize upd H l (HO.lst []) = H1 at *
    walk_at "go"
    refine ⟨D.d, _, rfl, DPut.k (k := .inr "pins") hd1.g (sz5 (by rw [dk_len]; omega)), ?_⟩
    rw [dk_pp]
    have b2 : ButL [D.d] H1 (upd H1 D.d (.dK (dkR D.ka D.ea l few most wd))) := ButL.put (by simp)
    have g2 := upd_same (H := H1) (a := D.d) (o := HO.dK (dkR D.ka D.ea l few most wd))
    show _
    generalize upd H1 D.d (HO.dK (dkR D.ka D.ea l few most wd)) = H2 at *
    walk_at "go"
    refine ⟨sz, fun t2 n2 => ?_⟩
    have s3 := same_upd (o := HO.tup [V.str "gives", V.non]) n2
    have n0 : H t2 = none := by
      have h2 : t2 ≠ D.d := fun z => by rw [z, g2] at n2; cases n2
      cases e : H t2 with
      | none => rfl
      | some o =>
        rw [b2 _ _ (by simpa using h2) (s1 _ _ e)] at n2
        cases n2
    obtain ⟨e1, e2, e3, e4, e5, e6, e7⟩ := hd.fne
    have hd2 : DkAt H2 { D with pa := l, pins := [] } few most wd := ⟨g2, b2 _ _ (by simpa using e1.symm) hd1.k, b2 _ _ (by simpa using e2.symm) hd1.e, b2 _ _ (by simpa using nld.symm) gl, fun x hx => b2 _ _ (by simpa using (e7 x hx).1) (hd1.c x hx), dk_nd hd.nd rfl rfl rfl (.inr lA) (List.nodup_append.mp hd.nd).2.1 fun a ha => .inl ha⟩
    have bb : ButL D.all H H2 := fun a o na e => b2 _ _ (fun z => na (by rw [List.mem_singleton.mp z]; exact List.mem_append_left _ (by simp [DK.fix]))) (s1 _ _ e)
    refine q1 (fun _ z => by cases z) { D with pa := l, pins := [] } .non t2 _ ⟨hd2.same s3, ⟨ok.nd, ok.en, ok.ks, Nat.le_succ_of_le ok.le, ok.lk, ok.w, by have := ok.lp; show 0 + 1 ≤ few; omega, List.nodup_nil, fun _ z => by cases z⟩, rfl, rfl, rfl, fun a ha => ?_, bb.trans (Same.but s3)⟩ n0 upd_same rfl (hc.keep (bb.trans (Same.but s3)).t nr ndr)
    by_cases e : a = l
    · exact .inr (e ▸ nl)
    · refine .inl ?_
      rcases List.mem_append.mp ha with z | z
      · have z : a ∈ [D.d, D.ka, D.ea, l] := z
        refine List.mem_append_left _ ?_
        simp only [DK.fix, List.mem_cons, List.not_mem_nil, or_false] at z ⊢
        rcases z with z | z | z | z
        · exact .inl z
        · exact .inr (.inl z)
        · exact .inr (.inr (.inl z))
        · exact absurd z e
      · exact List.mem_append_right _ z
  | pin x =>
    have gr : H r = some (.tup [.str "pin", .int x]) := hc.g
    walk_at "go"
    refine un ?_
    walk_at "go"
    refine ⟨r, _, _, .str "pin", rfl, rfl, SqT.of gr, atI_nat (j := 0) rfl, ?_⟩
    walk_at "go"
    refine un ?_
    walk_at "go"
    refine ⟨r, _, _, .str "pin", rfl, rfl, SqT.of gr, atI_nat (j := 0) rfl, ?_⟩
    walk_at "go"
    walk_at "go"
    refine ⟨r, _, _, .int x, rfl, rfl, SqT.of gr, atI_nat (j := 1) rfl, ?_⟩
    walk_at "go"
    refine ⟨D.ka, _, rfl, DGet.k (k := .inl x) gk, ?_⟩
    rw [cs_get]
    refine (Classical.em (x ∈ D.ks)).elim (fun nk => ?_) (fun nk => ?_)
    rotate_left
    · rw [decide_eq_false (show ¬ x ∈ D.kn.map (·.st) from nk)]
      walk_at "go"
      walk_at "go"
      refine ⟨r, _, _, .int x, rfl, rfl, SqT.of gr, atI_nat (j := 1) rfl, ?_⟩
      walk_at "go"
      refine ⟨sz, fun t1 n1 => ?_⟩
      have s1 := same_upd (o := HO.tup [V.int x]) n1
      have g1 := upd_same (H := H) (a := t1) (o := HO.tup [V.int x])
      show _
      generalize upd H t1 (HO.tup [V.int x]) = H4 at *
      walk_at "go"
      refine ⟨sz, fun t2 n2 => ?_⟩
      exact q2 x rfl nk _ _ (s1.trans (same_upd n2)) (s1.free n2) ⟨t2, _, rfl, upd_same, _, _, rfl, rfl, _, _, rfl, rfl, _, _, rfl, ⟨t1, _, rfl, same_upd n2 _ _ g1, _, _, rfl, rfl, rfl⟩, rfl⟩
    rw [decide_eq_true (show x ∈ D.kn.map (·.st) from nk)]
    walk_at "go"
    refine un ?_
    walk_at "go"
    refine ⟨r, _, _, .str "pin", rfl, rfl, SqT.of gr, atI_nat (j := 0) rfl, ?_⟩
    walk_at "go"
    refine un ?_
    walk_at "go"
    refine ⟨r, _, _, .str "pin", rfl, rfl, SqT.of gr, atI_nat (j := 0) rfl, ?_⟩
    walk_at "go"
    refine un ?_
    walk_at "go"
    refine ⟨r, _, _, .str "pin", rfl, rfl, SqT.of gr, atI_nat (j := 0) rfl, ?_⟩
    walk_at "go"
    refine un ?_
    walk_at "go"
    refine ⟨r, _, _, .str "pin", rfl, rfl, SqT.of gr, atI_nat (j := 0) rfl, ?_⟩
    walk_at "go"
    refine jnS (M := fun σ H' => DkAt H' { D with pins := doP D.pins (.pin x) } few most wd ∧ ButL [D.pa] H H' ∧ σ = [sR D.d, sR r, sR D.ka, none, none, none, none]) ?_ (fun N kk => ?_)
    rotate_left
    · walk_at "go"
      refine ⟨r, _, _, .str "pin", rfl, rfl, SqT.of gr, atI_nat (j := 0) rfl, ?_⟩
      walk_at "go"
      walk_at "go"
      refine ⟨r, _, _, .int x, rfl, rfl, SqT.of gr, atI_nat (j := 1) rfl, ?_⟩
      walk_at "go"
      refine ⟨D.d, _, rfl, dk_p ▸ DGet.k (k := .inr "pins") gd, ?_⟩
      have gp := hd.p
      walk_at "go"
      refine ⟨flat_ints _, ?_⟩
      rw [show inV (V.int x) (D.pins.map V.int) = decide (x ∈ D.pins) from inInt _ _]
      walk_at "go"
      by_cases pk : x ∈ D.pins
      · rw [decide_eq_true pk]
        walk_at "go"
        refine kk _ _ ⟨?_, ButL.refl, rfl⟩
        rw [show doP D.pins (.pin x) = D.pins from if_pos pk]
        exact hd
      · rw [decide_eq_false pk]
        walk_at "go"
        refine ⟨D.d, _, rfl, dk_p ▸ DGet.k (k := .inr "pins") gd, ?_⟩
        walk_at "go"
        refine ⟨r, _, _, .int x, rfl, rfl, SqT.of gr, atI_nat (j := 1) rfl, ?_⟩
        walk_at "go"
        refine ⟨D.pa, _, _, rfl, rfl, gp, sz5 (by rw [List.length_map]; have := ok.lp; have := cok.2.2 x rfl nk; omega), ?_⟩
        refine kk _ _ ⟨?_, ButL.put (by simp), rfl⟩
        rw [show doP D.pins (.pin x) = D.pins ++ [x] from if_neg pk]
        obtain ⟨e1, e2, e3, e4, e5, e6, e7⟩ := hd.fne
        refine ⟨by rw [upd_ne e3]; exact hd.g, by rw [upd_ne e5]; exact hd.k, by rw [upd_ne e6]; exact hd.e, ?_, fun z hz => by rw [upd_ne (e7 z hz).2.2.2]; exact hd.c z hz, hd.nd⟩
        show upd H D.pa _ D.pa = some (.lst ((D.pins ++ [x]).map V.int))
        rw [upd_same, List.map_append]
        rfl
    rintro σ H1 ⟨hd1, b1, rfl⟩
    have bA : ButT D.all H H1 := b1.t.mono fun z hz => by
      rw [List.mem_singleton.mp hz]
      exact List.mem_append_left _ (by simp [DK.fix])
    have hc1 := hc.keep bA nr ndr
    have gr1 : H1 r = some (.tup [.str "pin", .int x]) := hc1.g
    refine un ?_
    walk_at "go"
    refine ⟨r, _, _, .str "pin", rfl, rfl, SqT.of gr1, atI_nat (j := 0) rfl, ?_⟩
    walk_at "go"
    refine ⟨sz, fun tt nt => ?_⟩
    have st := same_upd (o := HO.tup [V.str "rename", V.str "release"]) nt
    have gtt := upd_same (H := H1) (a := tt) (o := HO.tup [V.str "rename", V.str "release"])
    show _
    generalize upd H1 tt (HO.tup [V.str "rename", V.str "release"]) = HT at *
    walk_at "go"
    refine ⟨sz, fun t2 n2 => ?_⟩
    have s2 := st.trans (same_upd (o := HO.tup [V.str "gives", V.non]) n2)
    have n0 : H t2 = none := by
      have h1 := st.free n2
      cases e : H t2 with
      | none => rfl
      | some o =>
        have h2 : t2 ≠ D.pa := fun z => by
          have := hd1.p
          rw [← z] at this
          rw [show H1 t2 = _ from this] at h1
          cases h1
        rw [b1 _ _ (by simpa using h2) e] at h1
        cases h1
    have bb : ButL D.all H H1 := fun a o na e => b1 _ _ (fun z => na (by rw [List.mem_singleton.mp z]; exact List.mem_append_left _ (by simp [DK.fix]))) e
    refine q1 (fun _ z => by cases z; exact nk) { D with pins := doP D.pins (.pin x) } .non t2 _ ⟨hd1.same s2, ⟨ok.nd, ok.en, ok.ks, Nat.le_succ_of_le ok.le, ok.lk, ok.w, ?_, ?_, fun y hy => ?_⟩, rfl, rfl, rfl, fun a m => .inl m, bb.trans (Same.but s2)⟩ n0 upd_same rfl (hc1.keep (F := []) (Same.t s2) (fun z => by cases z) fun _ _ _ _ _ z => by cases z)
    · show (if x ∈ D.pins then D.pins else D.pins ++ [x]).length + 1 ≤ few
      have := cok.2.2 x rfl nk
      have := ok.lp
      split
      · omega
      · rw [List.length_append, List.length_singleton]
        omega
    · show (if x ∈ D.pins then D.pins else D.pins ++ [x]).Nodup
      split
      · exact ok.pn
      · next c => exact List.nodup_append.mpr ⟨ok.pn, by simp, fun a ha b hb z => c (by rw [← List.mem_singleton.mp hb, ← z]; exact ha)⟩
    · have hy : y ∈ (if x ∈ D.pins then D.pins else D.pins ++ [x]) := hy
      split at hy
      · exact ok.pk y hy
      · rcases List.mem_append.mp hy with z | z
        · exact ok.pk y z
        · rw [List.mem_singleton.mp z]
          exact nk
  | beg y =>
    have gr : H r = some (.tup [.str "begin", .int y]) := hc.g
    walk_at "go"
    refine un ?_
    walk_at "go"
    refine ⟨r, _, _, .str "begin", rfl, rfl, SqT.of gr, atI_nat (j := 0) rfl, ?_⟩
    walk_at "go"
    refine un ?_
    walk_at "go"
    refine ⟨r, _, _, .str "begin", rfl, rfl, SqT.of gr, atI_nat (j := 0) rfl, ?_⟩
    walk_at "go"
    refine jnS (M := fun σ H' => ∃ ad, H ad = none ∧ DkAt H' { D with kn := D.kn ++ [⟨y, ad, List.replicate wd 0⟩] } few most wd ∧ ButL [D.ka] H H' ∧ σ = [sR D.d, sR r, sR D.ka, none, none, none, none]) ?_ (fun N kk => ?_)
    rotate_left
    · walk_at "go"
      refine ⟨r, _, _, .str "begin", rfl, rfl, SqT.of gr, atI_nat (j := 0) rfl, ?_⟩
      walk_at "go"
      refine ⟨D.d, _, rfl, dk_w ▸ DGet.k (k := .inr "width") gd, ?_⟩
      walk_at "go"
      rw [Int.toNat_natCast]
      refine ⟨by omega, by omega, fun l nl => lc_range (lo := 0) (n := wd) (fun j H' => Ob (Same H H' ∧ H' l = some (.lst (List.replicate j (V.int 0))))) (ob ⟨same_upd nl, upd_same⟩) ?_ ?_⟩
      · intro j H2 hj h
        obtain ⟨s2, g2⟩ := unob h
        refine ⟨rfl, ?_⟩
        walk_at "go"
        refine ⟨_, g2, sz5 (by rw [List.length_replicate]; omega), ob ⟨same_put s2 nl, ?_⟩⟩
        rw [upd_same, List.replicate_succ']
      intro H1 h
      obtain ⟨s1, g1⟩ := unob h
      clear h
      have gr1 := s1 _ _ gr
      walk_at "go"
      refine ⟨r, _, _, .int y, rfl, rfl, SqT.of gr1, atI_nat (j := 1) rfl, ?_⟩
      walk_at "go"
      have lk := ok.lk
      refine ⟨D.ka, _, rfl, DPut.k (k := .inl y) (s1 _ _ gk) (sz5 (by rw [List.length_map]; omega)), ?_⟩
      have yn : y ∉ D.kn.map (·.st) := cok.1.1
      rw [cs_put (c := Cont.mk y l (List.replicate wd 0)) yn]
      refine kk _ _ ⟨l, nl, hd.add s1 nl ?_ (ButL.put (by simp)) upd_same, (Same.but s1).trans (ButL.put (by simp)), rfl⟩
      rw [g1, List.map_replicate]
    rintro σ H1 ⟨ad, na, hd1, b1, rfl⟩
    have bb : ButL D.all H H1 := b1.mono fun z hz => by
      rw [List.mem_singleton.mp hz]
      exact List.mem_append_left _ (by simp [DK.fix])
    have hc1 := hc.keep bb.t nr ndr
    have gr1 : H1 r = some (.tup [.str "begin", .int y]) := hc1.g
    refine un ?_
    walk_at "go"
    refine ⟨r, _, _, .str "begin", rfl, rfl, SqT.of gr1, atI_nat (j := 0) rfl, ?_⟩
    walk_at "go"
    refine un ?_
    walk_at "go"
    refine ⟨r, _, _, .str "begin", rfl, rfl, SqT.of gr1, atI_nat (j := 0) rfl, ?_⟩
    walk_at "go"
    refine un ?_
    walk_at "go"
    refine ⟨r, _, _, .str "begin", rfl, rfl, SqT.of gr1, atI_nat (j := 0) rfl, ?_⟩
    walk_at "go"
    refine un ?_
    walk_at "go"
    refine ⟨r, _, _, .str "begin", rfl, rfl, SqT.of gr1, atI_nat (j := 0) rfl, ?_⟩
    walk_at "go"
    refine un ?_
    walk_at "go"
    refine ⟨r, _, _, .str "begin", rfl, rfl, SqT.of gr1, atI_nat (j := 0) rfl, ?_⟩
    walk_at "go"
    refine ⟨sz, fun tt nt => ?_⟩
    have st := same_upd (o := HO.tup [V.str "rename", V.str "release"]) nt
    have gtt := upd_same (H := H1) (a := tt) (o := HO.tup [V.str "rename", V.str "release"])
    show _
    generalize upd H1 tt (HO.tup [V.str "rename", V.str "release"]) = HT at *
    walk_at "go"
    refine ⟨sz, fun t2 n2 => ?_⟩
    have s2 := st.trans (same_upd (o := HO.tup [V.str "gives", V.non]) n2)
    have n0 : H t2 = none := by
      have h1 := st.free n2
      cases e : H t2 with
      | none => rfl
      | some o =>
        have h2 : t2 ≠ D.ka := fun z => by
          have k1 : H1 D.ka = _ := hd1.k
          rw [z, k1] at h1
          cases h1
        rw [b1 _ _ (by simpa using h2) e] at h1
        cases h1
    have dk1 : Dk1 D (.beg y) few most wd n H { D with kn := D.kn ++ [⟨y, ad, List.replicate wd 0⟩] } H1 := Dk1.kn hd hd1 b1 (by
      rw [List.map_append]
      rfl) rfl (ok.add cok.1.1 cok.1.2 (cok.2.1 trivial fun _ z => by cases z) (List.length_replicate ..)) fun a ha => by
      rw [List.map_append] at ha
      rcases List.mem_append.mp ha with z | z
      · exact .inl z
      · have z : a ∈ [ad] := z
        rw [List.mem_singleton.mp z]
        exact .inr na
    refine q1 (fun _ z => by cases z) _ .non t2 _ ⟨(dk1.at_).same s2, dk1.ok, dk1.m, dk1.pins, dk1.d, dk1.ad, dk1.b.trans (Same.but s2)⟩ n0 upd_same rfl (hc1.keep (F := []) (Same.t s2) (fun z => by cases z) fun _ _ _ _ _ z => by cases z)
  | dup x y =>
    have gr : H r = some (.tup [.str "duplicate", .int x, .int y]) := hc.g
    walk_at "go"
    refine un ?_
    walk_at "go"
    refine ⟨r, _, _, .str "duplicate", rfl, rfl, SqT.of gr, atI_nat (j := 0) rfl, ?_⟩
    walk_at "go"
    refine un ?_
    walk_at "go"
    refine ⟨r, _, _, .str "duplicate", rfl, rfl, SqT.of gr, atI_nat (j := 0) rfl, ?_⟩
    walk_at "go"
    walk_at "go"
    refine ⟨r, _, _, .int x, rfl, rfl, SqT.of gr, atI_nat (j := 1) rfl, ?_⟩
    walk_at "go"
    refine ⟨D.ka, _, rfl, DGet.k (k := .inl x) gk, ?_⟩
    rw [cs_get]
    refine (Classical.em (x ∈ D.ks)).elim (fun nk => ?_) (fun nk => ?_)
    rotate_left
    · rw [decide_eq_false (show ¬ x ∈ D.kn.map (·.st) from nk)]
      walk_at "go"
      walk_at "go"
      refine ⟨r, _, _, .int x, rfl, rfl, SqT.of gr, atI_nat (j := 1) rfl, ?_⟩
      walk_at "go"
      refine ⟨sz, fun t1 n1 => ?_⟩
      have s1 := same_upd (o := HO.tup [V.int x]) n1
      have g1 := upd_same (H := H) (a := t1) (o := HO.tup [V.int x])
      show _
      generalize upd H t1 (HO.tup [V.int x]) = H4 at *
      walk_at "go"
      refine ⟨sz, fun t2 n2 => ?_⟩
      exact q2 x rfl nk _ _ (s1.trans (same_upd n2)) (s1.free n2) ⟨t2, _, rfl, upd_same, _, _, rfl, rfl, _, _, rfl, rfl, _, _, rfl, ⟨t1, _, rfl, same_upd n2 _ _ g1, _, _, rfl, rfl, rfl⟩, rfl⟩
    rw [decide_eq_true (show x ∈ D.kn.map (·.st) from nk)]
    walk_at "go"
    refine un ?_
    walk_at "go"
    refine ⟨r, _, _, .str "duplicate", rfl, rfl, SqT.of gr, atI_nat (j := 0) rfl, ?_⟩
    walk_at "go"
    refine un ?_
    walk_at "go"
    refine ⟨r, _, _, .str "duplicate", rfl, rfl, SqT.of gr, atI_nat (j := 0) rfl, ?_⟩
    walk_at "go"
    refine un ?_
    walk_at "go"
    refine ⟨r, _, _, .str "duplicate", rfl, rfl, SqT.of gr, atI_nat (j := 0) rfl, ?_⟩
    walk_at "go"
    obtain ⟨c0, hc0, e0⟩ := ks_get nk
    refine jnS (M := fun σ H' => ∃ ad, H ad = none ∧ DkAt H' { D with kn := D.kn ++ [⟨y, ad, c0.by'⟩] } few most wd ∧ ButL [D.ka] H H' ∧ σ = [sR D.d, sR r, sR D.ka, none, none, none, none]) ?_ (fun N kk => ?_)
    rotate_left
    · have gcc := hd.c c0 hc0
      have gc : valV (D.kn.map Cont.row) (.inl x) = some (.ref c0.ad) := by
        rw [← e0]
        exact dk_at hc0 ok.nd
      walk_at "go"
      refine ⟨r, _, _, .str "duplicate", rfl, rfl, SqT.of gr, atI_nat (j := 0) rfl, ?_⟩
      walk_at "go"
      refine ⟨r, _, _, .int x, rfl, rfl, SqT.of gr, atI_nat (j := 1) rfl, ?_⟩
      walk_at "go"
      refine ⟨D.ka, .ref c0.ad, rfl, gc ▸ DGet.k (k := .inl x) gk, ?_⟩
      walk_at "go"
      intro l nl
      have s1 := same_upd (o := HO.lst (c0.by'.map V.int)) nl
      have g1 := upd_same (H := H) (a := l) (o := HO.lst (c0.by'.map V.int))
      show _
      generalize upd H l (HO.lst (c0.by'.map V.int)) = H1 at *
      have gr1 := s1 _ _ gr
      walk_at "go"
      refine ⟨r, _, _, .int y, rfl, rfl, SqT.of gr1, atI_nat (j := 2) rfl, ?_⟩
      walk_at "go"
      have lk := ok.lk
      refine ⟨D.ka, _, rfl, DPut.k (k := .inl y) (s1 _ _ gk) (sz5 (by rw [List.length_map]; omega)), ?_⟩
      have yn : y ∉ D.kn.map (·.st) := cok.1.2.1
      rw [cs_put (c := Cont.mk y l c0.by') yn]
      exact kk _ _ ⟨l, nl, hd.add s1 nl g1 (ButL.put (by simp)) upd_same, (Same.but s1).trans (ButL.put (by simp)), rfl⟩
    rintro σ H1 ⟨ad, na, hd1, b1, rfl⟩
    have bb : ButL D.all H H1 := b1.mono fun z hz => by
      rw [List.mem_singleton.mp hz]
      exact List.mem_append_left _ (by simp [DK.fix])
    have hc1 := hc.keep bb.t nr ndr
    have gr1 : H1 r = some (.tup [.str "duplicate", .int x, .int y]) := hc1.g
    refine un ?_
    walk_at "go"
    refine ⟨r, _, _, .str "duplicate", rfl, rfl, SqT.of gr1, atI_nat (j := 0) rfl, ?_⟩
    walk_at "go"
    refine un ?_
    walk_at "go"
    refine ⟨r, _, _, .str "duplicate", rfl, rfl, SqT.of gr1, atI_nat (j := 0) rfl, ?_⟩
    walk_at "go"
    refine ⟨sz, fun tt nt => ?_⟩
    have st := same_upd (o := HO.tup [V.str "rename", V.str "release"]) nt
    have gtt := upd_same (H := H1) (a := tt) (o := HO.tup [V.str "rename", V.str "release"])
    show _
    generalize upd H1 tt (HO.tup [V.str "rename", V.str "release"]) = HT at *
    walk_at "go"
    refine ⟨sz, fun t2 n2 => ?_⟩
    have s2 := st.trans (same_upd (o := HO.tup [V.str "gives", V.non]) n2)
    have n0 : H t2 = none := by
      have h1 := st.free n2
      cases e : H t2 with
      | none => rfl
      | some o =>
        have h2 : t2 ≠ D.ka := fun z => by
          have k1 : H1 D.ka = _ := hd1.k
          rw [z, k1] at h1
          cases h1
        rw [b1 _ _ (by simpa using h2) e] at h1
        cases h1
    have dk1 : Dk1 D (.dup x y) few most wd n H { D with kn := D.kn ++ [⟨y, ad, c0.by'⟩] } H1 := Dk1.kn hd hd1 b1 (by
      rw [List.map_append]
      show _ = D.m ++ [(y, getM D.m x)]
      rw [← e0, show getM D.m c0.st = c0.by' from get_mc hc0 ok.nd]
      rfl) rfl (ok.add cok.1.2.1 cok.1.2.2 (cok.2.1 trivial fun _ z => by cases z; exact nk) (ok.w c0 hc0)) fun a ha => by
      rw [List.map_append] at ha
      rcases List.mem_append.mp ha with z | z
      · exact .inl z
      · have z : a ∈ [ad] := z
        rw [List.mem_singleton.mp z]
        exact .inr na
    refine q1 (fun _ z => by cases z; exact nk) _ .non t2 _ ⟨(dk1.at_).same s2, dk1.ok, dk1.m, dk1.pins, dk1.d, dk1.ad, dk1.b.trans (Same.but s2)⟩ n0 upd_same rfl (hc1.keep (F := []) (Same.t s2) (fun z => by cases z) fun _ _ _ _ _ z => by cases z)
  | rd x o l =>
    have gr : H r = some (.tup [.str "read", .int x, .int o, .int l]) := hc.g
    walk_at "go"
    refine un ?_
    walk_at "go"
    refine ⟨r, _, _, .str "read", rfl, rfl, SqT.of gr, atI_nat (j := 0) rfl, ?_⟩
    walk_at "go"
    refine un ?_
    walk_at "go"
    refine ⟨r, _, _, .str "read", rfl, rfl, SqT.of gr, atI_nat (j := 0) rfl, ?_⟩
    walk_at "go"
    walk_at "go"
    refine ⟨r, _, _, .int x, rfl, rfl, SqT.of gr, atI_nat (j := 1) rfl, ?_⟩
    walk_at "go"
    refine ⟨D.ka, _, rfl, DGet.k (k := .inl x) gk, ?_⟩
    rw [cs_get]
    refine (Classical.em (x ∈ D.ks)).elim (fun nk => ?_) (fun nk => ?_)
    rotate_left
    · rw [decide_eq_false (show ¬ x ∈ D.kn.map (·.st) from nk)]
      walk_at "go"
      walk_at "go"
      refine ⟨r, _, _, .int x, rfl, rfl, SqT.of gr, atI_nat (j := 1) rfl, ?_⟩
      walk_at "go"
      refine ⟨sz, fun t1 n1 => ?_⟩
      have s1 := same_upd (o := HO.tup [V.int x]) n1
      have g1 := upd_same (H := H) (a := t1) (o := HO.tup [V.int x])
      show _
      generalize upd H t1 (HO.tup [V.int x]) = H4 at *
      walk_at "go"
      refine ⟨sz, fun t2 n2 => ?_⟩
      exact q2 x rfl nk _ _ (s1.trans (same_upd n2)) (s1.free n2) ⟨t2, _, rfl, upd_same, _, _, rfl, rfl, _, _, rfl, rfl, _, _, rfl, ⟨t1, _, rfl, same_upd n2 _ _ g1, _, _, rfl, rfl, rfl⟩, rfl⟩
    rw [decide_eq_true (show x ∈ D.kn.map (·.st) from nk)]
    walk_at "go"
    refine un ?_
    walk_at "go"
    refine ⟨r, _, _, .str "read", rfl, rfl, SqT.of gr, atI_nat (j := 0) rfl, ?_⟩
    walk_at "go"
    obtain ⟨c0, hc0, e0⟩ := ks_get nk
    have gcc := hd.c c0 hc0
    have gc : valV (D.kn.map Cont.row) (.inl x) = some (.ref c0.ad) := by
      rw [← e0]
      exact dk_at hc0 ok.nd
    refine un ?_
    walk_at "go"
    refine ⟨r, _, _, .str "read", rfl, rfl, SqT.of gr, atI_nat (j := 0) rfl, ?_⟩
    walk_at "go"
    walk_at "go"
    refine ⟨r, _, _, .int x, rfl, rfl, SqT.of gr, atI_nat (j := 1) rfl, ?_⟩
    walk_at "go"
    refine ⟨D.ka, .ref c0.ad, rfl, gc ▸ DGet.k (k := .inl x) gk, ?_⟩
    walk_at "go"
    refine ⟨r, _, _, .int o, rfl, rfl, SqT.of gr, atI_nat (j := 2) rfl, ?_⟩
    walk_at "go"
    walk_at "go"
    refine ⟨r, _, _, .int o, rfl, rfl, SqT.of gr, atI_nat (j := 2) rfl, ?_⟩
    walk_at "go"
    walk_at "go"
    refine ⟨r, _, _, .int l, rfl, rfl, SqT.of gr, atI_nat (j := 3) rfl, ?_⟩
    walk_at "go"
    intro q nq
    have s1 := same_upd (o := HO.lst (cutV (c0.by'.map V.int) (some o) (some (o + l)))) nq
    have g1 := upd_same (H := H) (a := q) (o := HO.lst (cutV (c0.by'.map V.int) (some o) (some (o + l))))
    show _
    generalize upd H q (HO.lst (cutV (c0.by'.map V.int) (some o) (some (o + l)))) = H1 at *
    walk_at "go"
    refine ⟨sz, fun t2 n2 => ?_⟩
    have s2 := s1.trans (same_upd (o := HO.tup [V.str "gives", V.ref q]) n2)
    refine q1 (fun _ z => by cases z; exact nk) D (.ref q) t2 _ ⟨hd.same s2, ok.up, rfl, rfl, rfl, fun a m => .inl m, Same.but s2⟩ (s1.free n2) upd_same ⟨q, rfl, nq, ?_⟩ (hc.keep (F := []) (Same.t s2) (fun z => by cases z) fun _ _ _ _ _ z => by cases z)
    rw [← e0, show getM D.m c0.st = c0.by' from get_mc hc0 ok.nd]
    exact same_upd n2 _ _ g1
  | sto x o dr ds =>
    have gr : H r = some (.tup [.str "store", .int x, .int o, .ref dr]) := hc.g
    walk_at "go"
    refine un ?_
    walk_at "go"
    refine ⟨r, _, _, .str "store", rfl, rfl, SqT.of gr, atI_nat (j := 0) rfl, ?_⟩
    walk_at "go"
    refine un ?_
    walk_at "go"
    refine ⟨r, _, _, .str "store", rfl, rfl, SqT.of gr, atI_nat (j := 0) rfl, ?_⟩
    walk_at "go"
    walk_at "go"
    refine ⟨r, _, _, .int x, rfl, rfl, SqT.of gr, atI_nat (j := 1) rfl, ?_⟩
    walk_at "go"
    refine ⟨D.ka, _, rfl, DGet.k (k := .inl x) gk, ?_⟩
    rw [cs_get]
    refine (Classical.em (x ∈ D.ks)).elim (fun nk => ?_) (fun nk => ?_)
    rotate_left
    · rw [decide_eq_false (show ¬ x ∈ D.kn.map (·.st) from nk)]
      walk_at "go"
      walk_at "go"
      refine ⟨r, _, _, .int x, rfl, rfl, SqT.of gr, atI_nat (j := 1) rfl, ?_⟩
      walk_at "go"
      refine ⟨sz, fun t1 n1 => ?_⟩
      have s1 := same_upd (o := HO.tup [V.int x]) n1
      have g1 := upd_same (H := H) (a := t1) (o := HO.tup [V.int x])
      show _
      generalize upd H t1 (HO.tup [V.int x]) = H4 at *
      walk_at "go"
      refine ⟨sz, fun t2 n2 => ?_⟩
      exact q2 x rfl nk _ _ (s1.trans (same_upd n2)) (s1.free n2) ⟨t2, _, rfl, upd_same, _, _, rfl, rfl, _, _, rfl, rfl, _, _, rfl, ⟨t1, _, rfl, same_upd n2 _ _ g1, _, _, rfl, rfl, rfl⟩, rfl⟩
    rw [decide_eq_true (show x ∈ D.kn.map (·.st) from nk)]
    walk_at "go"
    refine un ?_
    walk_at "go"
    refine ⟨r, _, _, .str "store", rfl, rfl, SqT.of gr, atI_nat (j := 0) rfl, ?_⟩
    walk_at "go"
    refine un ?_
    walk_at "go"
    refine ⟨r, _, _, .str "store", rfl, rfl, SqT.of gr, atI_nat (j := 0) rfl, ?_⟩
    walk_at "go"
    obtain ⟨c0, hc0, e0⟩ := ks_get nk
    have gds : H dr = some (.lst (ds.map V.int)) := hc.d
    obtain ⟨xB, o0, ol, dl⟩ := cok.1
    have lb0 := ok.w c0 hc0
    refine jnS (M := fun σ H' => ∃ ad, H ad = none ∧ DkAt H' { D with kn := setA D.kn x ad (cutB c0.by' o ds) } few most wd ∧ ButL [D.ka] H H' ∧ ∃ y3 y4, σ = [sR D.d, sR r, sR D.ka, y3, y4, none, none]) ?_ (fun N kk => ?_)
    rotate_left
    · have gcc := hd.c c0 hc0
      have gc : valV (D.kn.map Cont.row) (.inl x) = some (.ref c0.ad) := by
        rw [← e0]
        exact dk_at hc0 ok.nd
      walk_at "go"
      refine ⟨r, _, _, .str "store", rfl, rfl, SqT.of gr, atI_nat (j := 0) rfl, ?_⟩
      walk_at "go"
      refine ⟨r, _, _, .int x, rfl, rfl, SqT.of gr, atI_nat (j := 1) rfl, ?_⟩
      walk_at "go"
      refine ⟨D.ka, .ref c0.ad, rfl, gc ▸ DGet.k (k := .inl x) gk, ?_⟩
      walk_at "go"
      intro l nl
      have s1 := same_upd (o := HO.lst (c0.by'.map V.int)) nl
      have g1 := upd_same (H := H) (a := l) (o := HO.lst (c0.by'.map V.int))
      show _
      generalize upd H l (HO.lst (c0.by'.map V.int)) = H1 at *
      have gr1 := s1 _ _ gr
      have gds1 := s1 _ _ gds
      have nlr : r ≠ l := ne_of_none gr nl
      have nld : dr ≠ l := ne_of_none gds nl
      show tSeq _ _ _ _ _
      refine un ?_
      walk_at "go"
      refine ⟨r, _, _, .ref dr, rfl, rfl, SqT.of gr1, atI_nat (j := 3) rfl, ?_⟩
      walk_at "go"
      rw [List.length_map, Int.toNat_natCast]
      refine ⟨by omega, by omega, for_range (lo := 0) (n := ds.length) (fun j σ H' => Ob (ButL [l] H1 H' ∧ H' l = some (.lst ((cutB c0.by' o (ds.take j)).map V.int)) ∧ ∃ y3, σ = [sR D.d, sR r, sR D.ka, y3, sR l, none, none])) (ob ⟨ButL.refl, by rw [(cutB_nil _ o o0).2]; exact g1, none, rfl⟩) ?_ ?_⟩
      · intro j σ H2 hj h
        obtain ⟨b2, g2, y3, rfl⟩ := unob h
        clear h
        have gr2 := b2 _ _ (by simpa using nlr) gr1
        have gds2 := b2 _ _ (by simpa using nld) gds1
        rw [Int.zero_add]
        walk_at "go"
        refine ⟨r, _, _, .ref dr, rfl, rfl, SqT.of gr2, atI_nat (j := 3) rfl, ?_⟩
        walk_at "go"
        have ej : ds[j]? = some ds[j] := List.getElem?_eq_getElem hj
        refine ⟨dr, _, _, .int ds[j], rfl, rfl, SqL.of gds2, atI_nat (by rw [List.getElem?_map, ej]; rfl), ?_⟩
        walk_at "go"
        refine ⟨r, _, _, .int o, rfl, rfl, SqT.of gr2, atI_nat (j := 2) rfl, ?_⟩
        walk_at "go"
        have lcb : (cutB c0.by' o (ds.take j)).length = wd := by
          rw [cutB_len o0 (by rw [List.length_take]; omega), lb0]
        refine ⟨l, _, _, _, rfl, rfl, g2, ix_ok (by omega) (by rw [List.length_map, lcb]; omega), ?_⟩
        rw [set_ints]
        refine ob ⟨b2.trans (ButL.put (by simp)), ?_, _, rfl⟩
        rw [cutB_step o0 (by omega) ej]
        exact upd_same
      intro σ H2 h
      obtain ⟨b2, g2, y3, rfl⟩ := unob h
      clear h
      rw [List.take_length] at g2
      have gr2 := b2 _ _ (by simpa using nlr) gr1
      have lA : l ∉ D.all := fun z => hd.live l z nl
      have gk2 : H2 D.ka = some (.dK (D.kn.map Cont.row)) := b2 _ _ (by simpa using fun z : D.ka = l => lA (z ▸ List.mem_append_left _ (by simp [DK.fix]))) (s1 _ _ gk)
      walk_at "go"
      refine ⟨r, _, _, .int x, rfl, rfl, SqT.of gr2, atI_nat (j := 1) rfl, ?_⟩
      walk_at "go"
      have lk := ok.lk
      refine ⟨D.ka, _, rfl, DPut.k (k := .inl x) gk2 (sz5 (by rw [List.length_map]; omega)), ?_⟩
      rw [cs_putA (b' := cutB c0.by' o ds) nk]
      have s2 : Same H H2 := fun a u e => b2 _ _ (by
        simp only [List.mem_singleton]
        intro z
        rw [z, nl] at e
        cases e) (s1 _ _ e)
      exact kk _ _ ⟨l, nl, hd.setA ok.nd s2 nl g2 (ButL.put (by simp)) upd_same, (Same.but s2).trans (ButL.put (by simp)), _, _, rfl⟩
    rintro σ H1 ⟨ad, na, hd1, b1, y3, y4, rfl⟩
    have bb : ButL D.all H H1 := b1.mono fun z hz => by
      rw [List.mem_singleton.mp hz]
      exact List.mem_append_left _ (by simp [DK.fix])
    have hc1 := hc.keep bb.t nr ndr
    have gr1 : H1 r = some (.tup [.str "store", .int x, .int o, .ref dr]) := hc1.g
    refine un ?_
    walk_at "go"
    refine ⟨r, _, _, .str "store", rfl, rfl, SqT.of gr1, atI_nat (j := 0) rfl, ?_⟩
    walk_at "go"
    refine un ?_
    walk_at "go"
    refine ⟨r, _, _, .str "store", rfl, rfl, SqT.of gr1, atI_nat (j := 0) rfl, ?_⟩
    walk_at "go"
    refine un ?_
    walk_at "go"
    refine ⟨r, _, _, .str "store", rfl, rfl, SqT.of gr1, atI_nat (j := 0) rfl, ?_⟩
    walk_at "go"
    refine ⟨sz, fun tt nt => ?_⟩
    have st := same_upd (o := HO.tup [V.str "rename", V.str "release"]) nt
    have gtt := upd_same (H := H1) (a := tt) (o := HO.tup [V.str "rename", V.str "release"])
    show _
    generalize upd H1 tt (HO.tup [V.str "rename", V.str "release"]) = HT at *
    walk_at "go"
    refine ⟨sz, fun t2 n2 => ?_⟩
    have s2 := st.trans (same_upd (o := HO.tup [V.str "gives", V.non]) n2)
    have n0 : H t2 = none := by
      have h1 := st.free n2
      cases e : H t2 with
      | none => rfl
      | some o =>
        have h2 : t2 ≠ D.ka := fun z => by
          have k1 : H1 D.ka = _ := hd1.k
          rw [z, k1] at h1
          cases h1
        rw [b1 _ _ (by simpa using h2) e] at h1
        cases h1
    have dk1 : Dk1 D (.sto x o dr ds) few most wd n H { D with kn := setA D.kn x ad (cutB c0.by' o ds) } H1 := Dk1.kn hd hd1 b1 (mc_setA D.kn x o ad _ ds fun e he ee => by
      have t : e ∈ D.kn.filter (fun c => decide (c.st = c0.st)) := List.mem_filter.mpr ⟨he, decide_eq_true (ee.trans e0.symm)⟩
      rw [filt_one ok.nd hc0] at t
      rw [List.mem_singleton.mp t]) rfl (ok.setA (by rw [cutB_len o0 (by omega), lb0])) fun a ha => by
      obtain ⟨y, hy, ey⟩ := List.mem_map.mp ha
      rcases setA_mem hy with t | t
      · rw [t] at ey
        exact .inr (by rw [← show ad = a from ey]; exact na)
      · exact .inl (List.mem_map.mpr ⟨y, t.1, ey⟩)
    refine q1 (fun _ z => by cases z; exact nk) _ .non t2 _ ⟨(dk1.at_).same s2, dk1.ok, dk1.m, dk1.pins, dk1.d, dk1.ad, dk1.b.trans (Same.but s2)⟩ n0 upd_same rfl (hc1.keep (F := []) (Same.t s2) (fun z => by cases z) fun _ _ _ _ _ z => by cases z)
  | rel x =>
    have gr : H r = some (.tup [.str "release", .int x]) := hc.g
    walk_at "go"
    refine un ?_
    walk_at "go"
    refine ⟨r, _, _, .str "release", rfl, rfl, SqT.of gr, atI_nat (j := 0) rfl, ?_⟩
    walk_at "go"
    refine un ?_
    walk_at "go"
    refine ⟨r, _, _, .str "release", rfl, rfl, SqT.of gr, atI_nat (j := 0) rfl, ?_⟩
    walk_at "go"
    walk_at "go"
    refine ⟨r, _, _, .int x, rfl, rfl, SqT.of gr, atI_nat (j := 1) rfl, ?_⟩
    walk_at "go"
    refine ⟨D.ka, _, rfl, DGet.k (k := .inl x) gk, ?_⟩
    rw [cs_get]
    refine (Classical.em (x ∈ D.ks)).elim (fun nk => ?_) (fun nk => ?_)
    rotate_left
    · rw [decide_eq_false (show ¬ x ∈ D.kn.map (·.st) from nk)]
      walk_at "go"
      walk_at "go"
      refine ⟨r, _, _, .int x, rfl, rfl, SqT.of gr, atI_nat (j := 1) rfl, ?_⟩
      walk_at "go"
      refine ⟨sz, fun t1 n1 => ?_⟩
      have s1 := same_upd (o := HO.tup [V.int x]) n1
      have g1 := upd_same (H := H) (a := t1) (o := HO.tup [V.int x])
      show _
      generalize upd H t1 (HO.tup [V.int x]) = H4 at *
      walk_at "go"
      refine ⟨sz, fun t2 n2 => ?_⟩
      exact q2 x rfl nk _ _ (s1.trans (same_upd n2)) (s1.free n2) ⟨t2, _, rfl, upd_same, _, _, rfl, rfl, _, _, rfl, rfl, _, _, rfl, ⟨t1, _, rfl, same_upd n2 _ _ g1, _, _, rfl, rfl, rfl⟩, rfl⟩
    rw [decide_eq_true (show x ∈ D.kn.map (·.st) from nk)]
    walk_at "go"
    refine un ?_
    walk_at "go"
    refine ⟨r, _, _, .str "release", rfl, rfl, SqT.of gr, atI_nat (j := 0) rfl, ?_⟩
    walk_at "go"
    refine un ?_
    walk_at "go"
    refine ⟨r, _, _, .str "release", rfl, rfl, SqT.of gr, atI_nat (j := 0) rfl, ?_⟩
    walk_at "go"
    refine un ?_
    walk_at "go"
    refine ⟨r, _, _, .str "release", rfl, rfl, SqT.of gr, atI_nat (j := 0) rfl, ?_⟩
    walk_at "go"
    refine un ?_
    walk_at "go"
    refine ⟨r, _, _, .str "release", rfl, rfl, SqT.of gr, atI_nat (j := 0) rfl, ?_⟩
    walk_at "go"
    refine un ?_
    walk_at "go"
    refine ⟨r, _, _, .str "release", rfl, rfl, SqT.of gr, atI_nat (j := 0) rfl, ?_⟩
    walk_at "go"
    obtain ⟨c0, hc0, e0⟩ := ks_get nk
    refine un ?_
    walk_at "go"
    refine ⟨r, _, _, .str "release", rfl, rfl, SqT.of gr, atI_nat (j := 0) rfl, ?_⟩
    walk_at "go"
    refine ⟨sz, fun tt nt => ?_⟩
    have st := same_upd (o := HO.tup [V.str "rename", V.str "release"]) nt
    have gtt := upd_same (H := H) (a := tt) (o := HO.tup [V.str "rename", V.str "release"])
    show _
    generalize upd H tt (HO.tup [V.str "rename", V.str "release"]) = HT at *
    walk_at "go"
    have gc : valV (D.kn.map Cont.row) (.inl x) = some (.ref c0.ad) := by
      rw [← e0]
      exact dk_at hc0 ok.nd
    obtain ⟨e1, e2, e3, e4, e5, e6, e7⟩ := hd.fne
    have hdT := hd.same st
    have grT : HT r = some (.tup [.str "release", .int x]) := st _ _ gr
    have gkT := hdT.k
    refine ⟨.inl ⟨_, .inl gkT⟩, ?_⟩
    walk_at "go"
    refine ⟨r, _, _, .int x, rfl, rfl, SqT.of grT, atI_nat (j := 1) rfl, ?_⟩
    walk_at "go"
    refine ⟨_, .inl x, _, gkT, rfl, gc, ?_⟩
    rw [cs_drop]
    have b1 : ButL [D.ka] HT (upd HT D.ka (.dK ((D.kn.filter fun c => decide (c.st ≠ x)).map Cont.row))) := ButL.put (by simp)
    have gk1 := upd_same (H := HT) (a := D.ka) (o := HO.dK ((D.kn.filter fun c => decide (c.st ≠ x)).map Cont.row))
    show _
    generalize upd HT D.ka (HO.dK ((D.kn.filter fun c => decide (c.st ≠ x)).map Cont.row)) = H1 at *
    have nrk : r ≠ D.ka := fun z => nr (z ▸ List.mem_append_left _ (by simp [DK.fix]))
    have nre : r ≠ D.ea := fun z => nr (z ▸ List.mem_append_left _ (by simp [DK.fix]))
    have nrd : r ≠ D.d := fun z => nr (z ▸ List.mem_append_left _ (by simp [DK.fix]))
    have gr1 : H1 r = some (.tup [.str "release", .int x]) := b1 _ _ (by simpa using nrk) grT
    have gd1 := b1 _ _ (by simpa using e1) hdT.g
    have ge1 := b1 _ _ (by simpa using e4.symm) hdT.e
    have gp1 := b1 _ _ (by simpa using e5.symm) hdT.p
    walk_at "go"
    refine ⟨D.d, _, rfl, dk_e ▸ DGet.k (k := .inr "ended") gd1, ?_⟩
    walk_at "go"
    refine ⟨r, _, _, .int x, rfl, rfl, SqT.of gr1, atI_nat (j := 1) rfl, ?_⟩
    walk_at "go"
    have lle := ok.le
    refine ⟨D.ea, _, _, rfl, rfl, ge1, sz5 (by rw [List.length_map]; omega), ?_⟩
    have b2 : ButL [D.ea] H1 (upd H1 D.ea (.lst (D.en.map V.int ++ [V.int x]))) := ButL.put (by simp)
    have ge2 := upd_same (H := H1) (a := D.ea) (o := HO.lst (D.en.map V.int ++ [V.int x]))
    show _
    generalize upd H1 D.ea (HO.lst (D.en.map V.int ++ [V.int x])) = H2 at *
    have gr2 := b2 _ _ (by simpa using nre) gr1
    have gd2 := b2 _ _ (by simpa using e2) gd1
    have gk2 := b2 _ _ (by simpa using e4) gk1
    have gp2 := b2 _ _ (by simpa using e6.symm) gp1
    walk_at "go"
    refine ⟨r, _, _, .int x, rfl, rfl, SqT.of gr2, atI_nat (j := 1) rfl, ?_⟩
    walk_at "go"
    refine ⟨D.d, _, rfl, dk_p ▸ DGet.k (k := .inr "pins") gd2, ?_⟩
    walk_at "go"
    refine ⟨flat_ints _, ?_⟩
    rw [show inV (V.int x) (D.pins.map V.int) = decide (x ∈ D.pins) from inInt _ _]
    walk_at "go"
    refine ⟨D.d, _, rfl, dk_p ▸ DGet.k (k := .inr "pins") gd2, ?_⟩
    have lpp := ok.lp
    walk_at "go"
    refine ⟨⟨_, SqL.of gp2⟩, fun N1 nN => lc_list (K := K) (a := D.pa) (xs := D.pins.map V.int) (fun j H' => Ob (Same H2 H' ∧ H' N1 = some (.lst (((D.pins.take j).filter fun y => decide (y ≠ x)).map V.int)))) (ob ⟨same_upd nN, upd_same⟩) (fun j H' _ h => SqL.of ((unob h).1 _ _ gp2)) ?_ ?_⟩
    · intro j v H3 hv h
      obtain ⟨s3, g3⟩ := unob h
      clear h
      rw [List.getElem?_map] at hv
      obtain ⟨y, hy, rfl⟩ := Option.map_eq_some_iff.mp hv
      have enx : ((D.pins.take (j + 1)).filter fun y => decide (y ≠ x)) = ((D.pins.take j).filter fun y => decide (y ≠ x)) ++ [y].filter fun y => decide (y ≠ x) := by
        rw [List.take_add_one, hy, List.filter_append]
        rfl
      have ll : ((D.pins.take j).filter fun y => decide (y ≠ x)).length ≤ 1000 := Nat.le_trans (List.length_filter_le _ _) (by rw [List.length_take]; omega)
      have gr3 := s3 _ _ gr2
      walk_at "go"
      refine ⟨r, _, _, .int x, rfl, rfl, SqT.of gr3, atI_nat (j := 1) rfl, ?_⟩
      walk_at "go"
      refine ifNe (fun z => ?_) (fun z => ?_)
      · walk_at "go"
        refine ⟨_, g3, sz5 (by rw [List.length_map]; omega), ob ⟨same_put s3 nN, ?_⟩⟩
        have t1 : ([y].filter fun y => decide (y ≠ x)) = [y] := by
          rw [List.filter_cons_of_pos (by simpa using z)]
          rfl
        rw [enx, t1, List.map_append]
        exact upd_same
      · walk_at "go"
        refine ob ⟨s3, ?_⟩
        have t0 : ([y].filter fun y => decide (y ≠ x)) = [] := by
          rw [List.filter_cons_of_neg (by simpa using z)]
          rfl
        rw [enx, t0, List.append_nil]
        exact g3
    intro H3 h
    obtain ⟨s3, g3⟩ := unob h
    clear h
    rw [List.take_of_length_le (by rw [List.length_map]; exact Nat.le_refl _)] at g3
    have gr3 := s3 _ _ gr2
    have gd3 := s3 _ _ gd2
    have gk3 := s3 _ _ gk2
    have ge3 := s3 _ _ ge2
    have nd1 : D.d ≠ N1 := ne_of_none gd2 nN
    have nk1 : D.ka ≠ N1 := ne_of_none gk2 nN
    have ne1 : D.ea ≠ N1 := ne_of_none ge2 nN
    have np1 : D.pa ≠ N1 := ne_of_none gp2 nN
    walk_at "go"
    refine ⟨D.d, _, rfl, DPut.k (k := .inr "pins") gd3 (sz5 (by rw [dk_len]; omega)), ?_⟩
    rw [dk_pp]
    have b4 : ButL [D.d] H3 (upd H3 D.d (.dK (dkR D.ka D.ea N1 few most wd))) := ButL.put (by simp)
    have gd4 := upd_same (H := H3) (a := D.d) (o := HO.dK (dkR D.ka D.ea N1 few most wd))
    show _
    generalize upd H3 D.d (HO.dK (dkR D.ka D.ea N1 few most wd)) = H4 at *
    have gr4 := b4 _ _ (by simpa using nrd) gr3
    have gk4 := b4 _ _ (by simpa using e1.symm) gk3
    have ge4 := b4 _ _ (by simpa using e2.symm) ge3
    have g4 := b4 _ _ (by simpa using nd1.symm) g3
    have bb : ButL D.all H H4 := fun a u na e => by
      have na' : ∀ z ∈ D.fix, a ≠ z := fun z hz t => na (t ▸ List.mem_append_left _ hz)
      exact b4 _ _ (by simpa using na' D.d (by simp [DK.fix])) (s3 _ _ (b2 _ _ (by simpa using na' D.ea (by simp [DK.fix])) (b1 _ _ (by simpa using na' D.ka (by simp [DK.fix])) (st _ _ e))))
    have gc4 : ∀ z ∈ D.kn, H4 z.ad = some (.lst (z.by'.map V.int)) := fun z hz => b4 _ _ (by simpa using (e7 z hz).1) (s3 _ _ (b2 _ _ (by simpa using (e7 z hz).2.2.1) (b1 _ _ (by simpa using (e7 z hz).2.1) (st _ _ (hd.c z hz)))))
    have N0 : H N1 = none := by
      cases e : H N1 with
      | none => rfl
      | some u =>
        have t := b2 _ _ (by simpa using ne1.symm) (b1 _ _ (by simpa using nk1.symm) (st _ _ e))
        rw [nN] at t
        cases t
    have N1A : N1 ∉ D.all := fun z => hd.live N1 z N0
    have liveT : ∀ t2 : Addr, H4 t2 = none → H t2 = none := fun t2 n => by
      cases e : H t2 with
      | none => rfl
      | some u =>
        by_cases z1 : t2 = D.d
        · rw [z1, gd4] at n; cases n
        by_cases z2 : t2 = D.ka
        · rw [z2, gk4] at n; cases n
        by_cases z3 : t2 = D.ea
        · rw [z3, ge4] at n; cases n
        have t := b4 _ _ (by simpa using z1) (s3 _ _ (b2 _ _ (by simpa using z3) (b1 _ _ (by simpa using z2) (st _ _ e))))
        rw [n] at t
        cases t
    refine un ?_
    walk_at "go"
    refine ⟨r, _, _, .str "release", rfl, rfl, SqT.of gr4, atI_nat (j := 0) rfl, ?_⟩
    walk_at "go"
    refine ⟨sz, fun t2 n2 => ?_⟩
    have s5 := same_upd (o := HO.tup [V.str "gives", V.non]) n2
    have hd4 : DkAt H4 { D with pa := N1, kn := D.kn.filter (fun c => decide (c.st ≠ x)), en := D.en ++ [x], pins := D.pins.filter fun z => decide (z ≠ x) } few most wd := by
      refine ⟨gd4, gk4, ?_, g4, fun z hz => gc4 z (List.mem_filter.mp hz).1, dk_nd hd.nd rfl rfl rfl (.inr N1A) ((List.nodup_append.mp hd.nd).2.1.sublist ((List.filter_sublist).map _)) fun a ha => .inl ?_⟩
      · show H4 D.ea = some (.lst ((D.en ++ [x]).map V.int))
        rw [ge4, List.map_append]
        rfl
      · obtain ⟨z, hz, ez⟩ := List.mem_map.mp ha
        exact List.mem_map.mpr ⟨z, (List.mem_filter.mp hz).1, ez⟩
    have eks : ({ D with pa := N1, kn := D.kn.filter (fun c => decide (c.st ≠ x)), en := D.en ++ [x], pins := D.pins.filter fun z => decide (z ≠ x) } : DK).ks = (D.kn.filter (fun c => decide (c.st ≠ x))).map (·.st) := rfl
    refine q1 (fun _ z => by cases z; exact nk) { D with pa := N1, kn := D.kn.filter (fun c => decide (c.st ≠ x)), en := D.en ++ [x], pins := D.pins.filter fun z => decide (z ≠ x) } .non t2 _ ⟨hd4.same s5, ⟨?_, fun y hy => ?_, fun y hy => ?_, ?_, Nat.le_trans (List.length_filter_le _ _) ok.lk, fun c hc => ok.w c (List.mem_filter.mp hc).1, Nat.le_trans (Nat.succ_le_succ (List.length_filter_le _ _)) ok.lp, ok.pn.sublist List.filter_sublist, fun y hy => ?_⟩, mc_filt D.kn x, rfl, rfl, fun a ha => ?_, bb.trans (Same.but s5)⟩ (liveT _ n2) upd_same rfl (hc.keep (bb.trans (Same.but s5)).t nr ndr)
    · exact ok.nd.sublist ((List.filter_sublist).map _)
    · rcases List.mem_append.mp hy with z | z
      · exact ok.en y z
      · rw [List.mem_singleton.mp z]
        exact cok.1
    · rw [eks] at hy
      exact ok.ks y ((filt_st _ _ _).mp hy).1
    · show (D.en ++ [x]).length ≤ n + 1
      rw [List.length_append, List.length_singleton]
      omega
    · obtain ⟨h1, h2⟩ := List.mem_filter.mp hy
      rw [eks]
      exact (filt_st _ _ _).mpr ⟨ok.pk y h1, of_decide_eq_true h2⟩
    · rcases List.mem_append.mp ha with z | z
      · have z : a ∈ [D.d, D.ka, D.ea, N1] := z
        simp only [List.mem_cons, List.not_mem_nil, or_false] at z
        rcases z with z | z | z | z
        · exact .inl (z ▸ List.mem_append_left _ (by simp [DK.fix]))
        · exact .inl (z ▸ List.mem_append_left _ (by simp [DK.fix]))
        · exact .inl (z ▸ List.mem_append_left _ (by simp [DK.fix]))
        · exact .inr (z ▸ N0)
      · obtain ⟨y, hy, ey⟩ := List.mem_map.mp z
        exact .inl (List.mem_append_right _ (List.mem_map.mpr ⟨y, (List.mem_filter.mp hy).1, ey⟩))
  | ren x y =>
    have gr : H r = some (.tup [.str "rename", .int x, .int y]) := hc.g
    walk_at "go"
    refine un ?_
    walk_at "go"
    refine ⟨r, _, _, .str "rename", rfl, rfl, SqT.of gr, atI_nat (j := 0) rfl, ?_⟩
    walk_at "go"
    refine un ?_
    walk_at "go"
    refine ⟨r, _, _, .str "rename", rfl, rfl, SqT.of gr, atI_nat (j := 0) rfl, ?_⟩
    walk_at "go"
    walk_at "go"
    refine ⟨r, _, _, .int x, rfl, rfl, SqT.of gr, atI_nat (j := 1) rfl, ?_⟩
    walk_at "go"
    refine ⟨D.ka, _, rfl, DGet.k (k := .inl x) gk, ?_⟩
    rw [cs_get]
    refine (Classical.em (x ∈ D.ks)).elim (fun nk => ?_) (fun nk => ?_)
    rotate_left
    · rw [decide_eq_false (show ¬ x ∈ D.kn.map (·.st) from nk)]
      walk_at "go"
      walk_at "go"
      refine ⟨r, _, _, .int x, rfl, rfl, SqT.of gr, atI_nat (j := 1) rfl, ?_⟩
      walk_at "go"
      refine ⟨sz, fun t1 n1 => ?_⟩
      have s1 := same_upd (o := HO.tup [V.int x]) n1
      have g1 := upd_same (H := H) (a := t1) (o := HO.tup [V.int x])
      show _
      generalize upd H t1 (HO.tup [V.int x]) = H4 at *
      walk_at "go"
      refine ⟨sz, fun t2 n2 => ?_⟩
      exact q2 x rfl nk _ _ (s1.trans (same_upd n2)) (s1.free n2) ⟨t2, _, rfl, upd_same, _, _, rfl, rfl, _, _, rfl, rfl, _, _, rfl, ⟨t1, _, rfl, same_upd n2 _ _ g1, _, _, rfl, rfl, rfl⟩, rfl⟩
    rw [decide_eq_true (show x ∈ D.kn.map (·.st) from nk)]
    walk_at "go"
    refine un ?_
    walk_at "go"
    refine ⟨r, _, _, .str "rename", rfl, rfl, SqT.of gr, atI_nat (j := 0) rfl, ?_⟩
    walk_at "go"
    refine un ?_
    walk_at "go"
    refine ⟨r, _, _, .str "rename", rfl, rfl, SqT.of gr, atI_nat (j := 0) rfl, ?_⟩
    walk_at "go"
    refine un ?_
    walk_at "go"
    refine ⟨r, _, _, .str "rename", rfl, rfl, SqT.of gr, atI_nat (j := 0) rfl, ?_⟩
    walk_at "go"
    refine un ?_
    walk_at "go"
    refine ⟨r, _, _, .str "rename", rfl, rfl, SqT.of gr, atI_nat (j := 0) rfl, ?_⟩
    walk_at "go"
    refine un ?_
    walk_at "go"
    refine ⟨r, _, _, .str "rename", rfl, rfl, SqT.of gr, atI_nat (j := 0) rfl, ?_⟩
    walk_at "go"
    obtain ⟨c0, hc0, e0⟩ := ks_get nk
    refine un ?_
    walk_at "go"
    refine ⟨r, _, _, .str "rename", rfl, rfl, SqT.of gr, atI_nat (j := 0) rfl, ?_⟩
    walk_at "go"
    refine ⟨sz, fun tt nt => ?_⟩
    have st := same_upd (o := HO.tup [V.str "rename", V.str "release"]) nt
    have gtt := upd_same (H := H) (a := tt) (o := HO.tup [V.str "rename", V.str "release"])
    show _
    generalize upd H tt (HO.tup [V.str "rename", V.str "release"]) = HT at *
    walk_at "go"
    have gc : valV (D.kn.map Cont.row) (.inl x) = some (.ref c0.ad) := by
      rw [← e0]
      exact dk_at hc0 ok.nd
    obtain ⟨e1, e2, e3, e4, e5, e6, e7⟩ := hd.fne
    have hdT := hd.same st
    have grT : HT r = some (.tup [.str "rename", .int x, .int y]) := st _ _ gr
    have gkT := hdT.k
    refine ⟨.inl ⟨_, .inl gkT⟩, ?_⟩
    walk_at "go"
    refine ⟨r, _, _, .int x, rfl, rfl, SqT.of grT, atI_nat (j := 1) rfl, ?_⟩
    walk_at "go"
    refine ⟨_, .inl x, _, gkT, rfl, gc, ?_⟩
    rw [cs_drop]
    have b1 : ButL [D.ka] HT (upd HT D.ka (.dK ((D.kn.filter fun c => decide (c.st ≠ x)).map Cont.row))) := ButL.put (by simp)
    have gk1 := upd_same (H := HT) (a := D.ka) (o := HO.dK ((D.kn.filter fun c => decide (c.st ≠ x)).map Cont.row))
    show _
    generalize upd HT D.ka (HO.dK ((D.kn.filter fun c => decide (c.st ≠ x)).map Cont.row)) = H1 at *
    have nrk : r ≠ D.ka := fun z => nr (z ▸ List.mem_append_left _ (by simp [DK.fix]))
    have nre : r ≠ D.ea := fun z => nr (z ▸ List.mem_append_left _ (by simp [DK.fix]))
    have nrd : r ≠ D.d := fun z => nr (z ▸ List.mem_append_left _ (by simp [DK.fix]))
    have gr1 : H1 r = some (.tup [.str "rename", .int x, .int y]) := b1 _ _ (by simpa using nrk) grT
    have gd1 := b1 _ _ (by simpa using e1) hdT.g
    have ge1 := b1 _ _ (by simpa using e4.symm) hdT.e
    have gp1 := b1 _ _ (by simpa using e5.symm) hdT.p
    walk_at "go"
    refine ⟨D.d, _, rfl, dk_e ▸ DGet.k (k := .inr "ended") gd1, ?_⟩
    walk_at "go"
    refine ⟨r, _, _, .int x, rfl, rfl, SqT.of gr1, atI_nat (j := 1) rfl, ?_⟩
    walk_at "go"
    have lle := ok.le
    refine ⟨D.ea, _, _, rfl, rfl, ge1, sz5 (by rw [List.length_map]; omega), ?_⟩
    have b2 : ButL [D.ea] H1 (upd H1 D.ea (.lst (D.en.map V.int ++ [V.int x]))) := ButL.put (by simp)
    have ge2 := upd_same (H := H1) (a := D.ea) (o := HO.lst (D.en.map V.int ++ [V.int x]))
    show _
    generalize upd H1 D.ea (HO.lst (D.en.map V.int ++ [V.int x])) = H2 at *
    have gr2 := b2 _ _ (by simpa using nre) gr1
    have gd2 := b2 _ _ (by simpa using e2) gd1
    have gk2 := b2 _ _ (by simpa using e4) gk1
    have gp2 := b2 _ _ (by simpa using e6.symm) gp1
    walk_at "go"
    refine ⟨r, _, _, .int x, rfl, rfl, SqT.of gr2, atI_nat (j := 1) rfl, ?_⟩
    walk_at "go"
    refine ⟨D.d, _, rfl, dk_p ▸ DGet.k (k := .inr "pins") gd2, ?_⟩
    walk_at "go"
    refine ⟨flat_ints _, ?_⟩
    rw [show inV (V.int x) (D.pins.map V.int) = decide (x ∈ D.pins) from inInt _ _]
    walk_at "go"
    refine ⟨D.d, _, rfl, dk_p ▸ DGet.k (k := .inr "pins") gd2, ?_⟩
    have lpp := ok.lp
    walk_at "go"
    refine ⟨⟨_, SqL.of gp2⟩, fun N1 nN => lc_list (K := K) (a := D.pa) (xs := D.pins.map V.int) (fun j H' => Ob (Same H2 H' ∧ H' N1 = some (.lst (((D.pins.take j).filter fun y => decide (y ≠ x)).map V.int)))) (ob ⟨same_upd nN, upd_same⟩) (fun j H' _ h => SqL.of ((unob h).1 _ _ gp2)) ?_ ?_⟩
    · intro j v H3 hv h
      obtain ⟨s3, g3⟩ := unob h
      clear h
      rw [List.getElem?_map] at hv
      obtain ⟨y, hy, rfl⟩ := Option.map_eq_some_iff.mp hv
      have enx : ((D.pins.take (j + 1)).filter fun y => decide (y ≠ x)) = ((D.pins.take j).filter fun y => decide (y ≠ x)) ++ [y].filter fun y => decide (y ≠ x) := by
        rw [List.take_add_one, hy, List.filter_append]
        rfl
      have ll : ((D.pins.take j).filter fun y => decide (y ≠ x)).length ≤ 1000 := Nat.le_trans (List.length_filter_le _ _) (by rw [List.length_take]; omega)
      have gr3 := s3 _ _ gr2
      walk_at "go"
      refine ⟨r, _, _, .int x, rfl, rfl, SqT.of gr3, atI_nat (j := 1) rfl, ?_⟩
      walk_at "go"
      refine ifNe (fun z => ?_) (fun z => ?_)
      · walk_at "go"
        refine ⟨_, g3, sz5 (by rw [List.length_map]; omega), ob ⟨same_put s3 nN, ?_⟩⟩
        have t1 : ([y].filter fun y => decide (y ≠ x)) = [y] := by
          rw [List.filter_cons_of_pos (by simpa using z)]
          rfl
        rw [enx, t1, List.map_append]
        exact upd_same
      · walk_at "go"
        refine ob ⟨s3, ?_⟩
        have t0 : ([y].filter fun y => decide (y ≠ x)) = [] := by
          rw [List.filter_cons_of_neg (by simpa using z)]
          rfl
        rw [enx, t0, List.append_nil]
        exact g3
    intro H3 h
    obtain ⟨s3, g3⟩ := unob h
    clear h
    rw [List.take_of_length_le (by rw [List.length_map]; exact Nat.le_refl _)] at g3
    have gr3 := s3 _ _ gr2
    have gd3 := s3 _ _ gd2
    have gk3 := s3 _ _ gk2
    have ge3 := s3 _ _ ge2
    have nd1 : D.d ≠ N1 := ne_of_none gd2 nN
    have nk1 : D.ka ≠ N1 := ne_of_none gk2 nN
    have ne1 : D.ea ≠ N1 := ne_of_none ge2 nN
    have np1 : D.pa ≠ N1 := ne_of_none gp2 nN
    walk_at "go"
    refine ⟨D.d, _, rfl, DPut.k (k := .inr "pins") gd3 (sz5 (by rw [dk_len]; omega)), ?_⟩
    rw [dk_pp]
    have b4 : ButL [D.d] H3 (upd H3 D.d (.dK (dkR D.ka D.ea N1 few most wd))) := ButL.put (by simp)
    have gd4 := upd_same (H := H3) (a := D.d) (o := HO.dK (dkR D.ka D.ea N1 few most wd))
    show _
    generalize upd H3 D.d (HO.dK (dkR D.ka D.ea N1 few most wd)) = H4 at *
    have gr4 := b4 _ _ (by simpa using nrd) gr3
    have gk4 := b4 _ _ (by simpa using e1.symm) gk3
    have ge4 := b4 _ _ (by simpa using e2.symm) ge3
    have g4 := b4 _ _ (by simpa using nd1.symm) g3
    have bb : ButL D.all H H4 := fun a u na e => by
      have na' : ∀ z ∈ D.fix, a ≠ z := fun z hz t => na (t ▸ List.mem_append_left _ hz)
      exact b4 _ _ (by simpa using na' D.d (by simp [DK.fix])) (s3 _ _ (b2 _ _ (by simpa using na' D.ea (by simp [DK.fix])) (b1 _ _ (by simpa using na' D.ka (by simp [DK.fix])) (st _ _ e))))
    have gc4 : ∀ z ∈ D.kn, H4 z.ad = some (.lst (z.by'.map V.int)) := fun z hz => b4 _ _ (by simpa using (e7 z hz).1) (s3 _ _ (b2 _ _ (by simpa using (e7 z hz).2.2.1) (b1 _ _ (by simpa using (e7 z hz).2.1) (st _ _ (hd.c z hz)))))
    have N0 : H N1 = none := by
      cases e : H N1 with
      | none => rfl
      | some u =>
        have t := b2 _ _ (by simpa using ne1.symm) (b1 _ _ (by simpa using nk1.symm) (st _ _ e))
        rw [nN] at t
        cases t
    have N1A : N1 ∉ D.all := fun z => hd.live N1 z N0
    have liveT : ∀ t2 : Addr, H4 t2 = none → H t2 = none := fun t2 n => by
      cases e : H t2 with
      | none => rfl
      | some u =>
        by_cases z1 : t2 = D.d
        · rw [z1, gd4] at n; cases n
        by_cases z2 : t2 = D.ka
        · rw [z2, gk4] at n; cases n
        by_cases z3 : t2 = D.ea
        · rw [z3, ge4] at n; cases n
        have t := b4 _ _ (by simpa using z1) (s3 _ _ (b2 _ _ (by simpa using z3) (b1 _ _ (by simpa using z2) (st _ _ e))))
        rw [n] at t
        cases t
    refine un ?_
    walk_at "go"
    refine ⟨r, _, _, .str "rename", rfl, rfl, SqT.of gr4, atI_nat (j := 0) rfl, ?_⟩
    walk_at "go"
    walk_at "go"
    refine ⟨r, _, _, .int y, rfl, rfl, SqT.of gr4, atI_nat (j := 2) rfl, ?_⟩
    walk_at "go"
    have lk := ok.lk
    have lf : (D.kn.filter fun c => decide (c.st ≠ x)).length ≤ 60 := Nat.le_trans (List.length_filter_le _ _) (by omega)
    refine ⟨D.ka, _, rfl, DPut.k (k := .inl y) gk4 (sz5 (by rw [List.length_map]; omega)), ?_⟩
    have yn : y ∉ D.ks := cok.1.2.1
    have yn2 : y ∉ (D.kn.filter fun c => decide (c.st ≠ x)).map (·.st) := fun z => yn ((filt_st _ _ _).mp z).1
    rw [cs_put (c := Cont.mk y c0.ad c0.by') yn2]
    have b5 : ButL [D.ka] H4 (upd H4 D.ka (.dK ((D.kn.filter (fun c => decide (c.st ≠ x)) ++ [Cont.mk y c0.ad c0.by']).map Cont.row))) := ButL.put (by simp)
    have gk5 := upd_same (H := H4) (a := D.ka) (o := HO.dK ((D.kn.filter (fun c => decide (c.st ≠ x)) ++ [Cont.mk y c0.ad c0.by']).map Cont.row))
    show _
    generalize upd H4 D.ka (HO.dK ((D.kn.filter (fun c => decide (c.st ≠ x)) ++ [Cont.mk y c0.ad c0.by']).map Cont.row)) = H5 at *
    have gr5 := b5 _ _ (by simpa using nrk) gr4
    have gd5 := b5 _ _ (by simpa using e1) gd4
    have ge5 := b5 _ _ (by simpa using e4.symm) ge4
    have g5 := b5 _ _ (by simpa using nk1.symm) g4
    have hd5 : DkAt H5 { D with pa := N1, kn := D.kn.filter (fun c => decide (c.st ≠ x)) ++ [Cont.mk y c0.ad c0.by'], en := D.en ++ [x], pins := D.pins.filter fun z => decide (z ≠ x) } few most wd := by
      refine ⟨gd5, gk5, ?_, g5, fun z hz => ?_, dk_nd hd.nd rfl rfl rfl (.inr N1A) ?_ fun a ha => .inl ?_⟩
      · show H5 D.ea = some (.lst ((D.en ++ [x]).map V.int))
        rw [ge5, List.map_append]
        rfl
      · rcases List.mem_append.mp hz with t | t
        · have t1 := (List.mem_filter.mp t).1
          exact b5 _ _ (by simpa using (e7 z t1).2.1) (gc4 z t1)
        · rw [List.mem_singleton.mp t]
          exact b5 _ _ (by simpa using (e7 c0 hc0).2.1) (gc4 c0 hc0)
      · have cn := (List.nodup_append.mp hd.nd).2.1
        show ((D.kn.filter (fun c => decide (c.st ≠ x)) ++ [Cont.mk y c0.ad c0.by']).map (·.ad)).Nodup
        rw [List.map_append]
        refine List.nodup_append.mpr ⟨cn.sublist ((List.filter_sublist).map _), by simp, fun a ha b hb z => ?_⟩
        have hb : b ∈ [c0.ad] := hb
        rw [List.mem_singleton.mp hb] at z
        obtain ⟨d, hdd, e⟩ := List.mem_map.mp ha
        obtain ⟨d1, d2⟩ := List.mem_filter.mp hdd
        have := ad_inj cn d1 hc0 (e.trans z)
        exact of_decide_eq_true d2 (by rw [this, e0])
      · have ha : a ∈ (D.kn.filter (fun c => decide (c.st ≠ x)) ++ [Cont.mk y c0.ad c0.by']).map (·.ad) := ha
        rw [List.map_append] at ha
        rcases List.mem_append.mp ha with t | t
        · obtain ⟨z, hz, ez⟩ := List.mem_map.mp t
          exact List.mem_map.mpr ⟨z, (List.mem_filter.mp hz).1, ez⟩
        · have t : a ∈ [c0.ad] := t
          rw [List.mem_singleton.mp t]
          exact List.mem_map.mpr ⟨c0, hc0, rfl⟩
    have nrN : r ≠ N1 := fun z => by
      rw [z, N0] at gr
      cases gr
    have fin : ∀ H6, DkAt H6 { D with pa := N1, kn := D.kn.filter (fun c => decide (c.st ≠ x)) ++ [Cont.mk y c0.ad c0.by'], en := D.en ++ [x], pins := doP D.pins (.ren x y) } few most wd → ButL [N1] H5 H6 → ∀ t2, H6 t2 = none → Q (.ref t2) (upd H6 t2 (.tup [.str "gives", .non])) := fun H6 hd6 b6 t2 n2 => by
      have s7 := same_upd (o := HO.tup [V.str "gives", V.non]) n2
      have bb6 : ButL D.all H H6 := fun a u na e => by
        have t := bb a u na e
        exact b6 _ _ (by
          simp only [List.mem_singleton]
          intro z
          rw [z, N0] at e
          cases e) (b5 _ _ (by simpa using fun z : a = D.ka => na (z ▸ List.mem_append_left _ (by simp [DK.fix]))) t)
      have n0 : H t2 = none := by
        refine liveT _ ?_
        cases e : H4 t2 with
        | none => rfl
        | some u =>
          by_cases z1 : t2 = D.ka
          · rw [z1] at n2
            exact absurd n2 (live_of hd6.k)
          by_cases z2 : t2 = N1
          · rw [z2] at n2
            exact absurd n2 (live_of hd6.p)
          rw [b6 _ _ (by simpa using z2) (b5 _ _ (by simpa using z1) e)] at n2
          cases n2
      have eks : ({ D with pa := N1, kn := D.kn.filter (fun c => decide (c.st ≠ x)) ++ [Cont.mk y c0.ad c0.by'], en := D.en ++ [x], pins := doP D.pins (.ren x y) } : DK).ks = (D.kn.filter (fun c => decide (c.st ≠ x))).map (·.st) ++ [y] := by
        show (D.kn.filter (fun c => decide (c.st ≠ x)) ++ [Cont.mk y c0.ad c0.by']).map (·.st) = _
        rw [List.map_append]
        rfl
      have fl := filt_len (cs := D.kn) (c := c0) ok.nd hc0
      rw [e0] at fl
      have lpp := ok.lp
      have yp : y ∉ D.pins := fun z => yn (ok.pk y z)
      have plen : (doP D.pins (.ren x y)).length + 1 ≤ few := by
        show ((D.pins.filter fun z => decide (z ≠ x)) ++ (if x ∈ D.pins then [y] else [])).length + 1 ≤ few
        rw [List.length_append]
        have h1 := List.length_filter_le (fun z => decide (z ≠ x)) D.pins
        split
        · next c =>
          have := nd_len (l := x :: D.pins.filter fun z => decide (z ≠ x)) (m := D.pins) (List.nodup_cons.mpr ⟨fun t => of_decide_eq_true (List.mem_filter.mp t).2 rfl, ok.pn.sublist List.filter_sublist⟩) fun z hz => by
            rcases List.mem_cons.mp hz with t | t
            · exact t ▸ c
            · exact (List.mem_filter.mp t).1
          rw [List.length_cons] at this
          rw [List.length_singleton]
          omega
        · rw [List.length_nil]
          omega
      refine q1 (fun _ z => by cases z; exact nk) { D with pa := N1, kn := D.kn.filter (fun c => decide (c.st ≠ x)) ++ [Cont.mk y c0.ad c0.by'], en := D.en ++ [x], pins := doP D.pins (.ren x y) } .non t2 _ ⟨hd6.same s7, ⟨?_, fun z hz => ?_, fun z hz => ?_, ?_, ?_, fun z hz => ?_, plen, ?_, fun z hz => ?_⟩, ?_, rfl, rfl, fun a ha => ?_, bb6.trans (Same.but s7)⟩ n0 upd_same rfl (hc.keep (bb6.trans (Same.but s7)).t nr ndr)
      · rw [eks]
        exact List.nodup_append.mpr ⟨ok.nd.sublist ((List.filter_sublist).map _), by simp, fun a ha b hb z => yn2 (by rw [← List.mem_singleton.mp hb, ← z]; exact ha)⟩
      · rcases List.mem_append.mp hz with t | t
        · exact ok.en z t
        · rw [List.mem_singleton.mp t]
          exact cok.1.1
      · rw [eks] at hz
        rcases List.mem_append.mp hz with t | t
        · exact ok.ks z ((filt_st _ _ _).mp t).1
        · rw [List.mem_singleton.mp t]
          exact cok.1.2.2
      · show (D.en ++ [x]).length ≤ n + 1
        rw [List.length_append, List.length_singleton]
        omega
      · show (D.kn.filter (fun c => decide (c.st ≠ x)) ++ [Cont.mk y c0.ad c0.by']).length ≤ most
        rw [List.length_append, List.length_singleton]
        omega
      · rcases List.mem_append.mp hz with t | t
        · exact ok.w z (List.mem_filter.mp t).1
        · rw [List.mem_singleton.mp t]
          exact ok.w c0 hc0
      · show ((D.pins.filter fun z => decide (z ≠ x)) ++ (if x ∈ D.pins then [y] else [])).Nodup
        split
        · exact List.nodup_append.mpr ⟨ok.pn.sublist List.filter_sublist, by simp, fun a ha b hb z => yp (by rw [← List.mem_singleton.mp hb, ← z]; exact (List.mem_filter.mp ha).1)⟩
        · rw [List.append_nil]
          exact ok.pn.sublist List.filter_sublist
      · have hz : z ∈ (D.pins.filter fun z => decide (z ≠ x)) ++ (if x ∈ D.pins then [y] else []) := hz
        rw [eks]
        rcases List.mem_append.mp hz with t | t
        · obtain ⟨h1, h2⟩ := List.mem_filter.mp t
          exact List.mem_append_left _ ((filt_st _ _ _).mpr ⟨ok.pk z h1, of_decide_eq_true h2⟩)
        · split at t
          · exact List.mem_append_right _ t
          · cases t
      · show (D.kn.filter (fun c => decide (c.st ≠ x)) ++ [Cont.mk y c0.ad c0.by']).map _ = D.m.filter _ ++ [(y, getM D.m x)]
        rw [List.map_append, mc_filt, ← e0, show getM D.m c0.st = c0.by' from get_mc hc0 ok.nd]
        rfl
      · rcases List.mem_append.mp ha with z | z
        · have z : a ∈ [D.d, D.ka, D.ea, N1] := z
          simp only [List.mem_cons, List.not_mem_nil, or_false] at z
          rcases z with z | z | z | z
          · exact .inl (z ▸ List.mem_append_left _ (by simp [DK.fix]))
          · exact .inl (z ▸ List.mem_append_left _ (by simp [DK.fix]))
          · exact .inl (z ▸ List.mem_append_left _ (by simp [DK.fix]))
          · exact .inr (z ▸ N0)
        · have z : a ∈ (D.kn.filter (fun c => decide (c.st ≠ x)) ++ [Cont.mk y c0.ad c0.by']).map (·.ad) := z
          rw [List.map_append] at z
          rcases List.mem_append.mp z with t | t
          · obtain ⟨y, hy, ey⟩ := List.mem_map.mp t
            exact .inl (List.mem_append_right _ (List.mem_map.mpr ⟨y, (List.mem_filter.mp hy).1, ey⟩))
          · have t : a ∈ [c0.ad] := t
            rw [List.mem_singleton.mp t]
            exact .inl (List.mem_append_right _ (List.mem_map.mpr ⟨c0, hc0, rfl⟩))
    by_cases pk : x ∈ D.pins
    · rw [decide_eq_true pk]
      refine un ?_
      walk_at "go"
      refine ⟨D.d, _, rfl, dk_p ▸ DGet.k (k := .inr "pins") gd5, ?_⟩
      walk_at "go"
      refine ⟨r, _, _, .int y, rfl, rfl, SqT.of gr5, atI_nat (j := 2) rfl, ?_⟩
      walk_at "go"
      refine ⟨N1, _, _, rfl, rfl, g5, sz5 (by rw [List.length_map]; have := List.length_filter_le (fun z => decide (z ≠ x)) D.pins; omega), ?_⟩
      have hd6 : DkAt (upd H5 N1 (.lst ((D.pins.filter fun z => decide (z ≠ x)).map V.int ++ [V.int y]))) { D with pa := N1, kn := D.kn.filter (fun c => decide (c.st ≠ x)) ++ [Cont.mk y c0.ad c0.by'], en := D.en ++ [x], pins := doP D.pins (.ren x y) } few most wd := by
        have ed : doP D.pins (.ren x y) = (D.pins.filter fun z => decide (z ≠ x)) ++ [y] := by
          show _ ++ (if x ∈ D.pins then [y] else []) = _
          rw [if_pos pk]
        rw [ed]
        have b6 : ButL [N1] H5 (upd H5 N1 (.lst ((D.pins.filter fun z => decide (z ≠ x)).map V.int ++ [V.int y]))) := ButL.put (by simp)
        have hn5 := hd5.fne
        obtain ⟨_, _, q3, _, q5, q6, q7⟩ := hn5
        refine ⟨b6 _ _ (by simpa using q3) hd5.g, b6 _ _ (by simpa using q5) hd5.k, b6 _ _ (by simpa using q6) hd5.e, ?_, fun z hz => b6 _ _ (by simpa using (q7 z hz).2.2.2) (hd5.c z hz), hd5.nd⟩
        show upd H5 N1 _ N1 = some (.lst (((D.pins.filter fun z => decide (z ≠ x)) ++ [y]).map V.int))
        rw [upd_same, List.map_append]
        rfl
      exact ⟨sz, fun t2 n2 => fin _ hd6 (ButL.put (by simp)) t2 n2⟩
    · rw [decide_eq_false pk]
      refine un ?_
      walk_at "go"
      have ed : doP D.pins (.ren x y) = D.pins.filter fun z => decide (z ≠ x) := by
        show _ ++ (if x ∈ D.pins then [y] else []) = _
        rw [if_neg pk, List.append_nil]
      exact ⟨sz, fun t2 n2 => fin H5 (ed.symm ▸ hd5) ButL.refl t2 n2⟩
end

end

section

-- a condition of an operator
local macro_rules | `(tactic| walk_at "cond") => `(tactic| first
  | (show (0 : Int) < _; omega)
  | (show CDiv _ _; constructor <;> (first | decide | omega))
  | (show CMul _ _; first | (refine cmul_l ?_; constructor <;> (first | decide | omega)) | (refine cmul_r ?_; constructor <;> (first | decide | omega)))
  | (show CPow _ _; exact (by refine ⟨by decide, by decide, by decide⟩))
  | (show CDivW _ _; exact ⟨by decide, by decide +kernel⟩))
local macro_rules | `(tactic| walk_at "sq") => `(tactic| first | assumption | exact Dh.mono (same_upd (by assumption)) _ _ (by assumption) | exact .inl (.inl (.inl (by assumption))) | exact .inr (.inl (.inl (by assumption))) | exact SqL.of (by assumption) | exact .inl (by assumption) | exact .inl (SqL.of (by assumption)) | exact SqT.of (by assumption) | exact .inr (SqT.of (by assumption)))
local macro_rules | `(tactic| walk_at "st") => `(tactic| first
  | refine ⟨_, rfl, ?_⟩
  | refine ⟨_, _, rfl, rfl, ?_⟩
  | refine .inl ⟨_, rfl, ?_⟩
  | refine ⟨rfl, ?_⟩
  | refine ⟨_, _, rfl, by walk_at "sq", ?_⟩
  | refine ⟨.inl ⟨rfl, _, SqL.of (by assumption)⟩, ?_⟩
  | refine ⟨by walk_at "cond", ?_⟩
  | (refine' ifBT ?hh ?_; (case hh => first | rfl | assumption))
  | (refine' ifBF ?hh ?_; (case hh => first | rfl | assumption)))
local macro_rules | `(tactic| walk_at "go") => `(tactic| repeat walk_at "st")
local macro_rules | `(tactic| walk_at "yes") => `(tactic| (refine' ifT ?hh ?_; (case hh => first | rfl | decide +kernel)))
local macro_rules | `(tactic| walk_at "no") => `(tactic| (refine' ifF ?hh ?_; (case hh => first | decide +kernel | (intro z; cases z; done))))

local macro_rules | `(tactic| walk_at "st") => `(tactic| refine ⟨_, _, _, _, _, rfl, by assumption, by assumption, by omega, by omega, by omega, by omega, by omega, ?_⟩)
local macro_rules | `(tactic| walk_at "st") => `(tactic| refine ⟨_, _, _, _, _, rfl, Same.seq (by assumption) (by assumption), by assumption, by omega, by omega, by omega, by omega, by omega, ?_⟩)

/-! ### _law_content_step -/
abbrev s_content_step : Stmt := topS 25
theorem sc_content_step : FnScope ["_law_script", "_law_at", "_law_pager", "_law_desk", "_law_call", "_law_due", "_law_told", "_law_known", "_law_stamp"] ["_law_script", "_law_at", "_law_pager", "_law_desk"] (C8.fnScope s_content_step) := C8.fnScope_by (by decide +kernel)
structure Pr (C : GC) (k : GK) (A : GA) (S : GS) (D : DK) (few most wd n b : Nat) (H : Hp) : Prop where
  at_ : PgAt C H A k S
  gi : GI k S D.pins
  bd : Bd S b
  dk : DkAt H D few most wd
  ok : DkOk D few most wd n
  m : mc S = D.m
  dj : ∀ a ∈ A.all S.cs, a ∉ D.all
  fr : k.n = few
  rm : k.room = most
  sz : k.size = wd
def fp (A : GA) (S : GS) (D : DK) : List Addr := A.all S.cs ++ D.all
structure PrTo (C : GC) (PT : Addr) (k : GK) (A : GA) (S : GS) (D : DK) (few most wd n b : Nat) (H : Hp) (A' : GA) (S' : GS) (D' : DK) (H' : Hp) : Prop where
  pr : Pr C k A' S' D' few most wd n b H'
  p : A'.p = A.p
  d : D'.d = D.d
  bt : ButT (fp A S D) H H'
  ad : ∀ a ∈ fp A' S' D', a ∈ fp A S D ∨ NewA H a
  tb : Tabs (chT PT) H'
def spCs (K : PySem.W.Frag) (C : GC) (PT : Addr) : Sp := fun vs H Q _ => ∃ (a : Addr) (ns : List Int) (i : Int) (A : GA) (k : GK) (S : GS) (D : DK) (few most wd n b : Nat), vs = [.ref a, .int i, .ref A.p, .ref D.d] ∧ (∀ H', ButT (fp A S D) H H' → SqL K H' a (ns.map V.int)) ∧ ns.length ≤ 63 ∧ 0 ≤ i ∧ i ≤ 1000 ∧ Pr C k A S D few most wd n b H ∧ Tabs (chT PT) H ∧ n + 1 ≤ 1000 ∧ b ≤ 50000 ∧ most ≤ 60 ∧ few ≤ 60 ∧ 1 ≤ wd ∧ wd ≤ 16 ∧
  ∀ A' S' D' H', PrTo C PT k A S D few most wd (n + 1) (b + 7) H A' S' D' H' → Q (.bl true) H'
def PCall.nm : PCall → Str
  | .beg _ => "begin"
  | .dup _ _ => "duplicate"
  | .ren _ _ => "rename"
  | .sto _ _ _ _ => "store"
  | .rd _ _ _ => "read"
  | .rel _ => "release"
  | .brg _ => "bring"
  | .put _ => "put_out"
  | .pin _ => "pin"
  | .unp => "unpin"
theorem PCall.vs_nm (c : PCall) : ∃ us, c.vs = .str c.nm :: us := by
  cases c <;> exact ⟨_, rfl⟩
theorem PCall.put_of {c : PCall} (h : c.nm = ("put_out" : Str)) : ∃ x, c = .put x := by
  cases c
  case put x => exact ⟨x, rfl⟩
  all_goals (simp only [PCall.nm] at h; exact absurd h (by decide +kernel))
/-- what is compared behind a call -/
def Cmp (c : PCall) (pins : List Int) (H : Hp) (dv tv : V) : Prop := (∃ x, Dh H (nsD x) dv ∧ Dh H (nsD x) tv) ∨
  (∃ x bb t t2, c = .put x ∧ dv = .ref t ∧ tv = .ref t2 ∧ H t = some (.tup [.str "gives", .non]) ∧ H t2 = some (.tup [.str "gives", .bl bb]) ∧ (bb = true → x ∉ pins)) ∨
  ((∀ x, c ≠ .put x) ∧ ∃ e t t2, Dle 2 e ∧ dv = .ref t ∧ tv = .ref t2 ∧ Dh H (.tuple [.str "gives", e]) dv ∧ Dh H (.tuple [.str "gives", e]) tv)
theorem cutV_map (L : List Int) (a c : Option Int) : ∃ L' : List Int, cutV (L.map V.int) a c = L'.map V.int ∧ L'.length ≤ L.length := by
  unfold cutV
  rw [List.length_map]
  refine ⟨(L.drop (HT.sIx L.length 0 a)).take (HT.sIx L.length L.length c - HT.sIx L.length 0 a), by rw [List.map_take, List.map_drop], ?_⟩
  rw [List.length_take, List.length_drop]
  omega
theorem get_le {M : List (Int × List Int)} {x : Int} {n : Nat} (h : ∀ p ∈ M, p.2.length ≤ n) : (getM M x).length ≤ n := by
  unfold getM
  cases e : M.find? fun p => decide (p.1 = x) with
  | none => exact Nat.zero_le _
  | some p => exact h p (List.mem_of_find?_eq_some e)
theorem gv {H : Hp} {t : Addr} {v : V} {e : PyData} (g : H t = some (.tup [.str "gives", v])) (h : Dh H e v) : Dh H (.tuple [.str "gives", e]) (.ref t) := ⟨t, _, rfl, g, _, _, rfl, rfl, _, _, rfl, h, rfl⟩
theorem cmp_live {c : PCall} {M : List (Int × List Int)} {pins pins' : List Int} {L : List Addr} {H1 H2 H3 H4 : Hp} {v v2 : V} {t t2 : Addr} (hM : ∀ p ∈ M, p.2.length ≤ 16) (du : DueV M H1 H2 v c) (tl : TellV M pins H2 H3 L v2 c) (g : H4 t = some (.tup [.str "gives", v])) (g2 : H4 t2 = some (.tup [.str "gives", v2])) (hp : pins' = doP pins c)
    (kq : ∀ q us, H1 q = none → H2 q = some (.lst us) → H4 q = some (.lst us)) (s : Same H3 H4) : Cmp c pins' H4 (.ref t) (.ref t2) := by
  cases c
  case rd x o l =>
    obtain ⟨q, rfl, q0, gq⟩ := du
    obtain ⟨a', rfl, _, _, ga⟩ := tl
    obtain ⟨L', e, le⟩ := cutV_map (getM M x) (some o) (some (o + l))
    rw [e] at gq ga
    have := get_le (M := M) (x := x) hM
    exact .inr (.inr ⟨fun x z => (by cases z), .list (L'.map PyData.int), t, t2, dle_li (n := 0) (by omega), rfl, rfl, gv g (dh_li (kq q _ q0 gq)), gv g2 (dh_li (s _ _ ga))⟩)
  case put x =>
    obtain ⟨bb, rfl, hb⟩ := tl
    have dv : v = .non := du
    subst dv
    exact .inr (.inl ⟨x, bb, t, t2, rfl, rfl, rfl, g, g2, by rw [hp]; exact hb⟩)
  all_goals
    have d1 : v = .non := du
    have d2 : v2 = .non := tl
    subst d1
    subst d2
    exact .inr (.inr ⟨fun x z => (by cases z), .none, t, t2, trivial, rfl, rfl, gv g rfl, gv g2 rfl⟩)
theorem jnA {a b : TS} {D : Ends} {σ : L2.St} {H : Hp} (M : L2.St → Hp → Prop) (h2 : ∀ σ H, M σ H → b D σ H) (h1 : ∀ N : L2.St → Hp → Prop, (∀ σ H, M σ H → N σ H) → a { D with nx := N } σ H) : tSeq a b D σ H := h1 (b D) h2
section
variable {C : GC} {PT : Addr} {k : GK} {A A' : GA} {S S' : GS} {D D' : DK} {few most wd n b : Nat} {H H' : Hp}
theorem mc_ks (h : mc S = D.m) : S.cs.map (·.st) = D.ks := by
  have := congrArg (List.map (·.1)) h
  rw [mc_st] at this
  rw [this]
  unfold DK.m DK.ks
  rw [List.map_map]
  rfl
theorem Pr.ks (h : Pr C k A S D few most wd n b H) : S.cs.map (·.st) = D.ks := mc_ks h.m
theorem Pr.len (h : Pr C k A S D few most wd n b H) : S.cs.length = D.kn.length := by
  have := congrArg List.length h.ks
  unfold DK.ks at this
  rw [List.length_map, List.length_map] at this
  exact this
theorem Pr.by' (h : Pr C k A S D few most wd n b H) : ∀ d ∈ S.cs, d.by'.length = wd := fun d hd => by
  have : (d.st, d.by') ∈ D.m := h.m ▸ List.mem_map.mpr ⟨d, hd, rfl⟩
  obtain ⟨c, hc, e⟩ := List.mem_map.mp this
  rw [← h.ok.w c hc, show c.by' = d.by' from congrArg Prod.snd e]
end
section
variable {P : Program} {w : World} {K : PySem.W.Frag} {mg : Str → Option Value} {base : Heap} {C : GC} {PT D2 U : Addr}
theorem ok_cs {f : Addr} {fd : FuncData} (Df : Def K mg "_law_content_step" s_content_step f fd) (b : Binds K fd ["_law_script", "_law_at", "_law_pager", "_law_desk"] []) (T : LTxt mg) (c_number : Cal P w K mg base 1 "_law_number" (spNum K) []) (c_content_call : Cal P w K mg base 4 "_law_content_call" (spCc K) []) (c_content_do : Cal P w K mg base 1 "_law_content_do" spCd [])
    (c_pager_ask : Cal P w K mg base 8 "_law_pager_ask" (spAskP C PT) []) (c_same : Cal P w K mg base 4 "_law_same" (spSame 3) []) (c_pager_reads : Cal P w K mg base 7 "_law_pager_reads" (spReads C PT) []) : Cal P w K mg base 9 "_law_content_step" (spCs K C PT) [] := by
  refine cal0 Df b .nil sc_content_step (fun vs H Q E h => ?_) (fun cdv A0 outer s H vs Q E hr h => ?_)
  · obtain ⟨a, ns, i, A, k, S, D, few, most, wd, n, b, rfl, _⟩ := h
    rfl
  obtain ⟨a, ns, i, A, k, S, D, few, most, wd, n, b, rfl, hS, hl, i0, i1, pr, hT, ln, lb, lm, lf, w1, w2, q⟩ := h
  refine ⟨_, (pss_cons (ps_set (i := 4) sc_content_step.nd rfl (.inl rfl) (C8.pe_c c_content_call hr (by omega) (by rfl) (pa_cons (pv 0) (pa_cons (pv 1) (pa_cons (pv 3) pa_nil)))))
      (pss_cons (ps_set (i := 5) sc_content_step.nd rfl (.inl rfl) (C8.pe_c c_content_do hr (by omega) (by rfl) (pa_cons (pv 3) (pa_cons (pv 4) pa_nil))))
      (pss_cons (ps_set (i := 6) sc_content_step.nd rfl (.inl rfl) (C8.pe_c c_pager_ask hr (by omega) (by rfl) (pa_cons (pv 2) (pa_cons (pv 4) pa_nil))))
      (pss_cons (ps_mk (ps_if (PW.pt (pw_and (pt_cmpR op_eq (pe_ix (ixT K rfl) (pv 4) pe_int (fun _ _ => rfl)) pe_str (nomark _)) (pw_and1 (pt_cmpR op_eq (pe_ix (ixT K rfl) (pv 5) pe_int (fun _ _ => rfl)) pe_str (nomark _)))))
      (pss_one (ps_mk (ps_if (PW.pt (pw_or (pt_cmpR op_ne (pe_ix (ixT K rfl) (pv 6) pe_int (fun _ _ => rfl)) pe_str (nomark _)) (pw_or (pt_not (pt_val (pe_callB is_bool (by rfl) T.isinstance (by decide +kernel) (pa_cons (pe_ix (ixT K rfl) (pv 6) pe_int (fun _ _ => rfl)) (pa_cons (pe_bltn (v := .ty "bool") (by rfl) T.bool (by decide +kernel) rfl) pa_nil))))) (pw_or1 (PW.pt (pw_and (pt_val (pe_ix (ixT K rfl) (pv 6) pe_int (fun _ _ => rfl))) (pw_and1 (pt_cmpR (inQ K rfl) (pe_ix (ixT K rfl) (pv 4) pe_int (fun _ _ => rfl)) (pe_dget (hu_of hr) (pv 3) pe_str (fun _ _ => rfl)) (by rfl)))))))))
      (pss_one (ps_ret pe_bl))
      pss_nil)))
      (pss_one (ps_mk (ps_if (pt_not (pt_val (C8.pe_c c_same hr (by omega) (by rfl) (pa_cons (pv 6) (pa_cons (pv 5) pa_nil)))))
      (pss_one (ps_ret pe_bl))
      pss_nil)))))
      (pss_cons (ps_set (i := 7) sc_content_step.nd rfl (.inl rfl) (pe_callTy (call_listD rfl) (by rfl) T.list (by decide +kernel) (pa_cons (pe_dget (hu_of hr) (pv 3) pe_str (fun _ _ => rfl)) pa_nil)))
      (pss_cons (ps_mk (ps_if (pt_cmpR op_eq (pe_callB (lenQ K rfl) (by rfl) T.len PySem.boot_len (pa_cons (pv 7) pa_nil)) pe_int (nomark _))
      (pss_one (ps_ret pe_bl))
      pss_nil))
      (pss_cons (ps_set (i := 8) sc_content_step.nd rfl (.inl rfl) (pe_ix (ixL K rfl) (pv 7) (C8.pe_c c_number hr (by omega) (by rfl) (pa_cons (pv 0) (pa_cons (pv 1) (pa_cons pe_int (pa_cons (pe_callB (lenQ K rfl) (by rfl) T.len PySem.boot_len (pa_cons (pv 7) pa_nil)) pa_nil))))) (fun _ _ => rfl)))
      (pss_one (ps_ret (C8.pe_c c_pager_reads hr (by omega) (by rfl) (pa_cons (pv 2) (pa_cons (pv 8) (pa_cons (pe_dget (hu_of hr) (pe_dget (hu_of hr) (pv 3) pe_str (fun _ _ => rfl)) (pv 8) (fun _ _ => rfl)) pa_nil))))))))))))), ?_⟩
  walk_at "go"
  refine ⟨a, ns, i, D, few, most, wd, rfl, hS H fun _ _ _ _ e => e, hl, i0, i1, pr.dk, { pr.ok with le := by have := pr.ok.le; omega }, lm, w1, w2, fun r c H1 s1 nr hc ndr fit => ?_⟩
  have hp1 := pr.at_.same s1
  have hd1 := pr.dk.same s1
  have hT1 := hT.ext s1
  have nrA : r ∉ A.all S.cs := fun z => pr.at_.live r z nr
  have nrD : r ∉ D.all := fun z => pr.dk.live r z nr
  show tSeq _ _ _ _ _
  refine jnA (a := tAsg (tCall spCd [] C8.E0 (tCons (tVar 3) (tCons (tVar 4) tNil))) (gName 5)) (M := fun σ H2 => ((∀ x, c.ask = some x → x ∈ D.ks) ∧ ∃ D' v t, Dk1 D c few most wd n H1 D' H2 ∧ H1 t = none ∧ H2 t = some (.tup [.str "gives", v]) ∧ DueV D.m H1 H2 v c ∧ CallAt H2 r c ∧ σ = [sR a, sI i, sR A.p, sR D.d, sR r, sR t, none, none, none]) ∨
    (∃ x t, c.ask = some x ∧ x ∉ D.ks ∧ Same H1 H2 ∧ H1 t = none ∧ Dh H2 (nsD x) (.ref t) ∧ σ = [sR a, sI i, sR A.p, sR D.d, sR r, sR t, none, none, none])) ?_ (fun N kk => ?_)
  rotate_left
  · walk_at "go"
    refine ⟨D, few, most, wd, n, r, c, rfl, hd1, pr.ok, by omega, lm, lf, w2, w1, hc, fit, nrD, fun x o dr ds e z => pr.dk.live dr z (ndr x o dr ds e), fun hl D' v t H2 d1 tn tg dv hc2 => ?_, fun x ex nx t H2 s2 tn hv => ?_⟩
    · exact kk _ _ (.inl ⟨hl, D', v, t, d1, tn, tg, dv, hc2, rfl⟩)
    · exact kk _ _ (.inr ⟨x, t, ex, nx, s2, tn, hv, rfl⟩)
  rintro σ H2 h2
  refine jnA (a := tAsg (tCall (spAskP C PT) [] C8.E0 (tCons (tVar 2) (tCons (tVar 4) tNil))) (gName 6)) (M := fun σ H4 => ∃ A' S' D' dv tv, PrTo C PT k A S D few most wd (n + 1) (b + 3) H A' S' D' H4 ∧ CallAt H4 r c ∧ Cmp c D'.pins H4 dv tv ∧ σ = [sR a, sI i, sR A.p, sR D.d, sR r, some dv, some tv, none, none]) ?_ (fun N kk => ?_)
  rotate_left
  · have cok : c.ok (S.cs.map (·.st)) wd := by rw [pr.ks]; exact fit.1
    have csl : S.cs.length ≤ 60 := by rw [pr.len]; have := pr.ok.lk; omega
    have lp : D.pins.length + 1 ≤ S.fr.length := by rw [← pr.gi.n, pr.fr]; exact pr.ok.lp
    have room : k.room ≤ 100000 := by rw [pr.rm]; omega
    have rmy : c.roomy → (∀ x, c.ask = some x → x ∈ S.cs.map (·.st)) → (S.cs.length : Int) + 1 ≤ k.room := fun h1 h2 => by
      have := fit.2.1 h1 (by rw [← pr.ks]; exact h2)
      rw [pr.rm, pr.len]
      omega
    have ndrA : ∀ x o dr ds, c = .sto x o dr ds → dr ∉ A.all S.cs := fun x o dr ds e z => pr.at_.live dr z (ndr x o dr ds e)
    rcases h2 with ⟨hl, D', v, t, d1, tn, tg, dv, hc2, rfl⟩ | ⟨x, t, ex, nx, s2, tn, hv, rfl⟩
    · have tups2 : Tups H1 H2 := d1.b.tups fun z hz => (hd1.noT z hz).elim fun _ t => t.2.2.1
      have hp2 : PgAt C H2 A k S := hp1.offT d1.b.t tups2 pr.dj
      have hT2 := tabs_but hT1 d1.b fun z hz => (hd1.noT z hz).elim fun o t => ⟨o, t.1, t.2.2.2⟩
      walk_at "go"
      refine ⟨A, k, S, D.pins, b, r, c, wd, rfl, hp2, pr.gi, pr.bd, by omega, hT2, hc2, ndrA, cok, pr.sz, w2, pr.by', csl, lp, room, nrA, rmy, fun ha v2 A' S' H3 po tv hc3 t2 H4 s4 t2n t2g => ?_, fun x ex nx => absurd (by rw [pr.ks]; exact hl x ex) nx⟩
      have dA : ∀ a ∈ D'.all, a ∉ A.all S.cs := fun a ha z => by
        rcases d1.ad a ha with y | y
        · exact pr.dj a z y
        · exact hp1.live a z y
      have tA : t ∉ A.all S.cs := fun z => hp1.live t z tn
      refine kk _ _ ⟨A', S', D', .ref t, .ref t2, ⟨⟨po.at_.same s4, by rw [d1.pins]; exact po.gi, po.bd, (d1.at_.offT po.bt dA).same s4, d1.ok, ?_, fun a ha hd => ?_, pr.fr, pr.rm, pr.sz⟩, po.p, d1.d, ?_, fun a ha => ?_, po.tb.ext s4⟩, hc3.keep (F := []) (Same.t s4) (fun z => by cases z) (fun _ _ _ _ _ z => by cases z), ?_, rfl⟩
      · rw [po.m, pr.m, d1.m]
      · rcases po.ad a ha with y | y
        · exact dA a hd y
        · obtain ⟨o, g, nt, _⟩ := d1.at_.noT a hd
          exact y.ne g nt rfl
      · refine (((Same.t s1).trans (d1.b.t.mono fun z hz => List.mem_append_right _ hz)).trans (po.bt.mono fun z hz => List.mem_append_left _ hz)).trans (Same.t s4)
      · rcases List.mem_append.mp ha with y | y
        · rcases po.ad a y with z | z
          · exact .inl (List.mem_append_left _ z)
          · by_cases m : a ∈ D.all
            · exact .inl (List.mem_append_right _ m)
            · exact .inr ((z.butT d1.b.t m).same s1)
        · rcases d1.ad a y with z | z
          · exact .inl (List.mem_append_right _ z)
          · exact .inr ((NewA.of z).same s1)
      · refine cmp_live (M := mc S) (fun p hp => ?_) (by rw [pr.m]; exact dv) tv (s4 _ _ (po.bt _ _ tA (fun _ z => by cases z) tg)) t2g d1.pins (fun q us q0 gq => s4 _ _ (po.bt _ _ (fun z => hp1.live q z q0) (fun _ z => by cases z) gq)) s4
        obtain ⟨d, hd, e⟩ := List.mem_map.mp hp
        rw [← e]
        show d.by'.length ≤ 16
        rw [pr.by' d hd]
        exact w2
    · have hp2 := hp1.same s2
      have hT2 := hT1.ext s2
      walk_at "go"
      refine ⟨A, k, S, D.pins, b, r, c, wd, rfl, hp2, pr.gi, pr.bd, by omega, hT2, hc.keep (F := []) (Same.t s2) (fun z => by cases z) (fun _ _ _ _ _ z => by cases z), ndrA, cok, pr.sz, w2, pr.by', csl, lp, room, nrA, rmy, fun ha => absurd (ha x ex) (by rw [pr.ks]; exact nx), fun x' ex' nx' v2 H4 s4 hv2 => ?_⟩
      have exx : x' = x := by
        rw [ex] at ex'
        exact (Option.some.inj ex').symm
      subst exx
      have s14 := s1.trans (s2.trans s4)
      refine kk _ _ ⟨A, S, D, .ref t, v2, ⟨⟨hp2.same s4, pr.gi, pr.bd.mono (by omega), (hd1.same s2).same s4, pr.ok.up, pr.m, pr.dj, pr.fr, pr.rm, pr.sz⟩, rfl, rfl, Same.t s14, fun a ha => .inl ha, hT2.ext s4⟩, hc.keep (F := []) (Same.t (s2.trans s4)) (fun z => by cases z) (fun _ _ _ _ _ z => by cases z), .inl ⟨x', Dh.mono s4 _ _ hv, hv2⟩, rfl⟩
  rintro σ H4 ⟨A', S', D', dv, tv, po, hc4, cm, rfl⟩
  refine jnS (M := fun σ H' => Same H4 H' ∧ σ = [sR a, sI i, sR A.p, sR D.d, sR r, some dv, some tv, none, none]) ?_ (fun N kk => ?_)
  rotate_left
  · obtain ⟨us, ev⟩ := c.vs_nm
    have gr : H4 r = some (.tup (.str c.nm :: us)) := by
      rw [← ev]
      exact hc4.g
    have eqs : ∀ e : PyData, Dle 3 e → Dh H4 e dv → Dh H4 e tv → ∃ d' e', Dh H4 d' tv ∧ Dh H4 e' dv ∧ Dle 3 e' ∧ d' = e' := fun e l h1 h2 => ⟨e, e, h2, h1, l, rfl⟩
    have sm : ∃ e, c.nm ≠ ("put_out" : Str) ∨ (∃ x, Dh H4 (nsD x) dv) → Dle 3 e ∧ Dh H4 e dv ∧ Dh H4 e tv := by
      rcases cm with ⟨x, h1, h2⟩ | ⟨x, bb, t, t2, rfl, rfl, rfl, g1, g2, _⟩ | ⟨np, e, t, t2, le, rfl, rfl, h1, h2⟩
      · exact ⟨nsD x, fun _ => ⟨⟨by show 3 ≤ 100000; omega, fun d hd => by
          simp only [List.mem_cons, List.not_mem_nil, or_false] at hd
          rcases hd with rfl | rfl | rfl
          · trivial
          · trivial
          · exact ⟨by show 1 ≤ 100000; omega, fun d hd => by rw [List.mem_singleton.mp hd]; trivial⟩⟩, h1, h2⟩⟩
      · refine ⟨.none, fun h => ?_⟩
        rcases h with h | ⟨y, h⟩
        · exact absurd rfl h
        · obtain ⟨a', xs, ea, ga, x1, r1, er, e1, _⟩ := h
          cases ea
          rw [g1] at ga
          cases ga
          cases er
          exact absurd e1 (by
            intro z
            cases z)
      · exact ⟨.tuple [.str "gives", e], fun _ => ⟨⟨by show 2 ≤ 100000; omega, fun d hd => by
          simp only [List.mem_cons, List.not_mem_nil, or_false] at hd
          rcases hd with rfl | rfl
          · trivial
          · exact le⟩, h1, h2⟩⟩
    obtain ⟨e, sm⟩ := sm
    walk_at "go"
    refine ⟨r, _, _, .str c.nm, rfl, rfl, SqT.of gr, atI_nat (j := 0) rfl, ?_⟩
    walk_at "go"
    refine ifD (fun nm => ?_) (fun nm => ?_)
    · obtain ⟨x, rfl⟩ := PCall.put_of (V.str.inj nm)
      walk_at "go"
      rcases cm with ⟨x', h1, h2⟩ | ⟨x', bb, t, t2, ex, rfl, rfl, g1, g2, hb⟩ | ⟨np, _⟩
      · obtain ⟨s1', s2', s3'⟩ := sm (.inr ⟨x', h1⟩)
        obtain ⟨t, xs, ea, ga, x1, r1, er, e1, _⟩ := h1
        have e1 : x1 = .str "raises" := e1
        subst er
        subst e1
        subst ea
        refine ⟨t, _, _, .str "raises", rfl, rfl, SqT.of ga, atI_nat (j := 0) rfl, ?_⟩
        walk_at "go"
        refine un ?_
        walk_at "go"
        refine ⟨tv, .ref t, e, e, rfl, s3', s2', s1', fun bb H9 hb s9 => ?_⟩
        obtain rfl := hb.mpr rfl
        walk_at "go"
        exact kk _ _ ⟨s9, rfl⟩
      · cases ex
        refine ⟨t, _, _, .str "gives", rfl, rfl, SqT.of g1, atI_nat (j := 0) rfl, ?_⟩
        walk_at "go"
        refine un ?_
        walk_at "go"
        refine ⟨t2, _, _, .str "gives", rfl, rfl, SqT.of g2, atI_nat (j := 0) rfl, ?_⟩
        walk_at "go"
        refine ⟨t2, _, _, .bl bb, rfl, rfl, SqT.of g2, atI_nat (j := 1) rfl, ?_⟩
        have hbb : Dh H4 (.bool bb) (.bl bb) := rfl
        walk_at "go"
        refine ⟨t2, _, _, .bl bb, rfl, rfl, SqT.of g2, atI_nat (j := 1) rfl, ?_⟩
        cases bb with
        | false =>
          walk_at "go"
          exact kk _ _ ⟨fun _ _ e => e, rfl⟩
        | true =>
          have gr' : H4 r = some (.tup [.str "put_out", .int x]) := hc4.g
          have gdp := po.pr.dk.g
          rw [← show D'.d = D.d from po.d] at kk ⊢
          walk_at "go"
          refine ⟨r, _, _, .int x, rfl, rfl, SqT.of gr', atI_nat (j := 1) rfl, ?_⟩
          walk_at "go"
          refine ⟨D'.d, _, rfl, dk_p ▸ DGet.k (k := .inr "pins") gdp, ?_⟩
          have gpp := po.pr.dk.p
          walk_at "go"
          refine ⟨flat_ints _, ?_⟩
          rw [show inV (V.int x) (D'.pins.map V.int) = decide (x ∈ D'.pins) from inInt _ _, decide_eq_false (hb rfl)]
          walk_at "go"
          exact kk _ _ ⟨fun _ _ e => e, rfl⟩
      · exact absurd rfl (np x)
    · have nm' : c.nm ≠ ("put_out" : Str) := fun z => nm (congrArg V.str z)
      obtain ⟨s1', s2', s3'⟩ := sm (.inl nm')
      walk_at "go"
      refine un ?_
      walk_at "go"
      refine ⟨tv, dv, e, e, rfl, s3', s2', s1', fun bb H9 hb s9 => ?_⟩
      obtain rfl := hb.mpr rfl
      walk_at "go"
      exact kk _ _ ⟨s9, rfl⟩
  rintro σ H5 ⟨s5, rfl⟩
  have pr5 := po.pr
  have hd5 := pr5.dk.same s5
  have hp5 := pr5.at_.same s5
  have hT5 := po.tb.ext s5
  have bt5 : ButT (fp A S D) H H5 := po.bt.trans (Same.t s5)
  have ep : A'.p = A.p := po.p
  have ed : D'.d = D.d := po.d
  rw [← ep, ← ed]
  have gd5 := hd5.g
  walk_at "go"
  refine ⟨D'.d, _, rfl, dk_k ▸ DGet.k (k := .inr "known") gd5, ?_⟩
  walk_at "go"
  refine ⟨D'.ka, _, rfl, .inl hd5.k, fun l nl => ?_⟩
  rw [ks_map]
  have s6 := same_upd (o := HO.lst (D'.ks.map V.int)) nl
  have gl := upd_same (H := H5) (a := l) (o := HO.lst (D'.ks.map V.int))
  show _
  generalize upd H5 l (HO.lst (D'.ks.map V.int)) = H6 at *
  have hd6 := hd5.same s6
  have hp6 := hp5.same s6
  have hT6 := hT5.ext s6
  have hS6 := hS H6 (bt5.trans (Same.t s6))
  have gd6 := hd6.g
  have lkn : D'.ks.length ≤ 60 := by unfold DK.ks; rw [List.length_map]; have := pr5.ok.lk; omega
  show tSeq _ _ _ _ _
  refine un ?_
  walk_at "go"
  rw [List.length_map]
  refine ifEq (fun z => ?_) (fun z => ?_)
  · walk_at "go"
    exact q A' S' D' _ ⟨⟨hp6, pr5.gi, pr5.bd.mono (by omega), hd6, pr5.ok, pr5.m, pr5.dj, pr5.fr, pr5.rm, pr5.sz⟩, ep, ed, bt5.trans (Same.t s6), po.ad, hT6⟩
  have lk0 : 0 < D'.ks.length := by omega
  have y0 : 0 ≤ num ns i 14 D'.ks.length := num_nn (by omega)
  have y1 : num ns i 14 D'.ks.length < D'.ks.length := num_lt (by omega)
  have lk1 : 0 < (D'.ks.map V.int).length := by rw [List.length_map]; exact lk0
  walk_at "go"
  rw [List.length_map]
  obtain ⟨m, hm⟩ : ∃ m : Nat, num ns i 14 D'.ks.length = m := ⟨(num ns i 14 D'.ks.length).toNat, by omega⟩
  rw [hm]
  have ml : m < D'.kn.length := by unfold DK.ks at y1; rw [List.length_map] at y1; unfold DK.ks at hm; rw [List.length_map] at hm; omega
  have em : D'.kn[m]? = some D'.kn[m] := List.getElem?_eq_getElem ml
  generalize D'.kn[m] = e at em
  have he : e ∈ D'.kn := List.mem_of_getElem? em
  refine ⟨l, _, _, .int e.st, rfl, rfl, SqL.of gl, atI_nat (by unfold DK.ks; rw [List.getElem?_map, List.getElem?_map, em]; rfl), ?_⟩
  walk_at "go"
  refine ⟨D'.d, _, rfl, dk_k ▸ DGet.k (k := .inr "known") gd6, ?_⟩
  walk_at "go"
  have gc : valV (D'.kn.map Cont.row) (.inl e.st) = some (.ref e.ad) := dk_at he pr5.ok.nd
  refine ⟨D'.ka, .ref e.ad, rfl, gc ▸ DGet.k (k := .inl e.st) hd6.k, ?_⟩
  walk_at "go"
  obtain ⟨cS, hcS, eS⟩ := List.mem_map.mp (show (e.st, e.by') ∈ mc S' from pr5.m ▸ List.mem_map.mpr ⟨e, he, rfl⟩)
  have e1 : cS.st = e.st := congrArg Prod.fst eS
  have e2 : cS.by' = e.by' := congrArg Prod.snd eS
  have ne : e.ad ∈ D'.all := List.mem_append_right _ (List.mem_map.mpr ⟨e, he, rfl⟩)
  refine ⟨A', k, S', D'.pins, b + 3, cS, e.ad, by rw [e1]; rfl, hp6, pr5.gi, pr5.bd, by omega, hT6, hcS, by rw [e1]; exact pr5.ok.ks _ (List.mem_map.mpr ⟨e, he, rfl⟩), by rw [e2]; exact hd6.c e he, fun z => pr5.dj _ z ne, by rw [e2, pr5.ok.w e he]; omega, by rw [e2, pr5.ok.w e he]; omega, by rw [← pr5.gi.n, pr5.fr]; exact pr5.ok.lp, fun S2 H7 p2 => ?_⟩
  have dj2 : ∀ a ∈ A'.all S2.cs, a ∉ D'.all := fun a ha hd => by
    rcases p2.ad a ha with y | y
    · exact pr5.dj a y hd
    · obtain ⟨o, g, nt, _⟩ := hd6.noT a hd
      exact y.ne g nt rfl
  walk_at "go"
  refine q A' S2 D' H7 ⟨⟨p2.at_, p2.gi, p2.bd, hd6.offT p2.bt (fun a ha z => pr5.dj a z ha), pr5.ok, p2.m.trans pr5.m, dj2, pr5.fr, pr5.rm, pr5.sz⟩, ep, ed, fun a o n nt g => ?_, fun a ha => ?_, p2.tb⟩
  · refine p2.bt a o (fun y => ?_) nt (s6 _ _ (bt5 a o n nt g))
    rcases po.ad a (List.mem_append_left _ y) with z | z
    · exact n z
    · exact z.ne g nt rfl
  · rcases List.mem_append.mp ha with y | y
    · rcases p2.ad a y with z | z
      · exact po.ad a (List.mem_append_left _ z)
      · by_cases m : a ∈ fp A S D
        · exact .inl m
        · exact .inr ((z.same s6).butT bt5 m)
    · exact po.ad a (List.mem_append_right _ y)
end

end

section

-- a condition of an operator
local macro_rules | `(tactic| walk_at "cond") => `(tactic| first
  | (show (0 : Int) < _; omega)
  | (show CDiv _ _; constructor <;> (first | decide | omega))
  | (show CMul _ _; first | (refine cmul_l ?_; constructor <;> (first | decide | omega)) | (refine cmul_r ?_; constructor <;> (first | decide | omega)))
  | (show CPow _ _; exact (by refine ⟨by decide, by decide, by decide⟩))
  | (show CDivW _ _; exact ⟨by decide, by decide +kernel⟩))
local macro_rules | `(tactic| walk_at "sq") => `(tactic| first | assumption | exact Dh.mono (same_upd (by assumption)) _ _ (by assumption) | exact .inl (.inl (.inl (by assumption))) | exact .inr (.inl (.inl (by assumption))) | exact SqL.of (by assumption) | exact .inl (by assumption) | exact .inl (SqL.of (by assumption)) | exact SqT.of (by assumption) | exact .inr (SqT.of (by assumption)))
local macro_rules | `(tactic| walk_at "st") => `(tactic| first
  | refine ⟨_, rfl, ?_⟩
  | refine ⟨_, _, rfl, rfl, ?_⟩
  | refine .inl ⟨_, rfl, ?_⟩
  | refine ⟨rfl, ?_⟩
  | refine ⟨_, _, rfl, by walk_at "sq", ?_⟩
  | refine ⟨.inl ⟨rfl, _, SqL.of (by assumption)⟩, ?_⟩
  | refine ⟨by walk_at "cond", ?_⟩
  | (refine' ifBT ?hh ?_; (case hh => first | rfl | assumption))
  | (refine' ifBF ?hh ?_; (case hh => first | rfl | assumption)))
local macro_rules | `(tactic| walk_at "go") => `(tactic| repeat walk_at "st")
local macro_rules | `(tactic| walk_at "yes") => `(tactic| (refine' ifT ?hh ?_; (case hh => first | rfl | decide +kernel)))
local macro_rules | `(tactic| walk_at "no") => `(tactic| (refine' ifF ?hh ?_; (case hh => first | decide +kernel | (intro z; cases z; done))))

local macro_rules | `(tactic| walk_at "st") => `(tactic| refine ⟨_, _, _, _, _, rfl, by assumption, by assumption, by omega, by omega, by omega, by omega, by omega, ?_⟩)
local macro_rules | `(tactic| walk_at "st") => `(tactic| refine ⟨_, _, _, _, _, rfl, Same.seq (by assumption) (by assumption), by assumption, by omega, by omega, by omega, by omega, by omega, ?_⟩)

/-! ### two pagers and their desks -/
structure PD where
  A : GA
  k : GK
  S : GS
  D : DK
  few : Nat
  most : Nat
  wd : Nat
def PD.fp (X : PD) : List Addr := Lw.fp X.A X.S X.D
structure PD.At (C : GC) (X : PD) (n b : Nat) (H : Hp) : Prop where
  pr : Pr C X.k X.A X.S X.D X.few X.most X.wd n b H
  m : X.most ≤ 60
  f : X.few ≤ 60
  w1 : 1 ≤ X.wd
  w2 : X.wd ≤ 16
def PD.row (X : PD) : List V := [.ref X.A.p, .ref X.D.d]
theorem PD.At.noT {C : GC} {X : PD} {n b : Nat} {H : Hp} (h : X.At C n b H) : ∀ a ∈ X.fp, ∃ o, H a = some o ∧ (∀ ps, o ≠ .tbl ps) ∧ NoT H a ∧ Plain o := fun a ha => by
  rcases List.mem_append.mp ha with z | z
  · obtain ⟨o, g, pl⟩ := h.pr.at_.plain a z
    exact ⟨o, g, fun ps e => by rw [e] at pl; exact pl.1 _ rfl, h.pr.at_.noT a z, pl⟩
  · exact h.pr.dk.noT a z
theorem PD.At.mono {C : GC} {X : PD} {n b n' b' : Nat} {H : Hp} (h : X.At C n b H) (l : n ≤ n') (l2 : b ≤ b') : X.At C n' b' H :=
  ⟨⟨h.pr.at_, h.pr.gi, h.pr.bd.mono l2, h.pr.dk, { h.pr.ok with le := Nat.le_trans h.pr.ok.le l }, h.pr.m, h.pr.dj, h.pr.fr, h.pr.rm, h.pr.sz⟩, h.m, h.f, h.w1, h.w2⟩
theorem PD.At.offT {C : GC} {X : PD} {n b : Nat} {H H' : Hp} {F : List Addr} (h : X.At C n b H) (bt : ButT F H H') (t : Tups H H') (d : ∀ a ∈ X.fp, a ∉ F) : X.At C n b H' :=
  ⟨⟨h.pr.at_.offT bt t fun a ha => d a (List.mem_append_left _ ha), h.pr.gi, h.pr.bd, h.pr.dk.offT bt fun a ha => d a (List.mem_append_right _ ha), h.pr.ok, h.pr.m, h.pr.dj, h.pr.fr, h.pr.rm, h.pr.sz⟩, h.m, h.f, h.w1, h.w2⟩
theorem PD.At.same {C : GC} {X : PD} {n b : Nat} {H H' : Hp} (h : X.At C n b H) (s : Same H H') : X.At C n b H' := h.offT (F := []) (Same.t s) (Tups.same s) fun _ _ z => by cases z
/-- X is where the step is made, Y the other one -/
structure Tw (C : GC) (PT : Addr) (H0 : Hp) (q q' : Addr) (X Y : PD) (n b : Nat) (H : Hp) : Prop where
  x : X.At C n b H
  y : Y.At C n b H
  gx : H q = some (.lst X.row)
  gy : H q' = some (.lst Y.row)
  dj : ∀ a ∈ X.fp, a ∉ Y.fp
  qx : q ∉ X.fp
  qy : q ∉ Y.fp
  rx : q' ∉ X.fp
  ry : q' ∉ Y.fp
  bt : ButT [] H0 H
  tb : Tabs (chT PT) H
  fx : ∀ a ∈ X.fp, NewA H0 a
  fy : ∀ a ∈ Y.fp, NewA H0 a
section
variable {C : GC} {PT : Addr} {H0 H H' : Hp} {q q' : Addr} {X Y : PD} {n b : Nat}
theorem Tw.swap (h : Tw C PT H0 q q' X Y n b H) : Tw C PT H0 q' q Y X n b H := ⟨h.y, h.x, h.gy, h.gx, fun a ha z => h.dj a z ha, h.ry, h.rx, h.qy, h.qx, h.bt, h.tb, h.fy, h.fx⟩
theorem Tw.mono {n' b' : Nat} (h : Tw C PT H0 q q' X Y n b H) (l : n ≤ n') (l2 : b ≤ b') : Tw C PT H0 q q' X Y n' b' H := ⟨h.x.mono l l2, h.y.mono l l2, h.gx, h.gy, h.dj, h.qx, h.qy, h.rx, h.ry, h.bt, h.tb, h.fx, h.fy⟩
theorem Tw.same (h : Tw C PT H0 q q' X Y n b H) (s : Same H H') : Tw C PT H0 q q' X Y n b H' := ⟨h.x.same s, h.y.same s, s _ _ h.gx, s _ _ h.gy, h.dj, h.qx, h.qy, h.rx, h.ry, h.bt.trans (Same.t s), h.tb.ext s, h.fx, h.fy⟩
/-- one of the two makes a step -/
theorem Tw.step {A' : GA} {S' : GS} {D' : DK} {n' b' : Nat} (h : Tw C PT H0 q q' X Y n b H) (po : PrTo C PT X.k X.A X.S X.D X.few X.most X.wd n' b' H A' S' D' H') (l : n ≤ n') (l2 : b ≤ b') : Tw C PT H0 q q' ⟨A', X.k, S', D', X.few, X.most, X.wd⟩ Y n' b' H' := by
  have tu : Tups H H' := fun a us g => po.bt a _ (fun z => (h.x.noT a z).elim fun o t => t.2.2.1 us g) (fun _ z => by cases z) g
  have ad : ∀ a ∈ Lw.fp A' S' D', a ∈ X.fp ∨ NewA H a := po.ad
  have ex : PD.row ⟨A', X.k, S', D', X.few, X.most, X.wd⟩ = X.row := by
    unfold PD.row
    rw [show (⟨A', X.k, S', D', X.few, X.most, X.wd⟩ : PD).A.p = X.A.p from po.p, show (⟨A', X.k, S', D', X.few, X.most, X.wd⟩ : PD).D.d = X.D.d from po.d]
  have no : ∀ {a o}, H a = some o → (∀ ps, o ≠ .tbl ps) → a ∉ X.fp → a ∉ Lw.fp A' S' D' := fun g nt n m => (ad _ m).elim n fun t => t.ne g nt rfl
  refine ⟨⟨po.pr, h.x.m, h.x.f, h.x.w1, h.x.w2⟩, (h.y.offT po.bt tu fun a ha z => h.dj a z ha).mono l l2, ?_, po.bt _ _ h.rx (fun _ z => by cases z) h.gy, fun a ha z => ?_, no h.gx (fun _ z => by cases z) h.qx, h.qy, no h.gy (fun _ z => by cases z) h.rx, h.ry, ?_, po.tb, fun a ha => ?_, h.fy⟩
  · rw [ex]
    exact po.bt _ _ h.qx (fun _ z => by cases z) h.gx
  · obtain ⟨o, g, nt, _⟩ := h.y.noT a z
    exact no g nt (fun y => h.dj a y z) ha
  · exact fun a o _ nt g => po.bt a o (fun z => (h.fx a z).ne g nt rfl) nt (h.bt a o (by simp) nt g)
  · rcases ad a ha with y | y
    · exact h.fx a y
    · exact y.butT h.bt (by simp)
end
theorem gi_init {kd : Str} {n m z : Nat} (k4 : K4 kd) (n1 : 1 ≤ n) (n2 : n ≤ 1000) : GI ⟨kd, n, n + max 0 ((m : Int) - 1), z⟩ (pgS0 n m) [] := by
  have rp : ∀ {j : Nat} {x : Int} {l : Nat}, (List.replicate l (0 : Int))[j]? = some x → x = 0 := fun h => by
    rw [List.getElem?_replicate] at h
    split at h
    · exact (Option.some.inj h).symm
    · cases h
  have rm : ∀ {x : Int} {l : Nat}, x ∈ List.replicate l (0 : Int) → x = 0 := fun h => (List.mem_replicate.mp h).2
  have ln : (pgS0 n m).fr.length = n := List.length_replicate ..
  have lm : (pgS0 n m).pl.st.length = m := List.length_replicate ..
  refine ⟨k4, ln.symm, by rw [ln]; exact n1, by rw [ln]; exact n2, Int.le_refl _, by rw [ln]; show (0 : Int) < n; omega, fun i j x h _ x0 => absurd (rp h) x0, fun i j x h _ x0 => absurd (rp h) x0, fun x => ?_, List.nodup_nil, ?_, ?_, List.nodup_nil, fun _ h => (by cases h), fun _ h => (by cases h)⟩
  · constructor
    · intro h
      cases h
    · rintro ⟨x0, h | h⟩
      · exact absurd (rm h) x0
      · exact absurd (rm h) x0
  · rw [ln, lm]
  · show ((([] : List Cont).length : Nat) : Int) ≤ n + max 0 ((m : Int) - 1)
    have : max 0 ((m : Int) - 1) ≥ 0 := by omega
    show (0 : Int) ≤ _
    omega
/-- the two, as the law's list has them -/
def Lp (C : GC) (PT : Addr) (H0 : Hp) (L q0 q1 : Addr) (n b : Nat) (H : Hp) : Prop := ∃ X Y, Tw C PT H0 q0 q1 X Y n b H ∧ H L = some (.lst [.ref q0, .ref q1]) ∧ L ∉ X.fp ∧ L ∉ Y.fp
theorem Lp.pick {C : GC} {PT : Addr} {H0 H : Hp} {L q0 q1 : Addr} {n b m : Nat} (h : Lp C PT H0 L q0 q1 n b H) (l : m < 2) : ∃ q q' X Y, Tw C PT H0 q q' X Y n b H ∧ ([V.ref q0, V.ref q1] : List V)[m]? = some (.ref q) ∧ L ∉ X.fp ∧ L ∉ Y.fp ∧ ∀ X1 Y1 n1 b1 H1, Tw C PT H0 q q' X1 Y1 n1 b1 H1 → H1 L = some (.lst [.ref q0, .ref q1]) → L ∉ X1.fp → L ∉ Y1.fp → Lp C PT H0 L q0 q1 n1 b1 H1 := by
  obtain ⟨X, Y, tw, g, lx, ly⟩ := h
  obtain rfl | rfl : m = 0 ∨ m = 1 := by omega
  · exact ⟨q0, q1, X, Y, tw, rfl, lx, ly, fun X1 Y1 n1 b1 H1 t g1 l1 l2 => ⟨X1, Y1, t, g1, l1, l2⟩⟩
  · exact ⟨q1, q0, Y, X, tw.swap, rfl, ly, lx, fun X1 Y1 n1 b1 H1 t g1 l1 l2 => ⟨Y1, X1, t.swap, g1, l2, l1⟩⟩
/-- the contents are read -/
theorem Tw.read {C : GC} {PT : Addr} {H0 H H' : Hp} {q q' : Addr} {X Y : PD} {n b b' : Nat} {S' : GS} (h : Tw C PT H0 q q' X Y n b H) (po : Post C PT X.k X.A X.S H X.A S' X.D.pins (mc X.S) b' H') (l2 : b ≤ b') : Tw C PT H0 q q' ⟨X.A, X.k, S', X.D, X.few, X.most, X.wd⟩ Y n b' H' ∧ ∀ a ∈ PD.fp ⟨X.A, X.k, S', X.D, X.few, X.most, X.wd⟩, a ∈ X.fp ∨ NewA H a := by
  have pr := h.x.pr
  have ad : ∀ a ∈ Lw.fp X.A S' X.D, a ∈ Lw.fp X.A X.S X.D ∨ NewA H a := fun a ha => by
    rcases List.mem_append.mp ha with y | y
    · exact (po.ad a y).imp (List.mem_append_left _) id
    · exact .inl (List.mem_append_right _ y)
  refine ⟨h.step (A' := X.A) (S' := S') (D' := X.D) ⟨⟨po.at_, po.gi, po.bd, pr.dk.offT po.bt (fun a ha z => pr.dj a z ha), pr.ok, po.m.trans pr.m, fun a ha hd => ?_, pr.fr, pr.rm, pr.sz⟩, rfl, rfl, po.bt.mono fun z hz => List.mem_append_left _ hz, ad, po.tb⟩ (Nat.le_refl _) l2, ad⟩
  rcases po.ad a ha with y | y
  · exact pr.dj a y hd
  · obtain ⟨o, g, nt, _⟩ := pr.dk.noT a hd
    exact y.ne g nt rfl
theorem Lp.mono {C : GC} {PT : Addr} {H0 H : Hp} {L q0 q1 : Addr} {n b n' b' : Nat} (h : Lp C PT H0 L q0 q1 n b H) (l : n ≤ n') (l2 : b ≤ b') : Lp C PT H0 L q0 q1 n' b' H := by
  obtain ⟨X, Y, t, r⟩ := h
  exact ⟨X, Y, t.mono l l2, r⟩

end

section

-- a condition of an operator
local macro_rules | `(tactic| walk_at "cond") => `(tactic| first
  | (show (0 : Int) < _; omega)
  | (show CDiv _ _; constructor <;> (first | decide | omega))
  | (show CMul _ _; first | (refine cmul_l ?_; constructor <;> (first | decide | omega)) | (refine cmul_r ?_; constructor <;> (first | decide | omega)))
  | (show CPow _ _; exact (by refine ⟨by decide, by decide, by decide⟩))
  | (show CDivW _ _; exact ⟨by decide, by decide +kernel⟩))
local macro_rules | `(tactic| walk_at "sq") => `(tactic| first | assumption | exact Dh.mono (same_upd (by assumption)) _ _ (by assumption) | exact .inl (.inl (.inl (by assumption))) | exact .inr (.inl (.inl (by assumption))) | exact SqL.of (by assumption) | exact .inl (by assumption) | exact .inl (SqL.of (by assumption)) | exact SqT.of (by assumption) | exact .inr (SqT.of (by assumption)))
local macro_rules | `(tactic| walk_at "st") => `(tactic| first
  | refine ⟨_, rfl, ?_⟩
  | refine ⟨_, _, rfl, rfl, ?_⟩
  | refine .inl ⟨_, rfl, ?_⟩
  | refine ⟨rfl, ?_⟩
  | refine ⟨_, _, rfl, by walk_at "sq", ?_⟩
  | refine ⟨.inl ⟨rfl, _, SqL.of (by assumption)⟩, ?_⟩
  | refine ⟨by walk_at "cond", ?_⟩
  | (refine' ifBT ?hh ?_; (case hh => first | rfl | assumption))
  | (refine' ifBF ?hh ?_; (case hh => first | rfl | assumption)))
local macro_rules | `(tactic| walk_at "go") => `(tactic| repeat walk_at "st")
local macro_rules | `(tactic| walk_at "yes") => `(tactic| (refine' ifT ?hh ?_; (case hh => first | rfl | decide +kernel)))
local macro_rules | `(tactic| walk_at "no") => `(tactic| (refine' ifF ?hh ?_; (case hh => first | decide +kernel | (intro z; cases z; done))))

local macro_rules | `(tactic| walk_at "st") => `(tactic| refine ⟨_, _, _, _, _, rfl, by assumption, by assumption, by omega, by omega, by omega, by omega, by omega, ?_⟩)
local macro_rules | `(tactic| walk_at "st") => `(tactic| refine ⟨_, _, _, _, _, rfl, Same.seq (by assumption) (by assumption), by assumption, by omega, by omega, by omega, by omega, by omega, ?_⟩)

/-! ### law -/
abbrev s_law : Stmt := topS 26
theorem sc_law : FnScope ["_law_script", "_law_pairs", "_law_one", "_law_few", "_law_store", "_law_width", "_law_kind", "_law_desk", "_law_at", "_law_pair", "_law_other", "_law_stamp"] ["_law_script"] (C8.fnScope s_law) := C8.fnScope_by (by decide +kernel)
theorem srtQ {X : Cx} (K : PySem.W.Frag) (h : X.K = K) : CallR X (.builtin "sorted") (rSorted K) := by
  subst h
  exact cr_sorted
def spLaw (K : PySem.W.Frag) (PT : Addr) : Sp := fun vs H Q _ => ∃ (a : Addr) (ns : List Int), vs = [.ref a] ∧ H PT = some (.tbl #[]) ∧ SqL K H a (ns.map V.int) ∧ ns.length ≤ 63 ∧ ∀ H', Q (.bl true) H'
theorem dk_merge (ka ea pa : Addr) (few most wd : Nat) : mergeK [] (dkR ka ea pa few most wd) = dkR ka ea pa few most wd := by kernel_rfl
theorem SqL.t {K : PySem.W.Frag} {H H' : Hp} {a : Addr} {xs : List V} (h : SqL K H a xs) (b : ∀ c o, (∀ ps, o ≠ .tbl ps) → H c = some o → H' c = some o) : SqL K H' a xs := by
  rcases h with (h | ⟨o, h⟩) | h
  · exact .inl (.inl (b _ _ (fun _ z => by cases z) h))
  · exact .inl (.inr ⟨o, b _ _ (fun _ z => by cases z) h⟩)
  · exact .inr h
/-- the pairs while they are made -/
structure MkL (C : GC) (H0 H : Hp) (L : Addr) (ps : List (Addr × PD)) : Prop where
  s : Same H0 H
  gL : H L = some (.lst (ps.map fun p => .ref p.1))
  nL : H0 L = none
  x : ∀ p ∈ ps, p.2.At C 0 0 H
  g : ∀ p ∈ ps, H p.1 = some (.lst p.2.row)
  dj : ps.Pairwise fun p p' => ∀ a ∈ p.2.fp, a ∉ p'.2.fp
  q : ∀ p ∈ ps, ∀ p' ∈ ps, p.1 ∉ p'.2.fp
  f : ∀ p ∈ ps, ∀ a ∈ p.2.fp, H0 a = none
  qf : ∀ p ∈ ps, H0 p.1 = none
  L : ∀ p ∈ ps, L ∉ p.2.fp ∧ L ≠ p.1
section
variable {P : Program} {w : World} {K : PySem.W.Frag} {mg : Str → Option Value} {base : Heap} {C : GC} {PT D D2 U : Addr}
theorem ok_law {f : Addr} {fd : FuncData} (Df : Def K mg "law" s_law f fd) (T : LTxt mg) (c_number : Cal P w K mg base 1 "_law_number" (spNum K) []) (mkP : MakPg P w K mg base 3 C) (m_live : C8.Met P w K mg base 1 C.g "live" (spLive C) []) (c_content_step : Cal P w K mg base 9 "_law_content_step" (spCs K C PT) []) (c_same : Cal P w K mg base 4 "_law_same" (spSame 3) []) (c_pager_reads : Cal P w K mg base 7 "_law_pager_reads" (spReads C PT) []) : FnOk P w K mg base C8.CX0 10 f fd ["_law_script"] (spLaw K PT) := by
  refine C8.fn0 Df.fn sc_law (fun vs H Q E h => ?_) (fun cdv A outer s H vs Q E hr h => ?_)
  · obtain ⟨a, ns, rfl, _⟩ := h
    rfl
  obtain ⟨a, ns, rfl, hP, hS, hl, q⟩ := h
  have hT : Tabs (chT PT) H := fun p hp => by
    rw [List.mem_cons.mp hp |>.elim id fun z => by cases z]
    exact TabS.nil hP
  have m_live := metI m_live
  refine ⟨_, (pss_cons (ps_set (i := 1) sc_law.nd rfl (.inl rfl) (pe_lst pa_nil))
      (pss_cons (ps_mk (ps_for PassesOwn.never rfl (pi_range1 (by rfl) T.range (pa_cons pe_int pa_nil)) (pg_name (i := 2) sc_law.nd rfl (.inl rfl))
      (pss_cons (ps_set (i := 3) sc_law.nd rfl (.inl rfl) (pe_op op_add pe_int (C8.pe_c c_number hr (by omega) (by rfl) (pa_cons (pv 0) (pa_cons pe_int (pa_cons (pe_op op_add pe_int (pv 2)) (pa_cons pe_int pa_nil)))))))
      (pss_cons (ps_set (i := 4) sc_law.nd rfl (.inl rfl) (C8.pe_c c_number hr (by omega) (by rfl) (pa_cons (pv 0) (pa_cons pe_int (pa_cons (pe_op op_add pe_int (pv 2)) (pa_cons pe_int pa_nil))))))
      (pss_cons (ps_set (i := 5) sc_law.nd rfl (.inl rfl) (pe_ix (ixL K rfl) (pe_lst (pa_cons pe_int (pa_cons pe_int (pa_cons pe_int (pa_cons pe_int (pa_cons pe_int (pa_cons pe_int (pa_cons pe_int (pa_cons pe_int pa_nil))))))))) (C8.pe_c c_number hr (by omega) (by rfl) (pa_cons (pv 0) (pa_cons pe_int (pa_cons (pe_op op_add pe_int (pv 2)) (pa_cons pe_int pa_nil))))) (fun _ _ => rfl)))
      (pss_cons (ps_set (i := 6) sc_law.nd rfl (.inl rfl) (pe_ix (ixL K rfl) (pe_lst (pa_cons pe_str (pa_cons pe_str (pa_cons pe_str (pa_cons pe_str pa_nil))))) (C8.pe_c c_number hr (by omega) (by rfl) (pa_cons (pv 0) (pa_cons pe_int (pa_cons (pe_op op_add pe_int (pv 2)) (pa_cons pe_int pa_nil))))) (fun _ _ => rfl)))
      (pss_cons (ps_set (i := 7) sc_law.nd rfl (.inl rfl) (pe_disp (pps_cons pe_str pe_dnewK (pps_cons pe_str (pe_lst pa_nil) (pps_cons pe_str (pe_lst pa_nil) (pps_cons pe_str (pv 3) (pps_cons pe_str (pe_op op_add (pv 3) (pe_callB (cbI (call_max2 rfl)) (by rfl) T.max (by decide +kernel) (pa_cons pe_int (pa_cons (pe_op op_sub (pv 4) pe_int) pa_nil)))) (pps_cons pe_str (pv 5) pps_nil)))))) (by rfl) (by rfl) (fun z => by cases z) (by decide)))
      (pss_one (ps_expr (pe_bm PySem.F.plainAttrs_list PySem.F.slot_list_append PySem.F.type_list_append mt_append (pv 1) (pa_cons (pe_lst (pa_cons (pe_mkPg mkP hr (by omega) (by rfl) (pa_cons (pv 3) (pa_cons (pv 4) (pa_cons (pv 5) pa_nil))) (pk_cons (pv 6) pk_nil)) (pa_cons (pv 7) pa_nil))) pa_nil)))))))))))
      (pss_cons (ps_mk (ps_for PassesOwn.never rfl (pi_range2 (by rfl) T.range (pa_cons pe_int (pa_cons (pe_op op_add pe_int (C8.pe_c c_number hr (by omega) (by rfl) (pa_cons (pv 0) (pa_cons pe_int (pa_cons pe_int (pa_cons pe_int pa_nil)))))) pa_nil))) (pg_name (i := 8) sc_law.nd rfl (.inl rfl))
      (pss_cons (ps_set (i := 9) sc_law.nd rfl (.inl rfl) (pe_ix (ixL K rfl) (pv 1) (C8.pe_c c_number hr (by omega) (by rfl) (pa_cons (pv 0) (pa_cons (pv 8) (pa_cons pe_int (pa_cons pe_int pa_nil))))) (fun _ _ => rfl)))
      (pss_cons (ps_mk (ps_if (pt_not (pt_val (C8.pe_c c_content_step hr (by omega) (by rfl) (pa_cons (pv 0) (pa_cons (pv 8) (pa_cons (pe_ix (ixL K rfl) (pv 9) pe_int (fun _ _ => rfl)) (pa_cons (pe_ix (ixL K rfl) (pv 9) pe_int (fun _ _ => rfl)) pa_nil)))))))
      (pss_one (ps_ret pe_bl))
      pss_nil))
      (pss_one (ps_mk (ps_for PassesOwn.never rfl (pi_list (pv 1)) (pg_name (i := 10) sc_law.nd rfl (.inl rfl))
      (pss_one (ps_mk (ps_if (pt_not (pt_val (C8.pe_c c_same hr (by omega) (by rfl) (pa_cons (C8.pe_mt0 m_live hr (by omega) (pe_ix (ixL K rfl) (pv 10) pe_int (fun _ _ => rfl)) ) (pa_cons (pe_callB (srtQ K rfl) (by rfl) T.sorted (by decide +kernel) (pa_cons (pe_callTy (call_listD rfl) (by rfl) T.list (by decide +kernel) (pa_cons (pe_dget (hu_of hr) (pe_ix (ixL K rfl) (pv 10) pe_int (fun _ _ => rfl)) pe_str (fun _ _ => rfl)) pa_nil)) pa_nil)) pa_nil)))))
      (pss_one (ps_ret pe_bl))
      pss_nil))))))))))
      (pss_cons (ps_mk (ps_for PassesOwn.never rfl (pi_list (pv 1)) (pg_name (i := 9) sc_law.nd rfl (.inl rfl))
      (pss_one (ps_mk (ps_for PassesOwn.never rfl (pi_list (pe_callTy (call_listD rfl) (by rfl) T.list (by decide +kernel) (pa_cons (pe_dget (hu_of hr) (pe_ix (ixL K rfl) (pv 9) pe_int (fun _ _ => rfl)) pe_str (fun _ _ => rfl)) pa_nil))) (pg_name (i := 11) sc_law.nd rfl (.inl rfl))
      (pss_one (ps_mk (ps_if (pt_not (pt_val (C8.pe_c c_pager_reads hr (by omega) (by rfl) (pa_cons (pe_ix (ixL K rfl) (pv 9) pe_int (fun _ _ => rfl)) (pa_cons (pv 11) (pa_cons (pe_dget (hu_of hr) (pe_dget (hu_of hr) (pe_ix (ixL K rfl) (pv 9) pe_int (fun _ _ => rfl)) pe_str (fun _ _ => rfl)) (pv 11) (fun _ _ => rfl)) pa_nil))))))
      (pss_one (ps_ret pe_bl))
      pss_nil))))))))
      (pss_one (ps_ret pe_bl)))))), ?_⟩
  walk_at "go"
  refine ⟨sz, fun L nL => ?_⟩
  have s1 := same_upd (o := HO.lst []) nL
  have gL := upd_same (H := H) (a := L) (o := HO.lst [])
  show _
  generalize upd H L (HO.lst []) = H1 at *
  show tSeq _ _ _ _ _
  refine un ?_
  walk_at "go"
  refine ⟨by omega, by omega, for_range (lo := 0) (n := 2) (fun j σ H' => Ob (∃ ps y2 y3 y4 y5 y6 y7, MkL C H H' L ps ∧ ps.length = j ∧ σ = [sR a, sR L, y2, y3, y4, y5, y6, y7, none, none, none, none])) (ob ⟨[], none, none, none, none, none, none, ⟨s1, gL, nL, fun _ h => (by cases h), fun _ h => (by cases h), List.Pairwise.nil, fun _ h => (by cases h), fun _ h => (by cases h), fun _ h => (by cases h), fun _ h => (by cases h)⟩, rfl, rfl⟩) ?_ ?_⟩
  · intro j σ H2 hj h
    obtain ⟨ps, y2, y3, y4, y5, y6, y7, mk, lp, rfl⟩ := unob h
    clear h
    have hS2 := mk.s.seq hS
    rw [Int.zero_add]
    have f0 : 0 ≤ num ns 0 (3 + (j : Int)) 5 := num_nn (by decide)
    have f1 : num ns 0 (3 + (j : Int)) 5 < 5 := num_lt (by decide)
    have t0 : 0 ≤ num ns 0 (5 + (j : Int)) 7 := num_nn (by decide)
    have t1 : num ns 0 (5 + (j : Int)) 7 < 7 := num_lt (by decide)
    have w0 : 0 ≤ num ns 0 (1 + (j : Int)) 8 := num_nn (by decide)
    have w1 : num ns 0 (1 + (j : Int)) 8 < 8 := num_lt (by decide)
    have k0 : 0 ≤ num ns 0 (8 + (j : Int)) 4 := num_nn (by decide)
    have k1 : num ns 0 (8 + (j : Int)) 4 < 4 := num_lt (by decide)
    obtain ⟨few, hf⟩ : ∃ m : Nat, 1 + num ns 0 (3 + (j : Int)) 5 = m := ⟨(1 + num ns 0 (3 + (j : Int)) 5).toNat, by omega⟩
    obtain ⟨sto, ht⟩ : ∃ m : Nat, num ns 0 (5 + (j : Int)) 7 = m := ⟨(num ns 0 (5 + (j : Int)) 7).toNat, by omega⟩
    obtain ⟨wi, hw⟩ : ∃ m : Nat, num ns 0 (1 + (j : Int)) 8 = m := ⟨(num ns 0 (1 + (j : Int)) 8).toNat, by omega⟩
    obtain ⟨ki, hk⟩ : ∃ m : Nat, num ns 0 (8 + (j : Int)) 4 = m := ⟨(num ns 0 (8 + (j : Int)) 4).toNat, by omega⟩
    have ef : V.int (1 + num ns 0 (3 + (j : Int)) 5) = V.int few := congrArg V.int hf
    obtain ⟨wd, ew, wd1, wd2⟩ : ∃ wd : Nat, ([V.int 2, V.int 3, V.int 4, V.int 16, V.int 1, V.int 2, V.int 3, V.int 1] : List V)[wi]? = some (.int wd) ∧ 1 ≤ wd ∧ wd ≤ 16 := by
      obtain rfl | rfl | rfl | rfl | rfl | rfl | rfl | rfl : wi = 0 ∨ wi = 1 ∨ wi = 2 ∨ wi = 3 ∨ wi = 4 ∨ wi = 5 ∨ wi = 6 ∨ wi = 7 := by omega
      · exact ⟨2, rfl, by omega, by omega⟩
      · exact ⟨3, rfl, by omega, by omega⟩
      · exact ⟨4, rfl, by omega, by omega⟩
      · exact ⟨16, rfl, by omega, by omega⟩
      · exact ⟨1, rfl, by omega, by omega⟩
      · exact ⟨2, rfl, by omega, by omega⟩
      · exact ⟨3, rfl, by omega, by omega⟩
      · exact ⟨1, rfl, by omega, by omega⟩
    obtain ⟨kd, ek, k4⟩ : ∃ kd : Str, ([V.str "lru", V.str "fifo", V.str "newest", V.str "clock"] : List V)[ki]? = some (.str kd) ∧ K4 kd := by
      obtain rfl | rfl | rfl | rfl : ki = 0 ∨ ki = 1 ∨ ki = 2 ∨ ki = 3 := by omega
      · exact ⟨_, rfl, .inl rfl⟩
      · exact ⟨_, rfl, .inr (.inl rfl)⟩
      · exact ⟨_, rfl, .inr (.inr (.inl rfl))⟩
      · exact ⟨_, rfl, .inr (.inr (.inr rfl))⟩
    walk_at "go"
    refine ⟨sz, fun l1 n1 => ?_⟩
    have s3 := same_upd (o := HO.lst [V.int 2, V.int 3, V.int 4, V.int 16, V.int 1, V.int 2, V.int 3, V.int 1]) n1
    have g1 := upd_same (H := H2) (a := l1) (o := HO.lst [V.int 2, V.int 3, V.int 4, V.int 16, V.int 1, V.int 2, V.int 3, V.int 1])
    show _
    generalize upd H2 l1 (HO.lst [V.int 2, V.int 3, V.int 4, V.int 16, V.int 1, V.int 2, V.int 3, V.int 1]) = H3 at *
    have hS3 := s3.seq hS2
    walk_at "go"
    rw [hw]
    refine ⟨l1, _, _, .int wd, rfl, rfl, SqL.of g1, atI_nat ew, ?_⟩
    walk_at "go"
    refine ⟨sz, fun l2 n2 => ?_⟩
    have s4 := same_upd (o := HO.lst [V.str "lru", V.str "fifo", V.str "newest", V.str "clock"]) n2
    have g2 := upd_same (H := H3) (a := l2) (o := HO.lst [V.str "lru", V.str "fifo", V.str "newest", V.str "clock"])
    show _
    generalize upd H3 l2 (HO.lst [V.str "lru", V.str "fifo", V.str "newest", V.str "clock"]) = H4 at *
    have hS4 := s4.seq hS3
    walk_at "go"
    rw [hk]
    refine ⟨l2, _, _, .str kd, rfl, rfl, SqL.of g2, atI_nat ek, ?_⟩
    have s24 := s3.trans s4
    clear s3 s4 g1 g2 n1 n2 hS3
    rw [show ((fun i j => V.int (i + j)) 1 (num ns 0 (3 + (j : Int)) 5)) = V.int few from ef, ht]
    have em : (few : Int) + (if (sto : Int) - 1 > 0 then (sto : Int) - 1 else 0) = ((few + (sto - 1) : Nat) : Int) := by split <;> omega
    have fe1 : 1 ≤ few := by omega
    have fe5 : few ≤ 5 := by omega
    have st6 : sto ≤ 6 := by omega
    clear ef hf ht hw hk ew ek f0 f1 t0 t1 w0 w1 k0 k1
    intro d nd
    have s5 := same_upd (o := HO.dK []) nd
    have gd := upd_same (H := H4) (a := d) (o := HO.dK [])
    show _
    generalize upd H4 d (HO.dK []) = H5 at *
    refine fun ka nka => ?_
    have s6 := same_upd (o := HO.dK []) nka
    have gka := upd_same (H := H5) (a := ka) (o := HO.dK [])
    have gd6 := s6 _ _ gd
    have nak := ne_of_none gd nka
    show _
    generalize upd H5 ka (HO.dK []) = H6 at *
    refine ⟨sz, fun ea nea => ?_⟩
    have s7 := same_upd (o := HO.lst []) nea
    have gea := upd_same (H := H6) (a := ea) (o := HO.lst [])
    have gd7 := s7 _ _ gd6
    have gka7 := s7 _ _ gka
    have nae := ne_of_none gd6 nea
    have nke := ne_of_none gka nea
    show _
    generalize upd H6 ea (HO.lst []) = H7 at *
    refine ⟨sz, fun pa npa => ?_⟩
    have s8 := same_upd (o := HO.lst []) npa
    have gpa := upd_same (H := H7) (a := pa) (o := HO.lst [])
    have gd8 := s8 _ _ gd7
    have gka8 := s8 _ _ gka7
    have gea8 := s8 _ _ gea
    have nap := ne_of_none gd7 npa
    have nkp := ne_of_none gka7 npa
    have nep := ne_of_none gea npa
    show _
    generalize upd H7 pa (HO.lst []) = H8 at *
    walk_at "go"
    refine CbI.mk ⟨0, (sto : Int) - 1, rfl, ?_⟩
    refine ⟨_, _, rfl, rfl, ?_⟩
    rw [show (fun i j => V.int (i + j)) (few : Int) (if (sto : Int) - 1 > 0 then (sto : Int) - 1 else 0) = V.int ((few + (sto - 1) : Nat) : Int) from congrArg V.int em]
    walk_at "go"
    refine ⟨gd8, dkR ka ea pa few (few + (sto - 1)) wd, rfl, (by show 6 ≤ 15; decide), ?_⟩
    rw [dk_merge]
    have b9 : ButL [d] H8 (upd H8 d (.dK (dkR ka ea pa few (few + (sto - 1)) wd))) := ButL.put (by simp)
    have g9 := upd_same (H := H8) (a := d) (o := HO.dK (dkR ka ea pa few (few + (sto - 1)) wd))
    have gka9 := b9 _ _ (by simpa using nak.symm) gka8
    have gea9 := b9 _ _ (by simpa using nae.symm) gea8
    have gpa9 := b9 _ _ (by simpa using nap.symm) gpa
    have s28 : Same H2 H8 := (((s24.trans s5).trans s6).trans s7).trans s8
    have nd2 : H2 d = none := s24.free nd
    have s29 : Same H2 (upd H8 d (.dK (dkR ka ea pa few (few + (sto - 1)) wd))) := same_put s28 nd2
    have nka2 : H2 ka = none := (s24.trans s5).free nka
    have nea2 : H2 ea = none := ((s24.trans s5).trans s6).free nea
    have npa2 : H2 pa = none := (((s24.trans s5).trans s6).trans s7).free npa
    show _
    generalize upd H8 d (HO.dK (dkR ka ea pa few (few + (sto - 1)) wd)) = H9 at *
    have hd9 : DkAt H9 ⟨d, ka, ea, pa, [], [], []⟩ few (few + (sto - 1)) wd := ⟨g9, gka9, gea9, gpa9, fun _ h => (by cases h), by
      show [d, ka, ea, pa].Nodup
      simp [nak, nae, nap, nke, nkp, nep]⟩
    clear s5 s6 s7 s8 gd gka gd6 gea gd7 gka7 gpa gd8 gka8 gea8 nd nka nea npa b9 s28 s24
    have gL9 := s29 _ _ mk.gL
    walk_at "go"
    intro x dx nx ndx nne
    refine ⟨x, dx, kd, few, sto, wd, rfl, upd_same, by omega, by omega, fun A H10 eA hp fA b10 => ⟨rfl, ?_⟩⟩
    have nz : ∀ {a : Addr}, upd (upd H9 dx (.own x)) x (.ins C.g dx []) a = none → H9 a = none := fun {a} e => by
      have e1 : a ≠ x := fun z => by rw [z, upd_same] at e; cases e
      rw [upd_ne e1] at e
      have e2 : a ≠ dx := fun z => by rw [z, upd_same] at e; cases e
      rw [upd_ne e2] at e
      exact e
    have s10 : Same H9 H10 := fun a o e => b10 a o (fun z => by rw [z, nx] at e; cases e) (by
      rw [upd_ne (fun z => by rw [z, nx] at e; cases e), upd_ne (fun z => by rw [z, ndx] at e; cases e)]
      exact e)
    have fA9 : ∀ a ∈ A.fix, H9 a = none := fun a ha => by
      by_cases e : a = x
      · rw [e]
        exact nx
      · exact nz (fA a ha e)
    have hd10 := hd9.same s10
    have s210 := s29.trans s10
    clear b10 fA nz nx ndx nne s10 gka9 gea9 gpa9 g9
    obtain ⟨X, eX⟩ : ∃ X : PD, X = ⟨A, ⟨kd, few, few + max 0 ((sto : Int) - 1), wd⟩, pgS0 few sto, ⟨d, ka, ea, pa, [], [], []⟩, few, few + (sto - 1), wd⟩ := ⟨_, rfl⟩
    have hfp : X.fp = (A.fix ++ []) ++ ([d, ka, ea, pa] ++ []) := by rw [eX]; rfl
    have f2 : ∀ a ∈ X.fp, H2 a = none := fun a ha => by
      rw [hfp, List.append_nil, List.append_nil] at ha
      rcases List.mem_append.mp ha with z | z
      · exact s29.free (fA9 a z)
      · simp only [List.mem_cons, List.not_mem_nil, or_false] at z
        rcases z with rfl | rfl | rfl | rfl
        · exact nd2
        · exact nka2
        · exact nea2
        · exact npa2
    have hX : X.At C 0 0 H10 := by
      rw [eX]
      refine ⟨⟨hp, gi_init k4 fe1 (by omega), ⟨Nat.le_refl _, Nat.le_refl _⟩, hd10, ⟨List.nodup_nil, fun _ h => (by cases h), fun _ h => (by cases h), Nat.le_refl _, Nat.zero_le _, fun _ h => (by cases h), by show 0 + 1 ≤ few; omega, List.nodup_nil, fun _ h => (by cases h)⟩, rfl, fun a ha hb => ?_, rfl, ?_, rfl⟩, by show few + (sto - 1) ≤ 60; omega, by show few ≤ 60; omega, wd1, wd2⟩
      · have ha : a ∈ A.fix ++ [] := ha
        rw [List.append_nil] at ha
        obtain ⟨o, g, _⟩ := hd9.noT a hb
        rw [fA9 a ha] at g
        cases g
      · show (few : Int) + max 0 ((sto : Int) - 1) = ((few + (sto - 1) : Nat) : Int)
        omega
    have rX : X.row = [.ref x, .ref d] := by
      rw [eX]
      show [V.ref A.p, V.ref d] = _
      rw [eA]
    have gL10 := s210 _ _ mk.gL
    walk_at "go"
    refine ⟨sz, fun qa nqa => ?_⟩
    rw [← rX]
    have s11 := same_upd (o := HO.lst X.row) nqa
    have gq := upd_same (H := H10) (a := qa) (o := HO.lst X.row)
    have hX11 := hX.same s11
    have s211 := s210.trans s11
    have nqa2 := s210.free nqa
    show _
    generalize upd H10 qa (HO.lst X.row) = H11 at *
    have gL11 := s211 _ _ mk.gL
    walk_at "go"
    refine ⟨L, _, _, rfl, rfl, gL11, sz5 (by rw [List.length_map]; omega), ?_⟩
    have LX : L ∉ X.fp := fun z => by
      have := mk.gL
      rw [f2 L z] at this
      cases this
    have Lq : L ≠ qa := fun z => by
      have := mk.gL
      rw [z, nqa2] at this
      cases this
    have b12 : ButL [L] H11 (upd H11 L (.lst (ps.map (fun p => V.ref p.1) ++ [.ref qa]))) := ButL.put (by simp)
    have tu12 : Tups H11 (upd H11 L (.lst (ps.map (fun p => V.ref p.1) ++ [.ref qa]))) := b12.tups fun z hz => by
      rw [List.mem_singleton.mp hz]
      exact .lst gL11
    have lv : ∀ p ∈ ps, ∀ a ∈ p.2.fp, H2 a ≠ none := fun p hp a ha => by
      obtain ⟨o, g, _⟩ := (mk.x p hp).noT a ha
      exact live_of g
    refine ob ⟨ps ++ [(qa, X)], _, _, _, _, _, _, ⟨same_put (mk.s.trans s211) mk.nL, ?_, mk.nL, fun p hp => ?_, fun p hp => ?_, ?_, fun p hp p' hp' => ?_, fun p hp a ha => ?_, fun p hp => ?_, fun p hp => ?_⟩, by rw [List.length_append, lp]; rfl, rfl⟩
    · rw [List.map_append]
      exact upd_same
    · rcases List.mem_append.mp hp with z | z
      · exact ((mk.x p z).same s211).offT b12.t tu12 fun a ha y => (mk.L p z).1 (List.mem_singleton.mp y ▸ ha)
      · rw [List.mem_singleton.mp z]
        exact hX11.offT b12.t tu12 fun a ha y => LX (List.mem_singleton.mp y ▸ ha)
    · rcases List.mem_append.mp hp with z | z
      · exact b12 _ _ (by simpa using (mk.L p z).2.symm) (s211 _ _ (mk.g p z))
      · rw [List.mem_singleton.mp z]
        exact b12 _ _ (by simpa using Lq.symm) gq
    · refine List.pairwise_append.mpr ⟨mk.dj, List.pairwise_singleton .., fun p hp p' hp' a ha hb => ?_⟩
      rw [List.mem_singleton.mp hp'] at hb
      exact lv p hp a ha (f2 a hb)
    · rcases List.mem_append.mp hp with z | z
      · rcases List.mem_append.mp hp' with y | y
        · exact mk.q p z p' y
        · rw [List.mem_singleton.mp y]
          intro t
          have := mk.g p z
          rw [f2 _ t] at this
          cases this
      · rw [List.mem_singleton.mp z]
        rcases List.mem_append.mp hp' with y | y
        · exact fun t => lv p' y _ t nqa2
        · rw [List.mem_singleton.mp y]
          intro t
          obtain ⟨o, g, _⟩ := hX.noT _ t
          rw [nqa] at g
          cases g
    · rcases List.mem_append.mp hp with z | z
      · exact mk.f p z a ha
      · rw [List.mem_singleton.mp z] at ha
        exact mk.s.free (f2 a ha)
    · rcases List.mem_append.mp hp with z | z
      · exact mk.qf p z
      · rw [List.mem_singleton.mp z]
        exact mk.s.free nqa2
    · rcases List.mem_append.mp hp with z | z
      · exact mk.L p z
      · rw [List.mem_singleton.mp z]
        exact ⟨LX, Lq⟩
  intro σ H2 h
  obtain ⟨ps, y2, y3, y4, y5, y6, y7, mk, lp, rfl⟩ := unob h
  clear h
  obtain ⟨⟨q0, X⟩, ⟨q1, Y⟩, rfl⟩ : ∃ p p' : Addr × PD, ps = [p, p'] := by
    match ps, lp with
    | [p, p'], _ => exact ⟨p, p', rfl⟩
  have m1 : (q0, X) ∈ [(q0, X), (q1, Y)] := by simp
  have m2 : (q1, Y) ∈ [(q0, X), (q1, Y)] := by simp
  have tw : Tw C PT H q0 q1 X Y 0 0 H2 := ⟨mk.x _ m1, mk.x _ m2, mk.g _ m1, mk.g _ m2, (List.pairwise_cons.mp mk.dj).1 _ (List.mem_singleton.mpr rfl), mk.q _ m1 _ m1, mk.q _ m1 _ m2, mk.q _ m2 _ m1, mk.q _ m2 _ m2, Same.t mk.s, hT.ext mk.s, fun a ha => .of (mk.f _ m1 a ha), fun a ha => .of (mk.f _ m2 a ha)⟩
  have gL2 : H2 L = some (.lst [.ref q0, .ref q1]) := mk.gL
  have LX := (mk.L _ m1).1
  have LY := (mk.L _ m2).1
  have hS2 := mk.s.seq hS
  clear mk m1 m2
  show tSeq _ _ _ _ _
  refine un ?_
  have a0 : 0 ≤ num ns 0 0 45 := num_nn (by decide)
  have a1 : num ns 0 0 45 < 45 := num_lt (by decide)
  have hSt : ∀ H', (∀ c o, (∀ ps, o ≠ .tbl ps) → H c = some o → H' c = some o) → SqL K H' a (ns.map V.int) := fun H' b => Lw.SqL.t hS b
  have lp0 : Lp C PT H L q0 q1 0 0 H2 := ⟨X, Y, tw, gL2, LX, LY⟩
  clear tw gL2 LX LY hS
  walk_at "go"
  refine ⟨_, _, rfl, ⟨by omega, by omega, by omega, by omega⟩, for_range (lo := 1) (n := (4 + num ns 0 0 45 - 1).toNat) (fun j σ H' => Ob (Lp C PT H L q0 q1 j (7 * j) H' ∧ ∃ y2 y3 y4 y5 y6 y7 y8 y9 y10, σ = [sR a, sR L, y2, y3, y4, y5, y6, y7, y8, y9, y10, none])) (ob ⟨lp0, _, _, _, _, _, _, _, _, _, rfl⟩) ?_ ?_⟩
  · intro j σ H3 hj h
    obtain ⟨lp3, y2, y3, y4, y5, y6, y7, y8, y9, y10, rfl⟩ := unob h
    clear h
    have hS3 : SqL K H3 a (ns.map V.int) := by
      obtain ⟨X, Y, t, _⟩ := lp3
      exact hSt H3 fun c o nt g => t.bt c o (by simp) nt g
    have gL3 : H3 L = some (.lst [.ref q0, .ref q1]) := by
      obtain ⟨X, Y, t, g, _⟩ := lp3
      exact g
    have p0 : 0 ≤ num ns (1 + (j : Int)) 15 2 := num_nn (by decide)
    have p1 : num ns (1 + (j : Int)) 15 2 < 2 := num_lt (by decide)
    obtain ⟨m, hm⟩ : ∃ m : Nat, num ns (1 + (j : Int)) 15 2 = m := ⟨(num ns (1 + (j : Int)) 15 2).toNat, by omega⟩
    obtain ⟨q, q', X, Y, tw, em, LX, LY, back⟩ := lp3.pick (m := m) (by omega)
    walk_at "go"
    rw [hm]
    refine ⟨L, _, _, .ref q, rfl, rfl, SqL.of gL3, atI_nat em, ?_⟩
    show tSeq _ _ _ _ _
    refine un ?_
    have gq := tw.gx
    walk_at "go"
    refine ⟨q, _, _, .ref X.A.p, rfl, rfl, SqL.of gq, atI_nat (j := 0) rfl, ?_⟩
    walk_at "go"
    refine ⟨q, _, _, .ref X.D.d, rfl, rfl, SqL.of gq, atI_nat (j := 1) rfl, ?_⟩
    walk_at "go"
    refine ⟨a, ns, 1 + (j : Int), X.A, X.k, X.S, X.D, X.few, X.most, X.wd, j, 7 * j, rfl, fun H' bt => hSt H' fun c o nt g => bt c o (fun z => (tw.fx c z).ne g nt rfl) nt (tw.bt c o (by simp) nt g), hl, by omega, by omega, tw.x.pr, tw.tb, by omega, by omega, tw.x.m, tw.x.f, tw.x.w1, tw.x.w2, fun A' S' D' H4 po => ?_⟩
    have tw4 := tw.step po (Nat.le_succ _) (by omega)
    have gL4 : H4 L = some (.lst [.ref q0, .ref q1]) := po.bt _ _ LX (fun _ z => by cases z) gL3
    have LX4 : L ∉ Lw.fp A' S' D' := fun z => (po.ad L z).elim LX fun t => t.ne gL3 (fun _ z => by cases z) rfl
    have lp4 : Lp C PT H L q0 q1 (j + 1) (7 * (j + 1)) H4 := back _ _ _ _ _ (tw4.mono (Nat.le_refl _) (by omega)) gL4 LX4 LY
    clear back tw tw4 po lp3 gq hS3
    walk_at "go"
    show tMk _ _ _ _
    refine un ?_
    walk_at "go"
    refine ⟨⟨_, SqL.of gL4⟩, for_list (K := K) (a := L) (xs := [.ref q0, .ref q1]) (fun i σ H' => Ob (Same H4 H' ∧ ∃ y2 y3 y4 y5 y6 y7 y8 y9 y10, σ = [sR a, sR L, y2, y3, y4, y5, y6, y7, y8, y9, y10, none])) (ob ⟨same_rfl, _, _, _, _, _, _, _, _, _, rfl⟩) (fun i σ H' _ h => SqL.of ((unob h).1 _ _ gL4)) ?_ ?_⟩
    · intro i v σ H5 hv h
      obtain ⟨s5, y2, y3, y4, y5, y6, y7, y8, y9, y10, rfl⟩ := unob h
      clear h
      have il : i < 2 := (List.getElem?_eq_some_iff.mp hv).1
      obtain ⟨q, q', X, Y, tw0, em, _⟩ := lp4.pick (m := i) il
      rw [em] at hv
      cases hv
      have tw := tw0.same s5
      have gq := tw.gx
      obtain ⟨dx, gp⟩ := tw.x.pr.at_.g
      have lk : X.S.cs.length < 64 := by rw [tw.x.pr.len]; have := tw.x.pr.ok.lk; have := tw.x.m; omega
      show tMk _ _ _ _
      refine un ?_
      walk_at "go"
      refine ⟨q, _, _, .ref X.A.p, rfl, rfl, SqL.of gq, atI_nat (j := 0) rfl, ?_⟩
      walk_at "go"
      refine ⟨X.A.p, _, _, rfl, gp, pg_b10, ?_⟩
      walk_at "go"
      refine SpI.mk ⟨X.A, X.k, X.S, rfl, tw.x.pr.at_, lk, fun ys r H6 pm so s6 nr gr => ?_⟩
      have tw6 := tw.same s6
      have gq6 := tw6.gx
      have gd6 := tw6.x.pr.dk.g
      walk_at "go"
      refine ⟨q, _, _, .ref X.D.d, rfl, rfl, SqL.of gq6, atI_nat (j := 1) rfl, ?_⟩
      walk_at "go"
      refine ⟨X.D.d, _, rfl, dk_k ▸ DGet.k (k := .inr "known") gd6, ?_⟩
      walk_at "go"
      refine ⟨X.D.ka, _, rfl, .inl tw6.x.pr.dk.k, fun l nl => ?_⟩
      rw [ks_map]
      have s7 := same_upd (o := HO.lst (X.D.ks.map V.int)) nl
      have gl := upd_same (H := H6) (a := l) (o := HO.lst (X.D.ks.map V.int))
      have gr7 := s7 _ _ gr
      show _
      generalize upd H6 l (HO.lst (X.D.ks.map V.int)) = H7 at *
      walk_at "go"
      have kl : X.D.ks.length < 64 := by rw [← tw.x.pr.ks, List.length_map]; exact lk
      refine ⟨kl, fun ys2 p2 pm2 so2 np2 => ?_⟩
      have ey : ys = ys2 := List.Perm.eq_of_pairwise (le := fun a b : Int => a ≤ b) (fun a b _ _ h1 h2 => by omega) so so2 (pm.trans (by rw [tw.x.pr.ks]; exact pm2.symm))
      subst ey
      have yl : ys.length ≤ 100000 := by rw [pm2.length_eq]; omega
      have s8 := same_upd (o := HO.lst (ys.map V.int)) np2
      have g8 := upd_same (H := H7) (a := p2) (o := HO.lst (ys.map V.int))
      have gr8 := s8 _ _ gr7
      show _
      generalize upd H7 p2 (HO.lst (ys.map V.int)) = H8 at *
      have s58 := (s5.trans s6).trans (s7.trans s8)
      walk_at "go"
      refine ⟨_, _, .list (ys.map .int), .list (ys.map .int), rfl, dh_li gr8, dh_li g8, dle_li yl, fun bb H9 hb s9 => ?_⟩
      obtain rfl := hb.mpr rfl
      walk_at "go"
      exact ob ⟨s58.trans s9, _, _, _, _, _, _, _, _, _, rfl⟩
    intro σ H5 h
    obtain ⟨s5, y2, y3, y4, y5, y6, y7, y8, y9, y10, rfl⟩ := unob h
    clear h
    obtain ⟨X, Y, t, g, l1, l2⟩ := lp4
    exact ob ⟨⟨X, Y, t.same s5, s5 _ _ g, l1, l2⟩, _, _, _, _, _, _, _, _, _, rfl⟩
  intro σ H3 h
  obtain ⟨lp3, y2, y3, y4, y5, y6, y7, y8, y9, y10, rfl⟩ := unob h
  clear h
  have gL3 : H3 L = some (.lst [.ref q0, .ref q1]) := by
    obtain ⟨X, Y, t, g, _⟩ := lp3
    exact g
  show tSeq _ _ _ _ _
  refine un ?_
  walk_at "go"
  refine ⟨⟨_, SqL.of gL3⟩, for_list (K := K) (a := L) (xs := [.ref q0, .ref q1]) (fun i σ H' => Ob (Lp C PT H L q0 q1 100 (1000 + 400 * i) H' ∧ ∃ y2 y3 y4 y5 y6 y7 y8 y9 y10 y11, σ = [sR a, sR L, y2, y3, y4, y5, y6, y7, y8, y9, y10, y11])) (ob ⟨lp3.mono (by omega) (by omega), _, _, _, _, _, _, _, _, _, _, rfl⟩) (fun i σ H' _ h => by
    obtain ⟨⟨X, Y, t, g, _⟩, _⟩ := unob h
    exact SqL.of g) ?_ ?_⟩
  · intro i v σ H4 hv h
    obtain ⟨lp4, y2, y3, y4, y5, y6, y7, y8, y9, y10, y11, rfl⟩ := unob h
    clear h
    have il : i < 2 := (List.getElem?_eq_some_iff.mp hv).1
    obtain ⟨q, q', X, Y, tw, em, LX, LY, back⟩ := lp4.pick (m := i) il
    rw [em] at hv
    cases hv
    have gL4 : H4 L = some (.lst [.ref q0, .ref q1]) := by
      obtain ⟨X, Y, t, g, _⟩ := lp4
      exact g
    have gq := tw.gx
    have gd := tw.x.pr.dk.g
    show tMk _ _ _ _
    refine un ?_
    walk_at "go"
    refine ⟨q, _, _, .ref X.D.d, rfl, rfl, SqL.of gq, atI_nat (j := 1) rfl, ?_⟩
    walk_at "go"
    refine ⟨X.D.d, _, rfl, dk_k ▸ DGet.k (k := .inr "known") gd, ?_⟩
    walk_at "go"
    refine ⟨X.D.ka, _, rfl, .inl tw.x.pr.dk.k, fun l nl => ?_⟩
    rw [ks_map]
    have s5 := same_upd (o := HO.lst (X.D.ks.map V.int)) nl
    have gl := upd_same (H := H4) (a := l) (o := HO.lst (X.D.ks.map V.int))
    have tw5 := tw.same s5
    have gL5 := s5 _ _ gL4
    have lX : l ∉ X.fp := fun z => by
      obtain ⟨o, g, _⟩ := tw.x.noT l z
      rw [nl] at g
      cases g
    have kl : X.D.ks.length ≤ 60 := by unfold DK.ks; rw [List.length_map]; have := tw.x.pr.ok.lk; have := tw.x.m; omega
    show _
    generalize upd H4 l (HO.lst (X.D.ks.map V.int)) = H5 at *
    clear tw gL4 s5 gq gd lp4
    walk_at "go"
    refine ⟨⟨_, SqL.of gl⟩, for_list (K := K) (a := l) (xs := X.D.ks.map V.int) (fun m σ H' => Ob (∃ S1, Tw C PT H q q' ⟨X.A, X.k, S1, X.D, X.few, X.most, X.wd⟩ Y 100 (1000 + 400 * i + 4 * m) H' ∧ H' L = some (.lst [.ref q0, .ref q1]) ∧ H' l = some (.lst (X.D.ks.map V.int)) ∧ L ∉ PD.fp ⟨X.A, X.k, S1, X.D, X.few, X.most, X.wd⟩ ∧ l ∉ PD.fp ⟨X.A, X.k, S1, X.D, X.few, X.most, X.wd⟩ ∧ ∃ y2 y3 y4 y5 y6 y7 y8 y10 y11, σ = [sR a, sR L, y2, y3, y4, y5, y6, y7, y8, sR q, y10, y11])) (ob ⟨X.S, tw5, gL5, gl, LX, lX, _, _, _, _, _, _, _, _, _, rfl⟩) (fun m σ H' _ h => by
      obtain ⟨S1, _, _, g, _⟩ := unob h
      exact SqL.of g) ?_ ?_⟩
    · intro m v σ H6 hv h
      obtain ⟨S1, tw6, gL6, gl6, LX6, lX6, y2, y3, y4, y5, y6, y7, y8, y10, y11, rfl⟩ := unob h
      clear h
      have ml : m < 60 := by
        have := (List.getElem?_eq_some_iff.mp hv).1
        rw [List.length_map] at this
        omega
      unfold DK.ks at hv
      rw [List.getElem?_map, List.getElem?_map] at hv
      obtain ⟨z, hz, rfl⟩ := Option.map_eq_some_iff.mp hv
      obtain ⟨e, he0, rfl⟩ := Option.map_eq_some_iff.mp hz
      have he : e ∈ X.D.kn := List.mem_of_getElem? he0
      have gq := tw6.gx
      have gd := tw6.x.pr.dk.g
      show tMk _ _ _ _
      refine un ?_
      walk_at "go"
      refine ⟨q, _, _, .ref X.A.p, rfl, rfl, SqL.of gq, atI_nat (j := 0) rfl, ?_⟩
      walk_at "go"
      refine ⟨q, _, _, .ref X.D.d, rfl, rfl, SqL.of gq, atI_nat (j := 1) rfl, ?_⟩
      walk_at "go"
      refine ⟨X.D.d, _, rfl, dk_k ▸ DGet.k (k := .inr "known") gd, ?_⟩
      walk_at "go"
      have pr6 : Pr C X.k X.A S1 X.D X.few X.most X.wd 100 (1000 + 400 * i + 4 * m) H6 := tw6.x.pr
      have gc : valV (X.D.kn.map Cont.row) (.inl e.st) = some (.ref e.ad) := dk_at he pr6.ok.nd
      refine ⟨X.D.ka, .ref e.ad, rfl, gc ▸ DGet.k (k := .inl e.st) pr6.dk.k, ?_⟩
      walk_at "go"
      obtain ⟨cS, hcS, eS⟩ := List.mem_map.mp (show (e.st, e.by') ∈ mc S1 from pr6.m ▸ List.mem_map.mpr ⟨e, he, rfl⟩)
      have e1 : cS.st = e.st := congrArg Prod.fst eS
      have e2 : cS.by' = e.by' := congrArg Prod.snd eS
      have ne : e.ad ∈ X.D.all := List.mem_append_right _ (List.mem_map.mpr ⟨e, he, rfl⟩)
      have ww1 : 1 ≤ X.wd := tw6.x.w1
      have ww2 : X.wd ≤ 16 := tw6.x.w2
      refine ⟨X.A, X.k, S1, X.D.pins, 1000 + 400 * i + 4 * m, cS, e.ad, by rw [e1]; rfl, pr6.at_, pr6.gi, pr6.bd, by omega, tw6.tb, hcS, by rw [e1]; exact pr6.ok.ks _ (List.mem_map.mpr ⟨e, he, rfl⟩), by rw [e2]; exact pr6.dk.c e he, fun z => pr6.dj _ z ne, by rw [e2, pr6.ok.w e he]; omega, by rw [e2, pr6.ok.w e he]; omega, by rw [← pr6.gi.n, pr6.fr]; exact pr6.ok.lp, fun S2 H7 p2 => ?_⟩
      obtain ⟨tw7, ad7⟩ := tw6.read p2 (by omega)
      have nf : ∀ {c o}, H6 c = some o → (∀ ps, o ≠ .tbl ps) → c ∉ PD.fp ⟨X.A, X.k, S1, X.D, X.few, X.most, X.wd⟩ → c ∉ PD.fp ⟨X.A, X.k, S2, X.D, X.few, X.most, X.wd⟩ := fun g nt n z => (ad7 _ z).elim n fun t => t.ne g nt rfl
      have k7 : ∀ {c o}, H6 c = some o → (∀ ps, o ≠ .tbl ps) → c ∉ PD.fp ⟨X.A, X.k, S1, X.D, X.few, X.most, X.wd⟩ → H7 c = some o := fun g nt n => p2.bt _ _ (fun z => n (List.mem_append_left _ z)) nt g
      walk_at "go"
      exact ob ⟨S2, tw7, k7 gL6 (fun _ z => by cases z) LX6, k7 gl6 (fun _ z => by cases z) lX6, nf gL6 (fun _ z => by cases z) LX6, nf gl6 (fun _ z => by cases z) lX6, _, _, _, _, _, _, _, _, _, rfl⟩
    · intro σ H6 h
      obtain ⟨S1, tw6, gL6, gl6, LX6, lX6, y2, y3, y4, y5, y6, y7, y8, y10, y11, rfl⟩ := unob h
      clear h
      rw [List.length_map] at tw6
      exact ob ⟨back _ _ _ _ _ (tw6.mono (Nat.le_refl _) (by omega)) gL6 LX6 LY, _, _, _, _, _, _, _, _, _, _, rfl⟩
  intro σ H4 h
  obtain ⟨_, y2, y3, y4, y5, y6, y7, y8, y9, y10, y11, rfl⟩ := unob h
  walk_at "go"
  exact q _
end

end

/-- what the written part says, asked one by one -/
theorem own_mk {P : Program} {K : PySem.W.Frag} {h : Heap} {mg : Str → Option Value} (X : K.In h) (G : h.Ns mainGlobals mg) {st : Stmt} {qn : Str} {D f cc c N : Addr} {oc ccl cl dV kV doc pm ctv : Value} {od an cdd cld dd : Option Addr} {osl ccs csl : Array (Option Value)} {vs : Array Value} {file : Str} {tf : Tok}
    {nm q : Str} {bs bm : List Value} {sn : List Str} {sub : List Value} {ab : Bool} {col : Option Bool} {k0 k1 k2 k3 k5 : Option Value} {ar : Arg}
    (iC : PySem.W.findIn K (.ref D) "__init__" = some (some (.ref f))) (tI : PySem.W.typeIn K (.ref f) = some (.type "function"))
    (lF : K.lookup f = some ⟨oc, od, .func (PySem.W.fnX "__init__" qn (C8.fnArgs st) (C8.fnBody st) (C8.fnScope st) [("__class__", cc)] dV kV doc pm an (.ref c) ctv), osl⟩)
    (cF : PySem.W.codeIn K (.ref c) qn = true) (lc : K.lookup c = some ⟨ccl, cdd, .fields vs, ccs⟩) (hv : vs[2]? = some (.str file tf)) (hf : ((P.main.file : Str) == file) = true) (tp : (P.main.scope.names.lookup ("super" : Str)).isSome = false)
    (lcc : K.lookup cc = some ⟨cl, cld, .cell (some (.ref D)), csl⟩) (zs : PySem.W.nsIn K mainGlobals "super" = some none) (hp : ((C8.fnArgs st).posonlyargs ++ (C8.fnArgs st).args).head? = some ar) (ha : ar.arg = "self")
    (sk : (C8.fnScope st).names.lookup ("super" : Str) = some .globalImplicit)
    (lD : K.lookup D = some (excClassObj nm q D N bs bm true sn sub ab col dd k0 k1 k2 k3 k5 "ValueError.__new__")) (rb : PySem.HandSPX.refsVE bm = true)
    (sa : PySem.W.findIn K (.ref D) "__setattr__" = some (some (.builtin "object.__setattr__"))) (ex : PySem.W.subIn K (.ref D) (.type "BaseException") = some true) (ty : PySem.W.typeIn K (.ref D) = some (.type "type")) (kC : PySem.W.keepIn K (.ref D) = true)
    (mr : PySem.W.mroIn K D (.ref D) = some true) (ini : PySem.W.ks_superIn K D D "__init__" = some (some (.builtin "ValueError.__init__"))) (ve : PySem.W.subIn K (.ref D) (.type "ValueError") = some true) (any : PySem.W.nsIn K cStatics "thirdparty.any" = some none) :
    SupAt P K mg (NF.of st "__init__" qn [("__class__", cc)] c) f D cc "self" dV kV doc pm ctv an ∧ OexC K D := by
  have O : OexC K D := ⟨⟨nm, q, N, bs, bm, sn, sub, ab, col, dd, k0, k1, k2, k3, k5, lD, rb⟩, sa, ex, ty, kC⟩
  exact ⟨⟨⟨_, _, _, lF⟩, rfl, cF, ⟨_, _, _, _, _, _, lc, hv, hf⟩, tp, ⟨_, _, _, lcc⟩, PySem.W.mg_none_of X G zs, ⟨ar, hp, ha⟩, sk, O, mr, ini, ve, any⟩, O⟩

section

-- a condition of an operator
local macro_rules | `(tactic| walk_at "cond") => `(tactic| first
  | (show (0 : Int) < _; omega)
  | (show CDiv _ _; constructor <;> (first | decide | omega))
  | (show CMul _ _; first | (refine cmul_l ?_; constructor <;> (first | decide | omega)) | (refine cmul_r ?_; constructor <;> (first | decide | omega)))
  | (show CPow _ _; exact (by refine ⟨by decide, by decide, by decide⟩))
  | (show CDivW _ _; exact ⟨by decide, by decide +kernel⟩))
local macro_rules | `(tactic| walk_at "sq") => `(tactic| first | assumption | exact Dh.mono (same_upd (by assumption)) _ _ (by assumption) | exact .inl (.inl (.inl (by assumption))) | exact .inr (.inl (.inl (by assumption))) | exact SqL.of (by assumption) | exact .inl (by assumption) | exact .inl (SqL.of (by assumption)) | exact SqT.of (by assumption) | exact .inr (SqT.of (by assumption)))
local macro_rules | `(tactic| walk_at "st") => `(tactic| first
  | refine ⟨_, rfl, ?_⟩
  | refine ⟨_, _, rfl, rfl, ?_⟩
  | refine .inl ⟨_, rfl, ?_⟩
  | refine ⟨rfl, ?_⟩
  | refine ⟨_, _, rfl, by walk_at "sq", ?_⟩
  | refine ⟨.inl ⟨rfl, _, SqL.of (by assumption)⟩, ?_⟩
  | refine ⟨by walk_at "cond", ?_⟩
  | (refine' ifBT ?hh ?_; (case hh => first | rfl | assumption))
  | (refine' ifBF ?hh ?_; (case hh => first | rfl | assumption)))
local macro_rules | `(tactic| walk_at "go") => `(tactic| repeat walk_at "st")
local macro_rules | `(tactic| walk_at "yes") => `(tactic| (refine' ifT ?hh ?_; (case hh => first | rfl | decide +kernel)))
local macro_rules | `(tactic| walk_at "no") => `(tactic| (refine' ifF ?hh ?_; (case hh => first | decide +kernel | (intro z; cases z; done))))

theorem all_mk {l : PySem.W.OpenLaw} {w : World} {K : PySem.W.Frag} {h : Heap} {mg : Str → Option Value} {fa : Addr} (X : K.In h) (G : h.Ns mainGlobals mg) (hfa : mg "law" = some (.ref fa))
    {CP : Addr} (aCP : PySem.W.nsIn K mainGlobals "Pager" = some (some (.ref CP)))
    {od_g_bring an_g_bring : Option Addr} {sl_g_bring : Array (Option Value)} {f_g_bring : Addr} {oc_g_bring kV_g_bring dc_g_bring pm_g_bring cd_g_bring ct_g_bring : Value}
    (a_g_bring : PySem.W.findIn K (.ref CP) "bring" = some (some (.ref f_g_bring))) (i_g_bring : PySem.W.isFn K (.ref f_g_bring) = true)
    (l_g_bring : K.lookup f_g_bring = some ⟨oc_g_bring, od_g_bring, .func (PySem.W.fnOf "bring" "Pager.bring" (C8.fnArgs s_Pager_bring) (C8.fnBody s_Pager_bring) (C8.fnScope s_Pager_bring) .none kV_g_bring dc_g_bring pm_g_bring an_g_bring cd_g_bring ct_g_bring), sl_g_bring⟩)
    (c_g_bring : PySem.W.codeIn K cd_g_bring "Pager.bring" = true) (k_g_bring : PySem.W.keepIn K (.ref f_g_bring) = true)
    {od_g_begin an_g_begin : Option Addr} {sl_g_begin : Array (Option Value)} {f_g_begin : Addr} {oc_g_begin kV_g_begin dc_g_begin pm_g_begin cd_g_begin ct_g_begin : Value}
    (a_g_begin : PySem.W.findIn K (.ref CP) "begin" = some (some (.ref f_g_begin))) (i_g_begin : PySem.W.isFn K (.ref f_g_begin) = true)
    (l_g_begin : K.lookup f_g_begin = some ⟨oc_g_begin, od_g_begin, .func (PySem.W.fnOf "begin" "Pager.begin" (C8.fnArgs s_Pager_begin) (C8.fnBody s_Pager_begin) (C8.fnScope s_Pager_begin) .none kV_g_begin dc_g_begin pm_g_begin an_g_begin cd_g_begin ct_g_begin), sl_g_begin⟩)
    (c_g_begin : PySem.W.codeIn K cd_g_begin "Pager.begin" = true) (k_g_begin : PySem.W.keepIn K (.ref f_g_begin) = true)
    {od_g_duplicate an_g_duplicate : Option Addr} {sl_g_duplicate : Array (Option Value)} {f_g_duplicate : Addr} {oc_g_duplicate kV_g_duplicate dc_g_duplicate pm_g_duplicate cd_g_duplicate ct_g_duplicate : Value}
    (a_g_duplicate : PySem.W.findIn K (.ref CP) "duplicate" = some (some (.ref f_g_duplicate))) (i_g_duplicate : PySem.W.isFn K (.ref f_g_duplicate) = true)
    (l_g_duplicate : K.lookup f_g_duplicate = some ⟨oc_g_duplicate, od_g_duplicate, .func (PySem.W.fnOf "duplicate" "Pager.duplicate" (C8.fnArgs s_Pager_duplicate) (C8.fnBody s_Pager_duplicate) (C8.fnScope s_Pager_duplicate) .none kV_g_duplicate dc_g_duplicate pm_g_duplicate an_g_duplicate cd_g_duplicate ct_g_duplicate), sl_g_duplicate⟩)
    (c_g_duplicate : PySem.W.codeIn K cd_g_duplicate "Pager.duplicate" = true) (k_g_duplicate : PySem.W.keepIn K (.ref f_g_duplicate) = true)
    {od_g_rename an_g_rename : Option Addr} {sl_g_rename : Array (Option Value)} {f_g_rename : Addr} {oc_g_rename kV_g_rename dc_g_rename pm_g_rename cd_g_rename ct_g_rename : Value}
    (a_g_rename : PySem.W.findIn K (.ref CP) "rename" = some (some (.ref f_g_rename))) (i_g_rename : PySem.W.isFn K (.ref f_g_rename) = true)
    (l_g_rename : K.lookup f_g_rename = some ⟨oc_g_rename, od_g_rename, .func (PySem.W.fnOf "rename" "Pager.rename" (C8.fnArgs s_Pager_rename) (C8.fnBody s_Pager_rename) (C8.fnScope s_Pager_rename) .none kV_g_rename dc_g_rename pm_g_rename an_g_rename cd_g_rename ct_g_rename), sl_g_rename⟩)
    (c_g_rename : PySem.W.codeIn K cd_g_rename "Pager.rename" = true) (k_g_rename : PySem.W.keepIn K (.ref f_g_rename) = true)
    {od_g_read an_g_read : Option Addr} {sl_g_read : Array (Option Value)} {f_g_read : Addr} {oc_g_read kV_g_read dc_g_read pm_g_read cd_g_read ct_g_read : Value}
    (a_g_read : PySem.W.findIn K (.ref CP) "read" = some (some (.ref f_g_read))) (i_g_read : PySem.W.isFn K (.ref f_g_read) = true)
    (l_g_read : K.lookup f_g_read = some ⟨oc_g_read, od_g_read, .func (PySem.W.fnOf "read" "Pager.read" (C8.fnArgs s_Pager_read) (C8.fnBody s_Pager_read) (C8.fnScope s_Pager_read) .none kV_g_read dc_g_read pm_g_read an_g_read cd_g_read ct_g_read), sl_g_read⟩)
    (c_g_read : PySem.W.codeIn K cd_g_read "Pager.read" = true) (k_g_read : PySem.W.keepIn K (.ref f_g_read) = true)
    {od_g_store an_g_store : Option Addr} {sl_g_store : Array (Option Value)} {f_g_store : Addr} {oc_g_store kV_g_store dc_g_store pm_g_store cd_g_store ct_g_store : Value}
    (a_g_store : PySem.W.findIn K (.ref CP) "store" = some (some (.ref f_g_store))) (i_g_store : PySem.W.isFn K (.ref f_g_store) = true)
    (l_g_store : K.lookup f_g_store = some ⟨oc_g_store, od_g_store, .func (PySem.W.fnOf "store" "Pager.store" (C8.fnArgs s_Pager_store) (C8.fnBody s_Pager_store) (C8.fnScope s_Pager_store) .none kV_g_store dc_g_store pm_g_store an_g_store cd_g_store ct_g_store), sl_g_store⟩)
    (c_g_store : PySem.W.codeIn K cd_g_store "Pager.store" = true) (k_g_store : PySem.W.keepIn K (.ref f_g_store) = true)
    {od_g_release an_g_release : Option Addr} {sl_g_release : Array (Option Value)} {f_g_release : Addr} {oc_g_release kV_g_release dc_g_release pm_g_release cd_g_release ct_g_release : Value}
    (a_g_release : PySem.W.findIn K (.ref CP) "release" = some (some (.ref f_g_release))) (i_g_release : PySem.W.isFn K (.ref f_g_release) = true)
    (l_g_release : K.lookup f_g_release = some ⟨oc_g_release, od_g_release, .func (PySem.W.fnOf "release" "Pager.release" (C8.fnArgs s_Pager_release) (C8.fnBody s_Pager_release) (C8.fnScope s_Pager_release) .none kV_g_release dc_g_release pm_g_release an_g_release cd_g_release ct_g_release), sl_g_release⟩)
    (c_g_release : PySem.W.codeIn K cd_g_release "Pager.release" = true) (k_g_release : PySem.W.keepIn K (.ref f_g_release) = true)
    {od_g_put_out an_g_put_out : Option Addr} {sl_g_put_out : Array (Option Value)} {f_g_put_out : Addr} {oc_g_put_out kV_g_put_out dc_g_put_out pm_g_put_out cd_g_put_out ct_g_put_out : Value}
    (a_g_put_out : PySem.W.findIn K (.ref CP) "put_out" = some (some (.ref f_g_put_out))) (i_g_put_out : PySem.W.isFn K (.ref f_g_put_out) = true)
    (l_g_put_out : K.lookup f_g_put_out = some ⟨oc_g_put_out, od_g_put_out, .func (PySem.W.fnOf "put_out" "Pager.put_out" (C8.fnArgs s_Pager_put_out) (C8.fnBody s_Pager_put_out) (C8.fnScope s_Pager_put_out) .none kV_g_put_out dc_g_put_out pm_g_put_out an_g_put_out cd_g_put_out ct_g_put_out), sl_g_put_out⟩)
    (c_g_put_out : PySem.W.codeIn K cd_g_put_out "Pager.put_out" = true) (k_g_put_out : PySem.W.keepIn K (.ref f_g_put_out) = true)
    {od_g_pin an_g_pin : Option Addr} {sl_g_pin : Array (Option Value)} {f_g_pin : Addr} {oc_g_pin kV_g_pin dc_g_pin pm_g_pin cd_g_pin ct_g_pin : Value}
    (a_g_pin : PySem.W.findIn K (.ref CP) "pin" = some (some (.ref f_g_pin))) (i_g_pin : PySem.W.isFn K (.ref f_g_pin) = true)
    (l_g_pin : K.lookup f_g_pin = some ⟨oc_g_pin, od_g_pin, .func (PySem.W.fnOf "pin" "Pager.pin" (C8.fnArgs s_Pager_pin) (C8.fnBody s_Pager_pin) (C8.fnScope s_Pager_pin) .none kV_g_pin dc_g_pin pm_g_pin an_g_pin cd_g_pin ct_g_pin), sl_g_pin⟩)
    (c_g_pin : PySem.W.codeIn K cd_g_pin "Pager.pin" = true) (k_g_pin : PySem.W.keepIn K (.ref f_g_pin) = true)
    {od_g_unpin an_g_unpin : Option Addr} {sl_g_unpin : Array (Option Value)} {f_g_unpin : Addr} {oc_g_unpin kV_g_unpin dc_g_unpin pm_g_unpin cd_g_unpin ct_g_unpin : Value}
    (a_g_unpin : PySem.W.findIn K (.ref CP) "unpin" = some (some (.ref f_g_unpin))) (i_g_unpin : PySem.W.isFn K (.ref f_g_unpin) = true)
    (l_g_unpin : K.lookup f_g_unpin = some ⟨oc_g_unpin, od_g_unpin, .func (PySem.W.fnOf "unpin" "Pager.unpin" (C8.fnArgs s_Pager_unpin) (C8.fnBody s_Pager_unpin) (C8.fnScope s_Pager_unpin) .none kV_g_unpin dc_g_unpin pm_g_unpin an_g_unpin cd_g_unpin ct_g_unpin), sl_g_unpin⟩)
    (c_g_unpin : PySem.W.codeIn K cd_g_unpin "Pager.unpin" = true) (k_g_unpin : PySem.W.keepIn K (.ref f_g_unpin) = true)
    {od_g_live an_g_live : Option Addr} {sl_g_live : Array (Option Value)} {f_g_live : Addr} {oc_g_live kV_g_live dc_g_live pm_g_live cd_g_live ct_g_live : Value}
    (a_g_live : PySem.W.findIn K (.ref CP) "live" = some (some (.ref f_g_live))) (i_g_live : PySem.W.isFn K (.ref f_g_live) = true)
    (l_g_live : K.lookup f_g_live = some ⟨oc_g_live, od_g_live, .func (PySem.W.fnOf "live" "Pager.live" (C8.fnArgs s_Pager_live) (C8.fnBody s_Pager_live) (C8.fnScope s_Pager_live) .none kV_g_live dc_g_live pm_g_live an_g_live cd_g_live ct_g_live), sl_g_live⟩)
    (c_g_live : PySem.W.codeIn K cd_g_live "Pager.live" = true) (k_g_live : PySem.W.keepIn K (.ref f_g_live) = true)
    {od_g_check_live an_g_check_live : Option Addr} {sl_g_check_live : Array (Option Value)} {f_g_check_live : Addr} {oc_g_check_live kV_g_check_live dc_g_check_live pm_g_check_live cd_g_check_live ct_g_check_live : Value}
    (a_g_check_live : PySem.W.findIn K (.ref CP) "_check_live" = some (some (.ref f_g_check_live))) (i_g_check_live : PySem.W.isFn K (.ref f_g_check_live) = true)
    (l_g_check_live : K.lookup f_g_check_live = some ⟨oc_g_check_live, od_g_check_live, .func (PySem.W.fnOf "_check_live" "Pager._check_live" (C8.fnArgs s_Pager__check_live) (C8.fnBody s_Pager__check_live) (C8.fnScope s_Pager__check_live) .none kV_g_check_live dc_g_check_live pm_g_check_live an_g_check_live cd_g_check_live ct_g_check_live), sl_g_check_live⟩)
    (c_g_check_live : PySem.W.codeIn K cd_g_check_live "Pager._check_live" = true) (k_g_check_live : PySem.W.keepIn K (.ref f_g_check_live) = true)
    {od_g_check_room an_g_check_room : Option Addr} {sl_g_check_room : Array (Option Value)} {f_g_check_room : Addr} {oc_g_check_room kV_g_check_room dc_g_check_room pm_g_check_room cd_g_check_room ct_g_check_room : Value}
    (a_g_check_room : PySem.W.findIn K (.ref CP) "_check_room" = some (some (.ref f_g_check_room))) (i_g_check_room : PySem.W.isFn K (.ref f_g_check_room) = true)
    (l_g_check_room : K.lookup f_g_check_room = some ⟨oc_g_check_room, od_g_check_room, .func (PySem.W.fnOf "_check_room" "Pager._check_room" (C8.fnArgs s_Pager__check_room) (C8.fnBody s_Pager__check_room) (C8.fnScope s_Pager__check_room) .none kV_g_check_room dc_g_check_room pm_g_check_room an_g_check_room cd_g_check_room ct_g_check_room), sl_g_check_room⟩)
    (c_g_check_room : PySem.W.codeIn K cd_g_check_room "Pager._check_room" = true) (k_g_check_room : PySem.W.keepIn K (.ref f_g_check_room) = true)
    {od_g_frames_to_choose an_g_frames_to_choose : Option Addr} {sl_g_frames_to_choose : Array (Option Value)} {f_g_frames_to_choose : Addr} {oc_g_frames_to_choose kV_g_frames_to_choose dc_g_frames_to_choose pm_g_frames_to_choose cd_g_frames_to_choose ct_g_frames_to_choose : Value}
    (a_g_frames_to_choose : PySem.W.findIn K (.ref CP) "_frames_to_choose" = some (some (.ref f_g_frames_to_choose))) (i_g_frames_to_choose : PySem.W.isFn K (.ref f_g_frames_to_choose) = true)
    (l_g_frames_to_choose : K.lookup f_g_frames_to_choose = some ⟨oc_g_frames_to_choose, od_g_frames_to_choose, .func (PySem.W.fnOf "_frames_to_choose" "Pager._frames_to_choose" (C8.fnArgs s_Pager__frames_to_choose) (C8.fnBody s_Pager__frames_to_choose) (C8.fnScope s_Pager__frames_to_choose) .none kV_g_frames_to_choose dc_g_frames_to_choose pm_g_frames_to_choose an_g_frames_to_choose cd_g_frames_to_choose ct_g_frames_to_choose), sl_g_frames_to_choose⟩)
    (c_g_frames_to_choose : PySem.W.codeIn K cd_g_frames_to_choose "Pager._frames_to_choose" = true) (k_g_frames_to_choose : PySem.W.keepIn K (.ref f_g_frames_to_choose) = true)
    {od_g_obtain an_g_obtain : Option Addr} {sl_g_obtain : Array (Option Value)} {f_g_obtain : Addr} {oc_g_obtain kV_g_obtain dc_g_obtain pm_g_obtain cd_g_obtain ct_g_obtain : Value}
    (a_g_obtain : PySem.W.findIn K (.ref CP) "_obtain" = some (some (.ref f_g_obtain))) (i_g_obtain : PySem.W.isFn K (.ref f_g_obtain) = true)
    (l_g_obtain : K.lookup f_g_obtain = some ⟨oc_g_obtain, od_g_obtain, .func (PySem.W.fnOf "_obtain" "Pager._obtain" (C8.fnArgs s_Pager__obtain) (C8.fnBody s_Pager__obtain) (C8.fnScope s_Pager__obtain) .none kV_g_obtain dc_g_obtain pm_g_obtain an_g_obtain cd_g_obtain ct_g_obtain), sl_g_obtain⟩)
    (c_g_obtain : PySem.W.codeIn K cd_g_obtain "Pager._obtain" = true) (k_g_obtain : PySem.W.keepIn K (.ref f_g_obtain) = true)
    {od_g_obtain_beside an_g_obtain_beside : Option Addr} {sl_g_obtain_beside : Array (Option Value)} {f_g_obtain_beside : Addr} {oc_g_obtain_beside kV_g_obtain_beside dc_g_obtain_beside pm_g_obtain_beside cd_g_obtain_beside ct_g_obtain_beside : Value}
    (a_g_obtain_beside : PySem.W.findIn K (.ref CP) "_obtain_beside" = some (some (.ref f_g_obtain_beside))) (i_g_obtain_beside : PySem.W.isFn K (.ref f_g_obtain_beside) = true)
    (l_g_obtain_beside : K.lookup f_g_obtain_beside = some ⟨oc_g_obtain_beside, od_g_obtain_beside, .func (PySem.W.fnOf "_obtain_beside" "Pager._obtain_beside" (C8.fnArgs s_Pager__obtain_beside) (C8.fnBody s_Pager__obtain_beside) (C8.fnScope s_Pager__obtain_beside) .none kV_g_obtain_beside dc_g_obtain_beside pm_g_obtain_beside an_g_obtain_beside cd_g_obtain_beside ct_g_obtain_beside), sl_g_obtain_beside⟩)
    (c_g_obtain_beside : PySem.W.codeIn K cd_g_obtain_beside "Pager._obtain_beside" = true) (k_g_obtain_beside : PySem.W.keepIn K (.ref f_g_obtain_beside) = true)
    {od_g_fill an_g_fill : Option Addr} {sl_g_fill : Array (Option Value)} {f_g_fill : Addr} {oc_g_fill kV_g_fill dc_g_fill pm_g_fill cd_g_fill ct_g_fill : Value}
    (a_g_fill : PySem.W.findIn K (.ref CP) "_fill" = some (some (.ref f_g_fill))) (i_g_fill : PySem.W.isFn K (.ref f_g_fill) = true)
    (l_g_fill : K.lookup f_g_fill = some ⟨oc_g_fill, od_g_fill, .func (PySem.W.fnOf "_fill" "Pager._fill" (C8.fnArgs s_Pager__fill) (C8.fnBody s_Pager__fill) (C8.fnScope s_Pager__fill) .none kV_g_fill dc_g_fill pm_g_fill an_g_fill cd_g_fill ct_g_fill), sl_g_fill⟩)
    (c_g_fill : PySem.W.codeIn K cd_g_fill "Pager._fill" = true) (k_g_fill : PySem.W.keepIn K (.ref f_g_fill) = true)
    {od_g_empty_frame an_g_empty_frame : Option Addr} {sl_g_empty_frame : Array (Option Value)} {f_g_empty_frame : Addr} {oc_g_empty_frame kV_g_empty_frame dc_g_empty_frame pm_g_empty_frame cd_g_empty_frame ct_g_empty_frame : Value}
    (a_g_empty_frame : PySem.W.findIn K (.ref CP) "_empty_frame" = some (some (.ref f_g_empty_frame))) (i_g_empty_frame : PySem.W.isFn K (.ref f_g_empty_frame) = true)
    (l_g_empty_frame : K.lookup f_g_empty_frame = some ⟨oc_g_empty_frame, od_g_empty_frame, .func (PySem.W.fnOf "_empty_frame" "Pager._empty_frame" (C8.fnArgs s_Pager__empty_frame) (C8.fnBody s_Pager__empty_frame) (C8.fnScope s_Pager__empty_frame) .none kV_g_empty_frame dc_g_empty_frame pm_g_empty_frame an_g_empty_frame cd_g_empty_frame ct_g_empty_frame), sl_g_empty_frame⟩)
    (c_g_empty_frame : PySem.W.codeIn K cd_g_empty_frame "Pager._empty_frame" = true) (k_g_empty_frame : PySem.W.keepIn K (.ref f_g_empty_frame) = true)
    {od_g_move_out an_g_move_out : Option Addr} {sl_g_move_out : Array (Option Value)} {f_g_move_out : Addr} {oc_g_move_out kV_g_move_out dc_g_move_out pm_g_move_out cd_g_move_out ct_g_move_out : Value}
    (a_g_move_out : PySem.W.findIn K (.ref CP) "_move_out" = some (some (.ref f_g_move_out))) (i_g_move_out : PySem.W.isFn K (.ref f_g_move_out) = true)
    (l_g_move_out : K.lookup f_g_move_out = some ⟨oc_g_move_out, od_g_move_out, .func (PySem.W.fnOf "_move_out" "Pager._move_out" (C8.fnArgs s_Pager__move_out) (C8.fnBody s_Pager__move_out) (C8.fnScope s_Pager__move_out) .none kV_g_move_out dc_g_move_out pm_g_move_out an_g_move_out cd_g_move_out ct_g_move_out), sl_g_move_out⟩)
    (c_g_move_out : PySem.W.codeIn K cd_g_move_out "Pager._move_out" = true) (k_g_move_out : PySem.W.keepIn K (.ref f_g_move_out) = true)
    {od_g_stamps_on_both an_g_stamps_on_both : Option Addr} {sl_g_stamps_on_both : Array (Option Value)} {f_g_stamps_on_both : Addr} {oc_g_stamps_on_both kV_g_stamps_on_both dc_g_stamps_on_both pm_g_stamps_on_both cd_g_stamps_on_both ct_g_stamps_on_both : Value}
    (a_g_stamps_on_both : PySem.W.findIn K (.ref CP) "_stamps_on_both" = some (some (.ref f_g_stamps_on_both))) (i_g_stamps_on_both : PySem.W.isFn K (.ref f_g_stamps_on_both) = true)
    (l_g_stamps_on_both : K.lookup f_g_stamps_on_both = some ⟨oc_g_stamps_on_both, od_g_stamps_on_both, .func (PySem.W.fnOf "_stamps_on_both" "Pager._stamps_on_both" (C8.fnArgs s_Pager__stamps_on_both) (C8.fnBody s_Pager__stamps_on_both) (C8.fnScope s_Pager__stamps_on_both) .none kV_g_stamps_on_both dc_g_stamps_on_both pm_g_stamps_on_both an_g_stamps_on_both cd_g_stamps_on_both ct_g_stamps_on_both), sl_g_stamps_on_both⟩)
    (c_g_stamps_on_both : PySem.W.codeIn K cd_g_stamps_on_both "Pager._stamps_on_both" = true) (k_g_stamps_on_both : PySem.W.keepIn K (.ref f_g_stamps_on_both) = true)
    (pgCP : PySem.W.plainGet K CP Str.empty = true) (hdCP : PySem.W.hasDictIn K CP = true) (poCP : PySem.W.plainOver K CP = true) (saCP : PySem.W.findIn K (.ref CP) "__setattr__" = some (some (.builtin "object.__setattr__"))) (mkCP : PySem.W.makesIn K CP = true) (kcCP : PySem.W.keepIn K (.ref CP) = true)
    (nG0 : PySem.W.findIn K (.ref CP) "_frames" = some none)
    (nG1 : PySem.W.findIn K (.ref CP) "_places" = some none)
    (nG2 : PySem.W.findIn K (.ref CP) "_room" = some none)
    (nG3 : PySem.W.findIn K (.ref CP) "_page_size" = some none)
    (nG4 : PySem.W.findIn K (.ref CP) "_chooser" = some none)
    (nG5 : PySem.W.findIn K (.ref CP) "_contents" = some none)
    (nG6 : PySem.W.findIn K (.ref CP) "_pinned" = some none)
    (nG7 : PySem.W.findIn K (.ref CP) "_left" = some none)
    {od_kw_init an_kw_init : Option Addr} {sl_kw_init : Array (Option Value)} {f_kw_init dk_kw_init : Addr} {oc_kw_init dc_kw_init pm_kw_init cd_kw_init ct_kw_init : Value} {tk_kw_init_chooser : Tok}
    (a_kw_init : PySem.W.findIn K (.ref CP) "__init__" = some (some (.ref f_kw_init))) (i_kw_init : PySem.W.isFn K (.ref f_kw_init) = true)
    (l_kw_init : K.lookup f_kw_init = some ⟨oc_kw_init, od_kw_init, .func (PySem.W.fnOf "__init__" "Pager.__init__" (C8.fnArgs s_Pager___init__) (C8.fnBody s_Pager___init__) (C8.fnScope s_Pager___init__) .none (.ref dk_kw_init) dc_kw_init pm_kw_init an_kw_init cd_kw_init ct_kw_init), sl_kw_init⟩)
    (c_kw_init : PySem.W.codeIn K cd_kw_init "Pager.__init__" = true) (k_kw_init : PySem.W.keepIn K (.ref f_kw_init) = true)
    (d_kw_init_chooser : PySem.W.nsIn K dk_kw_init "chooser" = some (some (.str "lru" tk_kw_init_chooser)))
    {CL : Addr} (aCL : PySem.W.nsIn K mainGlobals "Places" = some (some (.ref CL)))
    {od_p_init an_p_init : Option Addr} {sl_p_init : Array (Option Value)} {f_p_init : Addr} {oc_p_init kV_p_init dc_p_init pm_p_init cd_p_init ct_p_init : Value}
    (a_p_init : PySem.W.findIn K (.ref CL) "__init__" = some (some (.ref f_p_init))) (i_p_init : PySem.W.isFn K (.ref f_p_init) = true)
    (l_p_init : K.lookup f_p_init = some ⟨oc_p_init, od_p_init, .func (PySem.W.fnOf "__init__" "Places.__init__" (C8.fnArgs s_Places___init__) (C8.fnBody s_Places___init__) (C8.fnScope s_Places___init__) .none kV_p_init dc_p_init pm_p_init an_p_init cd_p_init ct_p_init), sl_p_init⟩)
    (c_p_init : PySem.W.codeIn K cd_p_init "Places.__init__" = true) (k_p_init : PySem.W.keepIn K (.ref f_p_init) = true)
    {od_p_has_stamp an_p_has_stamp : Option Addr} {sl_p_has_stamp : Array (Option Value)} {f_p_has_stamp : Addr} {oc_p_has_stamp kV_p_has_stamp dc_p_has_stamp pm_p_has_stamp cd_p_has_stamp ct_p_has_stamp : Value}
    (a_p_has_stamp : PySem.W.findIn K (.ref CL) "has_stamp" = some (some (.ref f_p_has_stamp))) (i_p_has_stamp : PySem.W.isFn K (.ref f_p_has_stamp) = true)
    (l_p_has_stamp : K.lookup f_p_has_stamp = some ⟨oc_p_has_stamp, od_p_has_stamp, .func (PySem.W.fnOf "has_stamp" "Places.has_stamp" (C8.fnArgs s_Places_has_stamp) (C8.fnBody s_Places_has_stamp) (C8.fnScope s_Places_has_stamp) .none kV_p_has_stamp dc_p_has_stamp pm_p_has_stamp an_p_has_stamp cd_p_has_stamp ct_p_has_stamp), sl_p_has_stamp⟩)
    (c_p_has_stamp : PySem.W.codeIn K cd_p_has_stamp "Places.has_stamp" = true) (k_p_has_stamp : PySem.W.keepIn K (.ref f_p_has_stamp) = true)
    {od_p_has_free an_p_has_free : Option Addr} {sl_p_has_free : Array (Option Value)} {f_p_has_free : Addr} {oc_p_has_free kV_p_has_free dc_p_has_free pm_p_has_free cd_p_has_free ct_p_has_free : Value}
    (a_p_has_free : PySem.W.findIn K (.ref CL) "has_free" = some (some (.ref f_p_has_free))) (i_p_has_free : PySem.W.isFn K (.ref f_p_has_free) = true)
    (l_p_has_free : K.lookup f_p_has_free = some ⟨oc_p_has_free, od_p_has_free, .func (PySem.W.fnOf "has_free" "Places.has_free" (C8.fnArgs s_Places_has_free) (C8.fnBody s_Places_has_free) (C8.fnScope s_Places_has_free) .none kV_p_has_free dc_p_has_free pm_p_has_free an_p_has_free cd_p_has_free ct_p_has_free), sl_p_has_free⟩)
    (c_p_has_free : PySem.W.codeIn K cd_p_has_free "Places.has_free" = true) (k_p_has_free : PySem.W.keepIn K (.ref f_p_has_free) = true)
    {od_p_free an_p_free : Option Addr} {sl_p_free : Array (Option Value)} {f_p_free : Addr} {oc_p_free kV_p_free dc_p_free pm_p_free cd_p_free ct_p_free : Value}
    (a_p_free : PySem.W.findIn K (.ref CL) "free" = some (some (.ref f_p_free))) (i_p_free : PySem.W.isFn K (.ref f_p_free) = true)
    (l_p_free : K.lookup f_p_free = some ⟨oc_p_free, od_p_free, .func (PySem.W.fnOf "free" "Places.free" (C8.fnArgs s_Places_free) (C8.fnBody s_Places_free) (C8.fnScope s_Places_free) .none kV_p_free dc_p_free pm_p_free an_p_free cd_p_free ct_p_free), sl_p_free⟩)
    (c_p_free : PySem.W.codeIn K cd_p_free "Places.free" = true) (k_p_free : PySem.W.keepIn K (.ref f_p_free) = true)
    {od_p_use an_p_use : Option Addr} {sl_p_use : Array (Option Value)} {f_p_use : Addr} {oc_p_use kV_p_use dc_p_use pm_p_use cd_p_use ct_p_use : Value}
    (a_p_use : PySem.W.findIn K (.ref CL) "_use" = some (some (.ref f_p_use))) (i_p_use : PySem.W.isFn K (.ref f_p_use) = true)
    (l_p_use : K.lookup f_p_use = some ⟨oc_p_use, od_p_use, .func (PySem.W.fnOf "_use" "Places._use" (C8.fnArgs s_Places__use) (C8.fnBody s_Places__use) (C8.fnScope s_Places__use) .none kV_p_use dc_p_use pm_p_use an_p_use cd_p_use ct_p_use), sl_p_use⟩)
    (c_p_use : PySem.W.codeIn K cd_p_use "Places._use" = true) (k_p_use : PySem.W.keepIn K (.ref f_p_use) = true)
    {od_p_read_from an_p_read_from : Option Addr} {sl_p_read_from : Array (Option Value)} {f_p_read_from : Addr} {oc_p_read_from kV_p_read_from dc_p_read_from pm_p_read_from cd_p_read_from ct_p_read_from : Value}
    (a_p_read_from : PySem.W.findIn K (.ref CL) "read_from" = some (some (.ref f_p_read_from))) (i_p_read_from : PySem.W.isFn K (.ref f_p_read_from) = true)
    (l_p_read_from : K.lookup f_p_read_from = some ⟨oc_p_read_from, od_p_read_from, .func (PySem.W.fnOf "read_from" "Places.read_from" (C8.fnArgs s_Places_read_from) (C8.fnBody s_Places_read_from) (C8.fnScope s_Places_read_from) .none kV_p_read_from dc_p_read_from pm_p_read_from an_p_read_from cd_p_read_from ct_p_read_from), sl_p_read_from⟩)
    (c_p_read_from : PySem.W.codeIn K cd_p_read_from "Places.read_from" = true) (k_p_read_from : PySem.W.keepIn K (.ref f_p_read_from) = true)
    {od_p_write_to an_p_write_to : Option Addr} {sl_p_write_to : Array (Option Value)} {f_p_write_to : Addr} {oc_p_write_to kV_p_write_to dc_p_write_to pm_p_write_to cd_p_write_to ct_p_write_to : Value}
    (a_p_write_to : PySem.W.findIn K (.ref CL) "write_to" = some (some (.ref f_p_write_to))) (i_p_write_to : PySem.W.isFn K (.ref f_p_write_to) = true)
    (l_p_write_to : K.lookup f_p_write_to = some ⟨oc_p_write_to, od_p_write_to, .func (PySem.W.fnOf "write_to" "Places.write_to" (C8.fnArgs s_Places_write_to) (C8.fnBody s_Places_write_to) (C8.fnScope s_Places_write_to) .none kV_p_write_to dc_p_write_to pm_p_write_to an_p_write_to cd_p_write_to ct_p_write_to), sl_p_write_to⟩)
    (c_p_write_to : PySem.W.codeIn K cd_p_write_to "Places.write_to" = true) (k_p_write_to : PySem.W.keepIn K (.ref f_p_write_to) = true)
    (pgCL : PySem.W.plainGet K CL Str.empty = true) (hdCL : PySem.W.hasDictIn K CL = true) (poCL : PySem.W.plainOver K CL = true) (saCL : PySem.W.findIn K (.ref CL) "__setattr__" = some (some (.builtin "object.__setattr__"))) (mkCL : PySem.W.makesIn K CL = true) (kcCL : PySem.W.keepIn K (.ref CL) = true)
    (nP0 : PySem.W.findIn K (.ref CL) "_stamps" = some none)
    (nP1 : PySem.W.findIn K (.ref CL) "_remembered" = some none)
    (nP2 : PySem.W.findIn K (.ref CL) "_rows" = some none)
    (nP3 : PySem.W.findIn K (.ref CL) "_read_count" = some none)
    (nP4 : PySem.W.findIn K (.ref CL) "_write_count" = some none)
    {CC : Addr} (aCC : PySem.W.nsIn K mainGlobals "Chooser" = some (some (.ref CC)))
    {od_m_init an_m_init : Option Addr} {sl_m_init : Array (Option Value)} {f_m_init : Addr} {oc_m_init kV_m_init dc_m_init pm_m_init cd_m_init ct_m_init : Value}
    (a_m_init : PySem.W.findIn K (.ref CC) "__init__" = some (some (.ref f_m_init))) (i_m_init : PySem.W.isFn K (.ref f_m_init) = true)
    (l_m_init : K.lookup f_m_init = some ⟨oc_m_init, od_m_init, .func (PySem.W.fnOf "__init__" "Chooser.__init__" (C8.fnArgs s_Chooser___init__) (C8.fnBody s_Chooser___init__) (C8.fnScope s_Chooser___init__) .none kV_m_init dc_m_init pm_m_init an_m_init cd_m_init ct_m_init), sl_m_init⟩)
    (c_m_init : PySem.W.codeIn K cd_m_init "Chooser.__init__" = true) (k_m_init : PySem.W.keepIn K (.ref f_m_init) = true)
    {od_m_filled an_m_filled : Option Addr} {sl_m_filled : Array (Option Value)} {f_m_filled : Addr} {oc_m_filled kV_m_filled dc_m_filled pm_m_filled cd_m_filled ct_m_filled : Value}
    (a_m_filled : PySem.W.findIn K (.ref CC) "filled" = some (some (.ref f_m_filled))) (i_m_filled : PySem.W.isFn K (.ref f_m_filled) = true)
    (l_m_filled : K.lookup f_m_filled = some ⟨oc_m_filled, od_m_filled, .func (PySem.W.fnOf "filled" "Chooser.filled" (C8.fnArgs s_Chooser_filled) (C8.fnBody s_Chooser_filled) (C8.fnScope s_Chooser_filled) .none kV_m_filled dc_m_filled pm_m_filled an_m_filled cd_m_filled ct_m_filled), sl_m_filled⟩)
    (c_m_filled : PySem.W.codeIn K cd_m_filled "Chooser.filled" = true) (k_m_filled : PySem.W.keepIn K (.ref f_m_filled) = true)
    {od_m_touched an_m_touched : Option Addr} {sl_m_touched : Array (Option Value)} {f_m_touched : Addr} {oc_m_touched kV_m_touched dc_m_touched pm_m_touched cd_m_touched ct_m_touched : Value}
    (a_m_touched : PySem.W.findIn K (.ref CC) "touched" = some (some (.ref f_m_touched))) (i_m_touched : PySem.W.isFn K (.ref f_m_touched) = true)
    (l_m_touched : K.lookup f_m_touched = some ⟨oc_m_touched, od_m_touched, .func (PySem.W.fnOf "touched" "Chooser.touched" (C8.fnArgs s_Chooser_touched) (C8.fnBody s_Chooser_touched) (C8.fnScope s_Chooser_touched) .none kV_m_touched dc_m_touched pm_m_touched an_m_touched cd_m_touched ct_m_touched), sl_m_touched⟩)
    (c_m_touched : PySem.W.codeIn K cd_m_touched "Chooser.touched" = true) (k_m_touched : PySem.W.keepIn K (.ref f_m_touched) = true)
    {od_m_emptied an_m_emptied : Option Addr} {sl_m_emptied : Array (Option Value)} {f_m_emptied : Addr} {oc_m_emptied kV_m_emptied dc_m_emptied pm_m_emptied cd_m_emptied ct_m_emptied : Value}
    (a_m_emptied : PySem.W.findIn K (.ref CC) "emptied" = some (some (.ref f_m_emptied))) (i_m_emptied : PySem.W.isFn K (.ref f_m_emptied) = true)
    (l_m_emptied : K.lookup f_m_emptied = some ⟨oc_m_emptied, od_m_emptied, .func (PySem.W.fnOf "emptied" "Chooser.emptied" (C8.fnArgs s_Chooser_emptied) (C8.fnBody s_Chooser_emptied) (C8.fnScope s_Chooser_emptied) .none kV_m_emptied dc_m_emptied pm_m_emptied an_m_emptied cd_m_emptied ct_m_emptied), sl_m_emptied⟩)
    (c_m_emptied : PySem.W.codeIn K cd_m_emptied "Chooser.emptied" = true) (k_m_emptied : PySem.W.keepIn K (.ref f_m_emptied) = true)
    {od_m_choose_by_hand an_m_choose_by_hand : Option Addr} {sl_m_choose_by_hand : Array (Option Value)} {f_m_choose_by_hand : Addr} {oc_m_choose_by_hand kV_m_choose_by_hand dc_m_choose_by_hand pm_m_choose_by_hand cd_m_choose_by_hand ct_m_choose_by_hand : Value}
    (a_m_choose_by_hand : PySem.W.findIn K (.ref CC) "_choose_by_hand" = some (some (.ref f_m_choose_by_hand))) (i_m_choose_by_hand : PySem.W.isFn K (.ref f_m_choose_by_hand) = true)
    (l_m_choose_by_hand : K.lookup f_m_choose_by_hand = some ⟨oc_m_choose_by_hand, od_m_choose_by_hand, .func (PySem.W.fnOf "_choose_by_hand" "Chooser._choose_by_hand" (C8.fnArgs s_Chooser__choose_by_hand) (C8.fnBody s_Chooser__choose_by_hand) (C8.fnScope s_Chooser__choose_by_hand) .none kV_m_choose_by_hand dc_m_choose_by_hand pm_m_choose_by_hand an_m_choose_by_hand cd_m_choose_by_hand ct_m_choose_by_hand), sl_m_choose_by_hand⟩)
    (c_m_choose_by_hand : PySem.W.codeIn K cd_m_choose_by_hand "Chooser._choose_by_hand" = true) (k_m_choose_by_hand : PySem.W.keepIn K (.ref f_m_choose_by_hand) = true)
    (pgCC : PySem.W.plainGet K CC Str.empty = true) (hdCC : PySem.W.hasDictIn K CC = true) (poCC : PySem.W.plainOver K CC = true) (saCC : PySem.W.findIn K (.ref CC) "__setattr__" = some (some (.builtin "object.__setattr__"))) (mkCC : PySem.W.makesIn K CC = true) (kcCC : PySem.W.keepIn K (.ref CC) = true)
    (nA0 : PySem.W.findIn K (.ref CC) "_kind" = some none)
    (nA1 : PySem.W.findIn K (.ref CC) "_frames" = some none)
    (nA2 : PySem.W.findIn K (.ref CC) "_calls" = some none)
    (nA3 : PySem.W.findIn K (.ref CC) "_fill_calls" = some none)
    (nA4 : PySem.W.findIn K (.ref CC) "_use_calls" = some none)
    (nA5 : PySem.W.findIn K (.ref CC) "_bits" = some none)
    (nA6 : PySem.W.findIn K (.ref CC) "_hand" = some none)
    (hgs : PySem.W.specialIn K (.builtin "object.__class__") "__get__" = some (some (.builtin "getset_descriptor.__get__"))) (htk : PySem.W.takesIn K (.builtin "object.__class__") = some true)
    {DN fN ccN cN NN : Addr} {ocN cclN clN kVN docN pmN ctvN : Value} {odN anN cddN cldN ddN : Option Addr} {oslN ccsN cslN : Array (Option Value)} {vsN : Array Value} {fileN : Str} {tfN : Tok}
    {nmN qN : Str} {bsN bmN : List Value} {snN : List Str} {subN : List Value} {abN : Bool} {colN : Option Bool} {k0N k1N k2N k3N k5N : Option Value}
    (aDN : PySem.W.nsIn K mainGlobals "NoStamp" = some (some (.ref DN)))
    (iCN : PySem.W.findIn K (.ref DN) "__init__" = some (some (.ref fN))) (tIN : PySem.W.typeIn K (.ref fN) = some (.type "function"))
    (lFN : K.lookup fN = some ⟨ocN, odN, .func (PySem.W.fnX "__init__" "NoStamp.__init__" (C8.fnArgs s_NoStamp_init) (C8.fnBody s_NoStamp_init) (C8.fnScope s_NoStamp_init) [("__class__", ccN)] .none kVN docN pmN anN (.ref cN) ctvN), oslN⟩)
    (cFN : PySem.W.codeIn K (.ref cN) "NoStamp.__init__" = true) (lcN : K.lookup cN = some ⟨cclN, cddN, .fields vsN, ccsN⟩) (x_hvN : vsN[2]? = some (.str fileN tfN)) (x_hfN : ((l.prog.main.file : Str) == fileN) = true) (x_tpN : (l.prog.main.scope.names.lookup ("super" : Str)).isSome = false)
    (lccN : K.lookup ccN = some ⟨clN, cldN, .cell (some (.ref DN)), cslN⟩) (zsuperN : PySem.W.nsIn K mainGlobals "super" = some none)
    (lDN : K.lookup DN = some (excClassObj nmN qN DN NN bsN bmN true snN subN abN colN ddN k0N k1N k2N k3N k5N "ValueError.__new__")) (x_rbN : PySem.HandSPX.refsVE bmN = true)
    (saN : PySem.W.findIn K (.ref DN) "__setattr__" = some (some (.builtin "object.__setattr__"))) (exN : PySem.W.subIn K (.ref DN) (.type "BaseException") = some true) (tyN : PySem.W.typeIn K (.ref DN) = some (.type "type")) (kCN : PySem.W.keepIn K (.ref DN) = true)
    (mrN : PySem.W.mroIn K DN (.ref DN) = some true) (x_iniN : PySem.W.ks_superIn K DN DN "__init__" = some (some (.builtin "ValueError.__init__"))) (veN : PySem.W.subIn K (.ref DN) (.type "ValueError") = some true) (anyN : PySem.W.nsIn K cStatics "thirdparty.any" = some none)
    (nN_stamp : PySem.W.findIn K (.ref DN) "stamp" = some none)
    (hgaN : PySem.W.findIn K (.ref DN) "__getattribute__" = some (some (.builtin "BaseException.__getattribute__")))
    (hgtN : PySem.W.findIn K (.ref DN) "__getattr__" = some none)
    (hclN : PySem.W.findIn K (.ref DN) "__class__" = some (some (.builtin "object.__class__")))
    (hhdN : PySem.W.hasDictIn K DN = true) (hobN : PySem.W.mroIn K DN (.type "object") = some true)
    {DR fR ccR cR NR : Addr} {ocR cclR clR kVR docR pmR ctvR : Value} {odR anR cddR cldR ddR : Option Addr} {oslR ccsR cslR : Array (Option Value)} {vsR : Array Value} {fileR : Str} {tfR : Tok}
    {nmR qR : Str} {bsR bmR : List Value} {snR : List Str} {subR : List Value} {abR : Bool} {colR : Option Bool} {k0R k1R k2R k3R k5R : Option Value}
    (aDR : PySem.W.nsIn K mainGlobals "NoRoom" = some (some (.ref DR)))
    (iCR : PySem.W.findIn K (.ref DR) "__init__" = some (some (.ref fR))) (tIR : PySem.W.typeIn K (.ref fR) = some (.type "function"))
    (lFR : K.lookup fR = some ⟨ocR, odR, .func (PySem.W.fnX "__init__" "NoRoom.__init__" (C8.fnArgs s_NoRoom_init) (C8.fnBody s_NoRoom_init) (C8.fnScope s_NoRoom_init) [("__class__", ccR)] .none kVR docR pmR anR (.ref cR) ctvR), oslR⟩)
    (cFR : PySem.W.codeIn K (.ref cR) "NoRoom.__init__" = true) (lcR : K.lookup cR = some ⟨cclR, cddR, .fields vsR, ccsR⟩) (x_hvR : vsR[2]? = some (.str fileR tfR)) (x_hfR : ((l.prog.main.file : Str) == fileR) = true) (x_tpR : (l.prog.main.scope.names.lookup ("super" : Str)).isSome = false)
    (lccR : K.lookup ccR = some ⟨clR, cldR, .cell (some (.ref DR)), cslR⟩) (zsuperR : PySem.W.nsIn K mainGlobals "super" = some none)
    (lDR : K.lookup DR = some (excClassObj nmR qR DR NR bsR bmR true snR subR abR colR ddR k0R k1R k2R k3R k5R "ValueError.__new__")) (x_rbR : PySem.HandSPX.refsVE bmR = true)
    (saR : PySem.W.findIn K (.ref DR) "__setattr__" = some (some (.builtin "object.__setattr__"))) (exR : PySem.W.subIn K (.ref DR) (.type "BaseException") = some true) (tyR : PySem.W.typeIn K (.ref DR) = some (.type "type")) (kCR : PySem.W.keepIn K (.ref DR) = true)
    (mrR : PySem.W.mroIn K DR (.ref DR) = some true) (x_iniR : PySem.W.ks_superIn K DR DR "__init__" = some (some (.builtin "ValueError.__init__"))) (veR : PySem.W.subIn K (.ref DR) (.type "ValueError") = some true) (anyR : PySem.W.nsIn K cStatics "thirdparty.any" = some none)
    (nR_needed : PySem.W.findIn K (.ref DR) "needed" = some none)
    (nR_limit : PySem.W.findIn K (.ref DR) "limit" = some none)
    (hgaR : PySem.W.findIn K (.ref DR) "__getattribute__" = some (some (.builtin "BaseException.__getattribute__")))
    (hgtR : PySem.W.findIn K (.ref DR) "__getattr__" = some none)
    (hclR : PySem.W.findIn K (.ref DR) "__class__" = some (some (.builtin "object.__class__")))
    (hhdR : PySem.W.hasDictIn K DR = true) (hobR : PySem.W.mroIn K DR (.type "object") = some true)
    {DS fS ccS cS NS : Addr} {ocS cclS clS kVS docS pmS ctvS : Value} {odS anS cddS cldS ddS : Option Addr} {oslS ccsS cslS : Array (Option Value)} {vsS : Array Value} {fileS : Str} {tfS : Tok}
    {nmS qS : Str} {bsS bmS : List Value} {snS : List Str} {subS : List Value} {abS : Bool} {colS : Option Bool} {k0S k1S k2S k3S k5S : Option Value}
    (aDS : PySem.W.nsIn K mainGlobals "Starved" = some (some (.ref DS)))
    (iCS : PySem.W.findIn K (.ref DS) "__init__" = some (some (.ref fS))) (tIS : PySem.W.typeIn K (.ref fS) = some (.type "function"))
    (lFS : K.lookup fS = some ⟨ocS, odS, .func (PySem.W.fnX "__init__" "Starved.__init__" (C8.fnArgs s_Starved_init) (C8.fnBody s_Starved_init) (C8.fnScope s_Starved_init) [("__class__", ccS)] .none kVS docS pmS anS (.ref cS) ctvS), oslS⟩)
    (cFS : PySem.W.codeIn K (.ref cS) "Starved.__init__" = true) (lcS : K.lookup cS = some ⟨cclS, cddS, .fields vsS, ccsS⟩) (x_hvS : vsS[2]? = some (.str fileS tfS)) (x_hfS : ((l.prog.main.file : Str) == fileS) = true) (x_tpS : (l.prog.main.scope.names.lookup ("super" : Str)).isSome = false)
    (lccS : K.lookup ccS = some ⟨clS, cldS, .cell (some (.ref DS)), cslS⟩) (zsuperS : PySem.W.nsIn K mainGlobals "super" = some none)
    (lDS : K.lookup DS = some (excClassObj nmS qS DS NS bsS bmS true snS subS abS colS ddS k0S k1S k2S k3S k5S "ValueError.__new__")) (x_rbS : PySem.HandSPX.refsVE bmS = true)
    (saS : PySem.W.findIn K (.ref DS) "__setattr__" = some (some (.builtin "object.__setattr__"))) (exS : PySem.W.subIn K (.ref DS) (.type "BaseException") = some true) (tyS : PySem.W.typeIn K (.ref DS) = some (.type "type")) (kCS : PySem.W.keepIn K (.ref DS) = true)
    (mrS : PySem.W.mroIn K DS (.ref DS) = some true) (x_iniS : PySem.W.ks_superIn K DS DS "__init__" = some (some (.builtin "ValueError.__init__"))) (veS : PySem.W.subIn K (.ref DS) (.type "ValueError") = some true) (anyS : PySem.W.nsIn K cStatics "thirdparty.any" = some none)
    (nS_needed : PySem.W.findIn K (.ref DS) "needed" = some none)
    (nS_limit : PySem.W.findIn K (.ref DS) "limit" = some none)
    (hgaS : PySem.W.findIn K (.ref DS) "__getattribute__" = some (some (.builtin "BaseException.__getattribute__")))
    (hgtS : PySem.W.findIn K (.ref DS) "__getattr__" = some none)
    (hclS : PySem.W.findIn K (.ref DS) "__class__" = some (some (.builtin "object.__class__")))
    (hhdS : PySem.W.hasDictIn K DS = true) (hobS : PySem.W.mroIn K DS (.type "object") = some true)
    (x_eNN : PySem.W.exmOne K (.ref DN) (.ref DN) = some true)
    {od_ch an_ch cdK : Option Addr} {sl_ch csK : Array (Option Value)} {f_ch cK PK : Addr} {oc_ch kV_ch dc_ch pm_ch ct_ch ccK : Value} {vsK : Array Value}
    (a_ch : PySem.W.findIn K (.ref CC) "choose" = some (some (.ref f_ch))) (i_ch : PySem.W.isFn K (.ref f_ch) = true)
    (l_ch : K.lookup f_ch = some ⟨oc_ch, od_ch, .func (PySem.W.fnOf "choose" "Chooser.choose" (C8.fnArgs s_Chooser_choose) (C8.fnBody s_Chooser_choose) (C8.fnScope s_Chooser_choose) .none kV_ch dc_ch pm_ch an_ch (.ref cK) ct_ch), sl_ch⟩)
    (c_ch : PySem.W.codeIn K (.ref cK) "Chooser.choose" = true) (k_ch : PySem.W.keepIn K (.ref f_ch) = true)
    (l_cK : K.lookup cK = some ⟨ccK, cdK, .fields vsK, csK⟩) (x_pK : vsK[11]? = some (.ref PK)) (x_hK : PySem.W.codeHdIn K cK PK = true) (x_nK : K.lookup PK = none)
    (hPK : h.get? PK = some { cls := .none, data := .fields #[] })
    {od_number an_number : Option Addr} {sl_number : Array (Option Value)} {f_number : Addr} {oc_number kV_number dc_number pm_number cd_number ct_number : Value}
    (a_number : PySem.W.nsIn K mainGlobals "_law_number" = some (some (.ref f_number)))
    (l_number : K.lookup f_number = some ⟨oc_number, od_number, .func (PySem.W.fnOf "_law_number" "_law_number" (C8.fnArgs s_number) (C8.fnBody s_number) (C8.fnScope s_number) .none kV_number dc_number pm_number an_number cd_number ct_number), sl_number⟩)
    (c_number : PySem.W.codeIn K cd_number "_law_number" = true) (k_number : PySem.W.keepIn K (.ref f_number) = true)
    {od_is_whole an_is_whole : Option Addr} {sl_is_whole : Array (Option Value)} {f_is_whole : Addr} {oc_is_whole kV_is_whole dc_is_whole pm_is_whole cd_is_whole ct_is_whole : Value}
    (a_is_whole : PySem.W.nsIn K mainGlobals "_law_is_whole" = some (some (.ref f_is_whole)))
    (l_is_whole : K.lookup f_is_whole = some ⟨oc_is_whole, od_is_whole, .func (PySem.W.fnOf "_law_is_whole" "_law_is_whole" (C8.fnArgs s_is_whole) (C8.fnBody s_is_whole) (C8.fnScope s_is_whole) .none kV_is_whole dc_is_whole pm_is_whole an_is_whole cd_is_whole ct_is_whole), sl_is_whole⟩)
    (c_is_whole : PySem.W.codeIn K cd_is_whole "_law_is_whole" = true) (k_is_whole : PySem.W.keepIn K (.ref f_is_whole) = true)
    {od_same an_same : Option Addr} {sl_same : Array (Option Value)} {f_same : Addr} {oc_same kV_same dc_same pm_same cd_same ct_same : Value}
    (a_same : PySem.W.nsIn K mainGlobals "_law_same" = some (some (.ref f_same)))
    (l_same : K.lookup f_same = some ⟨oc_same, od_same, .func (PySem.W.fnOf "_law_same" "_law_same" (C8.fnArgs s_same) (C8.fnBody s_same) (C8.fnScope s_same) .none kV_same dc_same pm_same an_same cd_same ct_same), sl_same⟩)
    (c_same : PySem.W.codeIn K cd_same "_law_same" = true) (k_same : PySem.W.keepIn K (.ref f_same) = true)
    {od_fresh_stamp an_fresh_stamp : Option Addr} {sl_fresh_stamp : Array (Option Value)} {f_fresh_stamp : Addr} {oc_fresh_stamp kV_fresh_stamp dc_fresh_stamp pm_fresh_stamp cd_fresh_stamp ct_fresh_stamp : Value}
    (a_fresh_stamp : PySem.W.nsIn K mainGlobals "_law_fresh_stamp" = some (some (.ref f_fresh_stamp)))
    (l_fresh_stamp : K.lookup f_fresh_stamp = some ⟨oc_fresh_stamp, od_fresh_stamp, .func (PySem.W.fnOf "_law_fresh_stamp" "_law_fresh_stamp" (C8.fnArgs s_fresh_stamp) (C8.fnBody s_fresh_stamp) (C8.fnScope s_fresh_stamp) .none kV_fresh_stamp dc_fresh_stamp pm_fresh_stamp an_fresh_stamp cd_fresh_stamp ct_fresh_stamp), sl_fresh_stamp⟩)
    (c_fresh_stamp : PySem.W.codeIn K cd_fresh_stamp "_law_fresh_stamp" = true) (k_fresh_stamp : PySem.W.keepIn K (.ref f_fresh_stamp) = true)
    {od_pager_call an_pager_call : Option Addr} {sl_pager_call : Array (Option Value)} {f_pager_call : Addr} {oc_pager_call kV_pager_call dc_pager_call pm_pager_call cd_pager_call ct_pager_call : Value}
    (a_pager_call : PySem.W.nsIn K mainGlobals "_law_pager_call" = some (some (.ref f_pager_call)))
    (l_pager_call : K.lookup f_pager_call = some ⟨oc_pager_call, od_pager_call, .func (PySem.W.fnOf "_law_pager_call" "_law_pager_call" (C8.fnArgs s_pager_call) (C8.fnBody s_pager_call) (C8.fnScope s_pager_call) .none kV_pager_call dc_pager_call pm_pager_call an_pager_call cd_pager_call ct_pager_call), sl_pager_call⟩)
    (c_pager_call : PySem.W.codeIn K cd_pager_call "_law_pager_call" = true) (k_pager_call : PySem.W.keepIn K (.ref f_pager_call) = true)
    {od_pager_tell an_pager_tell : Option Addr} {sl_pager_tell : Array (Option Value)} {f_pager_tell : Addr} {oc_pager_tell kV_pager_tell dc_pager_tell pm_pager_tell cd_pager_tell ct_pager_tell : Value}
    (a_pager_tell : PySem.W.nsIn K mainGlobals "_law_pager_tell" = some (some (.ref f_pager_tell)))
    (l_pager_tell : K.lookup f_pager_tell = some ⟨oc_pager_tell, od_pager_tell, .func (PySem.W.fnOf "_law_pager_tell" "_law_pager_tell" (C8.fnArgs s_pager_tell) (C8.fnBody s_pager_tell) (C8.fnScope s_pager_tell) .none kV_pager_tell dc_pager_tell pm_pager_tell an_pager_tell cd_pager_tell ct_pager_tell), sl_pager_tell⟩)
    (c_pager_tell : PySem.W.codeIn K cd_pager_tell "_law_pager_tell" = true) (k_pager_tell : PySem.W.keepIn K (.ref f_pager_tell) = true)
    {od_pager_ask an_pager_ask : Option Addr} {sl_pager_ask : Array (Option Value)} {f_pager_ask : Addr} {oc_pager_ask kV_pager_ask dc_pager_ask pm_pager_ask cd_pager_ask ct_pager_ask : Value}
    (a_pager_ask : PySem.W.nsIn K mainGlobals "_law_pager_ask" = some (some (.ref f_pager_ask)))
    (l_pager_ask : K.lookup f_pager_ask = some ⟨oc_pager_ask, od_pager_ask, .func (PySem.W.fnOf "_law_pager_ask" "_law_pager_ask" (C8.fnArgs s_pager_ask) (C8.fnBody s_pager_ask) (C8.fnScope s_pager_ask) .none kV_pager_ask dc_pager_ask pm_pager_ask an_pager_ask cd_pager_ask ct_pager_ask), sl_pager_ask⟩)
    (c_pager_ask : PySem.W.codeIn K cd_pager_ask "_law_pager_ask" = true) (k_pager_ask : PySem.W.keepIn K (.ref f_pager_ask) = true)
    {od_pager_reads an_pager_reads : Option Addr} {sl_pager_reads : Array (Option Value)} {f_pager_reads : Addr} {oc_pager_reads kV_pager_reads dc_pager_reads pm_pager_reads cd_pager_reads ct_pager_reads : Value}
    (a_pager_reads : PySem.W.nsIn K mainGlobals "_law_pager_reads" = some (some (.ref f_pager_reads)))
    (l_pager_reads : K.lookup f_pager_reads = some ⟨oc_pager_reads, od_pager_reads, .func (PySem.W.fnOf "_law_pager_reads" "_law_pager_reads" (C8.fnArgs s_pager_reads) (C8.fnBody s_pager_reads) (C8.fnScope s_pager_reads) .none kV_pager_reads dc_pager_reads pm_pager_reads an_pager_reads cd_pager_reads ct_pager_reads), sl_pager_reads⟩)
    (c_pager_reads : PySem.W.codeIn K cd_pager_reads "_law_pager_reads" = true) (k_pager_reads : PySem.W.keepIn K (.ref f_pager_reads) = true)
    {od_content_call an_content_call : Option Addr} {sl_content_call : Array (Option Value)} {f_content_call : Addr} {oc_content_call kV_content_call dc_content_call pm_content_call cd_content_call ct_content_call : Value}
    (a_content_call : PySem.W.nsIn K mainGlobals "_law_content_call" = some (some (.ref f_content_call)))
    (l_content_call : K.lookup f_content_call = some ⟨oc_content_call, od_content_call, .func (PySem.W.fnOf "_law_content_call" "_law_content_call" (C8.fnArgs s_content_call) (C8.fnBody s_content_call) (C8.fnScope s_content_call) .none kV_content_call dc_content_call pm_content_call an_content_call cd_content_call ct_content_call), sl_content_call⟩)
    (c_content_call : PySem.W.codeIn K cd_content_call "_law_content_call" = true) (k_content_call : PySem.W.keepIn K (.ref f_content_call) = true)
    {od_content_do an_content_do : Option Addr} {sl_content_do : Array (Option Value)} {f_content_do : Addr} {oc_content_do kV_content_do dc_content_do pm_content_do cd_content_do ct_content_do : Value}
    (a_content_do : PySem.W.nsIn K mainGlobals "_law_content_do" = some (some (.ref f_content_do)))
    (l_content_do : K.lookup f_content_do = some ⟨oc_content_do, od_content_do, .func (PySem.W.fnOf "_law_content_do" "_law_content_do" (C8.fnArgs s_content_do) (C8.fnBody s_content_do) (C8.fnScope s_content_do) .none kV_content_do dc_content_do pm_content_do an_content_do cd_content_do ct_content_do), sl_content_do⟩)
    (c_content_do : PySem.W.codeIn K cd_content_do "_law_content_do" = true) (k_content_do : PySem.W.keepIn K (.ref f_content_do) = true)
    {od_content_step an_content_step : Option Addr} {sl_content_step : Array (Option Value)} {f_content_step : Addr} {oc_content_step kV_content_step dc_content_step pm_content_step cd_content_step ct_content_step : Value}
    (a_content_step : PySem.W.nsIn K mainGlobals "_law_content_step" = some (some (.ref f_content_step)))
    (l_content_step : K.lookup f_content_step = some ⟨oc_content_step, od_content_step, .func (PySem.W.fnOf "_law_content_step" "_law_content_step" (C8.fnArgs s_content_step) (C8.fnBody s_content_step) (C8.fnScope s_content_step) .none kV_content_step dc_content_step pm_content_step an_content_step cd_content_step ct_content_step), sl_content_step⟩)
    (c_content_step : PySem.W.codeIn K cd_content_step "_law_content_step" = true) (k_content_step : PySem.W.keepIn K (.ref f_content_step) = true)
    {od_law an_law : Option Addr} {sl_law : Array (Option Value)} {f_law : Addr} {oc_law kV_law dc_law pm_law cd_law ct_law : Value}
    (a_law : PySem.W.nsIn K mainGlobals "law" = some (some (.ref f_law)))
    (l_law : K.lookup f_law = some ⟨oc_law, od_law, .func (PySem.W.fnOf "law" "law" (C8.fnArgs s_law) (C8.fnBody s_law) (C8.fnScope s_law) .none kV_law dc_law pm_law an_law cd_law ct_law), sl_law⟩)
    (c_law : PySem.W.codeIn K cd_law "law" = true) (k_law : PySem.W.keepIn K (.ref f_law) = true)
    (z_len : PySem.W.nsIn K mainGlobals "len" = some none)
    (z_abs : PySem.W.nsIn K mainGlobals "abs" = some none)
    (z_int : PySem.W.nsIn K mainGlobals "int" = some none)
    (z_range : PySem.W.nsIn K mainGlobals "range" = some none)
    (z_isinstance : PySem.W.nsIn K mainGlobals "isinstance" = some none)
    (z_bool : PySem.W.nsIn K mainGlobals "bool" = some none)
    (z_str : PySem.W.nsIn K mainGlobals "str" = some none)
    (z_list : PySem.W.nsIn K mainGlobals "list" = some none)
    (z_tuple : PySem.W.nsIn K mainGlobals "tuple" = some none)
    (z_min : PySem.W.nsIn K mainGlobals "min" = some none)
    (z_max : PySem.W.nsIn K mainGlobals "max" = some none)
    (z_sorted : PySem.W.nsIn K mainGlobals "sorted" = some none) : LawAtS l w K C8.CX0 10 63 "_law_script" mg fa h := by
  have e := hfa.symm.trans (PySem.W.mg_of X G a_law)
  cases e
  have T : Txt mg := ⟨PySem.W.mg_none_of X G z_len, PySem.W.mg_none_of X G z_abs, PySem.W.mg_none_of X G z_int, PySem.W.mg_none_of X G z_range, PySem.W.mg_none_of X G z_isinstance, PySem.W.mg_none_of X G z_bool, PySem.W.mg_none_of X G z_str, PySem.W.mg_none_of X G z_list, PySem.W.mg_none_of X G z_tuple⟩
  have F_g_bring : C8.Fun K "bring" "Pager.bring" s_Pager_bring f_g_bring _ := ⟨oc_g_bring, od_g_bring, .none, kV_g_bring, dc_g_bring, pm_g_bring, an_g_bring, cd_g_bring, ct_g_bring, sl_g_bring, rfl, l_g_bring, c_g_bring⟩
  have b_g_bring := F_g_bring.binds (ps := ["self", "stamp"]) rfl fun _ _ _ _ _ _ us hl => match us, hl with | [_, _], _ => rfl
  have F_g_begin : C8.Fun K "begin" "Pager.begin" s_Pager_begin f_g_begin _ := ⟨oc_g_begin, od_g_begin, .none, kV_g_begin, dc_g_begin, pm_g_begin, an_g_begin, cd_g_begin, ct_g_begin, sl_g_begin, rfl, l_g_begin, c_g_begin⟩
  have b_g_begin := F_g_begin.binds (ps := ["self", "stamp"]) rfl fun _ _ _ _ _ _ us hl => match us, hl with | [_, _], _ => rfl
  have F_g_duplicate : C8.Fun K "duplicate" "Pager.duplicate" s_Pager_duplicate f_g_duplicate _ := ⟨oc_g_duplicate, od_g_duplicate, .none, kV_g_duplicate, dc_g_duplicate, pm_g_duplicate, an_g_duplicate, cd_g_duplicate, ct_g_duplicate, sl_g_duplicate, rfl, l_g_duplicate, c_g_duplicate⟩
  have b_g_duplicate := F_g_duplicate.binds (ps := ["self", "old", "new"]) rfl fun _ _ _ _ _ _ us hl => match us, hl with | [_, _, _], _ => rfl
  have F_g_rename : C8.Fun K "rename" "Pager.rename" s_Pager_rename f_g_rename _ := ⟨oc_g_rename, od_g_rename, .none, kV_g_rename, dc_g_rename, pm_g_rename, an_g_rename, cd_g_rename, ct_g_rename, sl_g_rename, rfl, l_g_rename, c_g_rename⟩
  have b_g_rename := F_g_rename.binds (ps := ["self", "old", "new"]) rfl fun _ _ _ _ _ _ us hl => match us, hl with | [_, _, _], _ => rfl
  have F_g_read : C8.Fun K "read" "Pager.read" s_Pager_read f_g_read _ := ⟨oc_g_read, od_g_read, .none, kV_g_read, dc_g_read, pm_g_read, an_g_read, cd_g_read, ct_g_read, sl_g_read, rfl, l_g_read, c_g_read⟩
  have b_g_read := F_g_read.binds (ps := ["self", "stamp", "offset", "length"]) rfl fun _ _ _ _ _ _ us hl => match us, hl with | [_, _, _, _], _ => rfl
  have F_g_store : C8.Fun K "store" "Pager.store" s_Pager_store f_g_store _ := ⟨oc_g_store, od_g_store, .none, kV_g_store, dc_g_store, pm_g_store, an_g_store, cd_g_store, ct_g_store, sl_g_store, rfl, l_g_store, c_g_store⟩
  have b_g_store := F_g_store.binds (ps := ["self", "stamp", "offset", "data"]) rfl fun _ _ _ _ _ _ us hl => match us, hl with | [_, _, _, _], _ => rfl
  have F_g_release : C8.Fun K "release" "Pager.release" s_Pager_release f_g_release _ := ⟨oc_g_release, od_g_release, .none, kV_g_release, dc_g_release, pm_g_release, an_g_release, cd_g_release, ct_g_release, sl_g_release, rfl, l_g_release, c_g_release⟩
  have b_g_release := F_g_release.binds (ps := ["self", "stamp"]) rfl fun _ _ _ _ _ _ us hl => match us, hl with | [_, _], _ => rfl
  have F_g_put_out : C8.Fun K "put_out" "Pager.put_out" s_Pager_put_out f_g_put_out _ := ⟨oc_g_put_out, od_g_put_out, .none, kV_g_put_out, dc_g_put_out, pm_g_put_out, an_g_put_out, cd_g_put_out, ct_g_put_out, sl_g_put_out, rfl, l_g_put_out, c_g_put_out⟩
  have b_g_put_out := F_g_put_out.binds (ps := ["self", "stamp"]) rfl fun _ _ _ _ _ _ us hl => match us, hl with | [_, _], _ => rfl
  have F_g_pin : C8.Fun K "pin" "Pager.pin" s_Pager_pin f_g_pin _ := ⟨oc_g_pin, od_g_pin, .none, kV_g_pin, dc_g_pin, pm_g_pin, an_g_pin, cd_g_pin, ct_g_pin, sl_g_pin, rfl, l_g_pin, c_g_pin⟩
  have b_g_pin := F_g_pin.binds (ps := ["self", "stamp"]) rfl fun _ _ _ _ _ _ us hl => match us, hl with | [_, _], _ => rfl
  have F_g_unpin : C8.Fun K "unpin" "Pager.unpin" s_Pager_unpin f_g_unpin _ := ⟨oc_g_unpin, od_g_unpin, .none, kV_g_unpin, dc_g_unpin, pm_g_unpin, an_g_unpin, cd_g_unpin, ct_g_unpin, sl_g_unpin, rfl, l_g_unpin, c_g_unpin⟩
  have b_g_unpin := F_g_unpin.binds (ps := ["self"]) rfl fun _ _ _ _ _ _ us hl => match us, hl with | [_], _ => rfl
  have F_g_live : C8.Fun K "live" "Pager.live" s_Pager_live f_g_live _ := ⟨oc_g_live, od_g_live, .none, kV_g_live, dc_g_live, pm_g_live, an_g_live, cd_g_live, ct_g_live, sl_g_live, rfl, l_g_live, c_g_live⟩
  have b_g_live := F_g_live.binds (ps := ["self"]) rfl fun _ _ _ _ _ _ us hl => match us, hl with | [_], _ => rfl
  have F_g_check_live : C8.Fun K "_check_live" "Pager._check_live" s_Pager__check_live f_g_check_live _ := ⟨oc_g_check_live, od_g_check_live, .none, kV_g_check_live, dc_g_check_live, pm_g_check_live, an_g_check_live, cd_g_check_live, ct_g_check_live, sl_g_check_live, rfl, l_g_check_live, c_g_check_live⟩
  have b_g_check_live := F_g_check_live.binds (ps := ["self", "stamp"]) rfl fun _ _ _ _ _ _ us hl => match us, hl with | [_, _], _ => rfl
  have F_g_check_room : C8.Fun K "_check_room" "Pager._check_room" s_Pager__check_room f_g_check_room _ := ⟨oc_g_check_room, od_g_check_room, .none, kV_g_check_room, dc_g_check_room, pm_g_check_room, an_g_check_room, cd_g_check_room, ct_g_check_room, sl_g_check_room, rfl, l_g_check_room, c_g_check_room⟩
  have b_g_check_room := F_g_check_room.binds (ps := ["self"]) rfl fun _ _ _ _ _ _ us hl => match us, hl with | [_], _ => rfl
  have F_g_frames_to_choose : C8.Fun K "_frames_to_choose" "Pager._frames_to_choose" s_Pager__frames_to_choose f_g_frames_to_choose _ := ⟨oc_g_frames_to_choose, od_g_frames_to_choose, .none, kV_g_frames_to_choose, dc_g_frames_to_choose, pm_g_frames_to_choose, an_g_frames_to_choose, cd_g_frames_to_choose, ct_g_frames_to_choose, sl_g_frames_to_choose, rfl, l_g_frames_to_choose, c_g_frames_to_choose⟩
  have b_g_frames_to_choose := F_g_frames_to_choose.binds (ps := ["self"]) rfl fun _ _ _ _ _ _ us hl => match us, hl with | [_], _ => rfl
  have F_g_obtain : C8.Fun K "_obtain" "Pager._obtain" s_Pager__obtain f_g_obtain _ := ⟨oc_g_obtain, od_g_obtain, .none, kV_g_obtain, dc_g_obtain, pm_g_obtain, an_g_obtain, cd_g_obtain, ct_g_obtain, sl_g_obtain, rfl, l_g_obtain, c_g_obtain⟩
  have b_g_obtain := F_g_obtain.binds (ps := ["self", "candidates"]) rfl fun _ _ _ _ _ _ us hl => match us, hl with | [_, _], _ => rfl
  have F_g_obtain_beside : C8.Fun K "_obtain_beside" "Pager._obtain_beside" s_Pager__obtain_beside f_g_obtain_beside _ := ⟨oc_g_obtain_beside, od_g_obtain_beside, .none, kV_g_obtain_beside, dc_g_obtain_beside, pm_g_obtain_beside, an_g_obtain_beside, cd_g_obtain_beside, ct_g_obtain_beside, sl_g_obtain_beside, rfl, l_g_obtain_beside, c_g_obtain_beside⟩
  have b_g_obtain_beside := F_g_obtain_beside.binds (ps := ["self", "frame"]) rfl fun _ _ _ _ _ _ us hl => match us, hl with | [_, _], _ => rfl
  have F_g_fill : C8.Fun K "_fill" "Pager._fill" s_Pager__fill f_g_fill _ := ⟨oc_g_fill, od_g_fill, .none, kV_g_fill, dc_g_fill, pm_g_fill, an_g_fill, cd_g_fill, ct_g_fill, sl_g_fill, rfl, l_g_fill, c_g_fill⟩
  have b_g_fill := F_g_fill.binds (ps := ["self", "frame", "stamp"]) rfl fun _ _ _ _ _ _ us hl => match us, hl with | [_, _, _], _ => rfl
  have F_g_empty_frame : C8.Fun K "_empty_frame" "Pager._empty_frame" s_Pager__empty_frame f_g_empty_frame _ := ⟨oc_g_empty_frame, od_g_empty_frame, .none, kV_g_empty_frame, dc_g_empty_frame, pm_g_empty_frame, an_g_empty_frame, cd_g_empty_frame, ct_g_empty_frame, sl_g_empty_frame, rfl, l_g_empty_frame, c_g_empty_frame⟩
  have b_g_empty_frame := F_g_empty_frame.binds (ps := ["self", "stamp"]) rfl fun _ _ _ _ _ _ us hl => match us, hl with | [_, _], _ => rfl
  have F_g_move_out : C8.Fun K "_move_out" "Pager._move_out" s_Pager__move_out f_g_move_out _ := ⟨oc_g_move_out, od_g_move_out, .none, kV_g_move_out, dc_g_move_out, pm_g_move_out, an_g_move_out, cd_g_move_out, ct_g_move_out, sl_g_move_out, rfl, l_g_move_out, c_g_move_out⟩
  have b_g_move_out := F_g_move_out.binds (ps := ["self", "stamp"]) rfl fun _ _ _ _ _ _ us hl => match us, hl with | [_, _], _ => rfl
  have F_g_stamps_on_both : C8.Fun K "_stamps_on_both" "Pager._stamps_on_both" s_Pager__stamps_on_both f_g_stamps_on_both _ := ⟨oc_g_stamps_on_both, od_g_stamps_on_both, .none, kV_g_stamps_on_both, dc_g_stamps_on_both, pm_g_stamps_on_both, an_g_stamps_on_both, cd_g_stamps_on_both, ct_g_stamps_on_both, sl_g_stamps_on_both, rfl, l_g_stamps_on_both, c_g_stamps_on_both⟩
  have b_g_stamps_on_both := F_g_stamps_on_both.binds (ps := ["self"]) rfl fun _ _ _ _ _ _ us hl => match us, hl with | [_], _ => rfl
  have TG : GTxt K mg CP := ⟨⟨pgCP, hdCP, poCP, saCP⟩, nG0, nG1, nG2, nG3, nG4, nG5, nG6, nG7, PySem.W.mg_of X G aCP, PySem.W.mg_none_of X G z_len, PySem.W.mg_none_of X G z_range, PySem.W.mg_none_of X G z_min, PySem.W.mg_none_of X G z_max, PySem.W.mg_none_of X G z_list, PySem.W.mg_none_of X G z_sorted⟩
  have F_kw_init : FunD K "__init__" "Pager.__init__" (C8.fnArgs s_Pager___init__) (C8.fnBody s_Pager___init__) (C8.fnScope s_Pager___init__) [] [("chooser", .str "lru")] f_kw_init _ := ⟨⟨oc_kw_init, od_kw_init, .none, .ref dk_kw_init, dc_kw_init, pm_kw_init, an_kw_init, cd_kw_init, ct_kw_init, sl_kw_init, rfl, l_kw_init, c_kw_init, .inl ⟨rfl, rfl⟩, .inr ⟨dk_kw_init, rfl, fun q hq => by
      simp only [List.mem_cons, List.not_mem_nil, or_false] at hq
      rcases hq with rfl
      · exact ⟨_, d_kw_init_chooser, ⟨_, rfl⟩⟩⟩⟩, k_kw_init⟩
  have F_p_init : C8.Fun K "__init__" "Places.__init__" s_Places___init__ f_p_init _ := ⟨oc_p_init, od_p_init, .none, kV_p_init, dc_p_init, pm_p_init, an_p_init, cd_p_init, ct_p_init, sl_p_init, rfl, l_p_init, c_p_init⟩
  have b_p_init := F_p_init.binds (ps := ["self", "count"]) rfl fun _ _ _ _ _ _ us hl => match us, hl with | [_, _], _ => rfl
  have F_p_has_stamp : C8.Fun K "has_stamp" "Places.has_stamp" s_Places_has_stamp f_p_has_stamp _ := ⟨oc_p_has_stamp, od_p_has_stamp, .none, kV_p_has_stamp, dc_p_has_stamp, pm_p_has_stamp, an_p_has_stamp, cd_p_has_stamp, ct_p_has_stamp, sl_p_has_stamp, rfl, l_p_has_stamp, c_p_has_stamp⟩
  have b_p_has_stamp := F_p_has_stamp.binds (ps := ["self", "stamp"]) rfl fun _ _ _ _ _ _ us hl => match us, hl with | [_, _], _ => rfl
  have F_p_has_free : C8.Fun K "has_free" "Places.has_free" s_Places_has_free f_p_has_free _ := ⟨oc_p_has_free, od_p_has_free, .none, kV_p_has_free, dc_p_has_free, pm_p_has_free, an_p_has_free, cd_p_has_free, ct_p_has_free, sl_p_has_free, rfl, l_p_has_free, c_p_has_free⟩
  have b_p_has_free := F_p_has_free.binds (ps := ["self"]) rfl fun _ _ _ _ _ _ us hl => match us, hl with | [_], _ => rfl
  have F_p_free : C8.Fun K "free" "Places.free" s_Places_free f_p_free _ := ⟨oc_p_free, od_p_free, .none, kV_p_free, dc_p_free, pm_p_free, an_p_free, cd_p_free, ct_p_free, sl_p_free, rfl, l_p_free, c_p_free⟩
  have b_p_free := F_p_free.binds (ps := ["self", "stamp"]) rfl fun _ _ _ _ _ _ us hl => match us, hl with | [_, _], _ => rfl
  have F_p_use : C8.Fun K "_use" "Places._use" s_Places__use f_p_use _ := ⟨oc_p_use, od_p_use, .none, kV_p_use, dc_p_use, pm_p_use, an_p_use, cd_p_use, ct_p_use, sl_p_use, rfl, l_p_use, c_p_use⟩
  have b_p_use := F_p_use.binds (ps := ["self", "place"]) rfl fun _ _ _ _ _ _ us hl => match us, hl with | [_, _], _ => rfl
  have F_p_read_from : C8.Fun K "read_from" "Places.read_from" s_Places_read_from f_p_read_from _ := ⟨oc_p_read_from, od_p_read_from, .none, kV_p_read_from, dc_p_read_from, pm_p_read_from, an_p_read_from, cd_p_read_from, ct_p_read_from, sl_p_read_from, rfl, l_p_read_from, c_p_read_from⟩
  have b_p_read_from := F_p_read_from.binds (ps := ["self", "stamp"]) rfl fun _ _ _ _ _ _ us hl => match us, hl with | [_, _], _ => rfl
  have F_p_write_to : C8.Fun K "write_to" "Places.write_to" s_Places_write_to f_p_write_to _ := ⟨oc_p_write_to, od_p_write_to, .none, kV_p_write_to, dc_p_write_to, pm_p_write_to, an_p_write_to, cd_p_write_to, ct_p_write_to, sl_p_write_to, rfl, l_p_write_to, c_p_write_to⟩
  have b_p_write_to := F_p_write_to.binds (ps := ["self", "stamp"]) rfl fun _ _ _ _ _ _ us hl => match us, hl with | [_, _], _ => rfl
  have TP : PTxt K mg CL := ⟨⟨pgCL, hdCL, poCL, saCL⟩, nP0, nP1, nP2, nP3, nP4, PySem.W.mg_of X G aCL, PySem.W.mg_none_of X G z_len⟩
  have F_m_init : C8.Fun K "__init__" "Chooser.__init__" s_Chooser___init__ f_m_init _ := ⟨oc_m_init, od_m_init, .none, kV_m_init, dc_m_init, pm_m_init, an_m_init, cd_m_init, ct_m_init, sl_m_init, rfl, l_m_init, c_m_init⟩
  have b_m_init := F_m_init.binds (ps := ["self", "kind", "frames"]) rfl fun _ _ _ _ _ _ us hl => match us, hl with | [_, _, _], _ => rfl
  have F_m_filled : C8.Fun K "filled" "Chooser.filled" s_Chooser_filled f_m_filled _ := ⟨oc_m_filled, od_m_filled, .none, kV_m_filled, dc_m_filled, pm_m_filled, an_m_filled, cd_m_filled, ct_m_filled, sl_m_filled, rfl, l_m_filled, c_m_filled⟩
  have b_m_filled := F_m_filled.binds (ps := ["self", "frame"]) rfl fun _ _ _ _ _ _ us hl => match us, hl with | [_, _], _ => rfl
  have F_m_touched : C8.Fun K "touched" "Chooser.touched" s_Chooser_touched f_m_touched _ := ⟨oc_m_touched, od_m_touched, .none, kV_m_touched, dc_m_touched, pm_m_touched, an_m_touched, cd_m_touched, ct_m_touched, sl_m_touched, rfl, l_m_touched, c_m_touched⟩
  have b_m_touched := F_m_touched.binds (ps := ["self", "frame"]) rfl fun _ _ _ _ _ _ us hl => match us, hl with | [_, _], _ => rfl
  have F_m_emptied : C8.Fun K "emptied" "Chooser.emptied" s_Chooser_emptied f_m_emptied _ := ⟨oc_m_emptied, od_m_emptied, .none, kV_m_emptied, dc_m_emptied, pm_m_emptied, an_m_emptied, cd_m_emptied, ct_m_emptied, sl_m_emptied, rfl, l_m_emptied, c_m_emptied⟩
  have b_m_emptied := F_m_emptied.binds (ps := ["self", "frame"]) rfl fun _ _ _ _ _ _ us hl => match us, hl with | [_, _], _ => rfl
  have F_m_choose_by_hand : C8.Fun K "_choose_by_hand" "Chooser._choose_by_hand" s_Chooser__choose_by_hand f_m_choose_by_hand _ := ⟨oc_m_choose_by_hand, od_m_choose_by_hand, .none, kV_m_choose_by_hand, dc_m_choose_by_hand, pm_m_choose_by_hand, an_m_choose_by_hand, cd_m_choose_by_hand, ct_m_choose_by_hand, sl_m_choose_by_hand, rfl, l_m_choose_by_hand, c_m_choose_by_hand⟩
  have b_m_choose_by_hand := F_m_choose_by_hand.binds (ps := ["self", "allowed"]) rfl fun _ _ _ _ _ _ us hl => match us, hl with | [_, _], _ => rfl
  have TS : STxt K mg CC := ⟨⟨pgCC, hdCC, poCC, saCC⟩, nA0, nA1, nA2, nA3, nA4, nA5, nA6, PySem.W.mg_of X G aCC⟩
  obtain ⟨U_N, O_N⟩ := own_mk (P := l.prog) X G iCN tIN lFN cFN lcN x_hvN x_hfN x_tpN lccN zsuperN rfl rfl rfl lDN x_rbN saN exN tyN kCN mrN x_iniN veN anyN
  have b_N : Binds K (PySem.W.fnX "__init__" "NoStamp.__init__" (C8.fnArgs s_NoStamp_init) (C8.fnBody s_NoStamp_init) (C8.fnScope s_NoStamp_init) [("__class__", ccN)] .none kVN docN pmN anN (.ref cN) ctvN) ["self", "stamp"] [] := .all fun us hl => match us, hl with | [_, _], _ => rfl
  have xc_N : ExcC K DN := ⟨hgaN, hgtN, exN, hhdN, hclN, hgs, htk, hobN⟩
  have xf_N : XfC K DN := ⟨hgaN, hgtN, exN, hhdN⟩
  obtain ⟨U_R, O_R⟩ := own_mk (P := l.prog) X G iCR tIR lFR cFR lcR x_hvR x_hfR x_tpR lccR zsuperR rfl rfl rfl lDR x_rbR saR exR tyR kCR mrR x_iniR veR anyR
  have b_R : Binds K (PySem.W.fnX "__init__" "NoRoom.__init__" (C8.fnArgs s_NoRoom_init) (C8.fnBody s_NoRoom_init) (C8.fnScope s_NoRoom_init) [("__class__", ccR)] .none kVR docR pmR anR (.ref cR) ctvR) ["self", "needed", "limit"] [] := .all fun us hl => match us, hl with | [_, _, _], _ => rfl
  have xc_R : ExcC K DR := ⟨hgaR, hgtR, exR, hhdR, hclR, hgs, htk, hobR⟩
  have xf_R : XfC K DR := ⟨hgaR, hgtR, exR, hhdR⟩
  obtain ⟨U_S, O_S⟩ := own_mk (P := l.prog) X G iCS tIS lFS cFS lcS x_hvS x_hfS x_tpS lccS zsuperS rfl rfl rfl lDS x_rbS saS exS tyS kCS mrS x_iniS veS anyS
  have b_S : Binds K (PySem.W.fnX "__init__" "Starved.__init__" (C8.fnArgs s_Starved_init) (C8.fnBody s_Starved_init) (C8.fnScope s_Starved_init) [("__class__", ccS)] .none kVS docS pmS anS (.ref cS) ctvS) ["self", "needed", "limit"] [] := .all fun us hl => match us, hl with | [_, _, _], _ => rfl
  have xc_S : ExcC K DS := ⟨hgaS, hgtS, exS, hhdS, hclS, hgs, htk, hobS⟩
  have xf_S : XfC K DS := ⟨hgaS, hgtS, exS, hhdS⟩
  have F_ch : C8.Fun K "choose" "Chooser.choose" s_Chooser_choose f_ch (PySem.W.fnOf "choose" "Chooser.choose" (C8.fnArgs s_Chooser_choose) (C8.fnBody s_Chooser_choose) (C8.fnScope s_Chooser_choose) .none kV_ch dc_ch pm_ch an_ch (.ref cK) ct_ch) := ⟨oc_ch, od_ch, .none, kV_ch, dc_ch, pm_ch, an_ch, .ref cK, ct_ch, sl_ch, rfl, l_ch, c_ch⟩
  have b_ch := F_ch.binds (ps := ["self", "allowed"]) rfl fun _ _ _ _ _ _ us hl => match us, hl with | [_, _], _ => rfl
  have TL : LTxt mg := ⟨T, PySem.W.mg_none_of X G z_max, PySem.W.mg_none_of X G z_sorted⟩
  have EA : EAsk K mg DS DR DN := ⟨PySem.W.mg_of X G aDN, PySem.W.mg_of X G aDR, PySem.W.mg_of X G aDS, xf_N, nN_stamp, xf_R, nR_needed, nR_limit, xf_S, nS_needed, nS_limit, x_eNN⟩
  have D_number : Def K mg "_law_number" s_number f_number _ := ⟨⟨oc_number, od_number, .none, kV_number, dc_number, pm_number, an_number, cd_number, ct_number, sl_number, rfl, l_number, c_number⟩, PySem.W.mg_of X G a_number, k_number⟩
  have b_number := D_number.fn.binds (ps := ["_law_script", "_law_at", "_law_k", "_law_size"]) rfl fun _ _ _ _ _ _ us hl => match us, hl with | [_, _, _, _], _ => rfl
  have D_is_whole : Def K mg "_law_is_whole" s_is_whole f_is_whole _ := ⟨⟨oc_is_whole, od_is_whole, .none, kV_is_whole, dc_is_whole, pm_is_whole, an_is_whole, cd_is_whole, ct_is_whole, sl_is_whole, rfl, l_is_whole, c_is_whole⟩, PySem.W.mg_of X G a_is_whole, k_is_whole⟩
  have b_is_whole := D_is_whole.fn.binds (ps := ["_law_told"]) rfl fun _ _ _ _ _ _ us hl => match us, hl with | [_], _ => rfl
  have D_same : Def K mg "_law_same" s_same f_same _ := ⟨⟨oc_same, od_same, .none, kV_same, dc_same, pm_same, an_same, cd_same, ct_same, sl_same, rfl, l_same, c_same⟩, PySem.W.mg_of X G a_same, k_same⟩
  have b_same := D_same.fn.binds (ps := ["_law_told", "_law_due"]) rfl fun _ _ _ _ _ _ us hl => match us, hl with | [_, _], _ => rfl
  have D_fresh_stamp : Def K mg "_law_fresh_stamp" s_fresh_stamp f_fresh_stamp _ := ⟨⟨oc_fresh_stamp, od_fresh_stamp, .none, kV_fresh_stamp, dc_fresh_stamp, pm_fresh_stamp, an_fresh_stamp, cd_fresh_stamp, ct_fresh_stamp, sl_fresh_stamp, rfl, l_fresh_stamp, c_fresh_stamp⟩, PySem.W.mg_of X G a_fresh_stamp, k_fresh_stamp⟩
  have b_fresh_stamp := D_fresh_stamp.fn.binds (ps := ["_law_script", "_law_at", "_law_known", "_law_ended"]) rfl fun _ _ _ _ _ _ us hl => match us, hl with | [_, _, _, _], _ => rfl
  have D_pager_call : Def K mg "_law_pager_call" s_pager_call f_pager_call _ := ⟨⟨oc_pager_call, od_pager_call, .none, kV_pager_call, dc_pager_call, pm_pager_call, an_pager_call, cd_pager_call, ct_pager_call, sl_pager_call, rfl, l_pager_call, c_pager_call⟩, PySem.W.mg_of X G a_pager_call, k_pager_call⟩
  have b_pager_call := D_pager_call.fn.binds (ps := ["_law_script", "_law_at", "_law_known", "_law_ended", "_law_width"]) rfl fun _ _ _ _ _ _ us hl => match us, hl with | [_, _, _, _, _], _ => rfl
  have D_pager_tell : Def K mg "_law_pager_tell" s_pager_tell f_pager_tell _ := ⟨⟨oc_pager_tell, od_pager_tell, .none, kV_pager_tell, dc_pager_tell, pm_pager_tell, an_pager_tell, cd_pager_tell, ct_pager_tell, sl_pager_tell, rfl, l_pager_tell, c_pager_tell⟩, PySem.W.mg_of X G a_pager_tell, k_pager_tell⟩
  have b_pager_tell := D_pager_tell.fn.binds (ps := ["_law_pager", "_law_call"]) rfl fun _ _ _ _ _ _ us hl => match us, hl with | [_, _], _ => rfl
  have D_pager_ask : Def K mg "_law_pager_ask" s_pager_ask f_pager_ask _ := ⟨⟨oc_pager_ask, od_pager_ask, .none, kV_pager_ask, dc_pager_ask, pm_pager_ask, an_pager_ask, cd_pager_ask, ct_pager_ask, sl_pager_ask, rfl, l_pager_ask, c_pager_ask⟩, PySem.W.mg_of X G a_pager_ask, k_pager_ask⟩
  have b_pager_ask := D_pager_ask.fn.binds (ps := ["_law_pager", "_law_call"]) rfl fun _ _ _ _ _ _ us hl => match us, hl with | [_, _], _ => rfl
  have D_pager_reads : Def K mg "_law_pager_reads" s_pager_reads f_pager_reads _ := ⟨⟨oc_pager_reads, od_pager_reads, .none, kV_pager_reads, dc_pager_reads, pm_pager_reads, an_pager_reads, cd_pager_reads, ct_pager_reads, sl_pager_reads, rfl, l_pager_reads, c_pager_reads⟩, PySem.W.mg_of X G a_pager_reads, k_pager_reads⟩
  have b_pager_reads := D_pager_reads.fn.binds (ps := ["_law_pager", "_law_stamp", "_law_content"]) rfl fun _ _ _ _ _ _ us hl => match us, hl with | [_, _, _], _ => rfl
  have D_content_call : Def K mg "_law_content_call" s_content_call f_content_call _ := ⟨⟨oc_content_call, od_content_call, .none, kV_content_call, dc_content_call, pm_content_call, an_content_call, cd_content_call, ct_content_call, sl_content_call, rfl, l_content_call, c_content_call⟩, PySem.W.mg_of X G a_content_call, k_content_call⟩
  have b_content_call := D_content_call.fn.binds (ps := ["_law_script", "_law_at", "_law_desk"]) rfl fun _ _ _ _ _ _ us hl => match us, hl with | [_, _, _], _ => rfl
  have D_content_do : Def K mg "_law_content_do" s_content_do f_content_do _ := ⟨⟨oc_content_do, od_content_do, .none, kV_content_do, dc_content_do, pm_content_do, an_content_do, cd_content_do, ct_content_do, sl_content_do, rfl, l_content_do, c_content_do⟩, PySem.W.mg_of X G a_content_do, k_content_do⟩
  have b_content_do := D_content_do.fn.binds (ps := ["_law_desk", "_law_call"]) rfl fun _ _ _ _ _ _ us hl => match us, hl with | [_, _], _ => rfl
  have D_content_step : Def K mg "_law_content_step" s_content_step f_content_step _ := ⟨⟨oc_content_step, od_content_step, .none, kV_content_step, dc_content_step, pm_content_step, an_content_step, cd_content_step, ct_content_step, sl_content_step, rfl, l_content_step, c_content_step⟩, PySem.W.mg_of X G a_content_step, k_content_step⟩
  have b_content_step := D_content_step.fn.binds (ps := ["_law_script", "_law_at", "_law_pager", "_law_desk"]) rfl fun _ _ _ _ _ _ us hl => match us, hl with | [_, _, _, _], _ => rfl
  have D_law : Def K mg "law" s_law fa _ := ⟨⟨oc_law, od_law, .none, kV_law, dc_law, pm_law, an_law, cd_law, ct_law, sl_law, rfl, l_law, c_law⟩, PySem.W.mg_of X G a_law, k_law⟩
  refine ⟨PySem.W.fnOf "law" "law" (C8.fnArgs s_law) (C8.fnBody s_law) (C8.fnScope s_law) .none kV_law dc_law pm_law an_law cd_law ct_law, [(cK, PK)], spLaw K PK, fun p hp => by rw [List.mem_singleton.mp hp]; exact hPK, fun p hp => by rw [List.mem_singleton.mp hp]; exact x_nK, fun p hp => by rw [List.mem_singleton.mp hp]; exact PySem.W.codeHd_of_K X x_hK, fun s v => .of_eq rfl, fun H a ns hl _ hH hS => ⟨a, ns, rfl, hH (cK, PK) List.mem_cons_self, hS, hl, fun _ => rfl⟩, fun base _ _ TB => ?_⟩
  have c_number := ok_number (P := l.prog) (w := w) (base := base) D_number b_number T
  have c_whole := ok_whole (P := l.prog) (w := w) (base := base) D_is_whole b_is_whole T
  have c_same2 := ok_same D_same b_same T c_whole 2
  have c_same3 := ok_same D_same b_same T c_whole 3
  have F_N := ok_NoStamp (w := w) (base := base) (F := NF.of s_NoStamp_init "__init__" "NoStamp.__init__" [("__class__", ccN)] cN) U_N nN_stamp
  have F_R := ok_NoRoom (w := w) (base := base) (F := NF.of s_NoRoom_init "__init__" "NoRoom.__init__" [("__class__", ccR)] cR) U_R nR_needed nR_limit
  have F_S := ok_Starved (w := w) (base := base) (F := NF.of s_Starved_init "__init__" "Starved.__init__" [("__class__", ccS)] cS) U_S nS_needed nS_limit
  have c_Ch := ok_init (P := l.prog) (w := w) (base := base) F_m_init ⟨mkCC, a_m_init, i_m_init, kcCC⟩ b_m_init TS
  have m_emptied := ok_emptied (P := l.prog) (w := w) (base := base) F_m_emptied ⟨a_m_emptied, i_m_emptied, k_m_emptied⟩ b_m_emptied TS
  have m_touched := ok_touched (P := l.prog) (w := w) (base := base) F_m_touched ⟨a_m_touched, i_m_touched, k_m_touched⟩ b_m_touched TS
  have m_filled := ok_filled F_m_filled ⟨a_m_filled, i_m_filled, k_m_filled⟩ b_m_filled TS m_touched
  have m_ha := ok_hand (P := l.prog) (w := w) (base := base) F_m_choose_by_hand ⟨a_m_choose_by_hand, i_m_choose_by_hand, k_m_choose_by_hand⟩ b_m_choose_by_hand TS
  have m_ch := ok_chs (Pr := l.prog) (w := w) (base := base) (c := cK) (P := PK) ⟨oc_ch, od_ch, .none, kV_ch, dc_ch, pm_ch, an_ch, ct_ch, sl_ch, rfl, l_ch, c_ch⟩ ⟨a_ch, i_ch, k_ch⟩ b_ch TS (PySem.W.mg_none_of X G z_min) (PySem.W.mg_none_of X G z_max) (TB (cK, PK) List.mem_cons_self) m_ha
  have c_Pl := ok_plinit (P := l.prog) (w := w) (base := base) F_p_init ⟨mkCL, a_p_init, i_p_init, kcCL⟩ b_p_init TP
  have m_has_stamp := ok_has_stamp (P := l.prog) (w := w) (base := base) F_p_has_stamp ⟨a_p_has_stamp, i_p_has_stamp, k_p_has_stamp⟩ b_p_has_stamp TP
  have m_has_free := ok_has_free (P := l.prog) (w := w) (base := base) F_p_has_free ⟨a_p_has_free, i_p_has_free, k_p_has_free⟩ b_p_has_free TP
  have m_free := ok_free (P := l.prog) (w := w) (base := base) F_p_free ⟨a_p_free, i_p_free, k_p_free⟩ b_p_free TP
  have m_use := ok_use (P := l.prog) (w := w) (base := base) F_p_use ⟨a_p_use, i_p_use, k_p_use⟩ b_p_use TP
  have m_read_from := ok_read_from F_p_read_from ⟨a_p_read_from, i_p_read_from, k_p_read_from⟩ b_p_read_from TP m_use
  have m_write_to := ok_write_to F_p_write_to ⟨a_p_write_to, i_p_write_to, k_p_write_to⟩ b_p_write_to TP m_use
  have mkP := ok_mkpg (C := (⟨CP, CL, CC⟩ : GC)) F_kw_init ⟨mkCP, a_kw_init, i_kw_init, kcCP⟩ TG c_Pl c_Ch
  have m_cl := ok_check_live (C := (⟨CP, CL, CC⟩ : GC)) F_N O_N iCN tIN b_N (PySem.W.mg_of X G aDN) F_g_check_live ⟨a_g_check_live, i_g_check_live, k_g_check_live⟩ b_g_check_live TG
  have m_cr := ok_check_room (C := (⟨CP, CL, CC⟩ : GC)) F_R O_R iCR tIR b_R (PySem.W.mg_of X G aDR) F_g_check_room ⟨a_g_check_room, i_g_check_room, k_g_check_room⟩ b_g_check_room TG
  have m_ftc := ok_ftc (P := l.prog) (w := w) (base := base) (C := (⟨CP, CL, CC⟩ : GC)) F_g_frames_to_choose ⟨a_g_frames_to_choose, i_g_frames_to_choose, k_g_frames_to_choose⟩ b_g_frames_to_choose TG
  have m_both := ok_both (C := (⟨CP, CL, CC⟩ : GC)) F_g_stamps_on_both ⟨a_g_stamps_on_both, i_g_stamps_on_both, k_g_stamps_on_both⟩ b_g_stamps_on_both TG m_has_stamp
  have m_fill := ok_fillG (C := (⟨CP, CL, CC⟩ : GC)) F_g_fill ⟨a_g_fill, i_g_fill, k_g_fill⟩ b_g_fill TG m_filled
  have m_empty := ok_empG (C := (⟨CP, CL, CC⟩ : GC)) F_g_empty_frame ⟨a_g_empty_frame, i_g_empty_frame, k_g_empty_frame⟩ b_g_empty_frame TG m_emptied
  have m_mv := ok_mvG (C := (⟨CP, CL, CC⟩ : GC)) F_g_move_out ⟨a_g_move_out, i_g_move_out, k_g_move_out⟩ b_g_move_out TG m_has_stamp m_has_free m_free m_write_to m_both m_empty
  have m_ob := ok_obG (C := (⟨CP, CL, CC⟩ : GC)) F_S O_S iCS tIS b_S (PySem.W.mg_of X G aDS) F_g_obtain ⟨a_g_obtain, i_g_obtain, k_g_obtain⟩ b_g_obtain TG m_ch m_mv
  have m_obb := ok_obB (C := (⟨CP, CL, CC⟩ : GC)) F_g_obtain_beside ⟨a_g_obtain_beside, i_g_obtain_beside, k_g_obtain_beside⟩ b_g_obtain_beside TG m_ftc m_ob m_mv
  have m_br := ok_brG (C := (⟨CP, CL, CC⟩ : GC)) F_g_bring ⟨a_g_bring, i_g_bring, k_g_bring⟩ b_g_bring TG m_cl m_ftc m_ob m_touched m_read_from m_fill
  have m_beg := ok_beg (C := (⟨CP, CL, CC⟩ : GC)) F_g_begin ⟨a_g_begin, i_g_begin, k_g_begin⟩ b_g_begin TG m_cr m_ftc m_ob m_fill
  have m_dup := ok_dup (C := (⟨CP, CL, CC⟩ : GC)) F_g_duplicate ⟨a_g_duplicate, i_g_duplicate, k_g_duplicate⟩ b_g_duplicate TG m_cl m_cr m_br m_obb m_fill
  have m_ren := ok_ren (C := (⟨CP, CL, CC⟩ : GC)) F_g_rename ⟨a_g_rename, i_g_rename, k_g_rename⟩ b_g_rename TG m_br m_free
  have m_sto := ok_sto (C := (⟨CP, CL, CC⟩ : GC)) F_g_store ⟨a_g_store, i_g_store, k_g_store⟩ b_g_store TG m_br m_free
  have m_rd := ok_rdG (C := (⟨CP, CL, CC⟩ : GC)) F_g_read ⟨a_g_read, i_g_read, k_g_read⟩ b_g_read TG m_br
  have m_rel := ok_rel (C := (⟨CP, CL, CC⟩ : GC)) F_g_release ⟨a_g_release, i_g_release, k_g_release⟩ b_g_release TG m_cl m_empty m_free
  have m_put := ok_pout (PT := PK) (C := (⟨CP, CL, CC⟩ : GC)) F_g_put_out ⟨a_g_put_out, i_g_put_out, k_g_put_out⟩ b_g_put_out TG m_cl m_has_free m_both m_mv
  have m_pin := ok_pin (C := (⟨CP, CL, CC⟩ : GC)) F_g_pin ⟨a_g_pin, i_g_pin, k_g_pin⟩ b_g_pin TG m_br
  have m_unp := ok_unp (P := l.prog) (w := w) (base := base) (C := (⟨CP, CL, CC⟩ : GC)) F_g_unpin ⟨a_g_unpin, i_g_unpin, k_g_unpin⟩ b_g_unpin TG
  have m_live := ok_live (P := l.prog) (w := w) (base := base) (C := (⟨CP, CL, CC⟩ : GC)) F_g_live ⟨a_g_live, i_g_live, k_g_live⟩ b_g_live TG
  have PM : PgM l.prog w K mg base (⟨CP, CL, CC⟩ : GC) PK DS DR DN := ⟨m_beg, m_dup, m_ren, m_sto, m_rd, m_rel, m_br, m_put, m_pin, m_unp, m_live⟩
  have c_fs := ok_fs D_fresh_stamp b_fresh_stamp T c_number
  have c_pc := ok_pc D_pager_call b_pager_call TL c_number c_fs
  have e_tell := ok_tell D_pager_tell b_pager_tell TL PM
  have c_ask := ok_askp D_pager_ask b_pager_ask EA e_tell
  have c_rds := ok_reads D_pager_reads b_pager_reads TL PM c_same2
  have c_cc := ok_cc D_content_call b_content_call TL c_pc
  have c_cd := ok_cd (P := l.prog) (w := w) (base := base) D_content_do b_content_do TL
  have c_cs := ok_cs D_content_step b_content_step TL c_number c_cc c_cd c_ask c_same3 c_rds
  exact ok_law D_law TL c_number mkP m_live c_cs c_same3 c_rds

end

end Lw
open PySem PySem.W PyProof.Rows
set_option maxRecDepth 100000 in
set_option maxHeartbeats 0 in
theorem PySem.Challenge.cw_lentpages_k25_pager_contents_holds : PySem.Challenge.rw_lentpages_k25_pager_contents.Holds := by
  w_on; o_law; k_head; (case hw => w_witness2)
  k_fill
  refine LamX.walk_ofTs (l := PySem.Challenge.rw_lentpages_k25_pager_contents) (n := 63) (k := 10) (x := "_law_script") (CX := fun _ => C8.CX0) rfl (by decide) rfl ⟨rfl, by decide, by decide⟩ (fun w h Y => by first | exact PySem.W.kIn_of Y | exact PySem.W.km_in_of Y) ?F (fun _ _ _ _ _ h => h)
  case F =>
    intro w mg fa h Y KX G hmg
    refine' Lw.all_mk KX G hmg ?aCP ?a_g_bring ?i_g_bring ?l_g_bring ?c_g_bring ?k_g_bring ?a_g_begin ?i_g_begin ?l_g_begin ?c_g_begin ?k_g_begin ?a_g_duplicate ?i_g_duplicate ?l_g_duplicate ?c_g_duplicate ?k_g_duplicate ?a_g_rename ?i_g_rename ?l_g_rename ?c_g_rename ?k_g_rename ?a_g_read ?i_g_read ?l_g_read ?c_g_read ?k_g_read ?a_g_store ?i_g_store ?l_g_store ?c_g_store ?k_g_store ?a_g_release ?i_g_release ?l_g_release ?c_g_release ?k_g_release ?a_g_put_out ?i_g_put_out ?l_g_put_out ?c_g_put_out ?k_g_put_out ?a_g_pin ?i_g_pin ?l_g_pin ?c_g_pin ?k_g_pin ?a_g_unpin ?i_g_unpin ?l_g_unpin ?c_g_unpin ?k_g_unpin ?a_g_live ?i_g_live ?l_g_live ?c_g_live ?k_g_live ?a_g_check_live ?i_g_check_live ?l_g_check_live ?c_g_check_live ?k_g_check_live ?a_g_check_room ?i_g_check_room ?l_g_check_room ?c_g_check_room ?k_g_check_room ?a_g_frames_to_choose ?i_g_frames_to_choose ?l_g_frames_to_choose ?c_g_frames_to_choose ?k_g_frames_to_choose ?a_g_obtain ?i_g_obtain ?l_g_obtain ?c_g_obtain ?k_g_obtain ?a_g_obtain_beside ?i_g_obtain_beside ?l_g_obtain_beside ?c_g_obtain_beside ?k_g_obtain_beside ?a_g_fill ?i_g_fill ?l_g_fill ?c_g_fill ?k_g_fill ?a_g_empty_frame ?i_g_empty_frame ?l_g_empty_frame ?c_g_empty_frame ?k_g_empty_frame ?a_g_move_out ?i_g_move_out ?l_g_move_out ?c_g_move_out ?k_g_move_out ?a_g_stamps_on_both ?i_g_stamps_on_both ?l_g_stamps_on_both ?c_g_stamps_on_both ?k_g_stamps_on_both ?pgCP ?hdCP ?poCP ?saCP ?mkCP ?kcCP ?nG0 ?nG1 ?nG2 ?nG3 ?nG4 ?nG5 ?nG6 ?nG7 ?a_kw_init ?i_kw_init ?l_kw_init ?c_kw_init ?k_kw_init ?d_kw_init_chooser ?aCL ?a_p_init ?i_p_init ?l_p_init ?c_p_init ?k_p_init ?a_p_has_stamp ?i_p_has_stamp ?l_p_has_stamp ?c_p_has_stamp ?k_p_has_stamp ?a_p_has_free ?i_p_has_free ?l_p_has_free ?c_p_has_free ?k_p_has_free ?a_p_free ?i_p_free ?l_p_free ?c_p_free ?k_p_free ?a_p_use ?i_p_use ?l_p_use ?c_p_use ?k_p_use ?a_p_read_from ?i_p_read_from ?l_p_read_from ?c_p_read_from ?k_p_read_from ?a_p_write_to ?i_p_write_to ?l_p_write_to ?c_p_write_to ?k_p_write_to ?pgCL ?hdCL ?poCL ?saCL ?mkCL ?kcCL ?nP0 ?nP1 ?nP2 ?nP3 ?nP4 ?aCC ?a_m_init ?i_m_init ?l_m_init ?c_m_init ?k_m_init ?a_m_filled ?i_m_filled ?l_m_filled ?c_m_filled ?k_m_filled ?a_m_touched ?i_m_touched ?l_m_touched ?c_m_touched ?k_m_touched ?a_m_emptied ?i_m_emptied ?l_m_emptied ?c_m_emptied ?k_m_emptied ?a_m_choose_by_hand ?i_m_choose_by_hand ?l_m_choose_by_hand ?c_m_choose_by_hand ?k_m_choose_by_hand ?pgCC ?hdCC ?poCC ?saCC ?mkCC ?kcCC ?nA0 ?nA1 ?nA2 ?nA3 ?nA4 ?nA5 ?nA6 ?hgs ?htk ?aDN ?iCN ?tIN ?lFN ?cFN ?lcN ?x_hvN ?x_hfN ?x_tpN ?lccN ?zsuperN ?lDN ?x_rbN ?saN ?exN ?tyN ?kCN ?mrN ?x_iniN ?veN ?anyN ?nN_stamp ?hgaN ?hgtN ?hclN ?hhdN ?hobN ?aDR ?iCR ?tIR ?lFR ?cFR ?lcR ?x_hvR ?x_hfR ?x_tpR ?lccR ?zsuperR ?lDR ?x_rbR ?saR ?exR ?tyR ?kCR ?mrR ?x_iniR ?veR ?anyR ?nR_needed ?nR_limit ?hgaR ?hgtR ?hclR ?hhdR ?hobR ?aDS ?iCS ?tIS ?lFS ?cFS ?lcS ?x_hvS ?x_hfS ?x_tpS ?lccS ?zsuperS ?lDS ?x_rbS ?saS ?exS ?tyS ?kCS ?mrS ?x_iniS ?veS ?anyS ?nS_needed ?nS_limit ?hgaS ?hgtS ?hclS ?hhdS ?hobS ?x_eNN ?a_ch ?i_ch ?l_ch ?c_ch ?k_ch ?l_cK ?x_pK ?x_hK ?x_nK ?hPK ?a_number ?l_number ?c_number ?k_number ?a_is_whole ?l_is_whole ?c_is_whole ?k_is_whole ?a_same ?l_same ?c_same ?k_same ?a_fresh_stamp ?l_fresh_stamp ?c_fresh_stamp ?k_fresh_stamp ?a_pager_call ?l_pager_call ?c_pager_call ?k_pager_call ?a_pager_tell ?l_pager_tell ?c_pager_tell ?k_pager_tell ?a_pager_ask ?l_pager_ask ?c_pager_ask ?k_pager_ask ?a_pager_reads ?l_pager_reads ?c_pager_reads ?k_pager_reads ?a_content_call ?l_content_call ?c_content_call ?k_content_call ?a_content_do ?l_content_do ?c_content_do ?k_content_do ?a_content_step ?l_content_step ?c_content_step ?k_content_step ?a_law ?l_law ?c_law ?k_law ?z_len ?z_abs ?z_int ?z_range ?z_isinstance ?z_bool ?z_str ?z_list ?z_tuple ?z_min ?z_max ?z_sorted
    (case aCP => k_is)
    (case a_g_bring => k_is)
    (case i_g_bring => k_is)
    (case l_g_bring => k_is)
    (case c_g_bring => k_is)
    (case k_g_bring => k_is)
    (case a_g_begin => k_is)
    (case i_g_begin => k_is)
    (case l_g_begin => k_is)
    (case c_g_begin => k_is)
    (case k_g_begin => k_is)
    (case a_g_duplicate => k_is)
    (case i_g_duplicate => k_is)
    (case l_g_duplicate => k_is)
    (case c_g_duplicate => k_is)
    (case k_g_duplicate => k_is)
    (case a_g_rename => k_is)
    (case i_g_rename => k_is)
    (case l_g_rename => k_is)
    (case c_g_rename => k_is)
    (case k_g_rename => k_is)
    (case a_g_read => k_is)
    (case i_g_read => k_is)
    (case l_g_read => k_is)
    (case c_g_read => k_is)
    (case k_g_read => k_is)
    (case a_g_store => k_is)
    (case i_g_store => k_is)
    (case l_g_store => k_is)
    (case c_g_store => k_is)
    (case k_g_store => k_is)
    (case a_g_release => k_is)
    (case i_g_release => k_is)
    (case l_g_release => k_is)
    (case c_g_release => k_is)
    (case k_g_release => k_is)
    (case a_g_put_out => k_is)
    (case i_g_put_out => k_is)
    (case l_g_put_out => k_is)
    (case c_g_put_out => k_is)
    (case k_g_put_out => k_is)
    (case a_g_pin => k_is)
    (case i_g_pin => k_is)
    (case l_g_pin => k_is)
    (case c_g_pin => k_is)
    (case k_g_pin => k_is)
    (case a_g_unpin => k_is)
    (case i_g_unpin => k_is)
    (case l_g_unpin => k_is)
    (case c_g_unpin => k_is)
    (case k_g_unpin => k_is)
    (case a_g_live => k_is)
    (case i_g_live => k_is)
    (case l_g_live => k_is)
    (case c_g_live => k_is)
    (case k_g_live => k_is)
    (case a_g_check_live => k_is)
    (case i_g_check_live => k_is)
    (case l_g_check_live => k_is)
    (case c_g_check_live => k_is)
    (case k_g_check_live => k_is)
    (case a_g_check_room => k_is)
    (case i_g_check_room => k_is)
    (case l_g_check_room => k_is)
    (case c_g_check_room => k_is)
    (case k_g_check_room => k_is)
    (case a_g_frames_to_choose => k_is)
    (case i_g_frames_to_choose => k_is)
    (case l_g_frames_to_choose => k_is)
    (case c_g_frames_to_choose => k_is)
    (case k_g_frames_to_choose => k_is)
    (case a_g_obtain => k_is)
    (case i_g_obtain => k_is)
    (case l_g_obtain => k_is)
    (case c_g_obtain => k_is)
    (case k_g_obtain => k_is)
    (case a_g_obtain_beside => k_is)
    (case i_g_obtain_beside => k_is)
    (case l_g_obtain_beside => k_is)
    (case c_g_obtain_beside => k_is)
    (case k_g_obtain_beside => k_is)
    (case a_g_fill => k_is)
    (case i_g_fill => k_is)
    (case l_g_fill => k_is)
    (case c_g_fill => k_is)
    (case k_g_fill => k_is)
    (case a_g_empty_frame => k_is)
    (case i_g_empty_frame => k_is)
    (case l_g_empty_frame => k_is)
    (case c_g_empty_frame => k_is)
    (case k_g_empty_frame => k_is)
    (case a_g_move_out => k_is)
    (case i_g_move_out => k_is)
    (case l_g_move_out => k_is)
    (case c_g_move_out => k_is)
    (case k_g_move_out => k_is)
    (case a_g_stamps_on_both => k_is)
    (case i_g_stamps_on_both => k_is)
    (case l_g_stamps_on_both => k_is)
    (case c_g_stamps_on_both => k_is)
    (case k_g_stamps_on_both => k_is)
    (case pgCP => k_is)
    (case hdCP => k_is)
    (case poCP => k_is)
    (case saCP => k_is)
    (case mkCP => k_is)
    (case kcCP => k_is)
    (case nG0 => k_is)
    (case nG1 => k_is)
    (case nG2 => k_is)
    (case nG3 => k_is)
    (case nG4 => k_is)
    (case nG5 => k_is)
    (case nG6 => k_is)
    (case nG7 => k_is)
    (case a_kw_init => k_is)
    (case i_kw_init => k_is)
    (case l_kw_init => k_is)
    (case c_kw_init => k_is)
    (case k_kw_init => k_is)
    (case d_kw_init_chooser => k_is)
    (case aCL => k_is)
    (case a_p_init => k_is)
    (case i_p_init => k_is)
    (case l_p_init => k_is)
    (case c_p_init => k_is)
    (case k_p_init => k_is)
    (case a_p_has_stamp => k_is)
    (case i_p_has_stamp => k_is)
    (case l_p_has_stamp => k_is)
    (case c_p_has_stamp => k_is)
    (case k_p_has_stamp => k_is)
    (case a_p_has_free => k_is)
    (case i_p_has_free => k_is)
    (case l_p_has_free => k_is)
    (case c_p_has_free => k_is)
    (case k_p_has_free => k_is)
    (case a_p_free => k_is)
    (case i_p_free => k_is)
    (case l_p_free => k_is)
    (case c_p_free => k_is)
    (case k_p_free => k_is)
    (case a_p_use => k_is)
    (case i_p_use => k_is)
    (case l_p_use => k_is)
    (case c_p_use => k_is)
    (case k_p_use => k_is)
    (case a_p_read_from => k_is)
    (case i_p_read_from => k_is)
    (case l_p_read_from => k_is)
    (case c_p_read_from => k_is)
    (case k_p_read_from => k_is)
    (case a_p_write_to => k_is)
    (case i_p_write_to => k_is)
    (case l_p_write_to => k_is)
    (case c_p_write_to => k_is)
    (case k_p_write_to => k_is)
    (case pgCL => k_is)
    (case hdCL => k_is)
    (case poCL => k_is)
    (case saCL => k_is)
    (case mkCL => k_is)
    (case kcCL => k_is)
    (case nP0 => k_is)
    (case nP1 => k_is)
    (case nP2 => k_is)
    (case nP3 => k_is)
    (case nP4 => k_is)
    (case aCC => k_is)
    (case a_m_init => k_is)
    (case i_m_init => k_is)
    (case l_m_init => k_is)
    (case c_m_init => k_is)
    (case k_m_init => k_is)
    (case a_m_filled => k_is)
    (case i_m_filled => k_is)
    (case l_m_filled => k_is)
    (case c_m_filled => k_is)
    (case k_m_filled => k_is)
    (case a_m_touched => k_is)
    (case i_m_touched => k_is)
    (case l_m_touched => k_is)
    (case c_m_touched => k_is)
    (case k_m_touched => k_is)
    (case a_m_emptied => k_is)
    (case i_m_emptied => k_is)
    (case l_m_emptied => k_is)
    (case c_m_emptied => k_is)
    (case k_m_emptied => k_is)
    (case a_m_choose_by_hand => k_is)
    (case i_m_choose_by_hand => k_is)
    (case l_m_choose_by_hand => k_is)
    (case c_m_choose_by_hand => k_is)
    (case k_m_choose_by_hand => k_is)
    (case pgCC => k_is)
    (case hdCC => k_is)
    (case poCC => k_is)
    (case saCC => k_is)
    (case mkCC => k_is)
    (case kcCC => k_is)
    (case nA0 => k_is)
    (case nA1 => k_is)
    (case nA2 => k_is)
    (case nA3 => k_is)
    (case nA4 => k_is)
    (case nA5 => k_is)
    (case nA6 => k_is)
    (case hgs => k_is)
    (case htk => k_is)
    (case aDN => k_is)
    (case iCN => k_is)
    (case tIN => k_is)
    (case lFN => k_is)
    (case cFN => k_is)
    (case lcN => k_is)
    (case x_hvN => first | k_is | rfl | decide +kernel)
    (case x_hfN => first | k_is | rfl | decide +kernel)
    (case x_tpN => first | k_is | rfl | decide +kernel)
    (case lccN => k_is)
    (case zsuperN => k_is)
    (case lDN => k_is)
    (case x_rbN => first | k_is | rfl | decide +kernel)
    (case saN => k_is)
    (case exN => k_is)
    (case tyN => k_is)
    (case kCN => k_is)
    (case mrN => k_is)
    (case x_iniN => first | k_is | rfl | decide +kernel)
    (case veN => k_is)
    (case anyN => k_is)
    (case nN_stamp => k_is)
    (case hgaN => k_is)
    (case hgtN => k_is)
    (case hclN => k_is)
    (case hhdN => k_is)
    (case hobN => k_is)
    (case aDR => k_is)
    (case iCR => k_is)
    (case tIR => k_is)
    (case lFR => k_is)
    (case cFR => k_is)
    (case lcR => k_is)
    (case x_hvR => first | k_is | rfl | decide +kernel)
    (case x_hfR => first | k_is | rfl | decide +kernel)
    (case x_tpR => first | k_is | rfl | decide +kernel)
    (case lccR => k_is)
    (case zsuperR => k_is)
    (case lDR => k_is)
    (case x_rbR => first | k_is | rfl | decide +kernel)
    (case saR => k_is)
    (case exR => k_is)
    (case tyR => k_is)
    (case kCR => k_is)
    (case mrR => k_is)
    (case x_iniR => first | k_is | rfl | decide +kernel)
    (case veR => k_is)
    (case anyR => k_is)
    (case nR_needed => k_is)
    (case nR_limit => k_is)
    (case hgaR => k_is)
    (case hgtR => k_is)
    (case hclR => k_is)
    (case hhdR => k_is)
    (case hobR => k_is)
    (case aDS => k_is)
    (case iCS => k_is)
    (case tIS => k_is)
    (case lFS => k_is)
    (case cFS => k_is)
    (case lcS => k_is)
    (case x_hvS => first | k_is | rfl | decide +kernel)
    (case x_hfS => first | k_is | rfl | decide +kernel)
    (case x_tpS => first | k_is | rfl | decide +kernel)
    (case lccS => k_is)
    (case zsuperS => k_is)
    (case lDS => k_is)
    (case x_rbS => first | k_is | rfl | decide +kernel)
    (case saS => k_is)
    (case exS => k_is)
    (case tyS => k_is)
    (case kCS => k_is)
    (case mrS => k_is)
    (case x_iniS => first | k_is | rfl | decide +kernel)
    (case veS => k_is)
    (case anyS => k_is)
    (case nS_needed => k_is)
    (case nS_limit => k_is)
    (case hgaS => k_is)
    (case hgtS => k_is)
    (case hclS => k_is)
    (case hhdS => k_is)
    (case hobS => k_is)
    (case x_eNN => first | k_is | rfl | decide +kernel)
    (case a_ch => k_is)
    (case i_ch => k_is)
    (case l_ch => k_is)
    (case c_ch => k_is)
    (case k_ch => k_is)
    (case l_cK => k_is)
    (case x_pK => first | k_is | rfl | decide +kernel)
    (case x_hK => first | k_is | rfl | decide +kernel)
    (case x_nK => first | k_is | rfl | decide +kernel)
    (case hPK => exact PySem.W.km_tabs_of Y _ (by decide +kernel))
    (case a_number => k_is)
    (case l_number => k_is)
    (case c_number => k_is)
    (case k_number => k_is)
    (case a_is_whole => k_is)
    (case l_is_whole => k_is)
    (case c_is_whole => k_is)
    (case k_is_whole => k_is)
    (case a_same => k_is)
    (case l_same => k_is)
    (case c_same => k_is)
    (case k_same => k_is)
    (case a_fresh_stamp => k_is)
    (case l_fresh_stamp => k_is)
    (case c_fresh_stamp => k_is)
    (case k_fresh_stamp => k_is)
    (case a_pager_call => k_is)
    (case l_pager_call => k_is)
    (case c_pager_call => k_is)
    (case k_pager_call => k_is)
    (case a_pager_tell => k_is)
    (case l_pager_tell => k_is)
    (case c_pager_tell => k_is)
    (case k_pager_tell => k_is)
    (case a_pager_ask => k_is)
    (case l_pager_ask => k_is)
    (case c_pager_ask => k_is)
    (case k_pager_ask => k_is)
    (case a_pager_reads => k_is)
    (case l_pager_reads => k_is)
    (case c_pager_reads => k_is)
    (case k_pager_reads => k_is)
    (case a_content_call => k_is)
    (case l_content_call => k_is)
    (case c_content_call => k_is)
    (case k_content_call => k_is)
    (case a_content_do => k_is)
    (case l_content_do => k_is)
    (case c_content_do => k_is)
    (case k_content_do => k_is)
    (case a_content_step => k_is)
    (case l_content_step => k_is)
    (case c_content_step => k_is)
    (case k_content_step => k_is)
    (case a_law => k_is)
    (case l_law => k_is)
    (case c_law => k_is)
    (case k_law => k_is)
    (case z_len => k_is)
    (case z_abs => k_is)
    (case z_int => k_is)
    (case z_range => k_is)
    (case z_isinstance => k_is)
    (case z_bool => k_is)
    (case z_str => k_is)
    (case z_list => k_is)
    (case z_tuple => k_is)
    (case z_min => k_is)
    (case z_max => k_is)
    (case z_sorted => k_is)
