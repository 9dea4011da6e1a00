import PyProof.Rows.All
import Wide.All
import OpenK.AllK
import Wide.FinOn
import HandS.ForMost
import HandS.Codes
import HandS.IsInst
import HandS.Wide
import HandS.DictTup
import PyProof.DictMoreH
import HandS.TupLen
import HandS.Nested
import HandS.ExcInit
import HandS.FStr
import HandS.ExcOwn
import HandS.ExcIs
import HandS.ExcField
import KE.KExcIs
import HandS.WordsExc
import HandS.Rev
import HandS.Style
import HandS.Zip
import HandS.Walk
import HandS.TryOnly
import HandS.TryMany
import HandS.MakeKwOnly
import HandS.Conv
import HandS.SortInts
import HandS.WordsDict
import HandS.More
import HandS.OwnEq
import KE.SortData
import OpenK.KMeth
import KE.KExcSuper
import KE.KExcMake
import PySem.Challenge.RW_lentpages_k52_whole_fold_least
set_option Elab.async false
set_option linter.all false
set_option maxRecDepth 100000
set_option maxHeartbeats 4000000
namespace Lw
open PySem PySem.Spec PyProof.Rows L2 NdefX
open C8 (Def Cal cal0 pe_c)
def topS (i : Nat) : Stmt := PySem.Challenge.pw_lentpages_k52_whole_fold_least.main.body.getD i (.Pass ⟨0, 0, 0, 0⟩)

/-! ### data in the heap, tracked -/
mutual
def Dh (H : Hp) : PyData → V → Prop
  | .none, x => x = .non
  | .bool b, x => x = .bl b
  | .int i, x => x = .int i
  | .str s, x => x = .str s
  | .list ds, x => ∃ a xs, x = .ref a ∧ H a = some (.lst xs) ∧ DhAll H ds xs
  | .tuple ds, x => ∃ a xs, x = .ref a ∧ H a = some (.tup xs) ∧ DhAll H ds xs
  | .dict _, _ => False
def DhAll (H : Hp) : List PyData → List V → Prop
  | [], xs => xs = []
  | d :: ds, xs => ∃ v vs, xs = v :: vs ∧ Dh H d v ∧ DhAll H ds vs
end
mutual
theorem Dh.mono {H H' : Hp} (s : Same H H') : ∀ (d : PyData) (x : V), Dh H d x → Dh H' d x
  | .none, x, h => h
  | .bool b, x, h => h
  | .int i, x, h => h
  | .str i, x, h => h
  | .list ds, x, h => by
    obtain ⟨a, xs, e, g, r⟩ := h
    exact ⟨a, xs, e, s _ _ g, DhAll.mono s ds xs r⟩
  | .tuple ds, x, h => by
    obtain ⟨a, xs, e, g, r⟩ := h
    exact ⟨a, xs, e, s _ _ g, DhAll.mono s ds xs r⟩
  | .dict _, x, h => False.elim h
theorem DhAll.mono {H H' : Hp} (s : Same H H') : ∀ (ds : List PyData) (xs : List V), DhAll H ds xs → DhAll H' ds xs
  | [], xs, h => h
  | d :: ds, xs, h => by
    obtain ⟨v, vs, e, g, r⟩ := h
    exact ⟨v, vs, e, Dh.mono s d v g, DhAll.mono s ds vs r⟩
end
theorem DhAll.len {H : Hp} : ∀ {ds : List PyData} {xs : List V}, DhAll H ds xs → xs.length = ds.length
  | [], xs, h => by
    cases (show xs = [] from h)
    rfl
  | d :: ds, xs, h => by
    obtain ⟨v, vs, e, g, r⟩ := h
    rw [e, List.length_cons, List.length_cons, DhAll.len r]
theorem DhAll.get {H : Hp} : ∀ {ds : List PyData} {xs : List V} {i : Nat} {d : PyData}, DhAll H ds xs → ds[i]? = some d → ∃ x, xs[i]? = some x ∧ Dh H d x
  | [], xs, i, d, h, e => by simp at e
  | d' :: ds, xs, 0, d, h, e => by
    obtain ⟨v, vs, e', g, r⟩ := h
    simp at e
    subst e
    exact ⟨v, by rw [e']; rfl, g⟩
  | d' :: ds, xs, i + 1, d, h, e => by
    obtain ⟨v, vs, e', g, r⟩ := h
    obtain ⟨x, h1, h2⟩ := DhAll.get (i := i) (d := d) r (by simpa using e)
    exact ⟨x, by rw [e']; simpa using h1, h2⟩
mutual
theorem Dh.dp {K : PySem.W.Frag} {H : Hp} : ∀ (d : PyData) (x : V), Dh H d x → Dp K H x d
  | .none, x, h => by
    cases (show x = .non from h)
    exact .non
  | .bool b, x, h => by
    cases (show x = .bl b from h)
    exact .bl b
  | .int i, x, h => by
    cases (show x = .int i from h)
    exact .int i
  | .str i, x, h => by
    cases (show x = .str i from h)
    exact .str i
  | .list ds, x, h => by
    obtain ⟨a, xs, e, g, r⟩ := h
    rw [e]
    exact .lst (SqL.of g) (DhAll.dp ds xs r)
  | .tuple ds, x, h => by
    obtain ⟨a, xs, e, g, r⟩ := h
    rw [e]
    exact .tup (SqT.of g) (DhAll.dp ds xs r)
  | .dict _, x, h => False.elim h
theorem DhAll.dp {K : PySem.W.Frag} {H : Hp} : ∀ (ds : List PyData) (xs : List V), DhAll H ds xs → DpAll K H xs ds
  | [], xs, h => by
    cases (show xs = [] from h)
    exact .nil
  | d :: ds, xs, h => by
    obtain ⟨v, vs, e, g, r⟩ := h
    rw [e]
    exact .cons (Dh.dp d v g) (DhAll.dp ds vs r)
end
/-- a datum's type -/
def tyN : PyData → String
  | .none => "NoneType"
  | .bool _ => "bool"
  | .int _ => "int"
  | .str _ => "str"
  | .list _ => "list"
  | .tuple _ => "tuple"
  | .dict _ => "dict"
theorem Dh.ty {K : PySem.W.Frag} {H : Hp} : ∀ {d : PyData} {x : V}, Dh H d x → TyX K H x (.type (tyN d))
  | .none, x, h => by
    cases (show x = .non from h)
    exact .base .non
  | .bool b, x, h => by
    cases (show x = .bl b from h)
    exact .base (.bl b)
  | .int i, x, h => by
    cases (show x = .int i from h)
    exact .base (.int i)
  | .str i, x, h => by
    cases (show x = .str i from h)
    exact .base (.str i)
  | .list ds, x, h => by
    obtain ⟨a, xs, e, g, r⟩ := h
    rw [e]
    exact .base (.lst g)
  | .tuple ds, x, h => by
    obtain ⟨a, xs, e, g, r⟩ := h
    rw [e]
    exact .base (.tup g)
  | .dict _, x, h => False.elim h
/-- at most n lists and tuples in one another, none of them long -/
def Dle : Nat → PyData → Prop
  | 0, _ => False
  | n + 1, .list ds => ds.length ≤ 100000 ∧ ∀ d ∈ ds, Dle n d
  | n + 1, .tuple ds => ds.length ≤ 100000 ∧ ∀ d ∈ ds, Dle n d
  | _, .dict _ => False
  | _, _ => True
theorem same_upd {H : Hp} {p : Addr} {o : HO} (h : H p = none) : Same H (upd H p o) := fun b x e => by
  rw [upd_ne (ne_of_none e h)]
  exact e
theorem same_rfl {H : Hp} : Same H H := fun _ _ e => e
/-- what is asked of the top's names -/
structure Txt (mg : Str → Option Value) : Prop where
  len : mg "len" = none
  abs : mg "abs" = none
  int : mg "int" = none
  range : mg "range" = none
  isinstance : mg "isinstance" = none
  bool : mg "bool" = none
  str : mg "str" = none
  list : mg "list" = none
  tuple : mg "tuple" = none
abbrev sI (i : Int) : Option V := some (.int i)
abbrev sR (a : Addr) : Option V := some (.ref a)
abbrev sS (x : Str) : Option V := some (.str x)
abbrev sB (b : Bool) : Option V := some (.bl b)

/-! ### steps of a reading -/
theorem ifD {p : Prop} [Decidable p] {A B : Prop} (a : p → A) (b : ¬ p → B) : if decide p = true then A else B := by
  by_cases h : p
  · rw [if_pos (decide_eq_true h)]
    exact a h
  · rw [if_neg (fun z => h (of_decide_eq_true z))]
    exact b h
theorem ifEq {x y : Int} {A B : Prop} (a : x = y → A) (b : x ≠ y → B) : if decide (V.int x = V.int y) = true then A else B :=
  ifD (fun h => a (V.int.inj h)) (fun h => b (fun z => h (congrArg V.int z)))
theorem ifT {p : Prop} [Decidable p] {A B : Prop} (h : p) (a : A) : if decide p = true then A else B := by
  rw [if_pos (decide_eq_true h)]
  exact a
theorem ifF {p : Prop} [Decidable p] {A B : Prop} (h : ¬ p) (b : B) : if decide p = true then A else B := by
  rw [if_neg (fun z => h (of_decide_eq_true z))]
  exact b
theorem ifEqT {x y : Int} {A B : Prop} (h : x = y) (a : A) : if decide (V.int x = V.int y) = true then A else B := ifT (congrArg V.int h) a
theorem ifEqF {x y : Int} {A B : Prop} (h : x ≠ y) (b : B) : if decide (V.int x = V.int y) = true then A else B := ifF (fun z => h (V.int.inj z)) b
theorem cmul_l {i j : Int} (h : -(2 ^ 64) < i ∧ i < 2 ^ 64) : CMul i j := .inl h
theorem cmul_r {i j : Int} (h : -(2 ^ 64) < j ∧ j < 2 ^ 64) : CMul i j := .inr h
/-- a statement that the steps stop at -/
@[irreducible] def tMk (t : TS) : TS := t
theorem tMk_eq (t : TS) : tMk t = t := by
  unfold tMk
  rfl
theorem ps_mk {X : Cx} {s : Stmt} {t : TS} (h : PS X s t) : PS X s (tMk t) := by
  rw [tMk_eq]
  exact h
theorem un {t : TS} {D : Ends} {σ : L2.St} {H : Hp} (h : t D σ H) : tMk t D σ H := by
  rw [tMk_eq]
  exact h
/-- what follows, said once -/
theorem jn {t : TS} {D : Ends} {σ : L2.St} {H : Hp} (M : L2.St → Hp → Prop) (h2 : ∀ σ H, M σ H → D.nx σ H) (h1 : ∀ N : L2.St → Hp → Prop, (∀ σ H, M σ H → N σ H) → t { D with nx := N } σ H) : tMk t D σ H := by
  rw [tMk_eq]
  exact h1 D.nx h2
/-- a wish that the steps stop at -/
@[irreducible] def Ob (p : Prop) : Prop := p
theorem ob {p : Prop} (h : p) : Ob p := by
  unfold Ob
  exact h
theorem unob {p : Prop} (h : Ob p) : p := by
  unfold Ob at h
  exact h
theorem atI_getD {ns : List Int} {j : Int} (h0 : 0 ≤ j) (h1 : j < (ns.length : Int)) : atI (ns.map V.int) j = some (.int (ns.getD j.toNat 0)) := by
  have e : j = ((j.toNat : Nat) : Int) := by omega
  have hj : j.toNat < ns.length := by omega
  have q : atI (ns.map V.int) ((j.toNat : Nat) : Int) = some (.int (ns.getD j.toNat 0)) := atI_nat (by
    rw [List.getElem?_map, List.getElem?_eq_getElem hj, List.getD_eq_getElem?_getD, List.getElem?_eq_getElem hj]
    rfl)
  rw [← e] at q
  exact q
theorem sz {n : Nat} (h : n ≤ 1000 := by first | decide | simp) : n ≤ sizeLine := Nat.le_of_lt (small1000 h)
theorem sz5 {n : Nat} (h : n ≤ 1000000) : n < sizeLine := by
  rw [sizeLine_eq]
  omega
theorem take_succ_eq {α : Type} {xs ys : List α} {i : Nat} {x y : α} (hx : xs[i]? = some x) (hy : ys[i]? = some y) : xs.take (i + 1) = ys.take (i + 1) ↔ xs.take i = ys.take i ∧ x = y := by
  rw [List.take_add_one, List.take_add_one, hx, hy]
  constructor
  · intro h
    have h1 := List.append_inj' h rfl
    refine ⟨h1.1, ?_⟩
    have h2 := h1.2
    simpa using h2
  · rintro ⟨h1, rfl⟩
    rw [h1]
-- size2
theorem ifN {b : Bool} {A B : Prop} (h : if b = true then B else A) : if (!b) = true then A else B := by
  cases b
  · exact h
  · exact h
theorem ifNe {x y : Int} {A B : Prop} (a : x ≠ y → A) (b : x = y → B) : if (!decide (V.int x = V.int y)) = true then A else B := ifN (ifEq b a)
theorem ixAny {K : PySem.W.Frag} {H : Hp} {a : Addr} {xs : List V} {i : Int} {v : V} {Q : VK} (h : SqL K H a xs ∨ SqT K H a xs) (e : atI xs i = some v) (q : Q v H) : rIx K (.ref a) (.int i) H Q := by
  rcases h with h | h
  · exact .inl ⟨a, xs, i, v, rfl, rfl, h, e, q⟩
  · exact .inr (.inl ⟨a, xs, i, v, rfl, rfl, h, e, q⟩)
theorem sameT {K : PySem.W.Frag} {H H' : Hp} {a : Addr} {xs : List V} (s : Same H H') (h : SqT K H a xs) : SqT K H' a xs := by
  rcases h with (g | ⟨o, g⟩) | g
  · exact .inl (.inl (s _ _ g))
  · exact .inl (.inr ⟨o, s _ _ g⟩)
  · exact .inr g
theorem sqAny {K : PySem.W.Frag} {H H' : Hp} {a : Addr} {xs : List V} (s : Same H H') (h : SqL K H a xs ∨ SqT K H a xs) : SqL K H' a xs ∨ SqT K H' a xs := h.imp (fun z => s.seq z) (fun z => sameT s z)
theorem same_put {H H1 : Hp} {D : Addr} {o : HO} (s : Same H H1) (h : H D = none) : Same H (upd H1 D o) := fun b x e => by
  rw [upd_ne (ne_of_none e h)]
  exact s b x e

/-! ### rules that say the written part by a letter -/
theorem ixL {X : Cx} (K : PySem.W.Frag) (h : X.K = K) : IxR X (rIxL K) := by
  subst h
  exact ix_list
theorem ixT {X : Cx} (K : PySem.W.Frag) (h : X.K = K) : IxR X (rIxT K) := by
  subst h
  exact ix_tup
theorem ixA {X : Cx} (K : PySem.W.Frag) (h : X.K = K) : IxR X (rIx K) := by
  subst h
  exact ix_seq
def rLen (K : PySem.W.Frag) : List V → Hp → VK → Prop := fun xs H Q => ∃ p ys, xs = [.ref p] ∧ (SqL K H p ys ∨ SqT K H p ys) ∧ Q (.int ys.length) H
theorem lenQ {X : Cx} (K : PySem.W.Frag) (h : X.K = K) : CallR X (.builtin "len") (rLen K) := by
  subst h
  exact call_len_seq
def isB : PyData → Bool
  | .bool _ => true
  | _ => false
def isI : PyData → Bool
  | .int _ => true
  | _ => false
def isS : PyData → Bool
  | .str _ => true
  | _ => false
def isL : PyData → Bool
  | .list _ => true
  | _ => false
def isT : PyData → Bool
  | .tuple _ => true
  | _ => false
theorem kit_B {K : PySem.W.Frag} : ∀ (d : PyData), PySem.W.kitOne K (.type (tyN d)) (.type "bool") = some (isB d)
  | .none => kit_ty (show kitB "NoneType" "bool" = some false by decide +kernel)
  | .bool _ => kit_ty (show kitB "bool" "bool" = some true by decide +kernel)
  | .int _ => kit_ty (show kitB "int" "bool" = some false by decide +kernel)
  | .str _ => kit_ty (show kitB "str" "bool" = some false by decide +kernel)
  | .list _ => kit_ty (show kitB "list" "bool" = some false by decide +kernel)
  | .tuple _ => kit_ty (show kitB "tuple" "bool" = some false by decide +kernel)
  | .dict _ => kit_ty (show kitB "dict" "bool" = some false by decide +kernel)
theorem kit_I {K : PySem.W.Frag} : ∀ (d : PyData), PySem.W.kitOne K (.type (tyN d)) (.type "int") = some (isI d || isB d)
  | .none => kit_ty (show kitB "NoneType" "int" = some false by decide +kernel)
  | .bool _ => kit_ty (show kitB "bool" "int" = some true by decide +kernel)
  | .int _ => kit_ty (show kitB "int" "int" = some true by decide +kernel)
  | .str _ => kit_ty (show kitB "str" "int" = some false by decide +kernel)
  | .list _ => kit_ty (show kitB "list" "int" = some false by decide +kernel)
  | .tuple _ => kit_ty (show kitB "tuple" "int" = some false by decide +kernel)
  | .dict _ => kit_ty (show kitB "dict" "int" = some false by decide +kernel)
theorem kit_S {K : PySem.W.Frag} : ∀ (d : PyData), PySem.W.kitOne K (.type (tyN d)) (.type "str") = some (isS d)
  | .none => kit_ty (show kitB "NoneType" "str" = some false by decide +kernel)
  | .bool _ => kit_ty (show kitB "bool" "str" = some false by decide +kernel)
  | .int _ => kit_ty (show kitB "int" "str" = some false by decide +kernel)
  | .str _ => kit_ty (show kitB "str" "str" = some true by decide +kernel)
  | .list _ => kit_ty (show kitB "list" "str" = some false by decide +kernel)
  | .tuple _ => kit_ty (show kitB "tuple" "str" = some false by decide +kernel)
  | .dict _ => kit_ty (show kitB "dict" "str" = some false by decide +kernel)
theorem kit_L {K : PySem.W.Frag} : ∀ (d : PyData), PySem.W.kitOne K (.type (tyN d)) (.type "list") = some (isL d)
  | .none => kit_ty (show kitB "NoneType" "list" = some false by decide +kernel)
  | .bool _ => kit_ty (show kitB "bool" "list" = some false by decide +kernel)
  | .int _ => kit_ty (show kitB "int" "list" = some false by decide +kernel)
  | .str _ => kit_ty (show kitB "str" "list" = some false by decide +kernel)
  | .list _ => kit_ty (show kitB "list" "list" = some true by decide +kernel)
  | .tuple _ => kit_ty (show kitB "tuple" "list" = some false by decide +kernel)
  | .dict _ => kit_ty (show kitB "dict" "list" = some false by decide +kernel)
theorem kit_T {K : PySem.W.Frag} : ∀ (d : PyData), PySem.W.kitOne K (.type (tyN d)) (.type "tuple") = some (isT d)
  | .none => kit_ty (show kitB "NoneType" "tuple" = some false by decide +kernel)
  | .bool _ => kit_ty (show kitB "bool" "tuple" = some false by decide +kernel)
  | .int _ => kit_ty (show kitB "int" "tuple" = some false by decide +kernel)
  | .str _ => kit_ty (show kitB "str" "tuple" = some false by decide +kernel)
  | .list _ => kit_ty (show kitB "list" "tuple" = some false by decide +kernel)
  | .tuple _ => kit_ty (show kitB "tuple" "tuple" = some true by decide +kernel)
  | .dict _ => kit_ty (show kitB "dict" "tuple" = some false by decide +kernel)
theorem kit_LT {K : PySem.W.Frag} (d : PyData) : PySem.W.kitAny K (.type (tyN d)) [.type "list", .type "tuple"] = some (isL d || isT d) := by
  refine kitAny_cons (kit_L d) (fun h => ?_) (fun h => by rw [h]; rfl)
  rw [h]
  refine kitAny_cons (kit_T d) (fun h => by rw [h]; rfl) (fun h => by rw [h]; rfl)
/-- isinstance of a datum -/
def rIsD (T : String) (g : PyData → Bool) : List V → Hp → VK → Prop := fun xs H Q => ∃ x d, xs = [x, .ty T] ∧ Dh H d x ∧ Q (.bl (g d)) H
theorem isOf {X : Cx} {T : String} {g : PyData → Bool} (h : ∀ d, PySem.W.kitOne X.K (.type (tyN d)) (.type T) = some (g d)) : CallR X (.builtin "isinstance") (rIsD T g) := by
  intro pins s σ H xs us Q I r z
  obtain ⟨x, d, rfl, hx, q⟩ := z
  exact call_isi pins s σ H _ us Q I r ⟨_, _, _, _, _, rfl, .ty T, hx.ty, h d, q⟩
theorem is_bool {X : Cx} : CallR X (.builtin "isinstance") (rIsD "bool" isB) := isOf kit_B
theorem is_int {X : Cx} : CallR X (.builtin "isinstance") (rIsD "int" fun d => isI d || isB d) := isOf kit_I
theorem is_str {X : Cx} : CallR X (.builtin "isinstance") (rIsD "str" isS) := isOf kit_S
theorem is_list {X : Cx} : CallR X (.builtin "isinstance") (rIsD "list" isL) := isOf kit_L
theorem is_tuple {X : Cx} : CallR X (.builtin "isinstance") (rIsD "tuple" isT) := isOf kit_T
/-- isinstance(x, (list, tuple)) of a datum -/
def rIsLT : List V → Hp → VK → Prop := fun xs H Q => ∃ x d p, xs = [x, .ref p] ∧ H p = some (.tup [.ty "list", .ty "tuple"]) ∧ Dh H d x ∧ Q (.bl (isL d || isT d)) H
theorem is_lt {X : Cx} : CallR X (.builtin "isinstance") rIsLT := by
  intro pins s σ H xs us Q I r z
  obtain ⟨x, d, p, rfl, hp, hx, q⟩ := z
  exact call_isiT pins s σ H _ us Q I r ⟨_, _, _, _, _, _, rfl, hp, .cons (.ty "list") (.cons (.ty "tuple") .nil), hx.ty, kit_LT d, q⟩
theorem ifBT {b : Bool} {A B : Prop} (h : b = true) (a : A) : if b = true then A else B := by
  rw [if_pos h]
  exact a
theorem ifBF {b : Bool} {A B : Prop} (h : b = false) (q : B) : if b = true then A else B := by
  rw [h, if_neg Bool.false_ne_true]
  exact q
theorem inQ {X : Cx} (K : PySem.W.Frag) (h : X.K = K) : OpR X (compareOp .In) (rIn K false) := by
  subst h
  exact op_in_seq
theorem notInQ {X : Cx} (K : PySem.W.Frag) (h : X.K = K) : OpR X (compareOp .NotIn) (rIn K true) := by
  subst h
  exact op_notIn_seq
theorem eqQ {X : Cx} (K : PySem.W.Frag) (h : X.K = K) (hu : X.A.units + 64 < cLine) : OpR X (compareOp .Eq) (rEqD K) := by
  subst h
  exact op_eqD hu
theorem neQ {X : Cx} (K : PySem.W.Frag) (h : X.K = K) (hu : X.A.units + 64 < cLine) : OpR X (compareOp .NotEq) (rNeD K) := by
  subst h
  exact op_neD hu
def rLst (K : PySem.W.Frag) : List V → Hp → VK → Prop := fun xs H Q => ∃ p ys, xs = [.ref p] ∧ (SqL K H p ys ∨ SqT K H p ys) ∧ ∀ l, H l = none → Q (.ref l) (upd H l (.lst ys))
theorem listQ {X : Cx} (K : PySem.W.Frag) (h : X.K = K) : CallR X (.type "list") (rLst K) := by
  subst h
  exact call_list_of

/-! ### an own error (over ValueError, by any own classes) whose __init__ begins with super().__init__(text) -/
section
variable {prog : Program} {w : World} {A : Around} {E : Value → Shared → Prop} {h : Heap} {g : Array GenState} {d : Drawn} {t : Nat} {os : OsState}
theorem mw_call {u a C N t1 : Addr} {dv : Option Addr} {ws : List Value} {Q : Value → Shared → Prop} {nm q : Str} {bs bm : List Value} {hdct : Bool} {sn : List Str} {sub : List Value} {ab : Bool} {col : Option Bool} {dd : Option Addr} {k0 k1 k2 k3 k5 : Option Value}
    (hC : h.get? C = some (excClassObj nm q C N bs bm hdct sn sub ab col dd k0 k1 k2 k3 k5 "ValueError.__new__")) (he : h.get? a = some (PySem.W.excObj C t1 dv .none)) (hu : h.get? u = some (PySem.W.kxs_mw "ValueError.__init__" a)) (hl : ws.length ≤ sizeLine)
    (hq : ∀ h' t2, (∀ b o, b ≠ a → h.get? b = some o → h'.get? b = some o) → h'.get? a = some (PySem.W.excObj C t2 dv .none) → Q .none ⟨h', g, d, t, os⟩) : wpAny (model prog w) A (call (.ref u) ws) Q E ⟨h, g, d, t, os⟩ := by
  have FB := F.excBase_ValueError
  refine (wpAny_call (codeAny_of_tree ?_)); show wpAny _ A.in1 (callAny (.ref u) ⟨ws, []⟩) _ _ _; simp only [callAny]
  refine (wpAny_bind (wpAny_load hu ?_)); simp only [PySem.W.kxs_mw]; refine (PySem.W.KFB.if_so (by decide) (wpAny_bind (PySem.W.check_bound_init FB.toExcCallFacts hC he rfl (wpAny_bind (wpAny_pure (wpAny_pure ⟨plainId_quiet FB.init.plain _, codeAny_builtin FB.initEntry ?_⟩))))))
  exact PySem.W.exc_init_tree (cls := .ref C) (t0 := t1) (dv := dv) (c2 := .none) (c3 := .none) (b4 := .bool false) he hl fun h' k e _ => hq h' _ k e
end
/-- what the written part and the text say of the def F at f, an __init__ of the class at D -/
structure SupAt (P : Program) (K : PySem.W.Frag) (mg : Str → Option Value) (F : NF) (f D cc : Addr) (me : Str) (dV kV doc pm ctv : Value) (an : Option Addr) : Prop where
  fn : ∃ oc od osl, K.lookup f = some ⟨oc, od, .func (PySem.W.fnX F.name F.qual F.params F.body F.scope F.cl dV kV doc pm an (.ref F.c) ctv), osl⟩
  cl : F.cl = [(("__class__" : Str), cc)]
  code : PySem.W.codeIn K (.ref F.c) F.qual = true
  file : ∃ ccl cdd vs ccs file tf, K.lookup F.c = some ⟨ccl, cdd, .fields vs, ccs⟩ ∧ vs[2]? = some (.str file tf) ∧ ((P.main.file : Str) == file) = true
  top : (P.main.scope.names.lookup ("super" : Str)).isSome = false
  cell : ∃ cl cld csl, K.lookup cc = some ⟨cl, cld, .cell (some (.ref D)), csl⟩
  sup : mg "super" = none
  par : ∃ ar : Arg, (F.params.posonlyargs ++ F.params.args).head? = some ar ∧ ar.arg = me
  sk : F.scope.names.lookup ("super" : Str) = some .globalImplicit
  exc : OexC K D
  mro : PySem.W.mroIn K D (.ref D) = some true
  ini : PySem.W.ks_superIn K D D "__init__" = some (some (.builtin "ValueError.__init__"))
  ve : PySem.W.subIn K (.ref D) (.type "ValueError") = some true
  any : PySem.W.nsIn K cStatics "thirdparty.any" = some none
section
variable {CX : CXT} {P : Program} {w : World} {K : PySem.W.Frag} {mg : Str → Option Value} {base : Heap} {N ps : List Str} {F : NF} {f D cc : Addr} {k : Nat} {sp : Sp} {me : Str} {dV kV doc pm ctv : Value} {an : Option Addr} {msg : Expr} {rest : List Stmt} {p0 p1 p2 p3 p4 : Pos}
theorem fn_sup (S : NScope N ps ["__class__"] F.scope) (U : SupAt P K mg F f D cc me dV kV doc pm ctv an) (hps : ps[0]? = some me) (hF : F.body = .Expr (.Call (.Attribute (.Call (.Name "super" p0) [] [] p1) "__init__" p2) [msg] [] p3) p4 :: rest)
    (len : ∀ vs H Q E, sp vs H Q E → vs.length = ps.length)
    (hbody : ∀ (A : Around) (outer : List Env) (s : Shared) (H : Hp) (vs : List V) (Q : VK) (E : XK), Room k (A.deeper (envF F f s.heap.objs.size)) → sp vs H Q E →
      ∃ ta t, PA (ncx CX P w K mg base N F f A outer s H E) [msg] ta ∧ PSs (ncx CX P w K mg base N F f A outer s H E) rest t ∧
        ∃ a, vs[0]? = some (.ref a) ∧ H a = some (exo a D none) ∧ ta (startF N vs [none]) H fun xs H1 => xs.length ≤ 1000 ∧ H1 a = some (exo a D none) ∧ t { nx := fun _ H' => Q .non H', rt := Q } (startF N vs [none]) H1)
    {pl : Env → Sem Bool} (he : ∀ env : Env, eval (.Call (.Attribute (.Call (.Name "super" p0) [] [] p1) "__init__" p2) [msg] [] p3) env = (do
      let ov ← attributeBase (.Call (.Name "super" p0) [] [] p1) "__init__" env (eval (.Call (.Name "super" p0) [] [] p1) env)
      standAt p2.atName
      let (f, first) ← holding [ov] (getMethod ov "__init__" (pl env))
      callWith p3 f first (backTo p3 (starEach [msg] env)) []) := by intro _; rfl)
    (hm : ∀ env : Env, starEach [msg] env = [(false, eval msg env)] := by intro _; rfl) (hs : ∀ env : Env, swapsWith (.Call (.Attribute (.Call (.Name "super" p0) [] [] p1) "__init__" p2) [msg] [] p3) none p4.line env = pure false := by intro _; rfl) :
    FnOk P w K mg base CX (k + 1) f (PySem.W.fnX F.name F.qual F.params F.body F.scope F.cl dV kV doc pm an (.ref F.c) ctv) ps sp := by
  refine ⟨len, fun A outer s H args us vs Q E hr e0 hb r hsp => ?_⟩
  have hl := len _ _ _ _ hsp
  have KX : K.In s.heap := e0.mod.kin.keeps fun b o e => (e0.bs b o e).1
  have lim : s.heap.NoLimit := e0.mod.nolimit.keeps fun b o e => (e0.bs b o e).1
  obtain ⟨oc, od, osl, lk⟩ := U.fn
  obtain ⟨cl, cld, csl, hcc⟩ := U.cell
  have CA : CellsAt F.cl ["__class__"] [none] s.heap H := by
    rw [U.cl]
    have one : ∀ {y : Str} {c : Addr}, ([("__class__", cc)] : List (Str × Addr)).lookup y = some c → y = "__class__" ∧ c = cc := fun {y c} e => by
      have m := PySem.mem_of_lookup e
      rcases List.mem_singleton.mp m with z
      cases z
      exact ⟨rfl, rfl⟩
    refine ⟨rfl, fun y c e => ?_, fun x y c e1 e2 => ?_, fun i y e => ?_⟩
    · obtain ⟨rfl, rfl⟩ := one e
      exact ⟨(e0.bs _ _ (e0.mod.kin _ _ hcc)).2, _, _, KX _ _ hcc, rfl⟩
    · rw [(one e1).1, (one e2).1]
    · have hy : y = "__class__" := by
        have m := List.mem_of_getElem? e
        exact List.mem_singleton.mp m
      rw [hy]
      refine ⟨cc, by simp [List.lookup], fun v hv => ?_⟩
      cases i with
      | zero => simp at hv
      | succ i => simp at hv
  refine ks_codeAny_call_defAt (binds := ps.zip us) hr.depth (KX _ _ lk) rfl lim (PySem.W.codeRec_of KX U.code) rfl hb S.nocell (fun ⟨n, _⟩ hy => S.par n (List.of_mem_zip hy).1) (fun h₁ hns kp => ?_) S.co S.gen S.kind
  obtain ⟨ta, t, hta, ht, a, ha0, ha, q⟩ := hbody A outer s H vs Q E (hr.deeper _) hsp
  have I : Inv (ncx CX P w K mg base N F f A outer s H E) [] (startF N vs [none]) H { s with heap := h₁, toks := s.toks + (ps.zip us).length } := inv_startN S hr.hd e0 hl r CA hns kp
  show PySem.wpAt _ (A.deeper (envF F f s.heap.objs.size)) (.func F.body (envF F f s.heap.objs.size)) (execs F.body (envF F f s.heap.objs.size)) _ _ _
  rw [hF]
  refine ks_wpAt_execs_cons (ks_wpAt_mono (Q := fun fl s' => fl = .next ∧ ∃ H1, Inv (ncx CX P w K mg base N F f A outer s H E) [] (startF N vs [none]) H1 s' ∧ t { nx := fun _ H' => Q .non H', rt := Q } (startF N vs [none]) H1) ?one ?two fun _ _ z => z)
  case two =>
    rintro fl s' ⟨rfl, H1, J, q1⟩
    refine wpAt_of_wpAny (wpAny_mono (ht.run [] s' (startF N vs [none]) H1 _ J q1) (fun fl s2 hs => ?_) fun e s2 hs => hs)
    have fin : ∀ {σ' : L2.St} {H' : Hp} {v : V} {u : Value}, Inv (ncx CX P w K mg base N F f A outer s H E) [] σ' H' s2 → RelV v u → Q v H' → CE outer P w H s Q u s2 := fun {σ' H' v u} J2 rv q2 => ⟨v, H', J2.os, J2.bare, J2.base, J2.hok, rv, q2⟩
    cases fl with
    | ret u =>
      obtain ⟨v, σ', H', J2, rv, q2⟩ := hs
      exact fin J2 rv q2
    | next =>
      obtain ⟨σ', H', J2, q2⟩ := hs
      exact fin (v := V.non) (u := Value.none) J2 rfl q2
    | brk =>
      obtain ⟨_, _, _, q2⟩ := hs
      exact q2.elim
    | cont =>
      obtain ⟨_, _, _, q2⟩ := hs
      exact q2.elim
  case one =>
    have IX := I
    obtain ⟨oD, cdD, hD0, hD1, hD2⟩ : ∃ oD cdD, PySem.W.clsIn K D = some cdD ∧ K.lookup D = some oD ∧ oD.data = .cls cdD := by
      obtain ⟨nm, qq, NN, bs, bm, sn, sub, ab, col, dd, k0, k1, k2, k3, k5, hC, _⟩ := U.exc.cls
      exact ⟨_, _, by unfold PySem.W.clsIn; rw [hC] <;> rfl, hC, rfl⟩
    obtain ⟨ccl, cdd, vsc, ccs, file, tf, hfc, hv2, hfile⟩ := U.file
    obtain ⟨ar, har, harm⟩ := U.par
    obtain ⟨t1, ho⟩ := exo_at I.hok ha
    have K1 := I.kIn
    have hN0 : N[0]? = some me := by
      have z : (N.take (ps.length + [("__class__" : Str)].length))[0]? = (ps ++ [("__class__" : Str)])[0]? := by rw [S.pre]
      rw [List.getElem?_take_of_lt (by simp)] at z
      rw [z, List.getElem?_append_left (List.getElem?_eq_some_iff.mp hps).1, hps]
    have hme : F.scope.names.lookup me = some .local := S.par _ (List.mem_of_getElem? hps)
    have hs0 : (startF N vs [none])[0]? = some (some (.ref a)) := by
      have hlt : 0 < vs.length := (List.getElem?_eq_some_iff.mp ha0).1
      unfold startF
      rw [List.getElem?_append_left (by rw [List.length_map]; exact hlt), List.getElem?_map, ha0]
      rfl
    refine ks_wpAt_Expr_any (ks_wpAt_MethodCall ?_ (he _)) (hi := I.quiet) (hs := hs _)
    refine ks_wpAt_super_base (env := envF F f s.heap.objs.size) U.sk (S.frk _ (List.mem_singleton.mpr rfl)) (by decide) rfl (K1 _ _ lk) rfl har rfl (K1 _ _ hfc) rfl hv2 hfile U.top ?_
    obtain ⟨mb, hb1, hb2⟩ := I.mod.blt
    refine PySem.W.ks_loadName_global S.kind U.sk (Calls.loadGlobal_builtin (I.mod.glob.keeps I.bk) U.sup (hb1.keeps I.bk) ((hb2 "super" (by decide)).trans (show bootBuiltins "super" = some (.type "super") from by first | rfl | kernel_rfl)) ⟨rfl, ?_⟩)
    refine wpAny_loadName_free (c := cc) (v := .ref D) S.kind (S.frk _ (List.mem_singleton.mpr rfl)) (by show F.cl.lookup _ = _; rw [U.cl]; simp [List.lookup]) ⟨_, K1 _ _ hcc, rfl⟩ ?_
    obtain ⟨m, hns1, hlook⟩ := I.loc
    obtain ⟨u, hu, hL⟩ := hlook 0 me (.ref a) hN0 hs0 (.inl hme)
    obtain rfl : u = Value.ref a := hu
    have hmu : m me = some (.ref a) := by
      rcases hL with ⟨_, z⟩ | ⟨z, _⟩
      · exact z
      · have z2 : F.scope.names.lookup me = some .cell ∨ F.scope.names.lookup me = some .free := z
        rw [hme] at z2
        rcases z2 with z2 | z2 <;> cases z2
    rw [harm]
    refine wpAny_loadName_local S.kind hme hns1 hmu ?_
    refine ks_wpAny_isType_cls (K1 _ _ hD1) hD2 ⟨rfl, ?_⟩
    refine ks_wpAny_call_super (K1 _ _ hD1) hD2 ho rfl (fun c z => by cases z) (PySem.W.looks_mroIn K1 U.mro) (fun h2 e2 kk2 => ?_)
    have I2 := I.kept (t' := s.toks + (ps.zip us).length) kk2
    have K2 := I2.kIn
    have ia : PySem.W.InstAt h2 a (PySem.W.excObj D t1 none .none) D none := ⟨kk2 _ _ ho, rfl, rfl, trivial⟩
    have aD : a ≠ D := fun z => by
      have z2 := K1 _ _ hD1
      rw [← z, ho] at z2
      have z3 := Option.some.inj z2
      rw [← z3] at hD2
      cases hD2
    have ini := U.ini
    unfold PySem.W.ks_superIn at ini
    rw [hD0] at ini
    refine PySem.W.kxs_getMethod PySem.W.kxs_ValueError e2 (PySem.W.looks_opaque K2 U.any) (l₀ := cdD.mro) (fun A' Q' E' s' k' q' => wpAny_bind ((PySem.W.looks_clsIn K2 hD0) A' _ E' s' k' (wpAny_pure q'))) rfl K2 ini (ia.type.andThen (PySem.W.looks_subIn K2 U.ve)) aD (by decide) ?_
    have I3 := I2.kept (t' := s.toks + (ps.zip us).length + 1) (h' := h2.push (PySem.W.kxs_mw "ValueError.__init__" a)) (fun b o e => Heap.get?_push_of_some _ e)
    have I4 : Inv (ncx CX P w K mg base N F f A outer s H E) ([] ++ [(h2.objs.size, PySem.W.kxs_mw "ValueError.__init__" a)]) (startF N vs [none]) H _ := I3.pins_of (fun p hp => by
      obtain rfl := List.mem_singleton.mp hp
      exact ⟨Heap.get?_push_at rfl rfl, I2.hok.fresh (Nat.le_refl _), Nat.ne_of_gt I2.lt, I2.nofs (Nat.le_refl _), fun v z => by cases z⟩)
    show wpAny _ _ (callWith p3 (.ref h2.objs.size) [] (backTo p3 (starEach [msg] (envF F f s.heap.objs.size))) []) _ _ _
    have hsp2 := hta.run p3 _ _ _ _ _ I4 q
    have hst : starEach [msg] (ncx CX P w K mg base N F f A outer s H E).env = [(false, eval msg (envF F f s.heap.objs.size))] := hm _
    rw [hst] at hsp2
    rw [hm]
    refine PySem.W.kxs_callWith (i := "ValueError.__init__") (x := a) rfl (Calls.evalArgs_plain (thn hsp2 fun us2 s7 ⟨xs, H1, I8, r8, hl8, ea, q8⟩ => ?_))
    obtain ⟨nm, qq, NN, bs, bm, sn, sub, ab, col, dd, k0, k1, k2, k3, k5, hC, _⟩ := U.exc.cls
    obtain ⟨h7, g7, d7, t7, os7⟩ := s7
    have pn := (I8.pin (h2.objs.size, PySem.W.kxs_mw "ValueError.__init__" a) (List.mem_append_right _ (List.mem_append_right _ (List.mem_singleton.mpr rfl)))).1
    obtain ⟨t8, ho8⟩ := exo_at I8.hok ea
    refine ⟨pn, mw_call (I8.kIn _ _ hC) ho8 pn (by show us2.length ≤ sizeLine; rw [← r8.length, sizeLine_eq]; omega) fun h9 t9 k9 e9 => ⟨rfl, H1, ?_, q8⟩⟩
    have J := I8.write (t' := t7) (x := a) (e := a) (o := exo a D none) (by rw [ea]; exact True.intro) (.inl rfl) k9 ⟨_, e9⟩ (exo_ok e9)
    have eu : upd H1 a (exo a D none) = H1 := by
      funext b
      by_cases hb : b = a
      · rw [hb, upd_same, ea]
      · rw [upd_ne hb]
    rw [eu] at J
    exact J.unpinned
end

/-! ### a chain of three comparisons -/
section
variable {X : Cx} {a b c d : Expr} {ta tb tc td : TE} {r r2 r3 : R2} {op op2 op3 : CmpOp} {pos : Pos}
def tChain3 (r r2 r3 : R2) (ta tb tc td : TE) : TE := fun σ H Q => ta σ H fun x H1 => tb σ H1 fun y H2 => r x y H2 fun z H3 => ∃ k, z = .bl k ∧
  (if k = true then tc σ H3 fun u H4 => r2 y u H4 fun z2 H5 => ∃ k2, z2 = .bl k2 ∧ (if k2 = true then td σ H5 fun v H6 => r3 u v H6 Q else Q (.bl false) H5) else Q (.bl false) H3)
theorem if_ff {A B : Prop} (h : B) : if (false : Bool) = true then A else B := by
  rw [if_neg (by decide)]
  exact h
theorem if_tt {A B : Prop} (h : A) : if (true : Bool) = true then A else B := by
  rw [if_pos rfl]
  exact h
theorem pt_chain3 (h1 : OpR X (compareOp op) r) (h2 : OpR X (compareOp op2) r2) (h3 : OpR X (compareOp op3) r3) (ha : PE X a ta) (hb : PE X b tb) (hc : PE X c tc) (hd : PE X d td)
    (hm : lastMarks [op, op2, op3] [b, c, d] = false := by with_unfolding_all rfl) : PT X (.Compare a [op, op2, op3] [b, c, d] pos) (tTest (tChain3 r r2 r3 ta tb tc td)) := by
  refine ⟨fun pins s σ H Q I h => ?_⟩
  refine isTrue_chain (thn (ha.run pins s σ H _ I h) fun v s1 ⟨x, H1, I1, e1, q1⟩ => test_link (thn (hb.run pins s1 σ H1 _ I1 q1) fun u s2 ⟨y, H2, I2, e2, q2⟩ => thn (h1 pins s2 σ H2 x y v u _ I2 e1 e2 q2) fun dv s3 ⟨z, H3, I3, e3, k, ek, q3⟩ => ?_)) hm
  subst ek
  cases e3
  refine wpAny_truthy_bool ?_
  cases k with
  | false =>
    obtain ⟨k', e', q'⟩ := q3
    cases e'
    exact if_ff ⟨H3, I3, q'⟩
  | true =>
    refine if_tt (test_link (thn (hc.run pins s3 σ H3 _ I3 (if_pos rfl ▸ q3)) fun w4 s4 ⟨z4, H4, I4, e4, q4⟩ => thn (h2 pins s4 σ H4 y z4 u w4 _ I4 e2 e4 q4) fun d5 s5 ⟨z5, H5, I5, e5, k2, ek2, q5⟩ => ?_))
    subst ek2
    cases e5
    refine wpAny_truthy_bool ?_
    cases k2 with
    | false =>
      obtain ⟨k', e', q'⟩ := q5
      cases e'
      exact if_ff ⟨H5, I5, q'⟩
    | true =>
      refine if_tt (test_last (thn (hd.run pins s5 σ H5 _ I5 q5) fun w6 s6 ⟨z6, H6, I6, e6, q6⟩ => thn (h3 pins s6 σ H6 z4 z6 w4 w6 _ I6 e4 e6 q6) fun d7 s7 ⟨z7, H7, I7, e7, k3, ek3, q7⟩ => ?_))
      subst ek3
      cases e7
      exact wpAny_truthy_bool ⟨H7, I7, q7⟩
end

/-! ### defs that may raise, called -/
/-- the def under its name, which may let out what sp says -/
structure CalE (P : Program) (w : World) (K : PySem.W.Frag) (mg : Str → Option Value) (base : Heap) (k : Nat) (x : Str) (sp : Sp) : Prop where
  ex : ∃ (f : Addr) (fd : FuncData) (ps : List Str), FnOk P w K mg base (L2.CX P w) k f fd ps sp ∧ mg x = some (.ref f) ∧ PySem.W.keepIn K (.ref f) = true ∧ Binds K fd ps []
section
variable {P : Program} {w : World} {K : PySem.W.Frag} {mg : Str → Option Value} {base : Heap}
theorem fnE {x qual : Str} {st : Stmt} {f : Addr} {fd : FuncData} {N ps : List Str} {k : Nat} {sp : Sp} (F : C8.Fun K x qual st f fd) (S : FnScope N ps (C8.fnScope st)) (len : ∀ vs H Q E, sp vs H Q E → vs.length = ps.length)
    (hb : ∀ (cdv : Value) (A : Around) (outer : List Env) (s : Shared) (H : Hp) (vs : List V) (Q : VK) (E : XK), Room k (A.deeper (envOfC qual (C8.fnScope st) s.heap.objs.size f cdv)) → sp vs H Q E →
      ∃ t, PSs (cxOf (L2.CX P w) P w K mg base N qual (C8.fnScope st) f cdv A outer s H E) (C8.fnBody st) t ∧ t { nx := fun _ H' => Q .non H', rt := Q } (start N vs) H) : FnOk P w K mg base (L2.CX P w) (k + 1) f fd ps sp := by
  obtain ⟨oc, od, dV, kV, doc, pm, an, cdv, ct, osl, rfl, lk, hcd⟩ := F.ex
  exact fn_of lk hcd S len fun A outer s H vs Q E hr hs => hb cdv A outer s H vs Q E hr hs
theorem calE {x : Str} {st : Stmt} {f : Addr} {fd : FuncData} {N ps : List Str} {k : Nat} {sp : Sp} (D : Def K mg x st f fd) (b : Binds K fd ps []) (S : FnScope N ps (C8.fnScope st)) (len : ∀ vs H Q E, sp vs H Q E → vs.length = ps.length)
    (hb : ∀ (cdv : Value) (A : Around) (outer : List Env) (s : Shared) (H : Hp) (vs : List V) (Q : VK) (E : XK), Room k (A.deeper (envOfC x (C8.fnScope st) s.heap.objs.size f cdv)) → sp vs H Q E →
      ∃ t, PSs (cxOf (L2.CX P w) P w K mg base N x (C8.fnScope st) f cdv A outer s H E) (C8.fnBody st) t ∧ t { nx := fun _ H' => Q .non H', rt := Q } (start N vs) H) : CalE P w K mg base (k + 1) x sp :=
  ⟨f, fd, ps, fnE D.fn S len hb, D.mgf, D.kp, b⟩
end
section
variable {X : Cx} {x : Str} {p pos : Pos} {e : Expr} {es : List Expr} {ta : TA} {sp : Sp} {k j : Nat}
/-- its call where exceptions go to W -/
theorem pe_cE (c : CalE X.prog X.w X.K X.mg X.base k x sp) {W : WX} (tk : Takes X W) (hr : Room j X.A) (hk : k ≤ j) (hg : Gl X x) (ha : PA X (e :: es) ta) (hdb : (x == ("__debug__" : Str)) = false := by decide)
    (he : starEach (e :: es) X.env = (false, eval e X.env) :: starEach es X.env := by rfl) (hpl : (backTo pos (starEach es X.env)).any (·.1) = false := by rfl) : PE X (.Call (.Name x p) (e :: es) [] pos) (tCallS sp (WE W) ta) := by
  obtain ⟨f, fd, ps, F, m, kp, b⟩ := c.ex
  exact pe_callS (F.mono hk) hr hg m kp b (passAt tk) ha hdb he hpl
end
/-- a method that may raise -/
structure MetE (P : Program) (w : World) (K : PySem.W.Frag) (mg : Str → Option Value) (base : Heap) (k : Nat) (C : Addr) (m : Str) (sp : Sp) : Prop where
  ex : ∃ (f : Addr) (fd : FuncData) (ps : List Str), Cls K C ∧ Meth K C m f ∧ FnOk P w K mg base (L2.CX P w) k f fd ps sp ∧ Binds K fd ps []
def tMtE (C : Addr) (m : Str) (sp : Sp) (E : L2.St → XK) (ta : TE) (t : TA) : TE := fun σ H Q => ta σ H fun x H1 => ∃ a dx fs, x = .ref a ∧ H1 a = some (.ins C dx fs) ∧ fs.lookup m = none ∧ t σ H1 fun vs H2 => sp (x :: vs) H2 Q (E σ)
section
variable {P : Program} {w : World} {K : PySem.W.Frag} {mg : Str → Option Value} {base : Heap}
theorem metE {m qual : Str} {C : Addr} {st : Stmt} {f : Addr} {fd : FuncData} {N ps : List Str} {k : Nat} {sp : Sp} (c : Cls K C) (me : Meth K C m f) (F : C8.Fun K m qual st f fd) (b : Binds K fd ps []) (S : FnScope N ps (C8.fnScope st)) (len : ∀ vs H Q E, sp vs H Q E → vs.length = ps.length)
    (hb : ∀ (cdv : Value) (A : Around) (outer : List Env) (s : Shared) (H : Hp) (vs : List V) (Q : VK) (E : XK), Room k (A.deeper (envOfC qual (C8.fnScope st) s.heap.objs.size f cdv)) → sp vs H Q E →
      ∃ t, PSs (cxOf (L2.CX P w) P w K mg base N qual (C8.fnScope st) f cdv A outer s H E) (C8.fnBody st) t ∧ t { nx := fun _ H' => Q .non H', rt := Q } (start N vs) H) : MetE P w K mg base (k + 1) C m sp :=
  ⟨f, fd, ps, c, me, fnE F S len hb, b⟩
end
section
variable {X : Cx} {m : Str} {C : Addr} {pos apos : Pos} {e o : Expr} {es : List Expr} {ta : TE} {t : TA} {sp : Sp} {k j : Nat}
theorem pe_mE {pl : Sem Bool} (c : MetE X.prog X.w X.K X.mg X.base k C m sp) {W : WX} (tk : Takes X W) (hr : Room j X.A) (hk : k ≤ j) (he : PE X o ta) (ha : PA X (e :: es) t)
    (hst : starEach (e :: es) X.env = (false, eval e X.env) :: starEach es X.env := by rfl) (hpl : (backTo pos (starEach es X.env)).any (·.1) = false := by rfl)
    (ht : eval (.Call (.Attribute o m apos) (e :: es) [] pos) X.env = (do
      let ov ← eval o X.env
      standAt apos.atName
      let (f, first) ← holding [ov] (getMethod ov m pl)
      callWith pos f first (backTo pos (starEach (e :: es) X.env)) (backToKw pos (keywordEach [] X.env))) := by rfl) : PE X (.Call (.Attribute o m apos) (e :: es) [] pos) (tMtE C m sp (WE W) ta t) := by
  obtain ⟨f, fd, ps, hc, hm, F, b⟩ := c.ex
  refine ⟨fun pins s σ H Q I h => PySem.W.methodCall_KW (pl := pl) (thn (he.run pins s σ H _ I h) fun u s1 ⟨x, H1, I1, rx, a, dx, fs, ex, ea, l, q⟩ => ?_) ht⟩
  subst ex
  cases (show u = Value.ref a from rx)
  exact getmeth_ok I1 ea hc hm l (PySem.W.callWith_K (first := [.ref a]) (h₀ := X.base) I.ok.mod.kin hm.kp (thn (ha.run pos pins s1 σ H1 _ I1 q) fun us s2 ⟨vs, H2, I2, r, q2⟩ => ⟨I2.kIn, run_fnS (us := .ref a :: us) (vs := .ref a :: vs) (F.mono hk) hr b (passAt tk σ) I2 (.cons rfl r) q2⟩) hst hpl)
end

/-! ### isinstance of the exception that a suite holds, with its fields -/
def rIsX (K : PySem.W.Frag) (D a : Addr) (cls : Value) (d0 : Option Addr) : List V → Hp → VK → Prop := fun xs H Q => cls = .ref D ∧ ∃ (d : Addr) (c : V) (u : Value) (b : Bool) (fs : List (Str × V)), d0 = some d ∧ xs = [.ref a, c] ∧ ClsV c u ∧ H d = some (.xd fs) ∧ PySem.W.kitOne K (.ref D) u = some b ∧ Q (.bl b) H
def rIsXT (K : PySem.W.Frag) (D a : Addr) (cls : Value) (d0 : Option Addr) : List V → Hp → VK → Prop := fun xs H Q => cls = .ref D ∧ ∃ (d tp : Addr) (cs : List V) (us : List Value) (b : Bool) (fs : List (Str × V)), d0 = some d ∧ xs = [.ref a, .ref tp] ∧ H tp = some (.tup cs) ∧ Paired ClsV cs us ∧ H d = some (.xd fs) ∧ PySem.W.kitAny K (.ref D) us = some b ∧ Q (.bl b) H
section
variable {X : Cx} {a D : Addr} {cls : Value} {d0 : Option Addr} {oe : Obj} {pn : List (Addr × Obj)}
theorem exx_at {d : Addr} {pins : List (Addr × Obj)} {σ : L2.St} {H : Hp} {s : Shared} {fs : List (Str × V)} (hz : Zc (.ref D) (some d) oe) (hf : ∃ vs, oe.data = .fields vs) (I : Inv (X.suite a ((a, oe) :: pn)) pins σ H s) (hd : H d = some (.xd fs)) : ∃ od, PySem.W.InstAt s.heap a oe D (some od) := by
  obtain ⟨hget, _⟩ := I.pin (a, oe) (List.mem_append.mpr (.inl List.mem_cons_self))
  obtain ⟨mA, hns, _⟩ := (show ObjOk X.prog X.w H s.heap d (.xd fs) from I.hok d _ hd)
  obtain ⟨od, _, _, hod, _⟩ := hns
  obtain ⟨vs, hv⟩ := hf
  refine ⟨od, hget, hz.1, ?_, ?_⟩
  · obtain ⟨oc, od2, oda, osl⟩ := oe
    dsimp only at hv
    subst hv
    rfl
  · rw [hz.2]
    exact hod
theorem call_isX (K : PySem.W.Frag) (hK : X.K = K) (C : ExcC K D) (hz : Zc cls d0 oe) (hf : ∃ vs, oe.data = .fields vs) : CallR (X.suite a ((a, oe) :: pn)) (.builtin "isinstance") (rIsX K D a cls d0) := by
  intro pins s σ H xs us Q I r h
  obtain ⟨rfl, d, c, u, b, fs, rfl, rfl, hc, hd, e, q⟩ := h
  subst hK
  obtain ⟨u1, u2, rfl, r1, r2⟩ := vals2 r
  cases (show u1 = Value.ref a from r1)
  obtain rfl := hc.eq r2
  obtain ⟨od, J⟩ := exx_at hz hf I hd
  have hcl : (PySem.W.clsIn X.K D).isSome = true := by
    obtain ⟨cd, hcd, _⟩ := PySem.W.any_some C.hd
    rw [hcd]
    rfl
  exact PySem.W.kia_one (PySem.W.kitx_exc hcl C.hg C.hk C.hs C.ha C.hn C.ht C.hm) I.kIn J e (fun z => nomatch z) fun tk => ⟨.bl b, H, I.tok tk, rfl, q⟩
theorem call_isXT (K : PySem.W.Frag) (hK : X.K = K) (C : ExcC K D) (hz : Zc cls d0 oe) (hf : ∃ vs, oe.data = .fields vs) : CallR (X.suite a ((a, oe) :: pn)) (.builtin "isinstance") (rIsXT K D a cls d0) := by
  intro pins s σ H xs us Q I r h
  obtain ⟨rfl, d, tp, cs, ws, b, fs, rfl, rfl, hT, hk, hd, e, q⟩ := h
  subst hK
  obtain ⟨u1, u2, rfl, r1, r2⟩ := vals2 r
  cases (show u1 = Value.ref a from r1)
  cases (show u2 = Value.ref tp from r2)
  obtain ⟨od, J⟩ := exx_at hz hf I hd
  obtain ⟨_, its, rv, o, g1, g2, n, g3⟩ := (show ObjOk X.prog X.w H s.heap tp (.tup cs) from I.hok tp _ hT)
  obtain rfl := ClsV.all hk rv
  obtain ⟨oc, od2, dt, sl⟩ := o
  simp only at g2 g3
  subst g2 g3
  have hcl : (PySem.W.clsIn X.K D).isSome = true := by
    obtain ⟨cd, hcd, _⟩ := PySem.W.any_some C.hd
    rw [hcd]
    rfl
  exact PySem.W.kia_tup (PySem.W.kitx_exc hcl C.hg C.hk C.hs C.ha C.hn C.ht C.hm) I.kIn J g1 e (fun z => nomatch z) fun tk => ⟨.bl b, H, I.tok tk, rfl, q⟩
end

/-- what follows a wrapped statement, said once -/
theorem jnS {a b : TS} {D : Ends} {σ : L2.St} {H : Hp} (M : L2.St → Hp → Prop) (h2 : ∀ σ H, M σ H → b D σ H) (h1 : ∀ N : L2.St → Hp → Prop, (∀ σ H, M σ H → N σ H) → a { D with nx := N } σ H) : tSeq (tMk a) b D σ H := by
  rw [tMk_eq]
  exact h1 (b D) h2

/-! ### marks and regions, said plainly -/
structure RMark where
  r : Str
  f : Str
  i : Int
deriving DecidableEq
structure RRow where
  s : Int
  e : Int
  m : RMark
deriving DecidableEq
def RMark.after (m : RMark) (n : Int) : RMark := if m.f = "" then m else ⟨m.r, m.f, m.i + n⟩
def RRow.at' (x : RRow) (p : Int) : RMark := x.m.after (p - x.s)
def mV (m : RMark) : List V := [.str m.r, .str m.f, .int m.i]
def rV (x : RRow) : List V := [.int x.s, .int x.e, .str x.m.r, .str x.m.f, .int x.m.i]
def mD (m : RMark) : PyData := .tuple [.str m.r, .str m.f, .int m.i]
def rD (x : RRow) : PyData := .tuple [.int x.s, .int x.e, .str x.m.r, .str x.m.f, .int x.m.i]
def MOk (m : RMark) : Prop := PyData.canLay0 (.str m.r) = true ∧ PyData.canLay0 (.str m.f) = true
theorem MOk.after {m : RMark} (h : MOk m) (n : Int) : MOk (m.after n) := by
  unfold RMark.after
  split
  · exact h
  · exact h
theorem dh_mark {H : Hp} {a : Addr} {m : RMark} (g : H a = some (.tup (mV m))) : Dh H (mD m) (.ref a) := ⟨a, _, rfl, g, _, _, rfl, rfl, _, _, rfl, rfl, _, _, rfl, rfl, rfl⟩
theorem dh_row {H : Hp} {a : Addr} {x : RRow} (g : H a = some (.tup (rV x))) : Dh H (rD x) (.ref a) := ⟨a, _, rfl, g, _, _, rfl, rfl, _, _, rfl, rfl, _, _, rfl, rfl, _, _, rfl, rfl, _, _, rfl, rfl, rfl⟩
theorem row_of {H : Hp} {v : V} {x : RRow} (h : Dh H (rD x) v) : ∃ a, v = .ref a ∧ H a = some (.tup (rV x)) := by
  obtain ⟨a, us, rfl, g, v1, u1, rfl, e1, v2, u2, rfl, e2, v3, u3, rfl, e3, v4, u4, rfl, e4, v5, u5, rfl, e5, e6⟩ := h
  cases (show v1 = _ from e1)
  cases (show v2 = _ from e2)
  cases (show v3 = _ from e3)
  cases (show v4 = _ from e4)
  cases (show v5 = _ from e5)
  cases (show u5 = _ from e6)
  exact ⟨a, rfl, g⟩
theorem shaped_mark {m : RMark} (h : MOk m) : SeqAt.shaped (mD m) = true := by
  show (PyData.canLay0 (mD m) && decide (PyData.depth (mD m) ≤ 64)) = true
  rw [Bool.and_eq_true]
  refine ⟨?_, decide_eq_true ?_⟩
  · show PyData.canLayAll0 [.str m.r, .str m.f, .int m.i] = true
    have h1 : PyData.strOk m.r = true := h.1
    have h2 : PyData.strOk m.f = true := h.2
    simp only [PyData.canLayAll0, PyData.canLay0, h1, h2, Bool.and_self]
  · simp [mD, PyData.depth, PyData.depthAll]
theorem str_beq (x y : Str) : (x == y) = decide (x = y) := by
  by_cases h : x = y
  · subst h
    simp
  · simp [h]
theorem eqv_mark (m n : RMark) : PyData.eqv (mD m) (mD n) = decide (m = n) := by
  obtain ⟨r, f, i⟩ := m
  obtain ⟨r', f', i'⟩ := n
  simp only [mD, PyData.eqv, PyData.eqvAll, RMark.mk.injEq, str_beq, Bool.and_true]
  by_cases h1 : r = r'
  · by_cases h2 : f = f'
    · by_cases h3 : i = i'
      · simp [h1, h2, h3]
      · simp [h1, h2, h3]
    · simp [h1, h2]
  · simp [h1]
def hiI (x y : Int) : Int := if y > x then y else x
def loI (x y : Int) : Int := if y < x then y else x
/-- the parts of the rows in a range -/
def clip1 (lo hi : Int) (x : RRow) : List RRow := if hiI x.s lo < loI x.e hi then [⟨hiI x.s lo, loI x.e hi, x.at' (hiI x.s lo)⟩] else []
def clipR (lo hi : Int) (xs : List RRow) : List RRow := xs.flatMap (clip1 lo hi)
theorem clip1_len (lo hi : Int) (x : RRow) : (clip1 lo hi x).length ≤ 1 := by
  unfold clip1
  split <;> simp
theorem clipR_len (lo hi : Int) : ∀ xs : List RRow, (clipR lo hi xs).length ≤ xs.length
  | [] => Nat.le_refl _
  | x :: xs => by
    have h1 := clip1_len lo hi x
    have h2 := clipR_len lo hi xs
    unfold clipR at *
    rw [List.flatMap_cons, List.length_append, List.length_cons]
    omega
theorem clipR_snoc (lo hi : Int) (xs : List RRow) (x : RRow) : clipR lo hi (xs ++ [x]) = clipR lo hi xs ++ clip1 lo hi x := by
  unfold clipR
  rw [List.flatMap_append]
  simp
/-- y goes on where x ends -/
def goesOn (x y : RRow) : Prop := x.e = y.s ∧ x.at' y.s = y.m
instance (x y : RRow) : Decidable (goesOn x y) := inferInstanceAs (Decidable (_ ∧ _))
def pushR (acc : List RRow) (y : RRow) : List RRow := match acc.getLast? with
  | none => [y]
  | some x => if goesOn x y then acc.dropLast ++ [⟨x.s, y.e, x.m⟩] else acc ++ [y]
def mergeR (xs : List RRow) : List RRow := xs.foldl pushR []
theorem mergeR_snoc (xs : List RRow) (y : RRow) : mergeR (xs ++ [y]) = pushR (mergeR xs) y := by
  unfold mergeR
  rw [List.foldl_append]
  rfl
theorem push_nil (y : RRow) : pushR [] y = [y] := rfl
theorem push_on {acc : List RRow} {x y : RRow} (h : goesOn x y) : pushR (acc ++ [x]) y = acc ++ [⟨x.s, y.e, x.m⟩] := by
  unfold pushR
  rw [List.getLast?_concat]
  show (if _ then _ else _) = _
  rw [if_pos h, List.dropLast_concat]
theorem push_new {acc : List RRow} {x y : RRow} (h : ¬ goesOn x y) : pushR (acc ++ [x]) y = acc ++ [x] ++ [y] := by
  unfold pushR
  rw [List.getLast?_concat]
  show (if _ then _ else _) = _
  rw [if_neg h]
theorem push_len (acc : List RRow) (y : RRow) : (pushR acc y).length ≤ acc.length + 1 := by
  unfold pushR
  split
  · simp
  · split
    · rw [List.length_append, List.length_dropLast, List.length_singleton]
      omega
    · rw [List.length_append, List.length_singleton]
      exact Nat.le_refl _
theorem fold_len : ∀ (xs acc : List RRow), (xs.foldl pushR acc).length ≤ acc.length + xs.length
  | [], acc => Nat.le_refl _
  | x :: xs, acc => by
    have h1 := fold_len xs (pushR acc x)
    have h2 := push_len acc x
    rw [List.foldl_cons, List.length_cons]
    omega
theorem mergeR_len (xs : List RRow) : (mergeR xs).length ≤ xs.length := by
  have h := fold_len xs []
  rw [List.length_nil, Nat.zero_add] at h
  exact h
theorem DhAll.snoc {H : Hp} : ∀ {ds : List PyData} {xs : List V} {d : PyData} {x : V}, DhAll H ds xs → Dh H d x → DhAll H (ds ++ [d]) (xs ++ [x])
  | [], xs, d, x, h, hx => by
    cases (show xs = [] from h)
    exact ⟨x, [], rfl, hx, rfl⟩
  | d' :: ds, xs, d, x, h, hx => by
    obtain ⟨v, vs, rfl, h1, h2⟩ := h
    exact ⟨v, vs ++ [x], rfl, h1, DhAll.snoc h2 hx⟩
/-- rows stand wherever their tuples do -/
theorem rows_mono {H H' : Hp} : ∀ {xs : List RRow} {vs : List V}, (∀ a us, H a = some (.tup us) → H' a = some (.tup us)) → DhAll H (xs.map rD) vs → DhAll H' (xs.map rD) vs
  | [], vs, _, h => h
  | x :: xs, vs, s, h => by
    obtain ⟨v, ws, rfl, h1, h2⟩ := h
    obtain ⟨a, rfl, ga⟩ := row_of h1
    exact ⟨_, ws, rfl, dh_row (s _ _ ga), rows_mono s h2⟩
theorem tup_put {H : Hp} {L : Addr} {xs ys : List V} (g : H L = some (.lst xs)) : ∀ a us, H a = some (.tup us) → (upd H L (.lst ys)) a = some (.tup us) := fun a us e => by
  have ne : a ≠ L := fun z => by
    rw [z, g] at e
    cases e
  rw [upd_ne ne]
  exact e
theorem rows_put {H : Hp} {L : Addr} {xs ys : List V} (g : H L = some (.lst xs)) {zs : List RRow} {vs : List V} (h : DhAll H (zs.map rD) vs) : DhAll (upd H L (.lst ys)) (zs.map rD) vs := rows_mono (tup_put g) h
theorem rows_app {H : Hp} : ∀ {xs ys : List RRow} {us vs : List V}, DhAll H (xs.map rD) us → DhAll H (ys.map rD) vs → DhAll H ((xs ++ ys).map rD) (us ++ vs)
  | [], ys, us, vs, h, k => by
    cases (show us = [] from h)
    exact k
  | x :: xs, ys, us, vs, h, k => by
    obtain ⟨v, ws, rfl, h1, h2⟩ := h
    exact ⟨v, ws ++ vs, rfl, h1, rows_app h2 k⟩
theorem rows_get {H : Hp} {xs : List RRow} {us : List V} {i : Nat} {x : RRow} (h : DhAll H (xs.map rD) us) (e : xs[i]? = some x) : ∃ a, us[i]? = some (.ref a) ∧ H a = some (.tup (rV x)) := by
  obtain ⟨v, h1, h2⟩ := DhAll.get (i := i) (d := rD x) h (by rw [List.getElem?_map, e]; rfl)
  obtain ⟨a, rfl, ga⟩ := row_of h2
  exact ⟨a, h1, ga⟩
theorem rows_len {H : Hp} {xs : List RRow} {us : List V} (h : DhAll H (xs.map rD) us) : us.length = xs.length := by
  have := h.len
  rw [List.length_map] at this
  exact this
theorem rows_snoc {H : Hp} {xs : List RRow} {us : List V} {x : RRow} {a : Addr} (h : DhAll H (xs.map rD) us) (g : H a = some (.tup (rV x))) : DhAll H ((xs ++ [x]).map rD) (us ++ [.ref a]) := by
  rw [List.map_append]
  exact DhAll.snoc h (dh_row g)
/-- the last row of a list that has one -/
theorem rows_last {H : Hp} : ∀ {xs : List RRow} {x : RRow} {us : List V}, DhAll H ((xs ++ [x]).map rD) us → ∃ ws a, us = ws ++ [.ref a] ∧ H a = some (.tup (rV x)) ∧ DhAll H (xs.map rD) ws
  | [], x, us, h => by
    obtain ⟨v, vs, rfl, h1, h2⟩ := h
    cases (show vs = [] from h2)
    obtain ⟨a, rfl, ga⟩ := row_of h1
    exact ⟨[], a, rfl, ga, rfl⟩
  | y :: xs, x, us, h => by
    obtain ⟨v, vs, rfl, h1, h2⟩ := h
    obtain ⟨ws, a, rfl, ga, h3⟩ := rows_last h2
    exact ⟨v :: ws, a, rfl, ga, v, ws, rfl, h1, h3⟩

section

-- a condition of an operator
local macro_rules | `(tactic| walk_at "cond") => `(tactic| first
  | (show (0 : Int) < _; omega)
  | (show CDiv _ _; constructor <;> (first | decide | omega))
  | (show CMul _ _; first | (refine cmul_l ?_; constructor <;> (first | decide | omega)) | (refine cmul_r ?_; constructor <;> (first | decide | omega)))
  | (show CPow _ _; exact (by refine ⟨by decide, by decide, by decide⟩))
  | (show CDivW _ _; exact ⟨by decide, by decide +kernel⟩))
local macro_rules | `(tactic| walk_at "sq") => `(tactic| first | assumption | exact Dh.mono (same_upd (by assumption)) _ _ (by assumption) | exact .inl (.inl (.inl (by assumption))) | exact .inr (.inl (.inl (by assumption))) | exact SqL.of (by assumption) | exact .inl (by assumption) | exact .inl (SqL.of (by assumption)) | exact SqT.of (by assumption) | exact .inr (SqT.of (by assumption)))
local macro_rules | `(tactic| walk_at "st") => `(tactic| first
  | refine ⟨_, rfl, ?_⟩
  | refine ⟨_, _, rfl, rfl, ?_⟩
  | refine .inl ⟨_, rfl, ?_⟩
  | refine ⟨rfl, ?_⟩
  | refine ⟨_, _, rfl, by walk_at "sq", ?_⟩
  | refine ⟨.inl ⟨rfl, _, SqL.of (by assumption)⟩, ?_⟩
  | refine ⟨by walk_at "cond", ?_⟩
  | (refine' ifBT ?hh ?_; (case hh => first | rfl | assumption))
  | (refine' ifBF ?hh ?_; (case hh => first | rfl | assumption)))
local macro_rules | `(tactic| walk_at "go") => `(tactic| repeat walk_at "st")
local macro_rules | `(tactic| walk_at "yes") => `(tactic| (refine' ifT ?hh ?_; (case hh => first | rfl | decide +kernel)))
local macro_rules | `(tactic| walk_at "no") => `(tactic| (refine' ifF ?hh ?_; (case hh => first | decide +kernel | (intro z; cases z; done))))

/-! ### mark_after, mark_in, clip, _continues, merge -/
abbrev s_mark_after : Stmt := topS 2
theorem sc_mark_after : FnScope ["mark", "steps", "rights", "file", "index"] ["mark", "steps"] (C8.fnScope s_mark_after) := C8.fnScope_by (by decide +kernel)
abbrev s_mark_in : Stmt := topS 3
theorem sc_mark_in : FnScope ["region", "page"] ["region", "page"] (C8.fnScope s_mark_in) := C8.fnScope_by (by decide +kernel)
theorem slT {X : Cx} (K : PySem.W.Frag) (h : X.K = K) : SlR X (rSlT K) := by
  subst h
  exact sl_tup
theorem catT {X : Cx} (K : PySem.W.Frag) (h : X.K = K) : OpR X (binaryOp .Add) (rCatT K) := by
  subst h
  exact op_catT
theorem cut2 (x : RRow) : cutV (rV x) (some 2) none = mV x.m := rfl
def spAfter : Sp := fun vs H Q _ => ∃ (a : Addr) (m : RMark) (n : Int), vs = [.ref a, .int n] ∧ H a = some (.tup (mV m)) ∧ ∀ (b : Addr) (H' : Hp), Same H H' → H' b = some (.tup (mV (m.after n))) → Q (.ref b) H'
def spMarkIn : Sp := fun vs H Q _ => ∃ (a : Addr) (x : RRow) (p : Int), vs = [.ref a, .int p] ∧ H a = some (.tup (rV x)) ∧ ∀ (b : Addr) (H' : Hp), Same H H' → H' b = some (.tup (mV (x.at' p))) → Q (.ref b) H'
section
variable {P : Program} {w : World} {K : PySem.W.Frag} {mg : Str → Option Value} {base : Heap}
theorem ok_mark_after {f : Addr} {fd : FuncData} (D : Def K mg "mark_after" s_mark_after f fd) (b : Binds K fd ["mark", "steps"] []) : Cal P w K mg base 1 "mark_after" spAfter [] := by
  refine cal0 D b .nil sc_mark_after (fun vs H Q E h => ?_) (fun cdv A outer s H vs Q E hr h => ?_)
  · obtain ⟨a, m, n, rfl, _⟩ := h
    rfl
  obtain ⟨a, m, n, rfl, g, q⟩ := h
  refine ⟨_, (pss_cons (ps_asg (pv 0) (pg_tup rfl (pgs_cons (pg_name (i := 2) sc_mark_after.nd rfl (.inl rfl)) (pgs_cons (pg_name (i := 3) sc_mark_after.nd rfl (.inl rfl)) (pgs_cons (pg_name (i := 4) sc_mark_after.nd rfl (.inl rfl)) pgs_nil)))))
      (pss_cons (ps_mk (ps_if (pt_cmpR op_eq (pv 3) pe_str (nomark _))
      (pss_one (ps_ret (pv 0)))
      pss_nil))
      (pss_one (ps_ret (pe_tup (pa_cons (pv 2) (pa_cons (pv 3) (pa_cons (pe_op op_add (pv 4) (pv 1)) pa_nil)))))))), ?_⟩
  walk_at "go"
  refine ⟨_, _, rfl, _, _, rfl, _, _, rfl, rfl, ?_⟩
  walk_at "go"
  refine jnS (M := fun σ H' => m.f ≠ "" ∧ H' = H ∧ σ = [sR a, sI n, sS m.r, sS m.f, sI m.i]) ?_ (fun N kk => ?_)
  rotate_left
  · walk_at "go"
    refine ifD (fun c => ?_) (fun c => ?_)
    · walk_at "go"
      refine q a _ same_rfl ?_
      unfold RMark.after
      rw [if_pos (V.str.inj c)]
      exact g
    · exact kk _ _ ⟨fun z => c (congrArg V.str z), rfl, rfl⟩
  rintro σ H2 ⟨c, rfl, rfl⟩
  walk_at "go"
  refine ⟨sz, fun r nr => ?_⟩
  refine q r _ (same_upd nr) ?_
  unfold RMark.after
  rw [if_neg c]
  exact upd_same
theorem ok_mark_in {f : Addr} {fd : FuncData} (D : Def K mg "mark_in" s_mark_in f fd) (b : Binds K fd ["region", "page"] []) (c_mark_after : Cal P w K mg base 1 "mark_after" spAfter []) : Cal P w K mg base 2 "mark_in" spMarkIn [] := by
  refine cal0 D b .nil sc_mark_in (fun vs H Q E h => ?_) (fun cdv A outer s H vs Q E hr h => ?_)
  · obtain ⟨a, x, p, rfl, _⟩ := h
    rfl
  obtain ⟨a, x, p, rfl, g, q⟩ := h
  refine ⟨_, (pss_one (ps_ret (C8.pe_c c_mark_after hr (by omega) (by rfl) (pa_cons (pe_slice (slT K rfl) (pv 0) (po_some pe_int) po_none) (pa_cons (pe_op op_sub (pv 1) (pe_ix (ixT K rfl) (pv 0) pe_int (fun _ _ => rfl))) pa_nil))))), ?_⟩
  walk_at "go"
  refine ⟨fun z => absurd z.1 (by show ¬ ((2 : Nat) = 0); decide), fun t nt => ?_⟩
  rw [cut2]
  have s1 := same_upd (o := HO.tup (mV x.m)) nt
  have gt := upd_same (H := H) (a := t) (o := HO.tup (mV x.m))
  generalize upd H t (HO.tup (mV x.m)) = H1 at *
  have g1 := s1 _ _ g
  walk_at "go"
  refine ⟨a, _, _, _, rfl, rfl, SqT.of g1, atI_nat (j := 0) rfl, ?_⟩
  walk_at "go"
  exact ⟨t, x.m, _, rfl, gt, fun b H2 s2 gb => q b H2 (s1.trans s2) gb⟩
end

end

section

-- a condition of an operator
local macro_rules | `(tactic| walk_at "cond") => `(tactic| first
  | (show (0 : Int) < _; omega)
  | (show CDiv _ _; constructor <;> (first | decide | omega))
  | (show CMul _ _; first | (refine cmul_l ?_; constructor <;> (first | decide | omega)) | (refine cmul_r ?_; constructor <;> (first | decide | omega)))
  | (show CPow _ _; exact (by refine ⟨by decide, by decide, by decide⟩))
  | (show CDivW _ _; exact ⟨by decide, by decide +kernel⟩))
local macro_rules | `(tactic| walk_at "sq") => `(tactic| first | assumption | exact Dh.mono (same_upd (by assumption)) _ _ (by assumption) | exact .inl (.inl (.inl (by assumption))) | exact .inr (.inl (.inl (by assumption))) | exact SqL.of (by assumption) | exact .inl (by assumption) | exact .inl (SqL.of (by assumption)) | exact SqT.of (by assumption) | exact .inr (SqT.of (by assumption)))
local macro_rules | `(tactic| walk_at "st") => `(tactic| first
  | refine ⟨_, rfl, ?_⟩
  | refine ⟨_, _, rfl, rfl, ?_⟩
  | refine .inl ⟨_, rfl, ?_⟩
  | refine ⟨rfl, ?_⟩
  | refine ⟨_, _, rfl, by walk_at "sq", ?_⟩
  | refine ⟨.inl ⟨rfl, _, SqL.of (by assumption)⟩, ?_⟩
  | refine ⟨by walk_at "cond", ?_⟩
  | (refine' ifBT ?hh ?_; (case hh => first | rfl | assumption))
  | (refine' ifBF ?hh ?_; (case hh => first | rfl | assumption)))
local macro_rules | `(tactic| walk_at "go") => `(tactic| repeat walk_at "st")
local macro_rules | `(tactic| walk_at "yes") => `(tactic| (refine' ifT ?hh ?_; (case hh => first | rfl | decide +kernel)))
local macro_rules | `(tactic| walk_at "no") => `(tactic| (refine' ifF ?hh ?_; (case hh => first | decide +kernel | (intro z; cases z; done))))

/-! ### clip, _continues -/
abbrev s_clip : Stmt := topS 4
theorem sc_clip : FnScope ["regions", "start", "end", "parts", "region", "low", "high"] ["regions", "start", "end"] (C8.fnScope s_clip) := C8.fnScope_by (by decide +kernel)
abbrev s_continues : Stmt := topS 6
theorem sc_continues : FnScope ["region", "later"] ["region", "later"] (C8.fnScope s_continues) := C8.fnScope_by (by decide +kernel)
def spClip : Sp := fun vs H Q _ => ∃ (p : Addr) (us : List V) (xs : List RRow) (lo hi : Int), vs = [.ref p, .int lo, .int hi] ∧ H p = some (.lst us) ∧ DhAll H (xs.map rD) us ∧ xs.length ≤ 100000 ∧
  ∀ (L : Addr) (ws : List V) (H' : Hp), Same H H' → H L = none → H' L = some (.lst ws) → DhAll H' ((clipR lo hi xs).map rD) ws → Q (.ref L) H'
def spGoes : Sp := fun vs H Q _ => ∃ (a b : Addr) (x y : RRow), vs = [.ref a, .ref b] ∧ H a = some (.tup (rV x)) ∧ H b = some (.tup (rV y)) ∧ MOk x.m ∧ MOk y.m ∧ ∀ H', Same H H' → Q (.bl (decide (goesOn x y))) H'
section
variable {P : Program} {w : World} {K : PySem.W.Frag} {mg : Str → Option Value} {base : Heap}
structure TMm (mg : Str → Option Value) : Prop where
  max : mg "max" = none
  min : mg "min" = none
  len : mg "len" = none
  list : mg "list" = none
theorem ok_clip {f : Addr} {fd : FuncData} (D : Def K mg "clip" s_clip f fd) (b : Binds K fd ["regions", "start", "end"] []) (T : TMm mg) (c_mark_in : Cal P w K mg base 2 "mark_in" spMarkIn []) : Cal P w K mg base 3 "clip" spClip [] := by
  refine cal0 D b .nil sc_clip (fun vs H Q E h => ?_) (fun cdv A outer s H vs Q E hr h => ?_)
  · obtain ⟨p, us, xs, lo, hi, rfl, _⟩ := h
    rfl
  obtain ⟨p, us, xs, lo, hi, rfl, gp, dp, hl, q⟩ := h
  refine ⟨_, (pss_cons (ps_set (i := 3) sc_clip.nd rfl (.inl rfl) (pe_lst pa_nil))
      (pss_cons (ps_mk (ps_for PassesOwn.never rfl (pi_list (pv 0)) (pg_name (i := 4) sc_clip.nd rfl (.inl rfl))
      (pss_cons (ps_set (i := 5) sc_clip.nd rfl (.inl rfl) (pe_callB (call_max2 rfl) (by rfl) T.max (by decide +kernel) (pa_cons (pe_ix (ixT K rfl) (pv 4) pe_int (fun _ _ => rfl)) (pa_cons (pv 1) pa_nil))))
      (pss_cons (ps_set (i := 6) sc_clip.nd rfl (.inl rfl) (pe_callB (call_min2 rfl) (by rfl) T.min (by decide +kernel) (pa_cons (pe_ix (ixT K rfl) (pv 4) pe_int (fun _ _ => rfl)) (pa_cons (pv 2) pa_nil))))
      (pss_one (ps_mk (ps_if (pt_cmpR op_lt (pv 5) (pv 6) (nomark _))
      (pss_one (ps_expr (pe_bm PySem.F.plainAttrs_list PySem.F.slot_list_append PySem.F.type_list_append mt_append (pv 3) (pa_cons (pe_op (catT K rfl) (pe_tup (pa_cons (pv 5) (pa_cons (pv 6) pa_nil))) (C8.pe_c c_mark_in hr (by omega) (by rfl) (pa_cons (pv 4) (pa_cons (pv 5) pa_nil)))) pa_nil))))
      pss_nil)))))))
      (pss_one (ps_ret (pv 3))))), ?_⟩
  have ul := rows_len dp
  walk_at "go"
  refine ⟨sz, fun L nL => ?_⟩
  have s1 := same_upd (o := HO.lst []) nL
  have gL := upd_same (H := H) (a := L) (o := HO.lst [])
  generalize upd H L (HO.lst []) = H1 at *
  refine jnS (M := fun σ H' => Same H H' ∧ ∃ (ws : List V) (y4 y5 y6 : Option V), H' L = some (.lst ws) ∧ DhAll H' ((clipR lo hi xs).map rD) ws ∧ σ = [sR p, sI lo, sI hi, sR L, y4, y5, y6]) ?_ (fun N kk => ?_)
  · rintro σ H2 ⟨s2, ws, y4, y5, y6, g2, d2, rfl⟩
    walk_at "go"
    exact q L ws _ s2 nL g2 d2
  walk_at "go"
  refine ⟨⟨_, SqL.of (s1 _ _ gp)⟩, for_list (K := K) (a := p) (xs := us) (fun i σ H' => Ob (Same H H' ∧ ∃ (ws : List V) (y4 y5 y6 : Option V), H' L = some (.lst ws) ∧ DhAll H' ((clipR lo hi (xs.take i)).map rD) ws ∧ σ = [sR p, sI lo, sI hi, sR L, y4, y5, y6])) (ob ⟨s1, [], none, none, none, gL, rfl, rfl⟩) (fun i σ H' _ h => SqL.of ((unob h).1 _ _ gp)) ?_ ?_⟩
  · intro i v σ H2 hi' h
    obtain ⟨s2, ws, y4, y5, y6, g2, d2, rfl⟩ := unob h
    clear h s1 gL
    have hil : i < xs.length := by
      rw [← ul]
      exact (List.getElem?_eq_some_iff.mp hi').1
    obtain ⟨a, ea, ga⟩ := rows_get dp (List.getElem?_eq_getElem hil)
    rw [hi'] at ea
    obtain rfl := Option.some.inj ea
    have ga2 := s2 _ _ ga
    have et : clipR lo hi (xs.take (i + 1)) = clipR lo hi (xs.take i) ++ clip1 lo hi xs[i] := by
      rw [List.take_add_one, List.getElem?_eq_getElem hil]
      exact clipR_snoc _ _ _ _
    have el := clipR_len lo hi (xs.take i)
    rw [List.length_take] at el
    have wl := rows_len d2
    generalize xs[i] = x at *
    walk_at "go"
    refine ⟨a, _, _, _, rfl, rfl, SqT.of ga2, atI_nat (j := 0) rfl, ?_⟩
    walk_at "go"
    refine ⟨_, _, rfl, ?_⟩
    walk_at "go"
    refine ⟨a, _, _, _, rfl, rfl, SqT.of ga2, atI_nat (j := 1) rfl, ?_⟩
    walk_at "go"
    refine ⟨_, _, rfl, ?_⟩
    have e0 : clip1 lo hi x = if hiI x.s lo < loI x.e hi then [⟨hiI x.s lo, loI x.e hi, x.at' (hiI x.s lo)⟩] else [] := rfl
    unfold hiI loI at e0
    generalize (if lo > x.s then lo else x.s) = lw at *
    generalize (if hi < x.e then hi else x.e) = hh at *
    walk_at "go"
    refine un ?_
    walk_at "go"
    refine ifD (fun c => ?_) (fun c => ?_)
    · have e1 : clip1 lo hi x = [⟨lw, hh, x.at' lw⟩] := by rw [e0, if_pos c]
      rw [e1] at et
      walk_at "go"
      refine ⟨sz, fun t nt => ?_⟩
      have s3 := same_upd (o := HO.tup [V.int (lw), V.int (hh)]) nt
      have gt := upd_same (H := H2) (a := t) (o := HO.tup [V.int (lw), V.int (hh)])
      show _
      generalize upd H2 t (HO.tup [V.int (lw), V.int (hh)]) = H3 at *
      walk_at "go"
      refine ⟨a, x, _, rfl, s3 _ _ ga2, fun m H4 s4 gm => ?_⟩
      refine ⟨t, m, _, _, rfl, rfl, SqT.of (s4 _ _ gt), SqT.of gm, by simp, sz (by show 5 ≤ 1000; decide), (fun z => by cases z), fun _ r nr => ?_⟩
      have s5 := (s3.trans s4).trans (same_upd (o := HO.tup ([V.int (lw), V.int (hh)] ++ mV (x.at' (lw)))) nr)
      have gr := upd_same (H := H4) (a := r) (o := HO.tup ([V.int (lw), V.int (hh)] ++ mV (x.at' (lw))))
      show _
      generalize upd H4 r (HO.tup ([V.int (lw), V.int (hh)] ++ mV (x.at' (lw)))) = H5 at *
      have g5 := s5 _ _ g2
      have d5 := DhAll.mono s5 _ _ d2
      walk_at "go"
      refine ⟨L, _, _, rfl, rfl, g5, sz5 (by omega), ?_⟩
      have gr6 := tup_put (ys := ws ++ [V.ref r]) g5 _ _ gr
      refine ob ⟨same_put (s2.trans s5) nL, ws ++ [V.ref r], _, _, _, upd_same, ?_, rfl⟩
      rw [et]
      exact rows_snoc (x := ⟨lw, hh, x.at' (lw)⟩) (rows_put g5 d5) gr6
    · have e1 : clip1 lo hi x = [] := by rw [e0, if_neg c]
      rw [e1, List.append_nil] at et
      exact ob ⟨s2, ws, _, _, _, g2, by rw [et]; exact d2, rfl⟩
  · intro σ H2 h
    obtain ⟨s2, ws, y4, y5, y6, g2, d2, rfl⟩ := unob h
    rw [ul, List.take_length] at d2
    exact kk _ _ ⟨s2, ws, y4, y5, y6, g2, d2, rfl⟩
theorem ok_continues {f : Addr} {fd : FuncData} (D : Def K mg "_continues" s_continues f fd) (b : Binds K fd ["region", "later"] []) (c_mark_in : Cal P w K mg base 2 "mark_in" spMarkIn []) : Cal P w K mg base 3 "_continues" spGoes [] := by
  refine cal0 D b .nil sc_continues (fun vs H Q E h => ?_) (fun cdv A outer s H vs Q E hr h => ?_)
  · obtain ⟨a, b, x, y, rfl, _⟩ := h
    rfl
  obtain ⟨a, b, x, y, rfl, ga, gb, ox, oy, q⟩ := h
  refine ⟨_, (pss_one (ps_ret (pe_and (pe_cmpR op_eq (pe_ix (ixT K rfl) (pv 0) pe_int (fun _ _ => rfl)) (pe_ix (ixT K rfl) (pv 1) pe_int (fun _ _ => rfl)) (nomark _)) (pe_one (pe_cmpR (eqQ K rfl hr.units) (C8.pe_c c_mark_in hr (by omega) (by rfl) (pa_cons (pv 0) (pa_cons (pe_ix (ixT K rfl) (pv 1) pe_int (fun _ _ => rfl)) pa_nil))) (pe_slice (slT K rfl) (pv 1) (po_some pe_int) po_none) (nomark _)))))), ?_⟩
  walk_at "go"
  refine ⟨a, _, _, _, rfl, rfl, SqT.of ga, atI_nat (j := 1) rfl, ?_⟩
  walk_at "go"
  refine ⟨b, _, _, _, rfl, rfl, SqT.of gb, atI_nat (j := 0) rfl, ?_⟩
  walk_at "go"
  refine ifEq (fun c => ?_) (fun c => ?_)
  · walk_at "go"
    refine ⟨b, _, _, _, rfl, rfl, SqT.of gb, atI_nat (j := 0) rfl, ?_⟩
    walk_at "go"
    refine ⟨a, x, _, rfl, ga, fun m H1 s1 gm => ?_⟩
    have gb1 := s1 _ _ gb
    walk_at "go"
    refine ⟨fun z => absurd z.1 (by show ¬ ((2 : Nat) = 0); decide), fun t nt => ?_⟩
    rw [cut2]
    have s2 := same_upd (o := HO.tup (mV y.m)) nt
    have gt := upd_same (H := H1) (a := t) (o := HO.tup (mV y.m))
    generalize upd H1 t (HO.tup (mV y.m)) = H2 at *
    refine ⟨mD (x.at' y.s), mD y.m, Dh.dp _ _ (dh_mark (s2 _ _ gm)), Dh.dp _ _ (dh_mark gt), shaped_mark (ox.after _), shaped_mark oy, ?_⟩
    rw [eqv_mark]
    have e : decide (x.at' y.s = y.m) = decide (goesOn x y) := by
      rw [decide_eq_decide]
      exact ⟨fun z => ⟨c, z⟩, fun z => z.2⟩
    rw [e]
    exact q _ (s1.trans s2)
  · have e : decide (goesOn x y) = false := decide_eq_false (fun z => c z.1)
    rw [e] at q
    exact q _ same_rfl
end

end

section

-- a condition of an operator
local macro_rules | `(tactic| walk_at "cond") => `(tactic| first
  | (show (0 : Int) < _; omega)
  | (show CDiv _ _; constructor <;> (first | decide | omega))
  | (show CMul _ _; first | (refine cmul_l ?_; constructor <;> (first | decide | omega)) | (refine cmul_r ?_; constructor <;> (first | decide | omega)))
  | (show CPow _ _; exact (by refine ⟨by decide, by decide, by decide⟩))
  | (show CDivW _ _; exact ⟨by decide, by decide +kernel⟩))
local macro_rules | `(tactic| walk_at "sq") => `(tactic| first | assumption | exact Dh.mono (same_upd (by assumption)) _ _ (by assumption) | exact .inl (.inl (.inl (by assumption))) | exact .inr (.inl (.inl (by assumption))) | exact SqL.of (by assumption) | exact .inl (by assumption) | exact .inl (SqL.of (by assumption)) | exact SqT.of (by assumption) | exact .inr (SqT.of (by assumption)))
local macro_rules | `(tactic| walk_at "st") => `(tactic| first
  | refine ⟨_, rfl, ?_⟩
  | refine ⟨_, _, rfl, rfl, ?_⟩
  | refine .inl ⟨_, rfl, ?_⟩
  | refine ⟨rfl, ?_⟩
  | refine ⟨_, _, rfl, by walk_at "sq", ?_⟩
  | refine ⟨.inl ⟨rfl, _, SqL.of (by assumption)⟩, ?_⟩
  | refine ⟨by walk_at "cond", ?_⟩
  | (refine' ifBT ?hh ?_; (case hh => first | rfl | assumption))
  | (refine' ifBF ?hh ?_; (case hh => first | rfl | assumption)))
local macro_rules | `(tactic| walk_at "go") => `(tactic| repeat walk_at "st")
local macro_rules | `(tactic| walk_at "yes") => `(tactic| (refine' ifT ?hh ?_; (case hh => first | rfl | decide +kernel)))
local macro_rules | `(tactic| walk_at "no") => `(tactic| (refine' ifF ?hh ?_; (case hh => first | decide +kernel | (intro z; cases z; done))))

/-! ### merge -/
abbrev s_merge : Stmt := topS 5
theorem sc_merge : FnScope ["regions", "merged", "region"] ["regions"] (C8.fnScope s_merge) := C8.fnScope_by (by decide +kernel)
theorem push_ok {acc : List RRow} {y : RRow} (h : ∀ x ∈ acc, MOk x.m) (hy : MOk y.m) : ∀ x ∈ pushR acc y, MOk x.m := by
  rcases List.eq_nil_or_concat acc with rfl | ⟨ini, x, rfl⟩
  · intro z hz
    rw [push_nil, List.mem_singleton] at hz
    rw [hz]
    exact hy
  · rw [List.concat_eq_append] at *
    have hx := h x (by simp)
    intro z hz
    by_cases g : goesOn x y
    · rw [push_on g] at hz
      rcases List.mem_append.mp hz with e | e
      · exact h z (List.mem_append_left _ e)
      · rw [List.mem_singleton] at e
        rw [e]
        exact hx
    · rw [push_new g] at hz
      rcases List.mem_append.mp hz with e | e
      · exact h z e
      · rw [List.mem_singleton] at e
        rw [e]
        exact hy
theorem fold_ok : ∀ (xs acc : List RRow), (∀ x ∈ acc, MOk x.m) → (∀ x ∈ xs, MOk x.m) → ∀ x ∈ xs.foldl pushR acc, MOk x.m
  | [], acc, h, _ => h
  | y :: ys, acc, h, k => by
    rw [List.foldl_cons]
    exact fold_ok ys _ (push_ok h (k y List.mem_cons_self)) (fun z hz => k z (List.mem_cons_of_mem _ hz))
theorem mergeR_ok {xs : List RRow} (h : ∀ x ∈ xs, MOk x.m) : ∀ x ∈ mergeR xs, MOk x.m := fold_ok xs [] (by simp) h
theorem ixN_last (n : Nat) : ixN (n + 1) (-1) = some n := by
  unfold ixN
  rw [if_neg (by decide), if_pos (by omega)]
  congr 1
  omega
def spMerge : Sp := fun vs H Q _ => ∃ (p : Addr) (us : List V) (xs : List RRow), vs = [.ref p] ∧ H p = some (.lst us) ∧ DhAll H (xs.map rD) us ∧ xs.length ≤ 100000 ∧ (∀ x ∈ xs, MOk x.m) ∧
  ∀ (L : Addr) (ws : List V) (H' : Hp), Same H H' → H L = none → H' L = some (.lst ws) → DhAll H' ((mergeR xs).map rD) ws → Q (.ref L) H'
section
variable {P : Program} {w : World} {K : PySem.W.Frag} {mg : Str → Option Value} {base : Heap}
theorem ok_merge {f : Addr} {fd : FuncData} (D : Def K mg "merge" s_merge f fd) (b : Binds K fd ["regions"] []) (c_continues : Cal P w K mg base 3 "_continues" spGoes []) : Cal P w K mg base 4 "merge" spMerge [] := by
  refine cal0 D b .nil sc_merge (fun vs H Q E h => ?_) (fun cdv A outer s H vs Q E hr h => ?_)
  · obtain ⟨p, us, xs, rfl, _⟩ := h
    rfl
  obtain ⟨p, us, xs, rfl, gp, dp, hl, ho, q⟩ := h
  refine ⟨_, (pss_cons (ps_set (i := 1) sc_merge.nd rfl (.inl rfl) (pe_lst pa_nil))
      (pss_cons (ps_mk (ps_for PassesOwn.never rfl (pi_list (pv 0)) (pg_name (i := 2) sc_merge.nd rfl (.inl rfl))
      (pss_one (ps_mk (ps_if (PW.pt (pw_and (pt_truth (pv 1) (by intro _; rfl)) (pw_and1 (pt_val (C8.pe_c c_continues hr (by omega) (by rfl) (pa_cons (pe_ix (ixL K rfl) (pv 1) (pe_un un_neg pe_int) (fun _ _ => rfl)) (pa_cons (pv 2) pa_nil)))))))
      (pss_one (ps_asg (pe_op (catT K rfl) (pe_tup (pa_cons (pe_ix (ixT K rfl) (pe_ix (ixL K rfl) (pv 1) (pe_un un_neg pe_int) (fun _ _ => rfl)) pe_int (fun _ _ => rfl)) (pa_cons (pe_ix (ixT K rfl) (pv 2) pe_int (fun _ _ => rfl)) pa_nil))) (pe_slice (slT K rfl) (pe_ix (ixL K rfl) (pv 1) (pe_un un_neg pe_int) (fun _ _ => rfl)) (po_some pe_int) po_none)) (pg_sub (pv 1) (pe_un un_neg pe_int) set_list)))
      (pss_one (ps_expr (pe_bm PySem.F.plainAttrs_list PySem.F.slot_list_append PySem.F.type_list_append mt_append (pv 1) (pa_cons (pv 2) pa_nil)))))))))
      (pss_one (ps_ret (pv 1))))), ?_⟩
  have ul := rows_len dp
  walk_at "go"
  refine ⟨sz, fun L nL => ?_⟩
  have s1 := same_upd (o := HO.lst []) nL
  have gL := upd_same (H := H) (a := L) (o := HO.lst [])
  generalize upd H L (HO.lst []) = H1 at *
  refine jnS (M := fun σ H' => Same H H' ∧ ∃ (ws : List V) (y2 : Option V), H' L = some (.lst ws) ∧ DhAll H' ((mergeR xs).map rD) ws ∧ σ = [sR p, sR L, y2]) ?_ (fun N kk => ?_)
  · rintro σ H2 ⟨s2, ws, y2, g2, d2, rfl⟩
    walk_at "go"
    exact q L ws _ s2 nL g2 d2
  walk_at "go"
  refine ⟨⟨_, SqL.of (s1 _ _ gp)⟩, for_list (K := K) (a := p) (xs := us) (fun i σ H' => Ob (Same H H' ∧ ∃ (ws : List V) (y2 : Option V), H' L = some (.lst ws) ∧ DhAll H' ((mergeR (xs.take i)).map rD) ws ∧ σ = [sR p, sR L, y2])) (ob ⟨s1, [], none, gL, rfl, rfl⟩) (fun i σ H' _ h => SqL.of ((unob h).1 _ _ gp)) ?_ ?_⟩
  · intro i v σ H2 hi' h
    obtain ⟨s2, ws, y2, g2, d2, rfl⟩ := unob h
    clear h s1 gL
    have hil : i < xs.length := by
      rw [← ul]
      exact (List.getElem?_eq_some_iff.mp hi').1
    obtain ⟨b, eb, gb⟩ := rows_get dp (List.getElem?_eq_getElem hil)
    rw [hi'] at eb
    obtain rfl := Option.some.inj eb
    have gb2 := s2 _ _ gb
    have et : mergeR (xs.take (i + 1)) = pushR (mergeR (xs.take i)) xs[i] := by
      rw [List.take_add_one, List.getElem?_eq_getElem hil]
      exact mergeR_snoc _ _
    have el := mergeR_len (xs.take i)
    have oa : ∀ x ∈ mergeR (xs.take i), MOk x.m := mergeR_ok (fun z hz => ho z (List.mem_of_mem_take hz))
    have oy : MOk xs[i].m := ho _ (List.getElem_mem hil)
    rw [List.length_take] at el
    have wl := rows_len d2
    generalize xs[i] = y at *
    generalize mergeR (xs.take i) = acc at *
    generalize mergeR (xs.take (i + 1)) = acc' at *
    subst et
    walk_at "go"
    refine un ?_
    walk_at "go"
    rcases List.eq_nil_or_concat acc with rfl | ⟨ini, x, rfl⟩
    · cases (show ws = [] from d2)
      refine ⟨false, .inl ⟨_, SqL.of g2, rfl⟩, ?_⟩
      walk_at "go"
      refine ⟨L, _, _, rfl, rfl, g2, sz5 (by decide), ?_⟩
      exact ob ⟨same_put s2 nL, [V.ref b], _, upd_same, rows_snoc (xs := []) rfl (tup_put g2 _ _ gb2), rfl⟩
    rw [List.concat_eq_append] at *
    obtain ⟨vs, a, rfl, ga, d3⟩ := rows_last d2
    refine ⟨true, .inl ⟨_, SqL.of g2, by cases vs <;> rfl⟩, ?_⟩
    walk_at "go"
    refine ⟨L, _, _, _, rfl, rfl, SqL.of g2, atI_last _ _, ?_⟩
    walk_at "go"
    refine ⟨a, b, x, y, rfl, ga, gb2, oa x (by simp), oy, fun H3 s3 => ?_⟩
    have g3 := s3 _ _ g2
    have ga3 := s3 _ _ ga
    have gb3 := s3 _ _ gb2
    have d4 := DhAll.mono s3 _ _ d3
    have d5 := DhAll.mono s3 _ _ d2
    have s4 := s2.trans s3
    clear d2 d3 g2 ga gb2
    rw [List.length_append, List.length_append] at wl
    rw [List.length_append, List.length_singleton] at el
    simp only [List.length_singleton] at wl
    walk_at "go"
    refine ifD (fun c => ?_) (fun c => ?_)
    · rw [push_on c]
      walk_at "go"
      refine ⟨L, _, _, _, rfl, rfl, SqL.of g3, atI_last _ _, ?_⟩
      walk_at "go"
      refine ⟨a, _, _, _, rfl, rfl, SqT.of ga3, atI_nat (j := 0) rfl, ?_⟩
      walk_at "go"
      refine ⟨b, _, _, _, rfl, rfl, SqT.of gb3, atI_nat (j := 1) rfl, ?_⟩
      walk_at "go"
      refine ⟨sz, fun t nt => ?_⟩
      have s5 := same_upd (o := HO.tup [V.int x.s, V.int y.e]) nt
      have gt := upd_same (H := H3) (a := t) (o := HO.tup [V.int x.s, V.int y.e])
      show _
      generalize upd H3 t (HO.tup [V.int x.s, V.int y.e]) = H4 at *
      have g5 := s5 _ _ g3
      have ga5 := s5 _ _ ga3
      walk_at "go"
      refine ⟨L, _, _, _, rfl, rfl, SqL.of g5, atI_last _ _, ?_⟩
      walk_at "go"
      refine ⟨fun z => absurd z.1 (by show ¬ ((2 : Nat) = 0); decide), fun m nm => ?_⟩
      rw [cut2]
      have s6 := same_upd (o := HO.tup (mV x.m)) nm
      have gm := upd_same (H := H4) (a := m) (o := HO.tup (mV x.m))
      generalize upd H4 m (HO.tup (mV x.m)) = H5 at *
      refine ⟨t, m, _, _, rfl, rfl, SqT.of (s6 _ _ gt), SqT.of gm, by simp, sz (by show 5 ≤ 1000; decide), (fun z => by cases z), fun _ r nr => ?_⟩
      have s7 := (s5.trans s6).trans (same_upd (o := HO.tup ([V.int x.s, V.int y.e] ++ mV x.m)) nr)
      have gr := upd_same (H := H5) (a := r) (o := HO.tup ([V.int x.s, V.int y.e] ++ mV x.m))
      show _
      generalize upd H5 r (HO.tup ([V.int x.s, V.int y.e] ++ mV x.m)) = H6 at *
      have g7 := s7 _ _ g3
      have d7 := DhAll.mono s7 _ _ d4
      walk_at "go"
      refine ⟨L, _, _, vs.length, rfl, rfl, g7, by rw [List.length_append]; exact ixN_last _, ?_⟩
      have es : (vs ++ [V.ref a]).set vs.length (V.ref r) = vs ++ [V.ref r] := by
        rw [List.set_append_right _ _ (Nat.le_refl _), Nat.sub_self]
        rfl
      rw [es]
      refine ob ⟨same_put (s4.trans s7) nL, vs ++ [V.ref r], _, upd_same, ?_, rfl⟩
      exact rows_snoc (x := ⟨x.s, y.e, x.m⟩) (rows_put g7 d7) (tup_put g7 _ _ gr)
    · rw [push_new c]
      walk_at "go"
      refine ⟨L, _, _, rfl, rfl, g3, sz5 (by rw [List.length_append, List.length_singleton]; omega), ?_⟩
      exact ob ⟨same_put s4 nL, _, _, upd_same, rows_snoc (rows_put g3 d5) (tup_put g3 _ _ gb3), rfl⟩
  · intro σ H2 h
    obtain ⟨s2, ws, y2, g2, d2, rfl⟩ := unob h
    rw [ul, List.take_length] at d2
    exact kk _ _ ⟨s2, ws, y2, g2, d2, rfl⟩
end

end

/-! ### rows in ascending order; the object -/
def Asc : Int → List RRow → Prop
  | _, [] => True
  | b, x :: xs => b ≤ x.s ∧ x.s < x.e ∧ Asc x.e xs
theorem Asc.low : ∀ {xs : List RRow} {b c : Int}, Asc b xs → c ≤ b → Asc c xs
  | [], _, _, _, _ => trivial
  | _ :: _, _, _, h, k => ⟨Int.le_trans k h.1, h.2⟩
theorem Asc.mem : ∀ {xs : List RRow} {b : Int} {x : RRow}, Asc b xs → x ∈ xs → b ≤ x.s ∧ x.s < x.e
  | [], _, _, _, h => by cases h
  | y :: ys, b, x, h, m => by
    rcases List.mem_cons.mp m with e | m
    · rw [e]
      exact ⟨h.1, h.2.1⟩
    · have := Asc.mem h.2.2 m
      have h1 := h.1
      have h2 := h.2.1
      exact ⟨by omega, this.2⟩
/-- how many rows end at or before the page -/
def cutR (p : Int) : List RRow → Nat
  | [] => 0
  | x :: xs => if x.e ≤ p then cutR p xs + 1 else 0
theorem cut_le (p : Int) : ∀ xs : List RRow, cutR p xs ≤ xs.length
  | [] => Nat.le_refl _
  | x :: xs => by
    unfold cutR
    split
    · exact Nat.succ_le_succ (cut_le p xs)
    · exact Nat.zero_le _
theorem cut_iff {p : Int} : ∀ {xs : List RRow} {b : Int} {i : Nat} {x : RRow}, Asc b xs → xs[i]? = some x → (x.e ≤ p ↔ i < cutR p xs)
  | [], _, _, _, _, e => by simp at e
  | y :: ys, b, 0, x, h, e => by
    simp at e
    subst e
    unfold cutR
    split
    · rename_i c
      exact ⟨fun _ => Nat.succ_pos _, fun _ => c⟩
    · rename_i c
      exact ⟨fun z => absurd z c, fun z => absurd z (Nat.lt_irrefl _)⟩
  | y :: ys, b, i + 1, x, h, e => by
    have e2 : ys[i]? = some x := by simpa using e
    have ih := cut_iff (p := p) h.2.2 e2
    have mm := Asc.mem h.2.2 (List.mem_of_getElem? e2)
    unfold cutR
    split
    · rw [ih]
      omega
    · exact ⟨fun z => by omega, fun z => absurd z (Nat.not_lt_zero _)⟩
def rgF (lim : Int) (ra : Addr) : List (Str × V) := putF "_rows" (.ref ra) (putF "limit" (.int lim) [])
theorem rg_rows {lim : Int} {ra : Addr} : (rgF lim ra).lookup ("_rows" : Str) = some (.ref ra) := by kernel_rfl
theorem rg_limit {lim : Int} {ra : Addr} : (rgF lim ra).lookup ("limit" : Str) = some (.int lim) := by kernel_rfl
theorem rg_put {lim : Int} {ra rb : Addr} : putF "_rows" (.ref rb) (rgF lim ra) = rgF lim rb := by kernel_rfl
theorem rg_no1 {lim : Int} {ra : Addr} : (rgF lim ra).lookup ("_count_up_to" : Str) = none := by kernel_rfl
theorem rg_no2 {lim : Int} {ra : Addr} : (rgF lim ra).lookup ("_splice" : Str) = none := by kernel_rfl
theorem rg_no3 {lim : Int} {ra : Addr} : (rgF lim ra).lookup ("_parts_in" : Str) = none := by kernel_rfl
theorem rg_no4 {lim : Int} {ra : Addr} : (rgF lim ra).lookup ("mark_at" : Str) = none := by kernel_rfl
theorem rg_no5 {lim : Int} {ra : Addr} : (rgF lim ra).lookup ("assign" : Str) = none := by kernel_rfl
theorem rg_no6 {lim : Int} {ra : Addr} : (rgF lim ra).lookup ("unassign" : Str) = none := by kernel_rfl
theorem rg_no7 {lim : Int} {ra : Addr} : (rgF lim ra).lookup ("protect" : Str) = none := by kernel_rfl
structure STxt (K : PySem.W.Frag) (mg : Str → Option Value) (C : Addr) : Prop where
  cl : Cls K C
  n1 : NoAttr K C "limit"
  n2 : NoAttr K C "_rows"
  mgC : mg "Regions" = some (.ref C)
structure RegAt (C : Addr) (H : Hp) (p ra dx : Addr) (lim : Int) (us : List V) (xs : List RRow) : Prop where
  g : H p = some (.ins C dx (rgF lim ra))
  r : H ra = some (.lst us)
  d : DhAll H (xs.map rD) us
  a : Asc 0 xs
  ok : ∀ x ∈ xs, MOk x.m
  n : xs.length ≤ 10000
theorem RegAt.same {C : Addr} {H H' : Hp} {p ra dx : Addr} {lim : Int} {us : List V} {xs : List RRow} (h : RegAt C H p ra dx lim us xs) (s : Same H H') : RegAt C H' p ra dx lim us xs := ⟨s _ _ h.g, s _ _ h.r, DhAll.mono s _ _ h.d, h.a, h.ok, h.n⟩
def But (H H' : Hp) (p : Addr) : Prop := ∀ b o, b ≠ p → H b = some o → H' b = some o
theorem But.trans {H H1 H2 : Hp} {p : Addr} (a : But H H1 p) (b : But H1 H2 p) : But H H2 p := fun c o n e => b c o n (a c o n e)
theorem But.put {H : Hp} {p : Addr} {o : HO} : But H (upd H p o) p := fun c _ n e => by
  rw [upd_ne n]
  exact e
theorem Same.one {H H1 : Hp} {p : Addr} (s : Same H H1) : But H H1 p := fun c o _ e => s c o e
theorem ins_lst {H : Hp} {p q C dx : Addr} {fs : List (Str × V)} {xs : List V} (h : H p = some (.ins C dx fs)) (h2 : H q = some (.lst xs)) : p ≠ q := fun e => by
  rw [e, h2] at h
  cases h
theorem ins_tup {H : Hp} {p C dx : Addr} {fs : List (Str × V)} {o : HO} (h : H p = some (.ins C dx fs)) : ∀ a us, H a = some (.tup us) → (upd H p o) a = some (.tup us) := fun a us e => by
  have ne : a ≠ p := fun z => by
    rw [z, h] at e
    cases e
  rw [upd_ne ne]
  exact e
/-- a part of a list of rows -/
def nearR (xs : List RRow) (a b : Nat) : List RRow := (xs.drop a).take (min b xs.length - a)
theorem rows_drop {H : Hp} : ∀ {xs : List RRow} {us : List V} (n : Nat), DhAll H (xs.map rD) us → DhAll H ((xs.drop n).map rD) (us.drop n)
  | xs, us, 0, h => h
  | [], us, n + 1, h => by
    cases (show us = [] from h)
    exact h
  | x :: xs, us, n + 1, h => by
    obtain ⟨v, ws, rfl, h1, h2⟩ := h
    exact rows_drop n h2
theorem rows_take {H : Hp} : ∀ {xs : List RRow} {us : List V} (n : Nat), DhAll H (xs.map rD) us → DhAll H ((xs.take n).map rD) (us.take n)
  | xs, us, 0, h => by
    rw [List.take_zero, List.take_zero]
    exact rfl
  | [], us, n + 1, h => by
    cases (show us = [] from h)
    exact h
  | x :: xs, us, n + 1, h => by
    obtain ⟨v, ws, rfl, h1, h2⟩ := h
    exact ⟨v, ws.take n, rfl, h1, rows_take n h2⟩
theorem cut_mid {us : List V} {a b : Nat} (ha : a ≤ us.length) : cutV us (some (a : Int)) (some (b : Int)) = (us.drop a).take (min b us.length - a) := by
  unfold cutV
  rw [HT.sIx_nat, HT.sIx_nat, Nat.min_eq_left ha]
theorem cut_lo {us : List V} {a : Nat} : cutV us none (some (a : Int)) = us.take (min a us.length) := by
  unfold cutV
  rw [HT.sIx_nat, HT.sIx_none, List.drop_zero, Nat.sub_zero]
theorem cut_hi {us : List V} {b : Nat} : cutV us (some (b : Int)) none = us.drop (min b us.length) := by
  unfold cutV
  rw [HT.sIx_nat, HT.sIx_none, List.take_of_length_le (by rw [List.length_drop]; exact Nat.le_refl _)]
theorem rows_mid {H : Hp} {xs : List RRow} {us : List V} {a b : Nat} (h : DhAll H (xs.map rD) us) (ha : a ≤ xs.length) : DhAll H ((nearR xs a b).map rD) (cutV us (some (a : Int)) (some (b : Int))) := by
  have l := rows_len h
  rw [cut_mid (by omega), l]
  exact rows_take _ (rows_drop _ h)
theorem rows_lo {H : Hp} {xs : List RRow} {us : List V} {a : Nat} (h : DhAll H (xs.map rD) us) : DhAll H ((xs.take a).map rD) (cutV us none (some (a : Int))) := by
  have l := rows_len h
  have e : xs.take a = xs.take (min a us.length) := by
    rw [l]
    by_cases c : a ≤ xs.length
    · rw [Nat.min_eq_left c]
    · rw [Nat.min_eq_right (by omega), List.take_of_length_le (by omega), List.take_length]
  rw [cut_lo, e]
  exact rows_take _ h
theorem rows_hi {H : Hp} {xs : List RRow} {us : List V} {b : Nat} (h : DhAll H (xs.map rD) us) : DhAll H ((xs.drop b).map rD) (cutV us (some (b : Int)) none) := by
  have l := rows_len h
  have e : xs.drop b = xs.drop (min b us.length) := by
    rw [l]
    by_cases c : b ≤ xs.length
    · rw [Nat.min_eq_left c]
    · rw [Nat.min_eq_right (by omega), List.drop_of_length_le (by omega), List.drop_length]
  rw [cut_hi, e]
  exact rows_drop _ h
theorem near_len (xs : List RRow) (a b : Nat) : (nearR xs a b).length ≤ xs.length := by
  unfold nearR
  rw [List.length_take, List.length_drop]
  omega
theorem near_mem {xs : List RRow} {a b : Nat} {x : RRow} (h : x ∈ nearR xs a b) : x ∈ xs := List.mem_of_mem_drop (List.mem_of_mem_take h)
/-- the rows with a range replaced by the parts -/
def spliceR (lim lo hi : Int) (parts xs : List RRow) : List RRow :=
  xs.take (cutR (lo - 1) xs) ++ mergeR (clipR 0 lo (nearR xs (cutR (lo - 1) xs) (cutR hi xs + 1)) ++ parts ++ clipR hi lim (nearR xs (cutR (lo - 1) xs) (cutR hi xs + 1))) ++ xs.drop (cutR hi xs + 1)
theorem clip_ok {lo hi : Int} {xs : List RRow} (h : ∀ x ∈ xs, MOk x.m) : ∀ x ∈ clipR lo hi xs, MOk x.m := by
  intro z hz
  unfold clipR at hz
  obtain ⟨x, hx, hz⟩ := List.mem_flatMap.mp hz
  unfold clip1 at hz
  split at hz
  · rw [List.mem_singleton] at hz
    rw [hz]
    exact (h x hx).after _
  · cases hz
/-- the mark of a page -/
def markR (xs : List RRow) (p : Int) : Option RMark := match xs[cutR p xs]? with
  | none => none
  | some x => if p < x.s then none else some (x.at' p)

section

-- a condition of an operator
local macro_rules | `(tactic| walk_at "cond") => `(tactic| first
  | (show (0 : Int) < _; omega)
  | (show CDiv _ _; constructor <;> (first | decide | omega))
  | (show CMul _ _; first | (refine cmul_l ?_; constructor <;> (first | decide | omega)) | (refine cmul_r ?_; constructor <;> (first | decide | omega)))
  | (show CPow _ _; exact (by refine ⟨by decide, by decide, by decide⟩))
  | (show CDivW _ _; exact ⟨by decide, by decide +kernel⟩))
local macro_rules | `(tactic| walk_at "sq") => `(tactic| first | assumption | exact Dh.mono (same_upd (by assumption)) _ _ (by assumption) | exact .inl (.inl (.inl (by assumption))) | exact .inr (.inl (.inl (by assumption))) | exact SqL.of (by assumption) | exact .inl (by assumption) | exact .inl (SqL.of (by assumption)) | exact SqT.of (by assumption) | exact .inr (SqT.of (by assumption)))
local macro_rules | `(tactic| walk_at "st") => `(tactic| first
  | refine ⟨_, rfl, ?_⟩
  | refine ⟨_, _, rfl, rfl, ?_⟩
  | refine .inl ⟨_, rfl, ?_⟩
  | refine ⟨rfl, ?_⟩
  | refine ⟨_, _, rfl, by walk_at "sq", ?_⟩
  | refine ⟨.inl ⟨rfl, _, SqL.of (by assumption)⟩, ?_⟩
  | refine ⟨by walk_at "cond", ?_⟩
  | (refine' ifBT ?hh ?_; (case hh => first | rfl | assumption))
  | (refine' ifBF ?hh ?_; (case hh => first | rfl | assumption)))
local macro_rules | `(tactic| walk_at "go") => `(tactic| repeat walk_at "st")
local macro_rules | `(tactic| walk_at "yes") => `(tactic| (refine' ifT ?hh ?_; (case hh => first | rfl | decide +kernel)))
local macro_rules | `(tactic| walk_at "no") => `(tactic| (refine' ifF ?hh ?_; (case hh => first | decide +kernel | (intro z; cases z; done))))

/-! ### Regions: __init__, _count_up_to, mark_at -/
abbrev s_Regions___init__ : Stmt := inClass (topS 27) 0
theorem sc_Regions___init__ : FnScope ["self", "limit"] ["self", "limit"] (C8.fnScope s_Regions___init__) := C8.fnScope_by (by decide +kernel)
abbrev s_Regions__count_up_to : Stmt := inClass (topS 27) 12
theorem sc_Regions__count_up_to : FnScope ["self", "page", "low", "high", "middle"] ["self", "page"] (C8.fnScope s_Regions__count_up_to) := C8.fnScope_by (by decide +kernel)
abbrev s_Regions_mark_at : Stmt := inClass (topS 27) 6
theorem sc_Regions_mark_at : FnScope ["self", "page", "at"] ["self", "page"] (C8.fnScope s_Regions_mark_at) := C8.fnScope_by (by decide +kernel)
def spRgI (C : Addr) : Sp := fun vs H Q _ => ∃ (p dx : Addr) (lim : Int), vs = [.ref p, .int lim] ∧ H p = some (.ins C dx []) ∧ ∀ ra H', RegAt C H' p ra dx lim [] [] → H ra = none → But H H' p → Q .non H'
def spCnt (C : Addr) : Sp := fun vs H Q _ => ∃ (p ra dx : Addr) (lim page : Int) (us : List V) (xs : List RRow), vs = [.ref p, .int page] ∧ RegAt C H p ra dx lim us xs ∧ Q (.int (cutR page xs : Nat)) H
def spMarkAt (C : Addr) : Sp := fun vs H Q _ => ∃ (p ra dx : Addr) (lim page : Int) (us : List V) (xs : List RRow), vs = [.ref p, .int page] ∧ RegAt C H p ra dx lim us xs ∧
  (markR xs page = none → Q .non H) ∧ ∀ m a H', markR xs page = some m → Same H H' → H' a = some (.tup (mV m)) → Q (.ref a) H'
section
variable {P : Program} {w : World} {K : PySem.W.Frag} {mg : Str → Option Value} {base : Heap} {C : Addr}
theorem ok_init {f : Addr} {fd : FuncData} (F : C8.Fun K "__init__" "Regions.__init__" s_Regions___init__ f fd) (M : Mk K C f) (b : Binds K fd ["self", "limit"] []) (S : STxt K mg C) : C8.Mak P w K mg base 1 "Regions" C (spRgI C) [] := by
  refine C8.mak0 M S.mgC F b .nil sc_Regions___init__ (fun vs H Q E h => ?_) (fun cdv A outer s H vs Q E hr h => ?_)
  · obtain ⟨p, dx, lim, rfl, _⟩ := h
    rfl
  obtain ⟨p, dx, lim, rfl, hp, q⟩ := h
  refine ⟨_, (pss_cons (ps_fld (pv 0) (pv 1) rfl)
      (pss_one (ps_fld (pv 0) (pe_lst pa_nil) rfl))), ?_⟩
  walk_at "go"
  refine ⟨p, C, dx, _, rfl, hp, S.cl, S.n1, (by show 0 < 1000; decide), ?_⟩
  have g1 := upd_same (H := H) (a := p) (o := HO.ins C dx (putF "limit" (V.int lim) []))
  have b1 := But.put (H := H) (p := p) (o := HO.ins C dx (putF "limit" (V.int lim) []))
  show _
  generalize upd H p (HO.ins C dx (putF "limit" (V.int lim) [])) = H1 at *
  walk_at "go"
  refine ⟨sz, fun L nL => ?_⟩
  have s2 := same_upd (o := HO.lst []) nL
  have gL := upd_same (H := H1) (a := L) (o := HO.lst [])
  generalize upd H1 L (HO.lst []) = H2 at *
  have g2 := s2 _ _ g1
  have b2 := b1.trans (Same.one (p := p) s2)
  have npL := ins_lst g2 gL
  have nL0 : H L = none := by
    cases e : H L with
    | none => rfl
    | some o =>
      have := b1 L o npL.symm e
      rw [nL] at this
      cases this
  walk_at "go"
  refine ⟨p, C, dx, _, rfl, g2, S.cl, S.n2, (by show 1 < 1000; decide), ?_⟩
  exact q L _ ⟨upd_same, by rw [upd_ne npL.symm]; exact gL, rfl, trivial, by simp, by simp⟩ nL0 (b2.trans But.put)
theorem ok_count {f : Addr} {fd : FuncData} (F : C8.Fun K "_count_up_to" "Regions._count_up_to" s_Regions__count_up_to f fd) (M : Meth K C "_count_up_to" f) (b : Binds K fd ["self", "page"] []) (S : STxt K mg C) (T : TMm mg) : C8.Met P w K mg base 1 C "_count_up_to" (spCnt C) [] := by
  refine C8.met0 S.cl M F b sc_Regions__count_up_to (fun vs H Q E h => ?_) (fun cdv A outer s H vs Q E hr h => ?_)
  · obtain ⟨p, ra, dx, lim, page, us, xs, rfl, _⟩ := h
    rfl
  obtain ⟨p, ra, dx, lim, page, us, xs, rfl, hc, q⟩ := h
  refine ⟨_, (pss_cons (ps_set (i := 2) sc_Regions__count_up_to.nd rfl (.inl rfl) pe_int)
      (pss_cons (ps_set (i := 3) sc_Regions__count_up_to.nd rfl (.inl rfl) (pe_callB (lenQ K rfl) (by rfl) T.len PySem.boot_len (pa_cons (pe_fld (pv 0) rfl) pa_nil)))
      (pss_cons (ps_mk (ps_while PassesOwn.never (pt_cmpR op_lt (pv 2) (pv 3) (nomark _))
      (pss_cons (ps_set (i := 4) sc_Regions__count_up_to.nd rfl (.inl rfl) (pe_op op_fdiv (pe_op op_add (pv 2) (pv 3)) pe_int))
      (pss_one (ps_mk (ps_if (pt_cmpR op_le (pe_ix (ixT K rfl) (pe_ix (ixL K rfl) (pe_fld (pv 0) rfl) (pv 4) (fun _ _ => rfl)) pe_int (fun _ _ => rfl)) (pv 1) (nomark _))
      (pss_one (ps_set (i := 2) sc_Regions__count_up_to.nd rfl (.inl rfl) (pe_op op_add (pv 4) pe_int)))
      (pss_one (ps_set (i := 3) sc_Regions__count_up_to.nd rfl (.inl rfl) (pv 4)))))))))
      (pss_one (ps_ret (pv 2)))))), ?_⟩
  have ul := rows_len hc.d
  have cl := cut_le page xs
  walk_at "go"
  refine ⟨_, _, _, _, _, rfl, hc.g, S.cl, S.n2, rg_rows, ?_⟩
  walk_at "go"
  refine ⟨ra, us, rfl, .inl (SqL.of hc.r), ?_⟩
  refine jnS (M := fun σ H' => H' = H ∧ ∃ y3 y4, σ = [sR p, sI page, sI (cutR page xs : Nat), y3, y4]) ?_ (fun N kk => ?_)
  · rintro σ H2 ⟨rfl, y3, y4, rfl⟩
    walk_at "go"
    exact q
  refine ⟨fun m σ H' => Ob (H' = H ∧ ∃ (lo hi : Nat) (y4 : Option V), m = hi - lo ∧ lo ≤ cutR page xs ∧ cutR page xs ≤ hi ∧ hi ≤ xs.length ∧ σ = [sR p, sI page, sI (lo : Nat), sI (hi : Nat), y4]), ⟨us.length, ob ⟨rfl, 0, us.length, none, rfl, Nat.zero_le _, by omega, by omega, rfl⟩⟩, ?_⟩
  intro m σ H1 h
  obtain ⟨rfl, lo, hi, y4, rfl, l0, l1, l2, rfl⟩ := unob h
  clear h
  walk_at "go"
  refine ifD (fun c => ?_) (fun c => ?_)
  · have c' : lo < hi := by omega
    refine ⟨_, fun _ _ z => z, ?_⟩
    walk_at "go"
    obtain ⟨mid, em, m0, m1⟩ : ∃ mid : Nat, ((lo : Int) + (hi : Int)) / 2 = (mid : Int) ∧ lo ≤ mid ∧ mid < hi := ⟨(lo + hi) / 2, by omega, by omega, by omega⟩
    dsimp only
    rw [em]
    have hm : mid < xs.length := by omega
    obtain ⟨a, ea, ga⟩ := rows_get hc.d (List.getElem?_eq_getElem hm)
    have ci := cut_iff (p := page) hc.a (List.getElem?_eq_getElem hm)
    generalize xs[mid] = x at *
    walk_at "go"
    refine un ?_
    walk_at "go"
    refine ⟨_, _, _, _, _, rfl, hc.g, S.cl, S.n2, rg_rows, ?_⟩
    walk_at "go"
    refine ⟨ra, _, _, _, rfl, rfl, SqL.of hc.r, atI_nat ea, ?_⟩
    walk_at "go"
    refine ⟨a, _, _, _, rfl, rfl, SqT.of ga, atI_nat (j := 1) rfl, ?_⟩
    walk_at "go"
    refine ifD (fun c2 => ?_) (fun c2 => ?_)
    · have i2 := ci.mp c2
      walk_at "go"
      exact ⟨hi - (mid + 1), by omega, ob ⟨rfl, mid + 1, hi, _, rfl, i2, l1, l2, by rw [Int.natCast_succ]; rfl⟩⟩
    · have i2 : ¬ mid < cutR page xs := fun z => c2 (ci.mpr z)
      walk_at "go"
      exact ⟨mid - lo, by omega, ob ⟨rfl, lo, mid, _, rfl, l0, by omega, by omega, rfl⟩⟩
  · have e : lo = cutR page xs := by omega
    subst e
    exact kk _ _ ⟨rfl, _, _, rfl⟩
theorem ok_mark_at {f : Addr} {fd : FuncData} (F : C8.Fun K "mark_at" "Regions.mark_at" s_Regions_mark_at f fd) (M : Meth K C "mark_at" f) (b : Binds K fd ["self", "page"] []) (S : STxt K mg C) (T : TMm mg) (m_count : C8.Met P w K mg base 1 C "_count_up_to" (spCnt C) []) (c_mark_in : Cal P w K mg base 2 "mark_in" spMarkIn []) : C8.Met P w K mg base 3 C "mark_at" (spMarkAt C) [] := by
  refine C8.met0 S.cl M F b sc_Regions_mark_at (fun vs H Q E h => ?_) (fun cdv A outer s H vs Q E hr h => ?_)
  · obtain ⟨p, ra, dx, lim, page, us, xs, rfl, _⟩ := h
    rfl
  obtain ⟨p, ra, dx, lim, page, us, xs, rfl, hc, q1, q2⟩ := h
  refine ⟨_, (pss_cons (ps_set (i := 2) sc_Regions_mark_at.nd rfl (.inl rfl) (C8.pe_mt m_count hr (by omega) (pv 0) (pa_cons (pv 1) pa_nil)))
      (pss_cons (ps_mk (ps_if (PW.pt (pw_or (pt_cmpR op_eq (pv 2) (pe_callB (lenQ K rfl) (by rfl) T.len PySem.boot_len (pa_cons (pe_fld (pv 0) rfl) pa_nil)) (nomark _)) (pw_or1 (pt_cmpR op_lt (pv 1) (pe_ix (ixT K rfl) (pe_ix (ixL K rfl) (pe_fld (pv 0) rfl) (pv 2) (fun _ _ => rfl)) pe_int (fun _ _ => rfl)) (nomark _)))))
      (pss_one (ps_ret pe_non))
      pss_nil))
      (pss_one (ps_ret (C8.pe_c c_mark_in hr (by omega) (by rfl) (pa_cons (pe_ix (ixL K rfl) (pe_fld (pv 0) rfl) (pv 2) (fun _ _ => rfl)) (pa_cons (pv 1) pa_nil))))))), ?_⟩
  have ul := rows_len hc.d
  have cl := cut_le page xs
  have em : markR xs page = match xs[cutR page xs]? with | none => none | some x => if page < x.s then none else some (x.at' page) := rfl
  generalize markR xs page = mk at *
  walk_at "go"
  refine ⟨p, dx, _, rfl, hc.g, rg_no1, ?_⟩
  walk_at "go"
  refine ⟨p, ra, dx, lim, page, us, xs, rfl, hc, ?_⟩
  generalize cutR page xs = k at *
  refine jnS (M := fun σ H' => (∃ x, xs[k]? = some x ∧ ¬ page < x.s) ∧ H' = H ∧ σ = [sR p, sI page, sI (k : Nat)]) ?_ (fun N kk => ?_)
  · rintro σ H2 ⟨⟨x, ex, c⟩, rfl, rfl⟩
    obtain ⟨a, ea, ga⟩ := rows_get hc.d ex
    rw [ex] at em
    walk_at "go"
    refine ⟨_, _, _, _, _, rfl, hc.g, S.cl, S.n2, rg_rows, ?_⟩
    walk_at "go"
    refine ⟨ra, _, _, _, rfl, rfl, SqL.of hc.r, atI_nat ea, ?_⟩
    walk_at "go"
    refine ⟨a, x, _, rfl, ga, fun m H3 s3 gm => q2 _ m H3 ?_ s3 gm⟩
    rw [em]
    exact if_neg c
  walk_at "go"
  refine ⟨_, _, _, _, _, rfl, hc.g, S.cl, S.n2, rg_rows, ?_⟩
  walk_at "go"
  refine ⟨ra, us, rfl, .inl (SqL.of hc.r), ?_⟩
  walk_at "go"
  refine ifEq (fun c => ?_) (fun c => ?_)
  · have ek : k = xs.length := by omega
    have e0 : xs[k]? = none := by
      rw [ek]
      exact List.getElem?_eq_none (Nat.le_refl _)
    rw [e0] at em
    walk_at "go"
    exact q1 em
  · have hk : k < xs.length := by omega
    obtain ⟨a, ea, ga⟩ := rows_get hc.d (List.getElem?_eq_getElem hk)
    have ex := List.getElem?_eq_getElem hk
    generalize xs[k] = x at *
    rw [ex] at em
    walk_at "go"
    refine ⟨_, _, _, _, _, rfl, hc.g, S.cl, S.n2, rg_rows, ?_⟩
    walk_at "go"
    refine ⟨ra, _, _, _, rfl, rfl, SqL.of hc.r, atI_nat ea, ?_⟩
    walk_at "go"
    refine ⟨a, _, _, _, rfl, rfl, SqT.of ga, atI_nat (j := 0) rfl, ?_⟩
    walk_at "go"
    refine ifD (fun c2 => ?_) (fun c2 => ?_)
    · walk_at "go"
      refine q1 ?_
      rw [em]
      exact if_pos c2
    · walk_at "go"
      exact kk _ _ ⟨⟨x, ex, c2⟩, rfl, rfl⟩
end

end

section

-- a condition of an operator
local macro_rules | `(tactic| walk_at "cond") => `(tactic| first
  | (show (0 : Int) < _; omega)
  | (show CDiv _ _; constructor <;> (first | decide | omega))
  | (show CMul _ _; first | (refine cmul_l ?_; constructor <;> (first | decide | omega)) | (refine cmul_r ?_; constructor <;> (first | decide | omega)))
  | (show CPow _ _; exact (by refine ⟨by decide, by decide, by decide⟩))
  | (show CDivW _ _; exact ⟨by decide, by decide +kernel⟩))
local macro_rules | `(tactic| walk_at "sq") => `(tactic| first | assumption | exact Dh.mono (same_upd (by assumption)) _ _ (by assumption) | exact .inl (.inl (.inl (by assumption))) | exact .inr (.inl (.inl (by assumption))) | exact SqL.of (by assumption) | exact .inl (by assumption) | exact .inl (SqL.of (by assumption)) | exact SqT.of (by assumption) | exact .inr (SqT.of (by assumption)))
local macro_rules | `(tactic| walk_at "st") => `(tactic| first
  | refine ⟨_, rfl, ?_⟩
  | refine ⟨_, _, rfl, rfl, ?_⟩
  | refine .inl ⟨_, rfl, ?_⟩
  | refine ⟨rfl, ?_⟩
  | refine ⟨_, _, rfl, by walk_at "sq", ?_⟩
  | refine ⟨.inl ⟨rfl, _, SqL.of (by assumption)⟩, ?_⟩
  | refine ⟨by walk_at "cond", ?_⟩
  | (refine' ifBT ?hh ?_; (case hh => first | rfl | assumption))
  | (refine' ifBF ?hh ?_; (case hh => first | rfl | assumption)))
local macro_rules | `(tactic| walk_at "go") => `(tactic| repeat walk_at "st")
local macro_rules | `(tactic| walk_at "yes") => `(tactic| (refine' ifT ?hh ?_; (case hh => first | rfl | decide +kernel)))
local macro_rules | `(tactic| walk_at "no") => `(tactic| (refine' ifF ?hh ?_; (case hh => first | decide +kernel | (intro z; cases z; done))))

/-! ### _splice, _parts_in -/
abbrev s_Regions__splice : Stmt := inClass (topS 27) 10
theorem sc_Regions__splice : FnScope ["self", "start", "end", "parts", "low", "high", "near", "changed"] ["self", "start", "end", "parts"] (C8.fnScope s_Regions__splice) := C8.fnScope_by (by decide +kernel)
abbrev s_Regions__parts_in : Stmt := inClass (topS 27) 11
theorem sc_Regions__parts_in : FnScope ["self", "start", "end", "low", "high"] ["self", "start", "end"] (C8.fnScope s_Regions__parts_in) := C8.fnScope_by (by decide +kernel)
theorem splice_ok {lim lo hi : Int} {parts xs : List RRow} (h : ∀ x ∈ xs, MOk x.m) (k : ∀ x ∈ parts, MOk x.m) : ∀ x ∈ spliceR lim lo hi parts xs, MOk x.m := by
  intro z hz
  unfold spliceR at hz
  have hn : ∀ a b, ∀ x ∈ nearR xs a b, MOk x.m := fun a b x hx => h x (near_mem hx)
  rcases List.mem_append.mp hz with hz | hz
  · rcases List.mem_append.mp hz with hz | hz
    · exact h z (List.mem_of_mem_take hz)
    · refine mergeR_ok (fun x hx => ?_) z hz
      rcases List.mem_append.mp hx with hx | hx
      · rcases List.mem_append.mp hx with hx | hx
        · exact clip_ok (hn _ _) x hx
        · exact k x hx
      · exact clip_ok (hn _ _) x hx
  · exact h z (List.mem_of_mem_drop hz)
def partsR (lo hi : Int) (xs : List RRow) : List RRow := clipR lo hi (nearR xs (cutR lo xs) (cutR hi xs + 1))
def spSplice (C : Addr) : Sp := fun vs H Q _ => ∃ (p ra dx pa : Addr) (lim lo hi : Int) (us ps : List V) (xs parts : List RRow), vs = [.ref p, .int lo, .int hi, .ref pa] ∧ RegAt C H p ra dx lim us xs ∧ H pa = some (.lst ps) ∧ DhAll H (parts.map rD) ps ∧ parts.length ≤ 10000 ∧ (∀ x ∈ parts, MOk x.m) ∧
  Asc 0 (spliceR lim lo hi parts xs) ∧ (spliceR lim lo hi parts xs).length ≤ 10000 ∧
  ∀ rb us' H', RegAt C H' p rb dx lim us' (spliceR lim lo hi parts xs) → H rb = none → But H H' p → Q .non H'
def spPartsIn (C : Addr) : Sp := fun vs H Q _ => ∃ (p ra dx : Addr) (lim lo hi : Int) (us : List V) (xs : List RRow), vs = [.ref p, .int lo, .int hi] ∧ RegAt C H p ra dx lim us xs ∧
  ∀ L ws H', Same H H' → H L = none → H' L = some (.lst ws) → DhAll H' ((partsR lo hi xs).map rD) ws → Q (.ref L) H'
section
variable {P : Program} {w : World} {K : PySem.W.Frag} {mg : Str → Option Value} {base : Heap} {C : Addr}
theorem ok_parts_in {f : Addr} {fd : FuncData} (F : C8.Fun K "_parts_in" "Regions._parts_in" s_Regions__parts_in f fd) (M : Meth K C "_parts_in" f) (b : Binds K fd ["self", "start", "end"] []) (S : STxt K mg C) (m_count : C8.Met P w K mg base 1 C "_count_up_to" (spCnt C) []) (c_clip : Cal P w K mg base 3 "clip" spClip []) : C8.Met P w K mg base 4 C "_parts_in" (spPartsIn C) [] := by
  refine C8.met0 S.cl M F b sc_Regions__parts_in (fun vs H Q E h => ?_) (fun cdv A outer s H vs Q E hr h => ?_)
  · obtain ⟨p, ra, dx, lim, lo, hi, us, xs, rfl, _⟩ := h
    rfl
  obtain ⟨p, ra, dx, lim, lo, hi, us, xs, rfl, hc, q⟩ := h
  refine ⟨_, (pss_cons (ps_set (i := 3) sc_Regions__parts_in.nd rfl (.inl rfl) (C8.pe_mt m_count hr (by omega) (pv 0) (pa_cons (pv 1) pa_nil)))
      (pss_cons (ps_set (i := 4) sc_Regions__parts_in.nd rfl (.inl rfl) (pe_op op_add (C8.pe_mt m_count hr (by omega) (pv 0) (pa_cons (pv 2) pa_nil)) pe_int))
      (pss_one (ps_ret (C8.pe_c c_clip hr (by omega) (by rfl) (pa_cons (pe_slice sl_list (pe_fld (pv 0) rfl) (po_some (pv 3)) (po_some (pv 4))) (pa_cons (pv 1) (pa_cons (pv 2) pa_nil)))))))), ?_⟩
  have ul := rows_len hc.d
  have cl := cut_le lo xs
  unfold partsR at q
  walk_at "go"
  refine ⟨p, dx, _, rfl, hc.g, rg_no1, ?_⟩
  walk_at "go"
  refine ⟨p, ra, dx, lim, lo, us, xs, rfl, hc, ?_⟩
  generalize cutR lo xs = k1 at *
  walk_at "go"
  refine ⟨p, dx, _, rfl, hc.g, rg_no1, ?_⟩
  walk_at "go"
  refine ⟨p, ra, dx, lim, hi, us, xs, rfl, hc, ?_⟩
  generalize cutR hi xs = k2 at *
  walk_at "go"
  dsimp only
  rw [show ((k2 : Nat) : Int) + 1 = ((k2 + 1 : Nat) : Int) from rfl]
  generalize k2 + 1 = k3 at *
  walk_at "go"
  refine ⟨_, _, _, _, _, rfl, hc.g, S.cl, S.n2, rg_rows, ?_⟩
  walk_at "go"
  refine ⟨ra, us, rfl, SqL.of hc.r, fun L nL => ?_⟩
  have d1 := rows_mid (a := k1) (b := k3) hc.d cl
  have nl := near_len xs k1 k3
  have s1 := same_upd (o := HO.lst (cutV us (some (k1 : Int)) (some (k3 : Int)))) nL
  have gL := upd_same (H := H) (a := L) (o := HO.lst (cutV us (some (k1 : Int)) (some (k3 : Int))))
  generalize upd H L (HO.lst (cutV us (some (k1 : Int)) (some (k3 : Int)))) = H1 at *
  have d2 := DhAll.mono s1 _ _ d1
  have hn := hc.n
  walk_at "go"
  refine ⟨L, _, nearR xs k1 k3, lo, hi, rfl, gL, d2, by omega, fun L2 ws H2 s2 n2 g2 d3 => ?_⟩
  exact q L2 ws H2 (s1.trans s2) (s1.free n2) g2 d3
theorem ok_splice {f : Addr} {fd : FuncData} (F : C8.Fun K "_splice" "Regions._splice" s_Regions__splice f fd) (M : Meth K C "_splice" f) (b : Binds K fd ["self", "start", "end", "parts"] []) (S : STxt K mg C) (m_count : C8.Met P w K mg base 1 C "_count_up_to" (spCnt C) []) (c_clip : Cal P w K mg base 3 "clip" spClip []) (c_merge : Cal P w K mg base 4 "merge" spMerge []) : C8.Met P w K mg base 5 C "_splice" (spSplice C) [] := by
  refine C8.met0 S.cl M F b sc_Regions__splice (fun vs H Q E h => ?_) (fun cdv A outer s H vs Q E hr h => ?_)
  · obtain ⟨p, ra, dx, pa, lim, lo, hi, us, ps, xs, parts, rfl, _⟩ := h
    rfl
  obtain ⟨p, ra, dx, pa, lim, lo, hi, us, ps, xs, parts, rfl, hc, gp, dp, lp, op, sa, sn, q⟩ := h
  refine ⟨_, (pss_cons (ps_set (i := 4) sc_Regions__splice.nd rfl (.inl rfl) (C8.pe_mt m_count hr (by omega) (pv 0) (pa_cons (pe_op op_sub (pv 1) pe_int) pa_nil)))
      (pss_cons (ps_set (i := 5) sc_Regions__splice.nd rfl (.inl rfl) (pe_op op_add (C8.pe_mt m_count hr (by omega) (pv 0) (pa_cons (pv 2) pa_nil)) pe_int))
      (pss_cons (ps_set (i := 6) sc_Regions__splice.nd rfl (.inl rfl) (pe_slice sl_list (pe_fld (pv 0) rfl) (po_some (pv 4)) (po_some (pv 5))))
      (pss_cons (ps_set (i := 7) sc_Regions__splice.nd rfl (.inl rfl) (C8.pe_c c_merge hr (by omega) (by rfl) (pa_cons (pe_op op_cat (pe_op op_cat (C8.pe_c c_clip hr (by omega) (by rfl) (pa_cons (pv 6) (pa_cons pe_int (pa_cons (pv 1) pa_nil)))) (pv 3)) (C8.pe_c c_clip hr (by omega) (by rfl) (pa_cons (pv 6) (pa_cons (pv 2) (pa_cons (pe_fld (pv 0) rfl) pa_nil))))) pa_nil)))
      (pss_one (ps_fld (pv 0) (pe_op op_cat (pe_op op_cat (pe_slice sl_list (pe_fld (pv 0) rfl) po_none (po_some (pv 4))) (pv 7)) (pe_slice sl_list (pe_fld (pv 0) rfl) (po_some (pv 5)) po_none)) rfl)))))), ?_⟩
  have ul := rows_len hc.d
  have pl := rows_len dp
  have cl := cut_le (lo - 1) xs
  have so := splice_ok (lim := lim) (lo := lo) (hi := hi) hc.ok op
  have hn := hc.n
  unfold spliceR at sa sn so q
  walk_at "go"
  refine ⟨p, dx, _, rfl, hc.g, rg_no1, ?_⟩
  walk_at "go"
  refine ⟨p, ra, dx, lim, lo - 1, us, xs, rfl, hc, ?_⟩
  generalize cutR (lo - 1) xs = k1 at *
  walk_at "go"
  refine ⟨p, dx, _, rfl, hc.g, rg_no1, ?_⟩
  walk_at "go"
  refine ⟨p, ra, dx, lim, hi, us, xs, rfl, hc, ?_⟩
  generalize cutR hi xs = k2 at *
  walk_at "go"
  dsimp only
  rw [show ((k2 : Nat) : Int) + 1 = ((k2 + 1 : Nat) : Int) from rfl]
  generalize k2 + 1 = k3 at *
  walk_at "go"
  refine ⟨_, _, _, _, _, rfl, hc.g, S.cl, S.n2, rg_rows, ?_⟩
  walk_at "go"
  refine ⟨ra, us, rfl, SqL.of hc.r, fun L nL => ?_⟩
  have d1 := rows_mid (a := k1) (b := k3) hc.d cl
  have nl := near_len xs k1 k3
  have on : ∀ x ∈ nearR xs k1 k3, MOk x.m := fun x hx => hc.ok x (near_mem hx)
  have s1 := same_upd (o := HO.lst (cutV us (some (k1 : Int)) (some (k3 : Int)))) nL
  have gL := upd_same (H := H) (a := L) (o := HO.lst (cutV us (some (k1 : Int)) (some (k3 : Int))))
  generalize upd H L (HO.lst (cutV us (some (k1 : Int)) (some (k3 : Int)))) = H1 at *
  have d2 := DhAll.mono s1 _ _ d1
  clear d1
  generalize cutV us (some (k1 : Int)) (some (k3 : Int)) = ns at *
  generalize nearR xs k1 k3 = near at *
  have ca := clipR_len 0 lo near
  have cb := clipR_len hi lim near
  have oa := clip_ok (lo := 0) (hi := lo) on
  have ob' := clip_ok (lo := hi) (hi := lim) on
  walk_at "go"
  refine ⟨L, _, near, 0, lo, rfl, gL, d2, by omega, fun La wa H2 s2 na ga da => ?_⟩
  have la := rows_len da
  have s2' := s1.trans s2
  walk_at "go"
  refine ⟨La, pa, wa, ps, rfl, rfl, ga, s2' _ _ gp, Nat.le_of_lt (sz5 (by omega)), fun Lb nb => ?_⟩
  have db := rows_app da (DhAll.mono s2' _ _ dp)
  have s3 := same_upd (o := HO.lst (wa ++ ps)) nb
  have gb := upd_same (H := H2) (a := Lb) (o := HO.lst (wa ++ ps))
  show _
  generalize upd H2 Lb (HO.lst (wa ++ ps)) = H3 at *
  have s3' := s2'.trans s3
  have gL3 := s3 _ _ (s2 _ _ gL)
  have d3 := DhAll.mono (s2.trans s3) _ _ d2
  have db3 := DhAll.mono s3 _ _ db
  have hc3 := hc.same s3'
  walk_at "go"
  refine ⟨_, _, _, _, _, rfl, hc3.g, S.cl, S.n1, rg_limit, ?_⟩
  walk_at "go"
  refine ⟨L, _, near, hi, lim, rfl, gL3, d3, by omega, fun Lc wc H4 s4 nc gc dc => ?_⟩
  have lc := rows_len dc
  walk_at "go"
  refine ⟨Lb, Lc, wa ++ ps, wc, rfl, rfl, s4 _ _ gb, gc, Nat.le_of_lt (sz5 (by rw [List.length_append]; omega)), fun Ld nd => ?_⟩
  have dd := rows_app (DhAll.mono s4 _ _ db3) dc
  have s5 := same_upd (o := HO.lst (wa ++ ps ++ wc)) nd
  have gd := upd_same (H := H4) (a := Ld) (o := HO.lst (wa ++ ps ++ wc))
  show _
  generalize upd H4 Ld (HO.lst (wa ++ ps ++ wc)) = H5 at *
  have s5' := (s3'.trans s4).trans s5
  have dd5 := DhAll.mono s5 _ _ dd
  have ll : (clipR 0 lo near ++ parts ++ clipR hi lim near).length ≤ 100000 := by
    rw [List.length_append, List.length_append]
    omega
  have lo' : ∀ x ∈ clipR 0 lo near ++ parts ++ clipR hi lim near, MOk x.m := by
    intro x hx
    rcases List.mem_append.mp hx with hx | hx
    · rcases List.mem_append.mp hx with hx | hx
      · exact oa x hx
      · exact op x hx
    · exact ob' x hx
  generalize clipR 0 lo near ++ parts ++ clipR hi lim near = all at *
  have lm := mergeR_len all
  walk_at "go"
  refine ⟨Ld, _, all, rfl, gd, dd5, ll, lo', fun Le we H6 s6 ne ge de => ?_⟩
  have le := rows_len de
  have s6' := s5'.trans s6
  have hc6 := hc.same s6'
  clear gL d2 da ga s2 gb db s3 gL3 d3 db3 hc3 s4 gc dc dd dd5 gd s5 nb nc nd na la lc s2' s3' s5' nL s1
  generalize mergeR all = mid at *
  walk_at "go"
  refine ⟨_, _, _, _, _, rfl, hc6.g, S.cl, S.n2, rg_rows, ?_⟩
  walk_at "go"
  refine ⟨ra, us, rfl, SqL.of hc6.r, fun Lf nf => ?_⟩
  have df := rows_lo (a := k1) hc6.d
  have s7 := same_upd (o := HO.lst (cutV us none (some (k1 : Int)))) nf
  have gf := upd_same (H := H6) (a := Lf) (o := HO.lst (cutV us none (some (k1 : Int))))
  have zf := cutV_length us none (some (k1 : Int))
  generalize upd H6 Lf (HO.lst (cutV us none (some (k1 : Int)))) = H7 at *
  generalize cutV us none (some (k1 : Int)) = uf at *
  have hc7 := hc6.same s7
  walk_at "go"
  refine ⟨Lf, Le, uf, we, rfl, rfl, gf, s7 _ _ ge, Nat.le_of_lt (sz5 (by omega)), fun Lg ng => ?_⟩
  have dg := rows_app (DhAll.mono s7 _ _ df) (DhAll.mono s7 _ _ de)
  have s8 := same_upd (o := HO.lst (uf ++ we)) ng
  have gg := upd_same (H := H7) (a := Lg) (o := HO.lst (uf ++ we))
  show _
  generalize upd H7 Lg (HO.lst (uf ++ we)) = H8 at *
  have hc8 := hc7.same s8
  walk_at "go"
  refine ⟨_, _, _, _, _, rfl, hc8.g, S.cl, S.n2, rg_rows, ?_⟩
  walk_at "go"
  refine ⟨ra, us, rfl, SqL.of hc8.r, fun Lh nh => ?_⟩
  have dh := rows_hi (b := k3) hc8.d
  have s9 := same_upd (o := HO.lst (cutV us (some (k3 : Int)) none)) nh
  have gh := upd_same (H := H8) (a := Lh) (o := HO.lst (cutV us (some (k3 : Int)) none))
  have zh := cutV_length us (some (k3 : Int)) none
  generalize upd H8 Lh (HO.lst (cutV us (some (k3 : Int)) none)) = H9 at *
  generalize cutV us (some (k3 : Int)) none = uh at *
  walk_at "go"
  refine ⟨Lg, Lh, uf ++ we, uh, rfl, rfl, s9 _ _ gg, gh, Nat.le_of_lt (sz5 (by rw [List.length_append]; omega)), fun Li ni => ?_⟩
  have di := rows_app (DhAll.mono (s8.trans s9) _ _ dg) (DhAll.mono s9 _ _ dh)
  have s10 := same_upd (o := HO.lst (uf ++ we ++ uh)) ni
  have gi := upd_same (H := H9) (a := Li) (o := HO.lst (uf ++ we ++ uh))
  show _
  generalize upd H9 Li (HO.lst (uf ++ we ++ uh)) = H10 at *
  have st := ((s6'.trans s7).trans s8).trans (s9.trans s10)
  have nLi := ((s6'.trans s7).trans s8).free (s9.free ni)
  have hc10 := hc.same st
  have di10 := DhAll.mono s10 _ _ di
  have npi := ins_lst hc10.g gi
  walk_at "go"
  refine ⟨p, C, dx, _, rfl, hc10.g, S.cl, S.n2, (by show 2 < 1000; decide), ?_⟩
  rw [rg_put]
  exact q Li _ _ ⟨upd_same, by rw [upd_ne npi.symm]; exact gi, rows_mono (ins_tup hc10.g) di10, sa, so, sn⟩ nLi ((Same.one st).trans But.put)
end

end

/-! ### rows as a table of marks -/
def tb : List RRow → Int → Option RMark
  | [], _ => none
  | x :: xs, p => if x.s ≤ p ∧ p < x.e then some (x.at' p) else tb xs p
def Ord (xs : List RRow) : Prop := (∀ x ∈ xs, x.s < x.e) ∧ xs.Pairwise (fun x y => x.e ≤ y.s)
def Bd (lo hi : Int) (xs : List RRow) : Prop := ∀ x ∈ xs, lo ≤ x.s ∧ x.e ≤ hi
theorem Asc.ord : ∀ {xs : List RRow} {b : Int}, Asc b xs → Ord xs
  | [], _, _ => ⟨by simp, .nil⟩
  | x :: xs, b, h => by
    have ih := Asc.ord h.2.2
    refine ⟨fun y hy => ?_, .cons (fun y hy => (Asc.mem h.2.2 hy).1) ih.2⟩
    rcases List.mem_cons.mp hy with e | hy
    · rw [e]
      exact h.2.1
    · exact ih.1 y hy
theorem Ord.asc : ∀ {xs : List RRow} {b : Int}, Ord xs → (∀ x ∈ xs, b ≤ x.s) → Asc b xs
  | [], _, _, _ => trivial
  | x :: xs, b, h, k => by
    have h2 := List.pairwise_cons.mp h.2
    exact ⟨k x List.mem_cons_self, h.1 x List.mem_cons_self, Ord.asc ⟨fun y hy => h.1 y (List.mem_cons_of_mem _ hy), h2.2⟩ h2.1⟩
theorem Ord.app {xs ys : List RRow} (h : Ord xs) (k : Ord ys) (r : ∀ x ∈ xs, ∀ y ∈ ys, x.e ≤ y.s) : Ord (xs ++ ys) :=
  ⟨fun z hz => (List.mem_append.mp hz).elim (h.1 z) (k.1 z), List.pairwise_append.mpr ⟨h.2, k.2, r⟩⟩
theorem Ord.split {xs ys : List RRow} (h : Ord (xs ++ ys)) : Ord xs ∧ Ord ys ∧ ∀ x ∈ xs, ∀ y ∈ ys, x.e ≤ y.s := by
  have p := List.pairwise_append.mp h.2
  exact ⟨⟨fun z hz => h.1 z (List.mem_append_left _ hz), p.1⟩, ⟨fun z hz => h.1 z (List.mem_append_right _ hz), p.2.1⟩, p.2.2⟩
theorem Ord.one {x : RRow} (h : x.s < x.e) : Ord [x] := ⟨by simp [h], List.pairwise_singleton _ _⟩
theorem asc_len : ∀ {xs : List RRow} {b lim : Int}, Asc b xs → (∀ x ∈ xs, x.e ≤ lim) → b ≤ lim → (xs.length : Int) ≤ lim - b
  | [], _, _, _, _, h => by
    simp only [List.length_nil]
    omega
  | x :: xs, b, lim, h, k, _ => by
    have h1 := k x List.mem_cons_self
    have ih := asc_len h.2.2 (fun y hy => k y (List.mem_cons_of_mem _ hy)) h1
    have h2 := h.1
    have h3 := h.2.1
    rw [List.length_cons]
    omega
theorem tb_app : ∀ (xs ys : List RRow) (p : Int), tb (xs ++ ys) p = (tb xs p).or (tb ys p)
  | [], ys, p => by
    show tb ys p = Option.or none _
    rw [Option.none_or]
  | x :: xs, ys, p => by
    show (if _ then _ else tb (xs ++ ys) p) = Option.or (if _ then _ else tb xs p) _
    split
    · rfl
    · exact tb_app xs ys p
theorem tb_none : ∀ {xs : List RRow} {p : Int}, (∀ x ∈ xs, ¬ (x.s ≤ p ∧ p < x.e)) → tb xs p = none
  | [], _, _ => rfl
  | x :: xs, p, h => by
    show (if _ then _ else tb xs p) = _
    rw [if_neg (h x List.mem_cons_self)]
    exact tb_none fun y hy => h y (List.mem_cons_of_mem _ hy)
theorem mark_tb : ∀ {xs : List RRow} {b : Int} (p : Int), Asc b xs → markR xs p = tb xs p
  | [], _, _, _ => rfl
  | x :: xs, b, p, h => by
    have ih := mark_tb p h.2.2
    by_cases c : x.e ≤ p
    · have e1 : cutR p (x :: xs) = cutR p xs + 1 := if_pos c
      have e2 : tb (x :: xs) p = tb xs p := if_neg (by omega)
      rw [e2, ← ih]
      unfold markR
      rw [e1, List.getElem?_cons_succ]
    · have e1 : cutR p (x :: xs) = 0 := if_neg c
      unfold markR
      rw [e1, List.getElem?_cons_zero]
      show (if _ then _ else _) = (if _ then _ else tb xs p)
      by_cases d : p < x.s
      · rw [if_pos d, if_neg (by omega)]
        refine (tb_none fun y hy => ?_).symm
        have := Asc.mem h.2.2 hy
        omega
      · rw [if_neg d, if_pos (by omega)]
theorem after_after (m : RMark) (a b : Int) : (m.after a).after b = m.after (a + b) := by
  unfold RMark.after
  by_cases c : m.f = ""
  · rw [if_pos c, if_pos c, if_pos c]
  · rw [if_neg c, if_neg c]
    rw [if_neg c, Int.add_assoc]
/-! clip -/
theorem clip1_tb (lo hi : Int) (x : RRow) (p : Int) : tb (clip1 lo hi x) p = if lo ≤ p ∧ p < hi then tb [x] p else none := by
  have e0 : clip1 lo hi x = if hiI x.s lo < loI x.e hi then [⟨hiI x.s lo, loI x.e hi, x.at' (hiI x.s lo)⟩] else [] := rfl
  have a1 : hiI x.s lo = x.s ∧ lo ≤ x.s ∨ hiI x.s lo = lo ∧ x.s < lo := by
    unfold hiI
    split <;> omega
  have a2 : loI x.e hi = x.e ∧ x.e ≤ hi ∨ loI x.e hi = hi ∧ hi < x.e := by
    unfold loI
    split <;> omega
  rw [e0]
  generalize hiI x.s lo = l at *
  generalize loI x.e hi = h at *
  show _ = if _ then (if _ then _ else none) else none
  by_cases c : l < h
  · rw [if_pos c]
    show (if _ then some ((x.m.after (l - x.s)).after (p - l)) else none) = _
    rw [after_after, show l - x.s + (p - l) = p - x.s by omega]
    by_cases d : l ≤ p ∧ p < h
    · rw [if_pos d, if_pos (by omega), if_pos (by omega)]
      rfl
    · rw [if_neg d]
      by_cases d2 : lo ≤ p ∧ p < hi
      · rw [if_pos d2, if_neg (by omega)]
      · rw [if_neg d2]
  · rw [if_neg c]
    show none = _
    by_cases d2 : lo ≤ p ∧ p < hi
    · rw [if_pos d2, if_neg (by omega)]
    · rw [if_neg d2]
theorem clip_tb (lo hi : Int) (p : Int) : ∀ xs : List RRow, tb (clipR lo hi xs) p = if lo ≤ p ∧ p < hi then tb xs p else none
  | [] => by
    show none = _
    split <;> rfl
  | x :: xs => by
    have e : clipR lo hi (x :: xs) = clip1 lo hi x ++ clipR lo hi xs := by
      unfold clipR
      rw [List.flatMap_cons]
    rw [e, tb_app, clip1_tb, clip_tb lo hi p xs, show x :: xs = [x] ++ xs from rfl, tb_app]
    by_cases c : lo ≤ p ∧ p < hi
    · rw [if_pos c, if_pos c, if_pos c]
    · rw [if_neg c, if_neg c, if_neg c]
      rfl
theorem clip1_mem {lo hi : Int} {x y : RRow} (h : y ∈ clip1 lo hi x) : y.s < y.e ∧ x.s ≤ y.s ∧ lo ≤ y.s ∧ y.e ≤ x.e ∧ y.e ≤ hi := by
  have a1 : x.s ≤ hiI x.s lo ∧ lo ≤ hiI x.s lo := by
    unfold hiI
    split <;> omega
  have a2 : loI x.e hi ≤ x.e ∧ loI x.e hi ≤ hi := by
    unfold loI
    split <;> omega
  unfold clip1 at h
  split at h
  · rw [List.mem_singleton] at h
    subst h
    rename_i c
    exact ⟨c, a1.1, a1.2, a2.1, a2.2⟩
  · cases h
theorem clip_mem {lo hi : Int} {xs : List RRow} {y : RRow} (h : y ∈ clipR lo hi xs) : ∃ x ∈ xs, y.s < y.e ∧ x.s ≤ y.s ∧ lo ≤ y.s ∧ y.e ≤ x.e ∧ y.e ≤ hi := by
  unfold clipR at h
  obtain ⟨x, hx, hy⟩ := List.mem_flatMap.mp h
  exact ⟨x, hx, clip1_mem hy⟩
theorem clip_ord (lo hi : Int) : ∀ {xs : List RRow}, Ord xs → Ord (clipR lo hi xs)
  | [], _ => ⟨by simp [clipR], .nil⟩
  | x :: xs, h => by
    have e : clipR lo hi (x :: xs) = clip1 lo hi x ++ clipR lo hi xs := by
      unfold clipR
      rw [List.flatMap_cons]
    have h2 := List.pairwise_cons.mp h.2
    rw [e]
    refine Ord.app ?_ (clip_ord lo hi ⟨fun y hy => h.1 y (List.mem_cons_of_mem _ hy), h2.2⟩) (fun a ha b hb => ?_)
    · refine ⟨fun y hy => (clip1_mem hy).1, ?_⟩
      unfold clip1
      split
      · exact List.pairwise_singleton _ _
      · exact .nil
    · have k1 := clip1_mem ha
      obtain ⟨z, hz, k2⟩ := clip_mem hb
      have := h2.1 z hz
      omega
/-! merge -/
theorem on_tb {x y : RRow} (hx : x.s < x.e) (hy : y.s < y.e) (g : goesOn x y) (p : Int) : tb [⟨x.s, y.e, x.m⟩] p = tb [x, y] p := by
  have g2 : x.m.after (y.s - x.s) = y.m := g.2
  have g1 := g.1
  show (if _ then some (x.m.after (p - x.s)) else none) = (if _ then some (x.m.after (p - x.s)) else (if _ then some (y.m.after (p - y.s)) else none))
  rw [← g2, after_after, show y.s - x.s + (p - y.s) = p - x.s by omega]
  show (if x.s ≤ p ∧ p < y.e then _ else _) = _
  by_cases c : x.s ≤ p ∧ p < x.e
  · rw [if_pos c, if_pos (by omega)]
  · rw [if_neg c]
    by_cases d : y.s ≤ p ∧ p < y.e
    · rw [if_pos d, if_pos (by omega)]
    · rw [if_neg d, if_neg (by omega)]
theorem fold_tb : ∀ (ys acc : List RRow), Ord (acc ++ ys) → Ord (ys.foldl pushR acc) ∧ (∀ p, tb (ys.foldl pushR acc) p = tb (acc ++ ys) p) ∧ ∀ lo hi, Bd lo hi (acc ++ ys) → Bd lo hi (ys.foldl pushR acc)
  | [], acc, h => by
    rw [List.append_nil] at *
    exact ⟨h, fun _ => rfl, fun _ _ z => z⟩
  | y :: ys, acc, h => by
    rw [List.foldl_cons]
    rcases List.eq_nil_or_concat acc with rfl | ⟨ini, x, rfl⟩
    · rw [push_nil]
      exact fold_tb ys [y] h
    · rw [List.concat_eq_append] at *
      by_cases g : goesOn x y
      · rw [push_on g]
        obtain ⟨h1, h2, h3⟩ := h.split
        obtain ⟨h4, h5, h6⟩ := h1.split
        have hx := h5.1 x (by simp)
        have hy := h2.1 y (by simp)
        have g1 := g.1
        have h7 := List.pairwise_cons.mp h2.2
        have o1 : Ord (ini ++ [⟨x.s, y.e, x.m⟩] ++ ys) := by
          refine Ord.app (Ord.app h4 (Ord.one (by show x.s < y.e; omega)) (fun a ha b hb => ?_)) ⟨fun z hz => h2.1 z (List.mem_cons_of_mem _ hz), h7.2⟩ (fun a ha b hb => ?_)
          · rw [List.mem_singleton] at hb
            rw [hb]
            exact h6 a ha x (by simp)
          · rcases List.mem_append.mp ha with ha | ha
            · exact h3 a (List.mem_append_left _ ha) b (List.mem_cons_of_mem _ hb)
            · rw [List.mem_singleton] at ha
              rw [ha]
              exact h7.1 b hb
        obtain ⟨k1, k2, k3⟩ := fold_tb ys _ o1
        refine ⟨k1, fun p => ?_, fun lo hi z => k3 lo hi fun w hw => ?_⟩
        · rw [k2, tb_app, tb_app, on_tb hx hy g, show ini ++ [x] ++ y :: ys = ini ++ [x, y] ++ ys by simp, tb_app, tb_app]
        · rcases List.mem_append.mp hw with hw | hw
          · rcases List.mem_append.mp hw with hw | hw
            · exact z w (by simp [hw])
            · rw [List.mem_singleton] at hw
              have z1 := z x (by simp)
              have z2 := z y (by simp)
              rw [hw]
              exact ⟨z1.1, z2.2⟩
          · exact z w (by simp [hw])
      · rw [push_new g]
        have e : ini ++ [x] ++ y :: ys = ini ++ [x] ++ [y] ++ ys := by simp
        rw [e] at h ⊢
        exact fold_tb ys _ h
theorem merge_tb {xs : List RRow} (h : Ord xs) : Ord (mergeR xs) ∧ (∀ p, tb (mergeR xs) p = tb xs p) ∧ ∀ lo hi, Bd lo hi xs → Bd lo hi (mergeR xs) := fold_tb xs [] h
/-! a range replaced -/
theorem cut_mono {p q : Int} (h : p ≤ q) : ∀ xs : List RRow, cutR p xs ≤ cutR q xs
  | [] => Nat.le_refl _
  | x :: xs => by
    unfold cutR
    split
    · rw [if_pos (by omega)]
      exact Nat.succ_le_succ (cut_mono h xs)
    · exact Nat.zero_le _
theorem take_cut {p : Int} : ∀ {xs : List RRow} {x : RRow}, x ∈ xs.take (cutR p xs) → x.e ≤ p
  | [], x, h => by simp at h
  | y :: ys, x, h => by
    unfold cutR at h
    split at h
    · rename_i c
      rw [List.take_succ_cons] at h
      rcases List.mem_cons.mp h with e | h
      · rw [e]
        exact c
      · exact take_cut h
    · simp at h
theorem drop_cut {p : Int} : ∀ {xs : List RRow} {b : Int} {x : RRow}, Asc b xs → x ∈ xs.drop (cutR p xs + 1) → p < x.s
  | [], _, x, _, h => by simp at h
  | y :: ys, b, x, a, h => by
    unfold cutR at h
    split at h
    · rw [List.drop_succ_cons] at h
      exact drop_cut a.2.2 h
    · rename_i c
      rw [List.drop_succ_cons, List.drop_zero] at h
      have := Asc.mem a.2.2 h
      omega
theorem near_split {xs : List RRow} {a b : Nat} (h : a ≤ b) : xs = xs.take a ++ nearR xs a b ++ xs.drop b := by
  unfold nearR
  have e : (xs.drop a).take (min b xs.length - a) = (xs.drop a).take (b - a) := by
    by_cases c : b ≤ xs.length
    · rw [Nat.min_eq_left c]
    · rw [Nat.min_eq_right (by omega), List.take_of_length_le (by rw [List.length_drop]; exact Nat.le_refl _), List.take_of_length_le (by rw [List.length_drop]; omega)]
  have e2 : xs.drop b = (xs.drop a).drop (b - a) := by
    rw [List.drop_drop]
    congr 1
    omega
  rw [e, e2, List.append_assoc, List.take_append_drop, List.take_append_drop]
theorem splice_tb {lim lo hi : Int} {parts xs : List RRow} (h0 : 0 ≤ lo) (h1 : lo < hi) (h2 : hi ≤ lim) (a : Asc 0 xs) (el : ∀ x ∈ xs, x.e ≤ lim) (pa : Asc lo parts) (pe : ∀ x ∈ parts, x.e ≤ hi) :
    Asc 0 (spliceR lim lo hi parts xs) ∧ (∀ x ∈ spliceR lim lo hi parts xs, x.e ≤ lim) ∧ ∀ p, tb (spliceR lim lo hi parts xs) p = if lo ≤ p ∧ p < hi then tb parts p else tb xs p := by
  have o := a.ord
  have b0 : ∀ x ∈ xs, 0 ≤ x.s := fun x hx => (a.mem hx).1
  have cm := cut_mono (show lo - 1 ≤ hi by omega) xs
  have sp := near_split (xs := xs) (a := cutR (lo - 1) xs) (b := cutR hi xs + 1) (by omega)
  have tA : ∀ x ∈ xs.take (cutR (lo - 1) xs), x.e ≤ lo - 1 := fun x hx => take_cut hx
  have tC : ∀ x ∈ xs.drop (cutR hi xs + 1), hi < x.s := fun x hx => drop_cut a hx
  unfold spliceR
  generalize nearR xs (cutR (lo - 1) xs) (cutR hi xs + 1) = B at *
  generalize xs.take (cutR (lo - 1) xs) = A at *
  generalize xs.drop (cutR hi xs + 1) = Z at *
  rw [sp] at o b0 el
  have po := pa.ord
  have ps : ∀ x ∈ parts, lo ≤ x.s := fun x hx => (pa.mem hx).1
  obtain ⟨o1, oZ, r1⟩ := o.split
  obtain ⟨oA, oB, r2⟩ := o1.split
  have mO : Ord (clipR 0 lo B ++ parts ++ clipR hi lim B) := by
    refine Ord.app (Ord.app (clip_ord _ _ oB) po (fun x hx y hy => ?_)) (clip_ord _ _ oB) (fun x hx y hy => ?_)
    · obtain ⟨z, _, k⟩ := clip_mem hx
      have := ps y hy
      omega
    · obtain ⟨z, _, k⟩ := clip_mem hy
      rcases List.mem_append.mp hx with hx | hx
      · obtain ⟨z, _, k⟩ := clip_mem hx
        omega
      · have := pe x hx
        omega
  obtain ⟨k1, k2, _⟩ := merge_tb mO
  have mb : ∀ lo' hi', Bd lo' hi' (clipR 0 lo B ++ parts ++ clipR hi lim B) → Bd lo' hi' (mergeR (clipR 0 lo B ++ parts ++ clipR hi lim B)) := (merge_tb mO).2.2
  -- rows of the middle lie between those before and those behind
  have m1 : ∀ x ∈ A, ∀ y ∈ mergeR (clipR 0 lo B ++ parts ++ clipR hi lim B), x.e ≤ y.s := by
    intro x hx y hy
    have bd : ∃ t, Bd x.e t (clipR 0 lo B ++ parts ++ clipR hi lim B) := by
      refine ⟨lim, fun z hz => ?_⟩
      rcases List.mem_append.mp hz with hz | hz
      · rcases List.mem_append.mp hz with hz | hz
        · obtain ⟨w, hw, k⟩ := clip_mem hz
          have := r2 x hx w hw
          omega
        · have i1 := ps z hz
          have i2 := pe z hz
          have i3 := tA x hx
          omega
      · obtain ⟨w, hw, k⟩ := clip_mem hz
        have := r2 x hx w hw
        omega
    obtain ⟨t, bd⟩ := bd
    exact (mb _ _ bd y hy).1
  have m2 : Bd 0 lim (mergeR (clipR 0 lo B ++ parts ++ clipR hi lim B)) := by
    refine mb _ _ fun z hz => ?_
    rcases List.mem_append.mp hz with hz | hz
    · rcases List.mem_append.mp hz with hz | hz
      · obtain ⟨w, hw, k⟩ := clip_mem hz
        omega
      · have i1 := ps z hz
        have i2 := pe z hz
        omega
    · obtain ⟨w, hw, k⟩ := clip_mem hz
      omega
  have m3 : ∀ x ∈ mergeR (clipR 0 lo B ++ parts ++ clipR hi lim B), ∀ y ∈ Z, x.e ≤ y.s := by
    intro x hx y hy
    have bd : Bd 0 y.s (clipR 0 lo B ++ parts ++ clipR hi lim B) := by
      intro z hz
      have i3 := tC y hy
      rcases List.mem_append.mp hz with hz | hz
      · rcases List.mem_append.mp hz with hz | hz
        · obtain ⟨w, hw, k⟩ := clip_mem hz
          omega
        · have i1 := ps z hz
          have i2 := pe z hz
          omega
      · obtain ⟨w, hw, k⟩ := clip_mem hz
        have := r1 w (List.mem_append_right _ hw) y hy
        omega
    exact (mb _ _ bd x hx).2
  have oo : Ord (A ++ mergeR (clipR 0 lo B ++ parts ++ clipR hi lim B) ++ Z) := by
    refine Ord.app (Ord.app oA k1 m1) oZ (fun x hx y hy => ?_)
    rcases List.mem_append.mp hx with hx | hx
    · exact r1 x (List.mem_append_left _ hx) y hy
    · exact m3 x hx y hy
  refine ⟨oo.asc fun x hx => ?_, fun x hx => ?_, fun p => ?_⟩
  · rcases List.mem_append.mp hx with hx | hx
    · rcases List.mem_append.mp hx with hx | hx
      · exact b0 x (by simp [hx])
      · exact (m2 x hx).1
    · exact b0 x (by simp [hx])
  · rcases List.mem_append.mp hx with hx | hx
    · rcases List.mem_append.mp hx with hx | hx
      · exact el x (by simp [hx])
      · exact (m2 x hx).2
    · exact el x (by simp [hx])
  · rw [sp, tb_app, tb_app, k2, tb_app, tb_app, clip_tb, clip_tb, tb_app, tb_app]
    by_cases c : lo ≤ p ∧ p < hi
    · have nA : tb A p = none := tb_none fun x hx => by
        have := tA x hx
        omega
      have nZ : tb Z p = none := tb_none fun x hx => by
        have := tC x hx
        omega
      rw [nA, nZ, if_pos c, if_neg (by omega), if_neg (by omega)]
      simp
    · have nP : tb parts p = none := tb_none fun x hx => by
        have i1 := ps x hx
        have i2 := pe x hx
        omega
      rw [nP, if_neg c]
      by_cases n0 : 0 ≤ p
      · by_cases n1 : p < lo
        · rw [if_pos ⟨n0, n1⟩, if_neg (by omega)]
          simp
        · by_cases n2 : p < lim
          · rw [if_neg (by omega), if_pos (by omega)]
            simp
          · have nB : tb B p = none := tb_none fun x hx => by
              have := el x (by simp [hx])
              omega
            rw [if_neg (by omega), if_neg (by omega), nB]
            simp
      · have nB : tb B p = none := tb_none fun x hx => by
          have := b0 x (by simp [hx])
          omega
        rw [if_neg (by omega), if_neg (by omega), nB]
        simp

/-! ### methods with keyword-only parameters, called with and without keywords; they may raise -/
section
variable {X : Cx} {CX : CXT} {k n : Nat} {f : Addr} {fd : FuncData} {ps ks : List Str} {sp : Sp} {g : List Value → List Value → List Value} {gV : List V → List V → List V}
theorem run_fnNS {pins : List (Addr × Obj)} {σ : L2.St} {H : Hp} {s : Shared} {Q : VK} {E : L2.St → XK} {us ws : List Value} {vs zs : List V} (F : FnOk X.prog X.w X.K X.mg X.base CX k f fd ps sp) (hr : Room k X.A) (hb : KBn X.K fd ps n ks g gV) (hx : PassesAt CX X σ (E σ))
    (I : Inv X pins σ H s) (r : Vals vs us) (rz : Vals zs ws) (l1 : vs.length = n) (l2 : zs.length = ks.length) (h : sp (gV vs zs) H Q (E σ)) : wpAny (model X.prog X.w) X.A (call (.ref f) us (ks.zip ws)) (EP X pins σ Q) X.xe s := by
  have r2 := hb.rel r rz
  refine wpAny_call (codeAny_mono (F.run X.A X.stack s H ⟨us, ks.zip ws⟩ (g us ws) (gV vs zs) Q (E σ) hr I.env0 (hb.to s us ws I.kIn (r.length.symm.trans l1) (rz.length.symm.trans l2)) r2 h) fun r s' hq => ?_)
  cases r with
  | error e => exact hx pins H s e s' I hq
  | ok fl =>
    cases fl with
    | ret u => exact I.after hq
    | next => exact False.elim hq
    | brk => exact False.elim hq
    | cont => exact False.elim hq
end
/-- a method, called with n values behind self and the keywords ks -/
structure MetN (P : Program) (w : World) (K : PySem.W.Frag) (mg : Str → Option Value) (base : Heap) (k : Nat) (C : Addr) (m : Str) (sp : Sp) (n : Nat) (ks : List Str) (gV : List V → List V → List V) : Prop where
  ex : ∃ (f : Addr) (fd : FuncData) (ps : List Str) (g : List Value → List Value → List Value), Cls K C ∧ Meth K C m f ∧ FnOk P w K mg base (L2.CX P w) k f fd ps sp ∧ KBn K fd ps (n + 1) ks g gV
def tMtN (C : Addr) (m : Str) (n j : Nat) (gV : List V → List V → List V) (sp : Sp) (E : L2.St → XK) (ta : TE) (t tk : TA) : TE := fun σ H Q => ta σ H fun x H1 => ∃ a dx fs, x = .ref a ∧ H1 a = some (.ins C dx fs) ∧ fs.lookup m = none ∧ t σ H1 fun vs H2 => tk σ H2 fun zs H3 => vs.length = n ∧ zs.length = j ∧ sp (gV (.ref a :: vs) zs) H3 Q (E σ)
section
variable {X : Cx} {m : Str} {C : Addr} {pos apos : Pos} {e o : Expr} {es : List Expr} {kws : List Keyword} {ta : TE} {t tk : TA} {sp : Sp} {k j n : Nat} {ks : List Str} {gV : List V → List V → List V}
theorem pe_mN {pl : Sem Bool} (c : MetN X.prog X.w X.K X.mg X.base k C m sp n ks gV) {W : WX} (tkx : Takes X W) (hr : Room j X.A) (hk : k ≤ j) (he : PE X o ta) (ha : PA X (e :: es) t) (hkw : PK X kws tk)
    (hall : (backToKw pos (keywordEach kws X.env)).all (·.1.isSome) = true := by rfl) (hks : (backToKw pos (keywordEach kws X.env)).filterMap (·.1) = ks := by rfl)
    (hst : starEach (e :: es) X.env = (false, eval e X.env) :: starEach es X.env := by rfl) (hpl : ((backTo pos (starEach (e :: es) X.env)).any (·.1) || (backToKw pos (keywordEach kws X.env)).any (·.1.isNone)) = false := by rfl)
    (ht : eval (.Call (.Attribute o m apos) (e :: es) kws pos) X.env = (do
      let ov ← eval o X.env
      standAt apos.atName
      let (f, first) ← holding [ov] (getMethod ov m pl)
      callWith pos f first (backTo pos (starEach (e :: es) X.env)) (backToKw pos (keywordEach kws X.env))) := by rfl) : PE X (.Call (.Attribute o m apos) (e :: es) kws pos) (tMtN C m n ks.length gV sp (WE W) ta t tk) := by
  obtain ⟨f, fd, ps, g, hc, hm, F, b⟩ := c.ex
  refine ⟨fun pins s σ H Q I h => PySem.W.methodCall_KW (pl := pl) (thn (he.run pins s σ H _ I h) fun u s1 ⟨x, H1, I1, rx, a, dx, fs, ex, ea, l, q⟩ => ?_) ht⟩
  subst ex
  cases (show u = Value.ref a from rx)
  refine getmeth_ok I1 ea hc hm l (PySem.W.callWith_KW (first := [.ref a]) (h₀ := X.base) I.ok.mod.kin hm.kp hall (thn (ha.run pos pins s1 σ H1 _ I1 q) fun us s2 ⟨vs, H2, I2, r, q2⟩ => ?_) hpl hst)
  refine thn (hkw.run pos pins s2 σ H2 _ I2 q2) fun ws s3 ⟨zs, H3, I3, rz, l1, l2, q3⟩ => ⟨I3.kIn, ?_⟩
  rw [hks]
  exact run_fnNS (us := .ref a :: us) (vs := .ref a :: vs) (F.mono hk) (E := WE W) hr b (passAt tkx σ) I3 (.cons rfl r) rz (by rw [List.length_cons, l1]) l2 q3
end

section

-- a condition of an operator
local macro_rules | `(tactic| walk_at "cond") => `(tactic| first
  | (show (0 : Int) < _; omega)
  | (show CDiv _ _; constructor <;> (first | decide | omega))
  | (show CMul _ _; first | (refine cmul_l ?_; constructor <;> (first | decide | omega)) | (refine cmul_r ?_; constructor <;> (first | decide | omega)))
  | (show CPow _ _; exact (by refine ⟨by decide, by decide, by decide⟩))
  | (show CDivW _ _; exact ⟨by decide, by decide +kernel⟩))
local macro_rules | `(tactic| walk_at "sq") => `(tactic| first | assumption | exact Dh.mono (same_upd (by assumption)) _ _ (by assumption) | exact .inl (.inl (.inl (by assumption))) | exact .inr (.inl (.inl (by assumption))) | exact SqL.of (by assumption) | exact .inl (by assumption) | exact .inl (SqL.of (by assumption)) | exact SqT.of (by assumption) | exact .inr (SqT.of (by assumption)))
local macro_rules | `(tactic| walk_at "st") => `(tactic| first
  | refine ⟨_, rfl, ?_⟩
  | refine ⟨_, _, rfl, rfl, ?_⟩
  | refine .inl ⟨_, rfl, ?_⟩
  | refine ⟨rfl, ?_⟩
  | refine ⟨_, _, rfl, by walk_at "sq", ?_⟩
  | refine ⟨.inl ⟨rfl, _, SqL.of (by assumption)⟩, ?_⟩
  | refine ⟨by walk_at "cond", ?_⟩
  | (refine' ifBT ?hh ?_; (case hh => first | rfl | assumption))
  | (refine' ifBF ?hh ?_; (case hh => first | rfl | assumption)))
local macro_rules | `(tactic| walk_at "go") => `(tactic| repeat walk_at "st")
local macro_rules | `(tactic| walk_at "yes") => `(tactic| (refine' ifT ?hh ?_; (case hh => first | rfl | decide +kernel)))
local macro_rules | `(tactic| walk_at "no") => `(tactic| (refine' ifF ?hh ?_; (case hh => first | decide +kernel | (intro z; cases z; done))))

/-! ### BadRange, check_range -/
abbrev s_BadRange_init : Stmt := inClass (topS 17) 0
theorem sn_BadRange_init : NScope ["self", "start", "end", "__class__"] ["self", "start", "end"] ["__class__"] (C8.fnScope s_BadRange_init) := nscope_by (by decide +kernel)
abbrev s_check_range : Stmt := topS 20
theorem sc_check_range : FnScope ["start", "end", "limit"] ["start", "end", "limit"] (C8.fnScope s_check_range) := C8.fnScope_by (by decide +kernel)
theorem no_fly {P : Program} {w : World} {l : List Env} {H : Hp} {s s' : Shared} {e : Value} {p : Prop} (c : L2.CX P w l H s (fun _ _ _ => False) e s') : p := by
  obtain ⟨_, _, _, _, _, _, _, _, _, _, _, _, z⟩ := c
  exact z.elim
def brF (i j : Int) : List (Str × V) := [("end", .int j), ("start", .int i)]
def spBR (D : Addr) : Sp := fun vs H Q _ => ∃ (a : Addr) (i j : Int), vs = [.ref a, .int i, .int j] ∧ H a = some (exo a D none) ∧ i.natAbs.log2 < 1920 ∧ j.natAbs.log2 < 1920 ∧
  ∀ dx, H dx = none → dx ≠ a → Q .non (upd (upd (upd H dx (exd dx [("start", .int i)])) a (exo a D (some dx))) dx (exd dx (brF i j)))
def spCheck (D : Addr) : Sp := fun vs H Q E => ∃ i j n : Int, vs = [.int i, .int j, .int n] ∧ i.natAbs.log2 < 1920 ∧ j.natAbs.log2 < 1920 ∧ ((0 ≤ i ∧ i < j ∧ j ≤ n) → Q .non H) ∧
  (¬ (0 ≤ i ∧ i < j ∧ j ≤ n) → ∀ d, H d = none → E (.ref D) (some d) (upd H d (.xd (brF i j))))
theorem sz3 {n : Nat} (h : n ≤ 10000) : n ≤ sizeLine := by
  rw [sizeLine_eq]
  omega
theorem len_ap {a b : Str} {m n : Nat} (ha : a.length ≤ m) (hb : b.length ≤ n) : (a ++ b).length ≤ m + n := by
  rw [Str.length_append]
  omega
section
variable {P : Program} {w : World} {K : PySem.W.Frag} {mg : Str → Option Value} {base : Heap}
theorem ok_BadRange {F : NF} {f D cc : Addr} {dV kV doc pm ctv : Value} {an : Option Addr} {q : Str} {cl : List (Str × Addr)} {c : Addr} (U : SupAt P K mg (NF.of s_BadRange_init "__init__" q cl c) f D cc "self" dV kV doc pm ctv an)
    (nS : PySem.W.findIn K (.ref D) "start" = some none) (nE : PySem.W.findIn K (.ref D) "end" = some none) :
    FnOk P w K mg base (L2.CX P w) 1 f (PySem.W.fnX "__init__" q (C8.fnArgs s_BadRange_init) (C8.fnBody s_BadRange_init) (C8.fnScope s_BadRange_init) cl dV kV doc pm an (.ref c) ctv) ["self", "start", "end"] (spBR D) := by
  refine fn_sup (F := NF.of s_BadRange_init "__init__" q cl c) (N := ["self", "start", "end", "__class__"]) sn_BadRange_init U rfl (by rfl) (fun vs H Q E h => ?_) (fun A outer s H vs Q E hr h => ?_)
  · obtain ⟨a, i, j, rfl, _⟩ := h
    rfl
  obtain ⟨a, i, j, rfl, ha, hi, hj, q⟩ := h
  refine ⟨_, _, pa_cons (pe_joined (.cons pe_str (.cons (pe_fmt (pv 1)) (.cons pe_str (.cons (pe_fmt (pv 2)) (.cons pe_str .nil)))))) pa_nil, pss_cons (ps_ost (pv 0) (pv 1)) (pss_one (ps_ost (pv 0) (pv 2))), a, rfl, ha, ?_⟩
  have l1 := len_ap (show Str.empty.length ≤ 0 by decide +kernel) (show ("the range (" : Str).length ≤ 50 by decide +kernel)
  have l2 := len_ap l1 (int_text_len_1921 hi)
  have l3 := len_ap l2 (show (", " : Str).length ≤ 50 by decide +kernel)
  have l4 := len_ap l3 (int_text_len_1921 hj)
  have l5 := len_ap l4 (show (") is empty, reversed or outside" : Str).length ≤ 50 by decide +kernel)
  refine ⟨_, rfl, sz3 (Nat.le_trans l1 (by decide)), ?_⟩
  refine ⟨_, rfl, .inr ⟨i, rfl, hi, _, rfl, sz3 (Nat.le_trans l2 (by decide)), ?_⟩⟩
  refine ⟨_, rfl, sz3 (Nat.le_trans l3 (by decide)), ?_⟩
  refine ⟨_, rfl, .inr ⟨j, rfl, hj, _, rfl, sz3 (Nat.le_trans l4 (by decide)), ?_⟩⟩
  refine ⟨_, rfl, sz3 (Nat.le_trans l5 (by decide)), ?_⟩
  refine ⟨(by show 1 ≤ 1000; decide), ha, _, rfl, _, rfl, a, D, rfl, U.exc, nS, .inl ⟨ha, fun dx nd ne => ?_⟩⟩
  refine ⟨_, rfl, _, rfl, a, D, rfl, U.exc, nE, .inr ⟨dx, _, upd_same, ?_, (by show 1 ≤ 900; decide), q dx nd ne⟩⟩
  rw [upd_ne ne]
  exact upd_same
theorem ok_check {D f2 : Addr} {fd2 : FuncData} (B : FnOk P w K mg base (L2.CX P w) 1 f2 fd2 ["self", "start", "end"] (spBR D)) (O : OexC K D) (iC : PySem.W.findIn K (.ref D) "__init__" = some (some (.ref f2))) (tI : PySem.W.typeIn K (.ref f2) = some (.type "function"))
    (hb : Binds K fd2 ["self", "start", "end"] []) (mD : mg "BadRange" = some (.ref D)) {f : Addr} {fd : FuncData} (Df : Def K mg "check_range" s_check_range f fd) (b : Binds K fd ["start", "end", "limit"] []) : CalE P w K mg base 3 "check_range" (spCheck D) := by
  refine calE Df b sc_check_range (fun vs H Q E h => ?_) (fun cdv A outer s H vs Q E hr h => ?_)
  · obtain ⟨i, j, n, rfl, _⟩ := h
    rfl
  obtain ⟨i, j, n, rfl, hi, hj, q1, q2⟩ := h
  refine ⟨_, pss_one (ps_mk (ps_if (pt_not (pt_chain3 op_le op_lt op_le pe_int (pv 0) (pv 1) (pv 2))) (pss_one (ps_raise rfl (takes_of rfl rfl rfl rfl) (pmk_oex O iC tI B hr hb .nil (fun _ _ _ _ e s' _ c => no_fly c) rfl mD (pa_cons (pv 0) (pa_cons (pv 1) pa_nil))))) pss_nil)), ?_⟩
  have bad : ¬ (0 ≤ i ∧ i < j ∧ j ≤ n) → ([V.int i, V.int j] : List V).length ≤ 1000 ∧ ∀ a, H a = none → spBR D (V.ref a :: ([V.int i, V.int j] ++ [])) (upd H a (exo a D none))
      (fun v H2 => v = .non ∧ ∃ d fs, H2 a = some (exo a D (some d)) ∧ H2 d = some (exd d fs) ∧ H d = none ∧ E (.ref D) (some d) (upd (del H2 a) d (.xd fs))) (fun _ _ _ => False) := fun z => by
    refine ⟨(by show 2 ≤ 1000; decide), fun a na => ⟨a, i, j, rfl, upd_same, hi, hj, fun dx nd ne => ⟨rfl, dx, brF i j, ?_, upd_same, ?_, ?_⟩⟩⟩
    · rw [upd_ne ne.symm]
      exact upd_same
    · rw [upd_ne ne] at nd
      exact nd
    · rw [upd_ne ne] at nd
      have e : upd (del (upd (upd (upd (upd H a (exo a D none)) dx (exd dx [("start", .int i)])) a (exo a D (some dx))) dx (exd dx (brF i j))) a) dx (.xd (brF i j)) = upd H dx (.xd (brF i j)) := by
        funext c
        by_cases h1 : c = dx
        · rw [h1, upd_same, upd_same]
        · rw [upd_ne h1, upd_ne h1]
          by_cases h2 : c = a
          · rw [h2, del_same, na]
          · rw [del_ne h2, upd_ne h1, upd_ne h2, upd_ne h1, upd_ne h2]
      rw [e]
      exact q2 z dx nd
  refine un ?_
  walk_at "go"
  refine ifD (fun c1 => ?_) (fun c1 => ?_)
  · walk_at "go"
    refine ifD (fun c2 => ?_) (fun c2 => ?_)
    · walk_at "go"
      by_cases c3 : j ≤ n
      · refine ifBF (by rw [decide_eq_true c3]; rfl) ?_
        exact q1 ⟨c1, c2, c3⟩
      · refine ifBT (by rw [decide_eq_false c3]; rfl) ?_
        walk_at "go"
        exact bad fun z => c3 z.2.2
    · walk_at "go"
      exact bad fun z => c2 z.2.1
  · walk_at "go"
    exact bad fun z => c1 z.1
end

/-! ### Unmapped, _check_mapped -/
abbrev s_Unmapped_init : Stmt := inClass (topS 18) 0
theorem sn_Unmapped_init : NScope ["self", "page", "__class__"] ["self", "page"] ["__class__"] (C8.fnScope s_Unmapped_init) := nscope_by (by decide +kernel)
abbrev s_check_mapped : Stmt := topS 28
theorem sc_check_mapped : FnScope ["parts", "start", "end", "page", "part"] ["parts", "start", "end"] (C8.fnScope s_check_mapped) := C8.fnScope_by (by decide +kernel)
def umF (i : Int) : List (Str × V) := [("page", .int i)]
def spUM (U : Addr) : Sp := fun vs H Q _ => ∃ (a : Addr) (i : Int), vs = [.ref a, .int i] ∧ H a = some (exo a U none) ∧ i.natAbs.log2 < 1920 ∧
  ∀ dx, H dx = none → dx ≠ a → Q .non (upd (upd H dx (exd dx (umF i))) a (exo a U (some dx)))
/-- the lowest page of a range that is in none of the parts -/
def gap : List RRow → Int → Int → Option Int
  | [], p, e => if p < e then some p else none
  | x :: xs, p, e => if p < x.s then some p else gap xs x.e e
def spChk (U : Addr) : Sp := fun vs H Q E => ∃ (pa : Addr) (ps : List V) (parts : List RRow) (lo hi : Int), vs = [.ref pa, .int lo, .int hi] ∧ H pa = some (.lst ps) ∧ DhAll H (parts.map rD) ps ∧ lo.natAbs.log2 < 1920 ∧ (∀ x ∈ parts, x.e.natAbs.log2 < 1920) ∧
  (gap parts lo hi = none → Q .non H) ∧ ∀ g, gap parts lo hi = some g → ∀ d, H d = none → E (.ref U) (some d) (upd H d (.xd (umF g)))
section
variable {P : Program} {w : World} {K : PySem.W.Frag} {mg : Str → Option Value} {base : Heap}
theorem ok_Unmapped {F : NF} {f D cc : Addr} {dV kV doc pm ctv : Value} {an : Option Addr} {q : Str} {cl : List (Str × Addr)} {c : Addr} (U : SupAt P K mg (NF.of s_Unmapped_init "__init__" q cl c) f D cc "self" dV kV doc pm ctv an)
    (nS : PySem.W.findIn K (.ref D) "page" = some none) :
    FnOk P w K mg base (L2.CX P w) 1 f (PySem.W.fnX "__init__" q (C8.fnArgs s_Unmapped_init) (C8.fnBody s_Unmapped_init) (C8.fnScope s_Unmapped_init) cl dV kV doc pm an (.ref c) ctv) ["self", "page"] (spUM D) := by
  refine fn_sup (F := NF.of s_Unmapped_init "__init__" q cl c) (N := ["self", "page", "__class__"]) sn_Unmapped_init U rfl (by rfl) (fun vs H Q E h => ?_) (fun A outer s H vs Q E hr h => ?_)
  · obtain ⟨a, i, rfl, _⟩ := h
    rfl
  obtain ⟨a, i, rfl, ha, hi, q⟩ := h
  refine ⟨_, _, pa_cons (pe_joined (.cons pe_str (.cons (pe_fmt (pv 1)) (.cons pe_str .nil)))) pa_nil, pss_one (ps_ost (pv 0) (pv 1)), a, rfl, ha, ?_⟩
  have l1 := len_ap (show Str.empty.length ≤ 0 by decide +kernel) (show ("page " : Str).length ≤ 50 by decide +kernel)
  have l2 := len_ap l1 (int_text_len_1921 hi)
  have l3 := len_ap l2 (show (" is unmapped" : Str).length ≤ 50 by decide +kernel)
  refine ⟨_, rfl, sz3 (Nat.le_trans l1 (by decide)), ?_⟩
  refine ⟨_, rfl, .inr ⟨i, rfl, hi, _, rfl, sz3 (Nat.le_trans l2 (by decide)), ?_⟩⟩
  refine ⟨_, rfl, sz3 (Nat.le_trans l3 (by decide)), ?_⟩
  refine ⟨(by show 1 ≤ 1000; decide), ha, _, rfl, _, rfl, a, D, rfl, U.exc, nS, .inl ⟨ha, fun dx nd ne => ?_⟩⟩
  exact q dx nd ne
theorem ok_check_mapped {U f2 : Addr} {fd2 : FuncData} (B : FnOk P w K mg base (L2.CX P w) 1 f2 fd2 ["self", "page"] (spUM U)) (O : OexC K U) (iC : PySem.W.findIn K (.ref U) "__init__" = some (some (.ref f2))) (tI : PySem.W.typeIn K (.ref f2) = some (.type "function"))
    (hb : Binds K fd2 ["self", "page"] []) (mU : mg "Unmapped" = some (.ref U)) {f : Addr} {fd : FuncData} (Df : Def K mg "_check_mapped" s_check_mapped f fd) (b : Binds K fd ["parts", "start", "end"] []) : CalE P w K mg base 3 "_check_mapped" (spChk U) := by
  refine calE Df b sc_check_mapped (fun vs H Q E h => ?_) (fun cdv A outer s H vs Q E hr h => ?_)
  · obtain ⟨pa, ps, parts, lo, hi, rfl, _⟩ := h
    rfl
  obtain ⟨pa, ps, parts, lo, hi, rfl, gp, dp, b0, b1, q1, q2⟩ := h
  refine ⟨_, (pss_cons (ps_set (i := 3) sc_check_mapped.nd rfl (.inl rfl) (pv 1))
      (pss_cons (ps_mk (ps_for (passes_of rfl) rfl (pi_list (pv 0)) (pg_name (i := 4) sc_check_mapped.nd rfl (.inl rfl))
      (pss_cons (ps_mk (ps_if (pt_cmpR op_lt (pv 3) (pe_ix (ixT K rfl) (pv 4) pe_int (fun _ _ => rfl)) (nomark _))
      (pss_one (ps_raise rfl (takes_of rfl rfl rfl rfl) (pmk_oex O iC tI B hr hb .nil (fun _ _ _ _ e s' _ c => no_fly c) rfl mU (pa_cons (pv 3) pa_nil))))
      pss_nil))
      (pss_one (ps_set (i := 3) sc_check_mapped.nd rfl (.inl rfl) (pe_ix (ixT K rfl) (pv 4) pe_int (fun _ _ => rfl)))))))
      (pss_one (ps_mk (ps_if (pt_cmpR op_lt (pv 3) (pv 2) (nomark _))
      (pss_one (ps_raise rfl (takes_of rfl rfl rfl rfl) (pmk_oex O iC tI B hr hb .nil (fun _ _ _ _ e s' _ c => no_fly c) rfl mU (pa_cons (pv 3) pa_nil))))
      pss_nil))))), ?_⟩
  have pl := rows_len dp
  have bad : ∀ g : Int, gap parts lo hi = some g → g.natAbs.log2 < 1920 → ([V.int g] : List V).length ≤ 1000 ∧ ∀ a, H a = none → spUM U (V.ref a :: ([V.int g] ++ [])) (upd H a (exo a U none))
      (fun v H2 => v = .non ∧ ∃ d fs, H2 a = some (exo a U (some d)) ∧ H2 d = some (exd d fs) ∧ H d = none ∧ E (.ref U) (some d) (upd (del H2 a) d (.xd fs))) (fun _ _ _ => False) := fun g eg bg => by
    refine ⟨(by show 1 ≤ 1000; decide), fun a na => ⟨a, g, rfl, upd_same, bg, fun dx nd ne => ⟨rfl, dx, umF g, upd_same, ?_, ?_, ?_⟩⟩⟩
    · rw [upd_ne ne]
      exact upd_same
    · rw [upd_ne ne] at nd
      exact nd
    · rw [upd_ne ne] at nd
      have e : upd (del (upd (upd (upd H a (exo a U none)) dx (exd dx (umF g))) a (exo a U (some dx))) a) dx (.xd (umF g)) = upd H dx (.xd (umF g)) := by
        funext c
        by_cases h1 : c = dx
        · rw [h1, upd_same, upd_same]
        · rw [upd_ne h1, upd_ne h1]
          by_cases h2 : c = a
          · rw [h2, del_same, na]
          · rw [del_ne h2, upd_ne h2, upd_ne h1, upd_ne h2]
      rw [e]
      exact q2 g eg dx nd
  walk_at "go"
  refine jnS (M := fun σ H' => H' = H ∧ ∃ (pg : Int) (y4 : Option V), gap parts lo hi = (if pg < hi then some pg else none) ∧ pg.natAbs.log2 < 1920 ∧ σ = [sR pa, sI lo, sI hi, sI pg, y4]) ?_ (fun N kk => ?_)
  · rintro σ H2 ⟨e2, pg, y4, eg, bg, rfl⟩
    subst e2
    refine un ?_
    walk_at "go"
    refine ifD (fun c => ?_) (fun c => ?_)
    · rw [if_pos c] at eg
      walk_at "go"
      exact bad pg eg bg
    · rw [if_neg c] at eg
      exact q1 eg
  walk_at "go"
  refine ⟨⟨_, SqL.of gp⟩, for_list (K := K) (a := pa) (xs := ps) (fun i σ H' => Ob (H' = H ∧ ∃ (pg : Int) (y4 : Option V), gap parts lo hi = gap (parts.drop i) pg hi ∧ pg.natAbs.log2 < 1920 ∧ σ = [sR pa, sI lo, sI hi, sI pg, y4])) (ob ⟨rfl, lo, none, rfl, b0, rfl⟩) (fun i σ H' _ h => by rw [(unob h).1]; exact SqL.of gp) ?_ ?_⟩
  · intro i v σ H2 hi' h
    obtain ⟨e2, pg, y4, eg, bg, rfl⟩ := unob h
    subst e2
    have hil : i < parts.length := by
      rw [← pl]
      exact (List.getElem?_eq_some_iff.mp hi').1
    obtain ⟨a, ea, ga⟩ := rows_get dp (List.getElem?_eq_getElem hil)
    rw [hi'] at ea
    obtain rfl := Option.some.inj ea
    rw [List.drop_eq_getElem_cons hil] at eg
    have bx := b1 _ (List.getElem_mem hil)
    generalize parts[i] = x at *
    walk_at "go"
    refine jnS (M := fun σ H' => H' = H2 ∧ ¬ pg < x.s ∧ σ = [sR pa, sI lo, sI hi, sI pg, sR a]) ?_ (fun N2 k2 => ?_)
    · rintro σ H3 ⟨rfl, c, rfl⟩
      walk_at "go"
      refine ⟨a, _, _, _, rfl, rfl, SqT.of ga, atI_nat (j := 1) rfl, ?_⟩
      refine ob ⟨rfl, x.e, _, ?_, bx, rfl⟩
      rw [eg]
      exact if_neg c
    walk_at "go"
    refine ⟨a, _, _, _, rfl, rfl, SqT.of ga, atI_nat (j := 0) rfl, ?_⟩
    walk_at "go"
    refine ifD (fun c => ?_) (fun c => ?_)
    · walk_at "go"
      refine bad pg ?_ bg
      rw [eg]
      exact if_pos c
    · exact k2 _ _ ⟨rfl, c, rfl⟩
  · intro σ H2 h
    obtain ⟨e2, pg, y4, eg, bg, rfl⟩ := unob h
    subst e2
    rw [pl, List.drop_length] at eg
    exact kk _ _ ⟨rfl, pg, y4, eg, bg, rfl⟩
end

end

section

-- a condition of an operator
local macro_rules | `(tactic| walk_at "cond") => `(tactic| first
  | (show (0 : Int) < _; omega)
  | (show CDiv _ _; constructor <;> (first | decide | omega))
  | (show CMul _ _; first | (refine cmul_l ?_; constructor <;> (first | decide | omega)) | (refine cmul_r ?_; constructor <;> (first | decide | omega)))
  | (show CPow _ _; exact (by refine ⟨by decide, by decide, by decide⟩))
  | (show CDivW _ _; exact ⟨by decide, by decide +kernel⟩))
local macro_rules | `(tactic| walk_at "sq") => `(tactic| first | assumption | exact Dh.mono (same_upd (by assumption)) _ _ (by assumption) | exact .inl (.inl (.inl (by assumption))) | exact .inr (.inl (.inl (by assumption))) | exact SqL.of (by assumption) | exact .inl (by assumption) | exact .inl (SqL.of (by assumption)) | exact SqT.of (by assumption) | exact .inr (SqT.of (by assumption)))
local macro_rules | `(tactic| walk_at "st") => `(tactic| first
  | refine ⟨_, rfl, ?_⟩
  | refine ⟨_, _, rfl, rfl, ?_⟩
  | refine .inl ⟨_, rfl, ?_⟩
  | refine ⟨rfl, ?_⟩
  | refine ⟨_, _, rfl, by walk_at "sq", ?_⟩
  | refine ⟨.inl ⟨rfl, _, SqL.of (by assumption)⟩, ?_⟩
  | refine ⟨by walk_at "cond", ?_⟩
  | (refine' ifBT ?hh ?_; (case hh => first | rfl | assumption))
  | (refine' ifBF ?hh ?_; (case hh => first | rfl | assumption)))
local macro_rules | `(tactic| walk_at "go") => `(tactic| repeat walk_at "st")
local macro_rules | `(tactic| walk_at "yes") => `(tactic| (refine' ifT ?hh ?_; (case hh => first | rfl | decide +kernel)))
local macro_rules | `(tactic| walk_at "no") => `(tactic| (refine' ifF ?hh ?_; (case hh => first | decide +kernel | (intro z; cases z; done))))

/-! ### unassign, assign, protect -/
abbrev s_Regions_unassign : Stmt := inClass (topS 27) 2
theorem sc_Regions_unassign : FnScope ["self", "start", "end"] ["self", "start", "end"] (C8.fnScope s_Regions_unassign) := C8.fnScope_by (by decide +kernel)
abbrev s_Regions_assign : Stmt := inClass (topS 27) 1
theorem sc_Regions_assign : FnScope ["self", "start", "end", "rights", "file", "index", "first"] ["self", "start", "end", "rights", "file", "index"] (C8.fnScope s_Regions_assign) := C8.fnScope_by (by decide +kernel)
abbrev s_Regions_protect : Stmt := inClass (topS 27) 3
theorem sc_Regions_protect : FnScope ["self", "start", "end", "rights", "parts", "part"] ["self", "start", "end", "rights"] (C8.fnScope s_Regions_protect) := C8.fnScope_by (by decide +kernel)
/-- a Regions object in good order -/
structure RegB (C : Addr) (H : Hp) (p ra dx : Addr) (lim : Int) (us : List V) (xs : List RRow) : Prop where
  at_ : RegAt C H p ra dx lim us xs
  el : ∀ x ∈ xs, x.e ≤ lim
  l0 : 0 ≤ lim
  l1 : lim ≤ 5000
theorem RegB.same {C : Addr} {H H' : Hp} {p ra dx : Addr} {lim : Int} {us : List V} {xs : List RRow} (h : RegB C H p ra dx lim us xs) (s : Same H H') : RegB C H' p ra dx lim us xs := ⟨h.at_.same s, h.el, h.l0, h.l1⟩
def Far (i : Int) : Prop := -(10 ^ 9) ≤ i ∧ i ≤ 10 ^ 9
theorem far_log {i : Int} (h : Far i) : i.natAbs.log2 < 1920 := by
  obtain ⟨h0, h1⟩ := h
  have : i.natAbs < 2 ^ 31 := by omega
  by_cases z : i.natAbs = 0
  · rw [z]
    decide
  · have := (Nat.log2_lt z).mpr this
    omega
def spUnas (C D : Addr) : Sp := fun vs H Q E => ∃ (p ra dx : Addr) (lim lo hi : Int) (us : List V) (xs : List RRow), vs = [.ref p, .int lo, .int hi] ∧ RegB C H p ra dx lim us xs ∧ Far lo ∧ Far hi ∧
  ((0 ≤ lo ∧ lo < hi ∧ hi ≤ lim) → ∀ rb us' H', RegB C H' p rb dx lim us' (spliceR lim lo hi [] xs) → H rb = none → But H H' p → Q .non H') ∧
  (¬ (0 ≤ lo ∧ lo < hi ∧ hi ≤ lim) → ∀ d, H d = none → E (.ref D) (some d) (upd H d (.xd (brF lo hi))))
def asgM (r f : Str) (i : Int) : RMark := ⟨r, f, if f = "" then 0 else i⟩
def spAsg (C D : Addr) : Sp := fun vs H Q E => ∃ (p ra dx : Addr) (lim lo hi : Int) (us : List V) (xs : List RRow) (r f : Str) (i : Int), vs = [.ref p, .int lo, .int hi, .str r, .str f, .int i] ∧ RegB C H p ra dx lim us xs ∧ Far lo ∧ Far hi ∧ MOk ⟨r, f, i⟩ ∧ f.length ≤ 1000 ∧
  ((0 ≤ lo ∧ lo < hi ∧ hi ≤ lim) → ∀ rb us' H', RegB C H' p rb dx lim us' (spliceR lim lo hi [⟨lo, hi, asgM r f i⟩] xs) → H rb = none → But H H' p → Q .non H') ∧
  (¬ (0 ≤ lo ∧ lo < hi ∧ hi ≤ lim) → ∀ d, H d = none → E (.ref D) (some d) (upd H d (.xd (brF lo hi))))
theorem splice_n {lim lo hi : Int} {parts xs : List RRow} (h0 : 0 ≤ lo) (h1 : lo < hi) (h2 : hi ≤ lim) (h3 : lim ≤ 5000) (a : Asc 0 xs) (el : ∀ x ∈ xs, x.e ≤ lim) (pa : Asc lo parts) (pe : ∀ x ∈ parts, x.e ≤ hi) : (spliceR lim lo hi parts xs).length ≤ 10000 := by
  obtain ⟨k1, k2, _⟩ := splice_tb h0 h1 h2 a el pa pe
  have := asc_len k1 k2 (by omega)
  omega
theorem str_ne {f : Str} (h : f ≠ "") : ((f.length : Int) != 0) = true := by
  rw [bne_iff_ne]
  intro h0
  refine h ?_
  obtain ⟨cps⟩ := f
  have : cps.size = 0 := by
    have h1 : ((⟨cps⟩ : Str).length : Int) = 0 := h0
    have h2 : (⟨cps⟩ : Str).length = cps.size := rfl
    omega
  rw [Array.eq_empty_of_size_eq_zero this]
  decide +kernel
section
variable {P : Program} {w : World} {K : PySem.W.Frag} {mg : Str → Option Value} {base : Heap} {C D U : Addr}
theorem ok_unassign {f : Addr} {fd : FuncData} (F : C8.Fun K "unassign" "Regions.unassign" s_Regions_unassign f fd) (M : Meth K C "unassign" f) (b : Binds K fd ["self", "start", "end"] []) (S : STxt K mg C) (e_check : CalE P w K mg base 3 "check_range" (spCheck D)) (m_splice : C8.Met P w K mg base 5 C "_splice" (spSplice C) []) : MetE P w K mg base 6 C "unassign" (spUnas C D) := by
  refine metE S.cl M F b sc_Regions_unassign (fun vs H Q E h => ?_) (fun cdv A outer s H vs Q E hr h => ?_)
  · obtain ⟨p, ra, dx, lim, lo, hi, us, xs, rfl, _⟩ := h
    rfl
  obtain ⟨p, ra, dx, lim, lo, hi, us, xs, rfl, hc, f0, f1, q1, q2⟩ := h
  refine ⟨_, (pss_cons (ps_expr (pe_cE e_check (takes_of rfl rfl rfl rfl) hr (by omega) (by rfl) (pa_cons (pv 1) (pa_cons (pv 2) (pa_cons (pe_fld (pv 0) rfl) pa_nil)))))
      (pss_one (ps_expr (C8.pe_mt m_splice hr (by omega) (pv 0) (pa_cons (pv 1) (pa_cons (pv 2) (pa_cons (pe_lst pa_nil) pa_nil))))))), ?_⟩
  walk_at "go"
  refine ⟨_, _, _, _, _, rfl, hc.at_.g, S.cl, S.n1, rg_limit, ?_⟩
  walk_at "go"
  refine ⟨lo, hi, lim, rfl, far_log f0, far_log f1, fun z => ?_, fun z d nd => q2 z d nd⟩
  walk_at "go"
  refine ⟨p, dx, _, rfl, hc.at_.g, rg_no2, ?_⟩
  walk_at "go"
  refine ⟨sz, fun L nL => ?_⟩
  have s1 := same_upd (o := HO.lst []) nL
  have gL := upd_same (H := H) (a := L) (o := HO.lst [])
  generalize upd H L (HO.lst []) = H1 at *
  have t := splice_tb (parts := []) z.1 z.2.1 z.2.2 hc.at_.a hc.el trivial (by simp)
  refine ⟨p, ra, dx, L, lim, lo, hi, us, [], xs, [], rfl, hc.at_.same s1, gL, rfl, by simp, by simp, t.1, splice_n z.1 z.2.1 z.2.2 hc.l1 hc.at_.a hc.el trivial (by simp), fun rb us' H2 h2 nr bt => ?_⟩
  exact q1 z rb us' H2 ⟨h2, t.2.1, hc.l0, hc.l1⟩ (s1.free nr) ((Same.one s1).trans bt)
theorem ok_assign {f : Addr} {fd : FuncData} (F : FunD K "assign" "Regions.assign" (C8.fnArgs s_Regions_assign) (C8.fnBody s_Regions_assign) (C8.fnScope s_Regions_assign) [] [("file", .str ""), ("index", .int 0)] f fd) (S : STxt K mg C) (e_check : CalE P w K mg base 3 "check_range" (spCheck D)) (m_splice : C8.Met P w K mg base 5 C "_splice" (spSplice C) []) : FnOk P w K mg base (L2.CX P w) 6 f fd ["self", "start", "end", "rights", "file", "index"] (spAsg C D) := by
  refine F.ok sc_Regions_assign (fun vs H Q E h => ?_) (fun cdv A outer s H vs Q E hr h => ?_)
  · obtain ⟨p, ra, dx, lim, lo, hi, us, xs, r, f, i, rfl, _⟩ := h
    rfl
  obtain ⟨p, ra, dx, lim, lo, hi, us, xs, r, f, i, rfl, hc, f0, f1, ok, lf, q1, q2⟩ := h
  refine ⟨_, (pss_cons (ps_expr (pe_cE e_check (takes_of rfl rfl rfl rfl) hr (by omega) (by rfl) (pa_cons (pv 1) (pa_cons (pv 2) (pa_cons (pe_fld (pv 0) rfl) pa_nil)))))
      (pss_cons (ps_set (i := 6) sc_Regions_assign.nd rfl (.inl rfl) (pe_ifExp (pt_truth (pv 4) (by intro _; rfl)) (pv 5) pe_int))
      (pss_one (ps_expr (C8.pe_mt m_splice hr (by omega) (pv 0) (pa_cons (pv 1) (pa_cons (pv 2) (pa_cons (pe_lst (pa_cons (pe_tup (pa_cons (pv 1) (pa_cons (pv 2) (pa_cons (pv 3) (pa_cons (pv 4) (pa_cons (pv 6) pa_nil)))))) pa_nil)) pa_nil)))))))), ?_⟩
  walk_at "go"
  refine ⟨_, _, _, _, _, rfl, hc.at_.g, S.cl, S.n1, rg_limit, ?_⟩
  walk_at "go"
  refine ⟨lo, hi, lim, rfl, far_log f0, far_log f1, fun z => ?_, fun z d nd => q2 z d nd⟩
  have q := q1 z
  clear q1 q2
  walk_at "go"
  refine ⟨(f.length : Int) != 0, ⟨Nat.le_of_lt (sz5 (by omega)), rfl⟩, ?_⟩
  obtain ⟨fi, ea, e0, e1⟩ : ∃ fi : Int, asgM r f i = ⟨r, f, fi⟩ ∧ (f = "" → fi = 0) ∧ (f ≠ "" → fi = i) := ⟨if f = "" then 0 else i, rfl, fun c => if_pos c, fun c => if_neg c⟩
  rw [ea] at q
  have o2 : MOk ⟨r, f, fi⟩ := ok
  by_cases c : f = ""
  have e2 := e0 c
  refine ifBF (by rw [c]; rfl) ?_
  rw [show V.int 0 = V.int fi by rw [e2]]
  walk_at "go"
  rotate_left
  have e2 := e1 c
  subst e2
  refine ifBT (str_ne c) ?_
  walk_at "go"
  all_goals
    refine ⟨p, dx, _, rfl, hc.at_.g, rg_no2, ?_⟩
    walk_at "go"
    refine ⟨sz, fun t nt => ?_⟩
    have s1 := same_upd (o := HO.tup [V.int lo, V.int hi, V.str r, V.str f, V.int fi]) nt
    have gt := upd_same (H := H) (a := t) (o := HO.tup [V.int lo, V.int hi, V.str r, V.str f, V.int fi])
    show _
    generalize upd H t (HO.tup [V.int lo, V.int hi, V.str r, V.str f, V.int fi]) = H1 at *
    walk_at "go"
    refine ⟨sz, fun L nL => ?_⟩
    have s2 := s1.trans (same_upd (o := HO.lst [V.ref t]) nL)
    have g2 := same_upd (o := HO.lst [V.ref t]) nL _ _ gt
    have gL := upd_same (H := H1) (a := L) (o := HO.lst [V.ref t])
    generalize upd H1 L (HO.lst [V.ref t]) = H2 at *
    have pa : Asc lo [(⟨lo, hi, ⟨r, f, fi⟩⟩ : RRow)] := ⟨Int.le_refl _, z.2.1, trivial⟩
    have pe : ∀ x ∈ [(⟨lo, hi, ⟨r, f, fi⟩⟩ : RRow)], x.e ≤ hi := fun x hx => by
      rw [List.mem_singleton.mp hx]
      exact Int.le_refl _
    have po : ∀ x ∈ [(⟨lo, hi, ⟨r, f, fi⟩⟩ : RRow)], MOk x.m := fun x hx => by
      rw [List.mem_singleton.mp hx]
      exact o2
    have tt := splice_tb z.1 z.2.1 z.2.2 hc.at_.a hc.el pa pe
    refine ⟨p, ra, dx, L, lim, lo, hi, us, [V.ref t], xs, [⟨lo, hi, ⟨r, f, fi⟩⟩], rfl, hc.at_.same s2, gL, rows_snoc (xs := []) rfl g2, by simp, po, tt.1, splice_n z.1 z.2.1 z.2.2 hc.l1 hc.at_.a hc.el pa pe, fun rb us' H3 h3 nr bt => ?_⟩
    exact q rb us' H3 ⟨h3, tt.2.1, hc.l0, hc.l1⟩ (s2.free nr) ((Same.one s2).trans bt)
end

end

section

-- a condition of an operator
local macro_rules | `(tactic| walk_at "cond") => `(tactic| first
  | (show (0 : Int) < _; omega)
  | (show CDiv _ _; constructor <;> (first | decide | omega))
  | (show CMul _ _; first | (refine cmul_l ?_; constructor <;> (first | decide | omega)) | (refine cmul_r ?_; constructor <;> (first | decide | omega)))
  | (show CPow _ _; exact (by refine ⟨by decide, by decide, by decide⟩))
  | (show CDivW _ _; exact ⟨by decide, by decide +kernel⟩))
local macro_rules | `(tactic| walk_at "sq") => `(tactic| first | assumption | exact Dh.mono (same_upd (by assumption)) _ _ (by assumption) | exact .inl (.inl (.inl (by assumption))) | exact .inr (.inl (.inl (by assumption))) | exact SqL.of (by assumption) | exact .inl (by assumption) | exact .inl (SqL.of (by assumption)) | exact SqT.of (by assumption) | exact .inr (SqT.of (by assumption)))
local macro_rules | `(tactic| walk_at "st") => `(tactic| first
  | refine ⟨_, rfl, ?_⟩
  | refine ⟨_, _, rfl, rfl, ?_⟩
  | refine .inl ⟨_, rfl, ?_⟩
  | refine ⟨rfl, ?_⟩
  | refine ⟨_, _, rfl, by walk_at "sq", ?_⟩
  | refine ⟨.inl ⟨rfl, _, SqL.of (by assumption)⟩, ?_⟩
  | refine ⟨by walk_at "cond", ?_⟩
  | (refine' ifBT ?hh ?_; (case hh => first | rfl | assumption))
  | (refine' ifBF ?hh ?_; (case hh => first | rfl | assumption)))
local macro_rules | `(tactic| walk_at "go") => `(tactic| repeat walk_at "st")
local macro_rules | `(tactic| walk_at "yes") => `(tactic| (refine' ifT ?hh ?_; (case hh => first | rfl | decide +kernel)))
local macro_rules | `(tactic| walk_at "no") => `(tactic| (refine' ifF ?hh ?_; (case hh => first | decide +kernel | (intro z; cases z; done))))

/-! ### protect -/
def setR (r : Str) (x : RRow) : RRow := ⟨x.s, x.e, ⟨r, x.m.f, x.m.i⟩⟩
theorem asc_set (r : Str) : ∀ {xs : List RRow} {b : Int}, Asc b xs → Asc b (xs.map (setR r))
  | [], _, _ => trivial
  | _ :: _, _, h => ⟨h.1, h.2.1, asc_set r h.2.2⟩
theorem near_ord {xs : List RRow} (h : Ord xs) (a b : Nat) : Ord (nearR xs a b) := ⟨fun x hx => h.1 x (near_mem hx), h.2.sublist ((List.take_sublist _ _).trans (List.drop_sublist _ _))⟩
theorem parts_asc {xs : List RRow} (h : Ord xs) (lo hi : Int) : Asc lo (partsR lo hi xs) := (clip_ord lo hi (near_ord h _ _)).asc fun x hx => by
  obtain ⟨z, _, k⟩ := clip_mem hx
  exact k.2.2.1
theorem parts_end {xs : List RRow} {lo hi : Int} : ∀ x ∈ partsR lo hi xs, x.e ≤ hi := fun x hx => by
  obtain ⟨z, _, k⟩ := clip_mem hx
  exact k.2.2.2.2
theorem parts_low {xs : List RRow} {lo hi : Int} (h : Ord xs) : ∀ x ∈ partsR lo hi xs, lo ≤ x.s ∧ x.s < x.e := fun x hx => Asc.mem (parts_asc h lo hi) hx
theorem parts_len {xs : List RRow} {lo hi : Int} : (partsR lo hi xs).length ≤ xs.length := Nat.le_trans (clipR_len _ _ _) (near_len _ _ _)
theorem parts_ok {xs : List RRow} {lo hi : Int} (h : ∀ x ∈ xs, MOk x.m) : ∀ x ∈ partsR lo hi xs, MOk x.m := clip_ok fun x hx => h x (near_mem hx)
theorem cut_a (x : RRow) : cutV (rV x) none (some 2) = [.int x.s, .int x.e] := rfl
theorem cut_b (x : RRow) : cutV (rV x) (some 3) none = [.str x.m.f, .int x.m.i] := rfl
def spProt (C D U : Addr) : Sp := fun vs H Q E => ∃ (p ra dx : Addr) (lim lo hi : Int) (us : List V) (xs : List RRow) (r : Str), vs = [.ref p, .int lo, .int hi, .str r] ∧ RegB C H p ra dx lim us xs ∧ Far lo ∧ Far hi ∧ PyData.canLay0 (.str r) = true ∧
  ((0 ≤ lo ∧ lo < hi ∧ hi ≤ lim) → gap (partsR lo hi xs) lo hi = none → ∀ rb us' H', RegB C H' p rb dx lim us' (spliceR lim lo hi ((partsR lo hi xs).map (setR r)) xs) → H rb = none → But H H' p → Q .non H') ∧
  ((0 ≤ lo ∧ lo < hi ∧ hi ≤ lim) → ∀ g, gap (partsR lo hi xs) lo hi = some g → ∀ d H', Same H H' → H' d = none → E (.ref U) (some d) (upd H' d (.xd (umF g)))) ∧
  (¬ (0 ≤ lo ∧ lo < hi ∧ hi ≤ lim) → ∀ d, H d = none → E (.ref D) (some d) (upd H d (.xd (brF lo hi))))
section
variable {P : Program} {w : World} {K : PySem.W.Frag} {mg : Str → Option Value} {base : Heap} {C D U : Addr}
theorem ok_protect {f : Addr} {fd : FuncData} (F : C8.Fun K "protect" "Regions.protect" s_Regions_protect f fd) (M : Meth K C "protect" f) (b : Binds K fd ["self", "start", "end", "rights"] []) (S : STxt K mg C) (e_check : CalE P w K mg base 3 "check_range" (spCheck D)) (e_mapped : CalE P w K mg base 3 "_check_mapped" (spChk U)) (m_parts_in : C8.Met P w K mg base 4 C "_parts_in" (spPartsIn C) []) (m_splice : C8.Met P w K mg base 5 C "_splice" (spSplice C) []) : MetE P w K mg base 6 C "protect" (spProt C D U) := by
  refine metE S.cl M F b sc_Regions_protect (fun vs H Q E h => ?_) (fun cdv A outer s H vs Q E hr h => ?_)
  · obtain ⟨p, ra, dx, lim, lo, hi, us, xs, r, rfl, _⟩ := h
    rfl
  obtain ⟨p, ra, dx, lim, lo, hi, us, xs, r, rfl, hc, f0, f1, rk, q1, q2, q3⟩ := h
  refine ⟨_, (pss_cons (ps_expr (pe_cE e_check (takes_of rfl rfl rfl rfl) hr (by omega) (by rfl) (pa_cons (pv 1) (pa_cons (pv 2) (pa_cons (pe_fld (pv 0) rfl) pa_nil)))))
      (pss_cons (ps_set (i := 4) sc_Regions_protect.nd rfl (.inl rfl) (C8.pe_mt m_parts_in hr (by omega) (pv 0) (pa_cons (pv 1) (pa_cons (pv 2) pa_nil))))
      (pss_cons (ps_expr (pe_cE e_mapped (takes_of rfl rfl rfl rfl) hr (by omega) (by rfl) (pa_cons (pv 4) (pa_cons (pv 1) (pa_cons (pv 2) pa_nil)))))
      (pss_one (ps_expr (C8.pe_mt m_splice hr (by omega) (pv 0) (pa_cons (pv 1) (pa_cons (pv 2) (pa_cons (pe_lc (own := [("part", 5)]) (g := gName 5) (tt := tYes) rfl sc_Regions_protect.nd (pi_list (pv 4)) (blkOk_by (own := [("part", 5)]) (N := ["self", "start", "end", "rights", "parts", "part"]) (sc := C8.fnScope s_Regions_protect) (by decide +kernel)) (fun _ _ _ _ _ => (pg_name (i := 5) sc_Regions_protect.nd rfl (.inl rfl))) (fun _ _ _ _ _ => pts_nil) (fun _ _ _ _ _ => (pe_op (catT K rfl) (pe_op (catT K rfl) (pe_slice (slT K rfl) (pv 5) po_none (po_some pe_int)) (pe_tup (pa_cons (pv 3) pa_nil))) (pe_slice (slT K rfl) (pv 5) (po_some pe_int) po_none)))) pa_nil))))))))), ?_⟩
  walk_at "go"
  refine ⟨_, _, _, _, _, rfl, hc.at_.g, S.cl, S.n1, rg_limit, ?_⟩
  walk_at "go"
  refine ⟨lo, hi, lim, rfl, far_log f0, far_log f1, fun z => ?_, fun z d nd => q3 z d nd⟩
  have q1 := q1 z
  have q2 := q2 z
  clear q3
  have o := hc.at_.a.ord
  have pA := parts_asc o lo hi
  have pE := parts_end (xs := xs) (lo := lo) (hi := hi)
  have pL := parts_low (lo := lo) (hi := hi) o
  have pn := parts_len (xs := xs) (lo := lo) (hi := hi)
  have pk := parts_ok (lo := lo) (hi := hi) hc.at_.ok
  have hn := hc.at_.n
  walk_at "go"
  refine ⟨p, dx, _, rfl, hc.at_.g, rg_no3, ?_⟩
  walk_at "go"
  refine ⟨p, ra, dx, lim, lo, hi, us, xs, rfl, hc.at_, fun L ws H1 s1 nL gL dL => ?_⟩
  generalize partsR lo hi xs = parts at *
  have hc1 := hc.same s1
  walk_at "go"
  refine ⟨L, ws, parts, lo, hi, rfl, gL, dL, far_log f0, fun x hx => far_log ⟨?_, ?_⟩, fun eg => ?_, fun g eg d nd => q2 g eg d H1 s1 nd⟩
  · have := pL x hx
    omega
  · have := pE x hx
    have := f1.2
    omega
  have q1 := q1 eg
  clear q2 eg
  have wl := rows_len dL
  walk_at "go"
  refine ⟨p, dx, _, rfl, hc1.at_.g, rg_no2, ?_⟩
  walk_at "go"
  refine ⟨⟨_, SqL.of gL⟩, fun N nN => lc_list (K := K) (a := L) (xs := ws) (fun i H' => Ob (Same H1 H' ∧ ∃ vs, H' N = some (.lst vs) ∧ DhAll H' (((parts.take i).map (setR r)).map rD) vs)) (ob ⟨same_upd nN, [], upd_same, rfl⟩) (fun i H' _ h => SqL.of ((unob h).1 _ _ gL)) ?_ ?_⟩
  · intro i v H2 hi' h
    obtain ⟨s2, vs, g2, d2⟩ := unob h
    clear h
    have hil : i < parts.length := by
      rw [← wl]
      exact (List.getElem?_eq_some_iff.mp hi').1
    obtain ⟨a, ea, ga⟩ := rows_get dL (List.getElem?_eq_getElem hil)
    rw [hi'] at ea
    obtain rfl := Option.some.inj ea
    have ga2 := s2 _ _ ga
    have vl := rows_len d2
    rw [List.length_map, List.length_take] at vl
    have et : ((parts.take (i + 1)).map (setR r)) = (parts.take i).map (setR r) ++ [setR r parts[i]] := by
      rw [List.take_add_one, List.getElem?_eq_getElem hil, List.map_append]
      rfl
    rw [et]
    generalize parts[i] = x at *
    refine ⟨rfl, ?_⟩
    walk_at "go"
    refine ⟨fun z => absurd z.2 (by show ¬ ((2 : Nat) = 5); decide), fun t1 n1 => ?_⟩
    rw [cut_a]
    have s3 := same_upd (o := HO.tup [V.int x.s, V.int x.e]) n1
    have h1 := upd_same (H := H2) (a := t1) (o := HO.tup [V.int x.s, V.int x.e])
    generalize upd H2 t1 (HO.tup [V.int x.s, V.int x.e]) = H3 at *
    walk_at "go"
    refine ⟨sz, fun t2 n2 => ?_⟩
    have s4 := s3.trans (same_upd (o := HO.tup [V.str r]) n2)
    have h2 := upd_same (H := H3) (a := t2) (o := HO.tup [V.str r])
    have h1 := same_upd (o := HO.tup [V.str r]) n2 _ _ h1
    show _
    generalize upd H3 t2 (HO.tup [V.str r]) = H4 at *
    refine ⟨t1, t2, _, _, rfl, rfl, SqT.of h1, SqT.of h2, by simp, sz (by show 3 ≤ 1000; decide), (fun z => by cases z), fun _ t3 n3 => ?_⟩
    have s5 := s4.trans (same_upd (o := HO.tup ([V.int x.s, V.int x.e] ++ [V.str r])) n3)
    have h3 := upd_same (H := H4) (a := t3) (o := HO.tup ([V.int x.s, V.int x.e] ++ [V.str r]))
    show _
    generalize upd H4 t3 (HO.tup ([V.int x.s, V.int x.e] ++ [V.str r])) = H5 at *
    have ga5 := s5 _ _ ga2
    walk_at "go"
    refine ⟨fun z => absurd z.1 (by show ¬ ((3 : Nat) = 0); decide), fun t4 n4 => ?_⟩
    rw [cut_b]
    have s6 := s5.trans (same_upd (o := HO.tup [V.str x.m.f, V.int x.m.i]) n4)
    have h4 := upd_same (H := H5) (a := t4) (o := HO.tup [V.str x.m.f, V.int x.m.i])
    have h3 := same_upd (o := HO.tup [V.str x.m.f, V.int x.m.i]) n4 _ _ h3
    generalize upd H5 t4 (HO.tup [V.str x.m.f, V.int x.m.i]) = H6 at *
    refine ⟨t3, t4, _, _, rfl, rfl, SqT.of h3, SqT.of h4, by simp, sz (by show 5 ≤ 1000; decide), (fun z => by cases z), fun _ t5 n5 => ?_⟩
    have s7 := s6.trans (same_upd (o := HO.tup ([V.int x.s, V.int x.e] ++ [V.str r] ++ [V.str x.m.f, V.int x.m.i])) n5)
    have h5 := upd_same (H := H6) (a := t5) (o := HO.tup ([V.int x.s, V.int x.e] ++ [V.str r] ++ [V.str x.m.f, V.int x.m.i]))
    show _
    generalize upd H6 t5 (HO.tup ([V.int x.s, V.int x.e] ++ [V.str r] ++ [V.str x.m.f, V.int x.m.i])) = H7 at *
    have g7 := s7 _ _ g2
    refine ⟨vs, g7, sz5 (by omega), ob ⟨same_put (s2.trans s7) nN, _, upd_same, ?_⟩⟩
    exact rows_snoc (x := setR r x) (rows_put g7 (DhAll.mono s7 _ _ d2)) (tup_put g7 _ _ h5)
  · intro H2 h
    obtain ⟨s2, vs, g2, d2⟩ := unob h
    rw [wl, List.take_length] at d2
    have mA := asc_set r pA
    have mE : ∀ x ∈ parts.map (setR r), x.e ≤ hi := fun x hx => by
      obtain ⟨y, hy, rfl⟩ := List.mem_map.mp hx
      exact pE y hy
    have mO : ∀ x ∈ parts.map (setR r), MOk x.m := fun x hx => by
      obtain ⟨y, hy, rfl⟩ := List.mem_map.mp hx
      exact ⟨rk, (pk y hy).2⟩
    have tt := splice_tb z.1 z.2.1 z.2.2 hc.at_.a hc.el mA mE
    have st := s1.trans s2
    refine ⟨p, ra, dx, N, lim, lo, hi, us, vs, xs, parts.map (setR r), rfl, (hc.same st).at_, g2, d2, by rw [List.length_map]; omega, mO, tt.1, splice_n z.1 z.2.1 z.2.2 hc.l1 hc.at_.a hc.el mA mE, fun rb us' H3 h3 nr bt => ?_⟩
    exact q1 rb us' H3 ⟨h3, tt.2.1, hc.l0, hc.l1⟩ (st.free nr) ((Same.one st).trans bt)
end

end

/-! ### what the three deeds do to the table -/
def setM (r : Str) (m : RMark) : RMark := ⟨r, m.f, m.i⟩
theorem set_after (r : Str) (m : RMark) (n : Int) : (setM r m).after n = setM r (m.after n) := by
  unfold RMark.after
  show (if m.f = "" then _ else _) = setM r (if m.f = "" then _ else _)
  split <;> rfl
theorem tb_set (r : Str) (p : Int) : ∀ xs : List RRow, tb (xs.map (setR r)) p = (tb xs p).map (setM r)
  | [] => rfl
  | x :: xs => by
    show (if x.s ≤ p ∧ p < x.e then some ((setM r x.m).after (p - x.s)) else tb (xs.map (setR r)) p) = Option.map _ (if x.s ≤ p ∧ p < x.e then some (x.m.after (p - x.s)) else tb xs p)
    by_cases c : x.s ≤ p ∧ p < x.e
    · rw [if_pos c, if_pos c, set_after]
      rfl
    · rw [if_neg c, if_neg c]
      exact tb_set r p xs
theorem parts_tb {xs : List RRow} {b lo hi : Int} (a : Asc b xs) (h : lo ≤ hi) (p : Int) : tb (partsR lo hi xs) p = if lo ≤ p ∧ p < hi then tb xs p else none := by
  unfold partsR
  rw [clip_tb]
  by_cases c : lo ≤ p ∧ p < hi
  · rw [if_pos c, if_pos c]
    have cm := cut_mono h xs
    have sp := near_split (xs := xs) (a := cutR lo xs) (b := cutR hi xs + 1) (by omega)
    have nA : tb (xs.take (cutR lo xs)) p = none := tb_none fun x hx => by
      have := take_cut hx
      omega
    have nZ : tb (xs.drop (cutR hi xs + 1)) p = none := tb_none fun x hx => by
      have := drop_cut a hx
      omega
    have e : tb xs p = tb (xs.take (cutR lo xs) ++ nearR xs (cutR lo xs) (cutR hi xs + 1) ++ xs.drop (cutR hi xs + 1)) p := by rw [← sp]
    rw [e, tb_app, tb_app, nA, nZ]
    simp
  · rw [if_neg c, if_neg c]
theorem gap_none : ∀ {xs : List RRow} {b e : Int}, Asc b xs → gap xs b e = none → ∀ p, b ≤ p → p < e → (tb xs p).isSome = true
  | [], b, e, _, h, p, h0, h1 => by
    unfold gap at h
    rw [if_pos (by omega)] at h
    cases h
  | x :: xs, b, e, a, h, p, h0, h1 => by
    unfold gap at h
    split at h
    · cases h
    · show (if x.s ≤ p ∧ p < x.e then some (x.at' p) else tb xs p).isSome = true
      by_cases c : x.s ≤ p ∧ p < x.e
      · rw [if_pos c]
        rfl
      · rw [if_neg c]
        exact gap_none a.2.2 h p (by omega) h1
theorem gap_some : ∀ {xs : List RRow} {b e g : Int}, Asc b xs → (∀ x ∈ xs, x.e ≤ e) → b ≤ e → gap xs b e = some g → b ≤ g ∧ g < e ∧ tb xs g = none ∧ ∀ p, b ≤ p → p < g → (tb xs p).isSome = true
  | [], b, e, g, _, _, _, h => by
    unfold gap at h
    split at h
    · cases h
      exact ⟨Int.le_refl _, by assumption, rfl, fun p h0 h1 => by omega⟩
    · cases h
  | x :: xs, b, e, g, a, k, be, h => by
    have ke := k x List.mem_cons_self
    have a0 := a.1
    have a1 := a.2.1
    unfold gap at h
    split at h
    · cases h
      rename_i c
      refine ⟨Int.le_refl _, by omega, tb_none fun y hy => ?_, fun p h0 h1 => by omega⟩
      rcases List.mem_cons.mp hy with e | hy
      · subst e
        omega
      · have := Asc.mem a.2.2 hy
        omega
    · obtain ⟨k1, k2, k3, k4⟩ := gap_some a.2.2 (fun y hy => k y (List.mem_cons_of_mem _ hy)) ke h
      refine ⟨by omega, k2, ?_, fun p h0 h1 => ?_⟩
      · show (if x.s ≤ g ∧ g < x.e then some (x.at' g) else tb xs g) = none
        rw [if_neg (by omega), k3]
      · show (if x.s ≤ p ∧ p < x.e then some (x.at' p) else tb xs p).isSome = true
        by_cases c : x.s ≤ p ∧ p < x.e
        · rw [if_pos c]
          rfl
        · rw [if_neg c]
          exact k4 p (by omega) h1
/-- the marks of a range, as assign gives them -/
theorem tb_asg {lo hi p : Int} {r f : Str} {i : Int} : tb [⟨lo, hi, asgM r f i⟩] p = if lo ≤ p ∧ p < hi then some (if f = "" then ⟨r, "", 0⟩ else ⟨r, f, i + (p - lo)⟩) else none := by
  show (if lo ≤ p ∧ p < hi then some ((asgM r f i).after (p - lo)) else none) = _
  unfold asgM RMark.after
  by_cases c : f = ""
  · simp [c]
  · simp [c]
/-- a table of marks, page by page -/
def TbIs (xs : List RRow) (T : Int → Option RMark) : Prop := ∀ p, tb xs p = T p
def tSetR (T : Int → Option RMark) (lo hi : Int) (v : Int → Option RMark) : Int → Option RMark := fun p => if lo ≤ p ∧ p < hi then v p else T p
theorem tb_unas {lim lo hi : Int} {xs : List RRow} {T : Int → Option RMark} (h0 : 0 ≤ lo) (h1 : lo < hi) (h2 : hi ≤ lim) (a : Asc 0 xs) (el : ∀ x ∈ xs, x.e ≤ lim) (t : TbIs xs T) : TbIs (spliceR lim lo hi [] xs) (tSetR T lo hi fun _ => none) := fun p => by
  rw [(splice_tb (parts := []) h0 h1 h2 a el trivial (by simp)).2.2 p, t p]
  rfl
theorem tb_assign {lim lo hi : Int} {xs : List RRow} {T : Int → Option RMark} {r f : Str} {i : Int} (h0 : 0 ≤ lo) (h1 : lo < hi) (h2 : hi ≤ lim) (a : Asc 0 xs) (el : ∀ x ∈ xs, x.e ≤ lim) (t : TbIs xs T) : TbIs (spliceR lim lo hi [⟨lo, hi, asgM r f i⟩] xs) (tSetR T lo hi fun p => some (if f = "" then ⟨r, "", 0⟩ else ⟨r, f, i + (p - lo)⟩)) := fun p => by
  rw [(splice_tb h0 h1 h2 a el (show Asc lo [(⟨lo, hi, asgM r f i⟩ : RRow)] from ⟨Int.le_refl _, h1, trivial⟩) (fun x hx => by rw [List.mem_singleton.mp hx]; exact Int.le_refl _)).2.2 p, t p, tb_asg]
  unfold tSetR
  by_cases c : lo ≤ p ∧ p < hi
  · rw [if_pos c, if_pos c, if_pos c]
  · rw [if_neg c, if_neg c]
theorem tb_prot {lim lo hi : Int} {xs : List RRow} {T : Int → Option RMark} {r : Str} (h0 : 0 ≤ lo) (h1 : lo < hi) (h2 : hi ≤ lim) (a : Asc 0 xs) (el : ∀ x ∈ xs, x.e ≤ lim) (t : TbIs xs T) : TbIs (spliceR lim lo hi ((partsR lo hi xs).map (setR r)) xs) (tSetR T lo hi fun p => (T p).map (setM r)) := fun p => by
  rw [(splice_tb h0 h1 h2 a el (asc_set r (parts_asc a.ord lo hi)) (fun x hx => by
    obtain ⟨y, hy, rfl⟩ := List.mem_map.mp hx
    exact parts_end y hy)).2.2 p, tb_set, parts_tb a (by omega), t p]
  unfold tSetR
  by_cases c : lo ≤ p ∧ p < hi
  · rw [if_pos c, if_pos c, if_pos c]
  · rw [if_neg c, if_neg c]

/-! ### regions are the longest runs: no row goes on where an earlier one ends -/
def Can (xs : List RRow) : Prop := xs.Pairwise (fun z x => ¬ goesOn z x)
theorem at_sum (x : RRow) (p q : Int) : (x.at' p).after (q - p) = x.at' q := by
  unfold RRow.at'
  rw [after_after]
  congr 1
  omega
theorem after_zero (m : RMark) : m.after 0 = m := by
  unfold RMark.after
  split
  · rfl
  · obtain ⟨r, f, i⟩ := m
    simp
theorem at_start (x : RRow) : x.at' x.s = x.m := by
  unfold RRow.at'
  rw [Int.sub_self, after_zero]
theorem push_can {acc : List RRow} {y : RRow} (o : Ord (acc ++ [y])) (h : Can acc) : Can (pushR acc y) := by
  rcases List.eq_nil_or_concat acc with rfl | ⟨as, x, rfl⟩
  · rw [push_nil]
    exact List.pairwise_singleton _ _
  · rw [List.concat_eq_append] at *
    obtain ⟨o1, _, r1⟩ := o.split
    obtain ⟨_, _, r2⟩ := o1.split
    have xy := r1 x (by simp) y (by simp)
    have xl := o1.1 x (by simp)
    have p := List.pairwise_append.mp h
    by_cases g : goesOn x y
    · rw [push_on g]
      refine List.pairwise_append.mpr ⟨p.1, List.pairwise_singleton _ _, fun z hz w hw => ?_⟩
      rw [List.mem_singleton.mp hw]
      exact fun k => p.2.2 z hz x (by simp) k
    · rw [push_new g]
      refine List.pairwise_append.mpr ⟨h, List.pairwise_singleton _ _, fun z hz w hw => ?_⟩
      rw [List.mem_singleton.mp hw]
      rcases List.mem_append.mp hz with hz | hz
      · intro k
        have := r2 z hz x (by simp)
        have := k.1
        omega
      · rw [List.mem_singleton.mp hz]
        exact g
theorem push_ord {acc : List RRow} {y : RRow} (o : Ord (acc ++ [y])) : Ord (pushR acc y) := (fold_tb [y] acc o).1
theorem low_bd : ∀ xs : List RRow, ∃ b : Int, ∀ w ∈ xs, b ≤ w.s
  | [] => ⟨0, by simp⟩
  | x :: xs => by
    obtain ⟨b, h⟩ := low_bd xs
    refine ⟨min x.s b, fun w hw => ?_⟩
    rcases List.mem_cons.mp hw with rfl | hw
    · omega
    · have := h w hw
      omega
theorem fold_can : ∀ (ys acc : List RRow), Ord (acc ++ ys) → Can acc → Can (ys.foldl pushR acc)
  | [], _, _, h => h
  | y :: ys, acc, o, h => by
    have o1 : Ord (acc ++ [y] ++ ys) := by
      rw [List.append_assoc]
      exact o
    obtain ⟨oa, ob, r⟩ := o1.split
    obtain ⟨k1, k2, k3⟩ := fold_tb [y] acc oa
    refine fold_can ys _ (Ord.app k1 ob fun x hx z hz => ?_) (push_can oa h)
    obtain ⟨b, hb⟩ := low_bd (acc ++ [y])
    exact (k3 b z.s (fun w hw => ⟨hb w hw, r w hw z hz⟩) x hx).2
theorem merge_can {xs : List RRow} (h : Ord xs) : Can (mergeR xs) := fold_can xs [] h .nil
/-- where a merged row begins and how it ends -/
theorem fold_edge : ∀ (ys acc zs : List RRow), (∀ z ∈ acc, (∃ y ∈ zs, y.s = z.s ∧ y.m = z.m) ∧ ∃ y ∈ zs, y.e = z.e ∧ ∀ p, y.at' p = z.at' p) → (∀ y ∈ ys, y ∈ zs) →
    ∀ z ∈ ys.foldl pushR acc, (∃ y ∈ zs, y.s = z.s ∧ y.m = z.m) ∧ ∃ y ∈ zs, y.e = z.e ∧ ∀ p, y.at' p = z.at' p
  | [], acc, zs, h, _ => h
  | y :: ys, acc, zs, h, k => by
    have hy := k y List.mem_cons_self
    refine fold_edge ys _ zs (fun z hz => ?_) (fun w hw => k w (List.mem_cons_of_mem _ hw))
    rcases List.eq_nil_or_concat acc with rfl | ⟨as, x, rfl⟩
    · rw [push_nil] at hz
      rw [List.mem_singleton.mp hz]
      exact ⟨⟨y, hy, rfl, rfl⟩, y, hy, rfl, fun _ => rfl⟩
    · rw [List.concat_eq_append] at *
      by_cases g : goesOn x y
      · rw [push_on g] at hz
        rcases List.mem_append.mp hz with hz | hz
        · exact h z (List.mem_append_left _ hz)
        · rw [List.mem_singleton.mp hz]
          obtain ⟨⟨w, hw, e1, e2⟩, _⟩ := h x (by simp)
          refine ⟨⟨w, hw, e1, e2⟩, y, hy, rfl, fun p => ?_⟩
          show y.m.after (p - y.s) = x.m.after (p - x.s)
          rw [← g.2]
          exact at_sum x _ _
      · rw [push_new g] at hz
        rcases List.mem_append.mp hz with hz | hz
        · exact h z hz
        · rw [List.mem_singleton.mp hz]
          exact ⟨⟨y, hy, rfl, rfl⟩, y, hy, rfl, fun _ => rfl⟩
theorem merge_edge {xs : List RRow} : ∀ z ∈ mergeR xs, (∃ y ∈ xs, y.s = z.s ∧ y.m = z.m) ∧ ∃ y ∈ xs, y.e = z.e ∧ ∀ p, y.at' p = z.at' p := fold_edge xs [] xs (by simp) (fun _ h => h)
theorem clip_from {lo hi : Int} {xs : List RRow} {y : RRow} (h : y ∈ clipR lo hi xs) : ∃ x ∈ xs, y.s = hiI x.s lo ∧ y.e = loI x.e hi ∧ ∀ p, y.at' p = x.at' p := by
  unfold clipR at h
  obtain ⟨x, hx, hy⟩ := List.mem_flatMap.mp h
  refine ⟨x, hx, ?_⟩
  unfold clip1 at hy
  split at hy
  · rw [List.mem_singleton] at hy
    subst hy
    exact ⟨rfl, rfl, fun p => at_sum x _ _⟩
  · cases hy
theorem splice_can {lim lo hi : Int} {parts xs : List RRow} (h0 : 0 ≤ lo) (h1 : lo < hi) (h2 : hi ≤ lim) (a : Asc 0 xs) (el : ∀ x ∈ xs, x.e ≤ lim) (pa : Asc lo parts) (pe : ∀ x ∈ parts, x.e ≤ hi) (c : Can xs) : Can (spliceR lim lo hi parts xs) := by
  have o := a.ord
  have b0 : ∀ x ∈ xs, 0 ≤ x.s := fun x hx => (a.mem hx).1
  have cm := cut_mono (show lo - 1 ≤ hi by omega) xs
  have sp := near_split (xs := xs) (a := cutR (lo - 1) xs) (b := cutR hi xs + 1) (by omega)
  have tA : ∀ x ∈ xs.take (cutR (lo - 1) xs), x.e ≤ lo - 1 := fun x hx => take_cut hx
  have tC : ∀ x ∈ xs.drop (cutR hi xs + 1), hi < x.s := fun x hx => drop_cut a hx
  unfold spliceR
  generalize nearR xs (cutR (lo - 1) xs) (cutR hi xs + 1) = B at *
  generalize xs.take (cutR (lo - 1) xs) = A at *
  generalize xs.drop (cutR hi xs + 1) = Z at *
  rw [sp] at o b0 el c
  have po := pa.ord
  have ps : ∀ x ∈ parts, lo ≤ x.s := fun x hx => (pa.mem hx).1
  obtain ⟨o1, oZ, r1⟩ := o.split
  obtain ⟨oA, oB, r2⟩ := o1.split
  have c1 := List.pairwise_append.mp c
  have c2 := List.pairwise_append.mp c1.1
  have mO : Ord (clipR 0 lo B ++ parts ++ clipR hi lim B) := by
    refine Ord.app (Ord.app (clip_ord _ _ oB) po (fun x hx y hy => ?_)) (clip_ord _ _ oB) (fun x hx y hy => ?_)
    · obtain ⟨z, _, k⟩ := clip_mem hx
      have := ps y hy
      omega
    · obtain ⟨z, _, k⟩ := clip_mem hy
      rcases List.mem_append.mp hx with hx | hx
      · obtain ⟨z, _, k⟩ := clip_mem hx
        omega
      · have := pe x hx
        omega
  have me := merge_edge (xs := clipR 0 lo B ++ parts ++ clipR hi lim B)
  have mc := merge_can mO
  generalize hM : mergeR (clipR 0 lo B ++ parts ++ clipR hi lim B) = M at *
  refine List.pairwise_append.mpr ⟨List.pairwise_append.mpr ⟨c2.1, mc, fun z hz x hx g => ?_⟩, c1.2.1, fun z hz x hx g => ?_⟩
  · obtain ⟨⟨y, hy, e1, e2⟩, _⟩ := me x hx
    have ze := tA z hz
    have g1 := g.1
    have low : lo ≤ y.s → False := fun k => by omega
    rcases List.mem_append.mp hy with hy | hy
    · rcases List.mem_append.mp hy with hy | hy
      · obtain ⟨w, hw, f1, f2, f3⟩ := clip_from hy
        have w0 := b0 w (List.mem_append_left _ (List.mem_append_right _ hw))
        have f4 : y.s = w.s := by
          rw [f1]
          unfold hiI
          split <;> omega
        refine c2.2.2 z hz w hw ⟨by omega, ?_⟩
        have k := f3 y.s
        rw [at_start, f4, at_start] at k
        rw [← f4, e1, g.2, ← e2, k]
      · exact low (ps y hy)
    · obtain ⟨w, _, k⟩ := clip_mem hy
      exact low (by omega)
  · rcases List.mem_append.mp hz with hz | hz
    · exact c1.2.2 z (List.mem_append_left _ hz) x hx g
    · obtain ⟨_, y, hy, e1, e2⟩ := me z hz
      have xs := tC x hx
      have g1 := g.1
      have high : y.e ≤ hi → False := fun k => by omega
      rcases List.mem_append.mp hy with hy | hy
      · rcases List.mem_append.mp hy with hy | hy
        · obtain ⟨w, _, k⟩ := clip_mem hy
          exact high (by omega)
        · exact high (pe y hy)
      · obtain ⟨w, hw, f1, f2, f3⟩ := clip_from hy
        have w0 := el w (List.mem_append_left _ (List.mem_append_right _ hw))
        have f4 : y.e = w.e := by
          rw [f2]
          unfold loI
          split <;> omega
        refine c1.2.2 w (List.mem_append_right _ hw) x hx ⟨by omega, ?_⟩
        rw [← f3, e2]
        exact g.2
/-! the rows are those of the table -/
theorem tb_some : ∀ {xs : List RRow} {p : Int} {m : RMark}, tb xs p = some m → ∃ x ∈ xs, x.s ≤ p ∧ p < x.e ∧ x.at' p = m
  | [], _, _, h => by cases h
  | x :: xs, p, m, h => by
    unfold tb at h
    split at h
    · rename_i c
      cases h
      exact ⟨x, List.mem_cons_self, c.1, c.2, rfl⟩
    · obtain ⟨y, hy, k⟩ := tb_some h
      exact ⟨y, List.mem_cons_of_mem _ hy, k⟩
theorem tb_mem : ∀ {xs : List RRow} {p : Int} {x : RRow}, Ord xs → x ∈ xs → x.s ≤ p → p < x.e → tb xs p = some (x.at' p)
  | [], _, _, _, h, _, _ => by cases h
  | y :: ys, p, x, o, h, h0, h1 => by
    have o2 := List.pairwise_cons.mp o.2
    rcases List.mem_cons.mp h with rfl | h
    · exact if_pos ⟨h0, h1⟩
    · have := o2.1 x h
      show (if _ then _ else tb ys p) = _
      rw [if_neg (by omega)]
      exact tb_mem ⟨fun z hz => o.1 z (List.mem_cons_of_mem _ hz), o2.2⟩ h h0 h1
theorem rows_uniq : ∀ {xs ys : List RRow}, Ord xs → Ord ys → Can xs → Can ys → (∀ p, tb xs p = tb ys p) → xs = ys
  | [], [], _, _, _, _, _ => rfl
  | [], y :: ys, _, o, _, _, h => by
    have k := h y.s
    rw [tb_mem o List.mem_cons_self (Int.le_refl _) (o.1 y List.mem_cons_self)] at k
    cases k
  | x :: xs, [], o, _, _, _, h => by
    have k := h x.s
    rw [tb_mem o List.mem_cons_self (Int.le_refl _) (o.1 x List.mem_cons_self)] at k
    cases k
  | x :: xs, y :: ys, o, o', c, c', h => by
    have x0 := o.1 x List.mem_cons_self
    have y0 := o'.1 y List.mem_cons_self
    have p := List.pairwise_cons.mp o.2
    have p' := List.pairwise_cons.mp o'.2
    have q := List.pairwise_cons.mp c
    have q' := List.pairwise_cons.mp c'
    have low : ∀ {u v : RRow} {us vs : List RRow}, Ord (u :: us) → Ord (v :: vs) → (∀ p, tb (u :: us) p = tb (v :: vs) p) → v.s ≤ u.s := fun {u v us vs} ou ov hh => by
      have k := hh u.s
      rw [tb_mem ou List.mem_cons_self (Int.le_refl _) (ou.1 u List.mem_cons_self)] at k
      obtain ⟨w, hw, w0, _, _⟩ := tb_some k.symm
      rcases List.mem_cons.mp hw with rfl | hw
      · exact w0
      · have := (List.pairwise_cons.mp ov.2).1 w hw
        have := ov.1 v List.mem_cons_self
        omega
    have es : x.s = y.s := Int.le_antisymm (low o' o (fun p => (h p).symm)) (low o o' h)
    have em : x.m = y.m := by
      have k := h x.s
      rw [tb_mem o List.mem_cons_self (Int.le_refl _) x0, es, tb_mem o' List.mem_cons_self (Int.le_refl _) y0, at_start, ← es, at_start] at k
      exact Option.some.inj k
    have ea : ∀ p, x.at' p = y.at' p := fun p => by
      unfold RRow.at'
      rw [em, es]
    have fin : ∀ {u v : RRow} {us vs : List RRow}, Ord (u :: us) → Ord (v :: vs) → Can (u :: us) → (∀ p, tb (u :: us) p = tb (v :: vs) p) → u.s = v.s → (∀ p, u.at' p = v.at' p) → ¬ u.e < v.e := fun {u v us vs} ou ov cu hh e1 e2 z => by
      have u0 := ou.1 u List.mem_cons_self
      have k := hh u.e
      rw [tb_mem ov List.mem_cons_self (by omega) z] at k
      obtain ⟨w, hw, w0, w1, w2⟩ := tb_some k
      rcases List.mem_cons.mp hw with rfl | hw
      · omega
      · have := (List.pairwise_cons.mp ou.2).1 w hw
        have we : w.s = u.e := by omega
        refine (List.pairwise_cons.mp cu).1 w hw ⟨we.symm, ?_⟩
        rw [e2, we, ← w2, ← we, at_start]
    have ee : x.e = y.e := by
      have k1 := fin o o' c h es ea
      have k2 := fin o' o c' (fun p => (h p).symm) es.symm (fun p => (ea p).symm)
      omega
    have exy : x = y := by
      obtain ⟨a, b, d⟩ := x
      obtain ⟨a', b', d'⟩ := y
      cases es
      cases em
      cases ee
      rfl
    subst exy
    have ox : Ord xs := ⟨fun z hz => o.1 z (List.mem_cons_of_mem _ hz), p.2⟩
    have oy : Ord ys := ⟨fun z hz => o'.1 z (List.mem_cons_of_mem _ hz), p'.2⟩
    rw [rows_uniq ox oy q.2 q'.2 fun t => ?_]
    by_cases ct : x.s ≤ t ∧ t < x.e
    · rw [tb_none fun z hz => ?_, tb_none fun z hz => ?_]
      · have := p'.1 z hz
        omega
      · have := p.1 z hz
        omega
    · have k := h t
      unfold tb at k
      rw [if_neg ct, if_neg ct] at k
      exact k
/-- a page begins a row if and only if it does not continue the page before it -/
theorem row_start {xs : List RRow} (o : Ord xs) (c : Can xs) {p : Int} {m : RMark} (h : tb xs p = some m) : (∃ x ∈ xs, x.s = p) ↔ ∀ m', tb xs (p - 1) = some m' → m'.after 1 ≠ m := by
  obtain ⟨x, hx, x0, x1, x2⟩ := tb_some h
  constructor
  · rintro ⟨y, hy, rfl⟩ m' h' g
    obtain ⟨z, hz, z0, z1, z2⟩ := tb_some h'
    have yl := o.1 y hy
    have k := tb_mem o hy (Int.le_refl _) yl
    rw [h] at k
    have em := Option.some.inj k
    rw [at_start] at em
    have gz : z.at' y.s = y.m := by
      rw [← em, ← g, ← z2]
      have := at_sum z (y.s - 1) y.s
      rw [show y.s - (y.s - 1) = 1 by omega] at this
      exact this.symm
    have dis : ∀ u ∈ xs, ∀ v ∈ xs, u.s < v.s → u.e ≤ v.s := fun u hu v hv lt => by
      obtain ⟨i, hi, rfl⟩ := List.mem_iff_getElem.mp hu
      obtain ⟨j, hj, rfl⟩ := List.mem_iff_getElem.mp hv
      rcases Nat.lt_trichotomy i j with k | k | k
      · exact List.pairwise_iff_getElem.mp o.2 i j hi hj k
      · subst k
        omega
      · have := List.pairwise_iff_getElem.mp o.2 j i hj hi k
        have := o.1 _ (List.getElem_mem hj)
        omega
    have ze : z.e = y.s := by
      have := dis z hz y hy (by omega)
      omega
    obtain ⟨i, hi, ei⟩ := List.mem_iff_getElem.mp hz
    obtain ⟨j, hj, ej⟩ := List.mem_iff_getElem.mp hy
    have ij : i < j := by
      rcases Nat.lt_trichotomy i j with k | k | k
      · exact k
      · subst k
        rw [ei] at ej
        subst ej
        omega
      · have := List.pairwise_iff_getElem.mp o.2 j i hj hi k
        rw [ej, ei] at this
        have := o.1 z hz
        omega
    have g' := List.pairwise_iff_getElem.mp c i j hi hj ij
    rw [ei, ej] at g'
    exact g' ⟨ze, gz⟩
  · intro k
    by_cases e : x.s = p
    · exact ⟨x, hx, e⟩
    · exfalso
      refine k _ (tb_mem o hx (by omega) (by omega)) ?_
      rw [← x2]
      have := at_sum x (p - 1) p
      rw [show p - (p - 1) = 1 by omega] at this
      exact this

section

-- a condition of an operator
local macro_rules | `(tactic| walk_at "cond") => `(tactic| first
  | (show (0 : Int) < _; omega)
  | (show CDiv _ _; constructor <;> (first | decide | omega))
  | (show CMul _ _; first | (refine cmul_l ?_; constructor <;> (first | decide | omega)) | (refine cmul_r ?_; constructor <;> (first | decide | omega)))
  | (show CPow _ _; exact (by refine ⟨by decide, by decide, by decide⟩))
  | (show CDivW _ _; exact ⟨by decide, by decide +kernel⟩))
local macro_rules | `(tactic| walk_at "sq") => `(tactic| first | assumption | exact Dh.mono (same_upd (by assumption)) _ _ (by assumption) | exact .inl (.inl (.inl (by assumption))) | exact .inr (.inl (.inl (by assumption))) | exact SqL.of (by assumption) | exact .inl (by assumption) | exact .inl (SqL.of (by assumption)) | exact SqT.of (by assumption) | exact .inr (SqT.of (by assumption)))
local macro_rules | `(tactic| walk_at "st") => `(tactic| first
  | refine ⟨_, rfl, ?_⟩
  | refine ⟨_, _, rfl, rfl, ?_⟩
  | refine .inl ⟨_, rfl, ?_⟩
  | refine ⟨rfl, ?_⟩
  | refine ⟨_, _, rfl, by walk_at "sq", ?_⟩
  | refine ⟨.inl ⟨rfl, _, SqL.of (by assumption)⟩, ?_⟩
  | refine ⟨by walk_at "cond", ?_⟩
  | (refine' ifBT ?hh ?_; (case hh => first | rfl | assumption))
  | (refine' ifBF ?hh ?_; (case hh => first | rfl | assumption)))
local macro_rules | `(tactic| walk_at "go") => `(tactic| repeat walk_at "st")
local macro_rules | `(tactic| walk_at "yes") => `(tactic| (refine' ifT ?hh ?_; (case hh => first | rfl | decide +kernel)))
local macro_rules | `(tactic| walk_at "no") => `(tactic| (refine' ifF ?hh ?_; (case hh => first | decide +kernel | (intro z; cases z; done))))

/-! ### _law_number -/
/-- n times // 1000 -/
def itd : Nat → Int → Int
  | 0, r => r
  | n + 1, r => itd n r / 1000
theorem itd_zero : ∀ n, itd n 0 = 0
  | 0 => rfl
  | n + 1 => by
    show itd n 0 / 1000 = 0
    rw [itd_zero n]
    rfl
theorem itd_add (r : Int) (h : itd n r = 0) : ∀ m, itd (n + m) r = 0
  | 0 => h
  | m + 1 => by
    show itd (n + m) r / 1000 = 0
    rw [itd_add r h m]
    rfl
theorem itd_nn {r : Int} (h : 0 ≤ r) : ∀ n, 0 ≤ itd n r
  | 0 => h
  | n + 1 => Int.ediv_nonneg (itd_nn h n) (by decide)
def nCell (ns : List Int) (i : Int) : Int := if ns.length = 0 then 0 else (ns.getD (i % (ns.length : Int)).toNat 0).natAbs
def nTurn (ns : List Int) (i : Int) : Int := if ns.length = 0 then i else i / (ns.length : Int)
def nPick (ns : List Int) (i k : Int) : Int := k + 16 * nTurn ns i
def nMix (c p : Int) : Int :=
  let a := (c + 7919 * p + 13) % 2147483647
  let b := (a * (a + 48271)) % 2147483629
  (b * (b + 69621) + 31 * p) % 2147483647
def num (ns : List Int) (i k size : Int) : Int :=
  let c := nCell ns i
  let p := nPick ns i k
  if c ≥ 10 ^ 18 then
    if itd p.toNat (c / 10 ^ 18) > 0 then itd p.toNat (c / 10 ^ 18) % 1000 % size else nMix c p / 9 % size
  else nMix c p / 9 % size
theorem num_nn {ns : List Int} {i k size : Int} (h : 0 < size) : 0 ≤ num ns i k size := by
  unfold num
  dsimp only
  split
  · split
    · exact Int.emod_nonneg _ (by omega)
    · exact Int.emod_nonneg _ (by omega)
  · exact Int.emod_nonneg _ (by omega)
theorem num_lt {ns : List Int} {i k size : Int} (h : 0 < size) : num ns i k size < size := by
  unfold num
  dsimp only
  split
  · split
    · exact Int.emod_lt_of_pos _ h
    · exact Int.emod_lt_of_pos _ h
  · exact Int.emod_lt_of_pos _ h
def spNum (K : PySem.W.Frag) : Sp := fun vs H Q _ => ∃ (a : Addr) (ns : List Int) (i k size : Int), vs = [.ref a, .int i, .int k, .int size] ∧ SqL K H a (ns.map V.int) ∧ ns.length ≤ 63 ∧
  0 ≤ i ∧ i ≤ 1000000000 ∧ 0 ≤ k ∧ k ≤ 1000000000 ∧ 0 < size ∧ Q (.int (num ns i k size)) H

abbrev s_number : Stmt := topS 30
theorem sc_number : FnScope ["_law_script", "_law_at", "_law_k", "_law_size", "_law_cell", "_law_turn", "_law_pick", "_law_rest", "_law_step", "_law_mixed"] ["_law_script", "_law_at", "_law_k", "_law_size"] (C8.fnScope s_number) := C8.fnScope_by (by decide +kernel)
section
variable {P : Program} {w : World} {K : PySem.W.Frag} {mg : Str → Option Value} {base : Heap}
theorem ok_number {f : Addr} {fd : FuncData} (D : Def K mg "_law_number" s_number f fd) (b : Binds K fd ["_law_script", "_law_at", "_law_k", "_law_size"] []) (T : Txt mg) : Cal P w K mg base 1 "_law_number" (spNum K) [] := by
  refine cal0 D b .nil sc_number (fun vs H Q E h => ?_) (fun cdv A outer s H vs Q E hr h => ?_)
  · obtain ⟨a, ns, i, k, size, rfl, _⟩ := h
    rfl
  obtain ⟨a, ns, i, k, size, rfl, hS, hl, i0, i1, k0, k1, hz, q⟩ := h
  refine ⟨_, (pss_cons (ps_set (i := 4) sc_number.nd rfl (.inl rfl) pe_int)
      (pss_cons (ps_set (i := 5) sc_number.nd rfl (.inl rfl) (pv 1))
      (pss_cons (ps_mk (ps_if (pt_cmpR op_gt (pe_callB (lenQ K rfl) (by rfl) T.len PySem.boot_len (pa_cons (pv 0) pa_nil)) pe_int (nomark _))
      (pss_cons (ps_set (i := 4) sc_number.nd rfl (.inl rfl) (pe_callB call_abs (by rfl) T.abs (by decide +kernel) (pa_cons (pe_ix (ixL K rfl) (pv 0) (pe_op op_mod (pe_callTy call_int1 (by rfl) T.int (by decide +kernel) (pa_cons (pv 1) pa_nil)) (pe_callB (lenQ K rfl) (by rfl) T.len PySem.boot_len (pa_cons (pv 0) pa_nil))) (fun _ _ => rfl)) pa_nil)))
      (pss_one (ps_set (i := 5) sc_number.nd rfl (.inl rfl) (pe_op op_fdiv (pv 1) (pe_callB (lenQ K rfl) (by rfl) T.len PySem.boot_len (pa_cons (pv 0) pa_nil))))))
      pss_nil))
      (pss_cons (ps_set (i := 6) sc_number.nd rfl (.inl rfl) (pe_op op_add (pv 2) (pe_op op_mul pe_int (pv 5))))
      (pss_cons (ps_mk (ps_if (pt_cmpR op_ge (pv 4) (pe_op op_pow pe_int pe_int) (nomark _))
      (pss_cons (ps_set (i := 7) sc_number.nd rfl (.inl rfl) (pe_op op_fdivW (pv 4) (pe_op op_pow pe_int pe_int)))
      (pss_cons (ps_mk (ps_for PassesOwn.never rfl (pi_range1 (by rfl) T.range (pa_cons (pv 6) pa_nil)) (pg_name (i := 8) sc_number.nd rfl (.inl rfl))
      (pss_cons (ps_mk (ps_if (pt_cmpR op_eq (pv 7) pe_int (nomark _))
      (pss_one ps_break)
      pss_nil))
      (pss_one (ps_set (i := 7) sc_number.nd rfl (.inl rfl) (pe_op op_fdiv (pv 7) pe_int))))))
      (pss_one (ps_mk (ps_if (pt_cmpR op_gt (pv 7) pe_int (nomark _))
      (pss_one (ps_ret (pe_op op_mod (pe_callTy call_int1 (by rfl) T.int (by decide +kernel) (pa_cons (pe_op op_mod (pe_callTy call_int1 (by rfl) T.int (by decide +kernel) (pa_cons (pv 7) pa_nil)) pe_int) pa_nil)) (pv 3))))
      pss_nil)))))
      pss_nil))
      (pss_cons (ps_set (i := 9) sc_number.nd rfl (.inl rfl) (pe_op op_mod (pe_callTy call_int1 (by rfl) T.int (by decide +kernel) (pa_cons (pe_op op_add (pe_op op_add (pv 4) (pe_op op_mul pe_int (pv 6))) pe_int) pa_nil)) pe_int))
      (pss_cons (ps_set (i := 9) sc_number.nd rfl (.inl rfl) (pe_op op_mod (pe_callTy call_int1 (by rfl) T.int (by decide +kernel) (pa_cons (pe_op op_mul (pv 9) (pe_op op_add (pv 9) pe_int)) pa_nil)) pe_int))
      (pss_cons (ps_set (i := 9) sc_number.nd rfl (.inl rfl) (pe_op op_mod (pe_callTy call_int1 (by rfl) T.int (by decide +kernel) (pa_cons (pe_op op_add (pe_op op_mul (pv 9) (pe_op op_add (pv 9) pe_int)) (pe_op op_mul pe_int (pv 6))) pa_nil)) pe_int))
      (pss_one (ps_ret (pe_op op_mod (pe_callTy call_int1 (by rfl) T.int (by decide +kernel) (pa_cons (pe_op op_fdiv (pv 9) pe_int) pa_nil)) (pv 3)))))))))))), ?_⟩
  have hml : (ns.map V.int).length = ns.length := List.length_map _
  have t0 : 0 ≤ nTurn ns i ∧ nTurn ns i ≤ 1000000000 := by
    unfold nTurn
    split
    · exact ⟨i0, i1⟩
    · exact ⟨Int.ediv_nonneg i0 (by omega), Int.le_trans (Int.ediv_le_self _ i0) i1⟩
  have p0 : 0 ≤ nPick ns i k ∧ nPick ns i k ≤ 17000000000 := by
    unfold nPick
    omega
  walk_at "go"
  refine jn (M := fun σ H' => ∃ c t : Int, c = nCell ns i ∧ t = nTurn ns i ∧ H' = H ∧ σ = [sR a, sI i, sI k, sI size, sI c, sI t, none, none, none, none]) ?_ (fun N kk => ?_)
  · rintro σ H' ⟨c, t, ec, et, rfl, rfl⟩
    walk_at "go"
    -- behind the pick
    have ep : k + 16 * t = nPick ns i k := by
      rw [et]
      rfl
    have c0 : 0 ≤ c := by
      rw [ec]
      unfold nCell
      split <;> omega
    have en : c < 10 ^ 18 ∨ ¬ itd (nPick ns i k).toNat (c / 10 ^ 18) > 0 → num ns i k size = nMix c (nPick ns i k) / 9 % size := fun h => by
      unfold num
      dsimp only
      rw [← ec]
      rcases h with h | h
      · rw [if_neg (by omega)]
      · split
        · rfl
        · rfl
    refine jn (M := fun σ H2 => H2 = H' ∧ (c < 10 ^ 18 ∨ ¬ itd (nPick ns i k).toNat (c / 10 ^ 18) > 0) ∧ ∃ y8 y9, σ = [sR a, sI i, sI k, sI size, sI c, sI t, sI (nPick ns i k), y8, y9, none]) ?_ (fun N kk => ?_)
    · rintro σ H2 ⟨rfl, hc, y8, y9, rfl⟩
      walk_at "go"
      have e := en hc
      unfold nMix at e
      dsimp only at e
      rw [e] at q
      exact q
    · walk_at "go"
      refine ifD (fun g => ?_) (fun g => ?_)
      · have g' : c ≥ 10 ^ 18 := g
        walk_at "go"
        have r0 : 0 ≤ c / 10 ^ 18 := Int.ediv_nonneg c0 (by decide)
        refine jn (M := fun σ H2 => H2 = H' ∧ ∃ y9, σ = [sR a, sI i, sI k, sI size, sI c, sI t, sI (nPick ns i k), sI (itd (nPick ns i k).toNat (c / 10 ^ 18)), y9, none]) ?_ (fun N2 k2 => ?_)
        · rintro σ H2 ⟨rfl, y9, rfl⟩
          refine un ?_
          walk_at "go"
          refine ifD (fun g2 => ?_) (fun g2 => ?_)
          · walk_at "go"
            have e : num ns i k size = itd (nPick ns i k).toNat (c / 10 ^ 18) % 1000 % size := by
              unfold num
              dsimp only
              rw [← ec, if_pos g', if_pos g2]
            rw [e] at q
            exact q
          · walk_at "go"
            exact kk _ _ ⟨rfl, .inr g2, _, _, rfl⟩
        · walk_at "go"
          refine ⟨(show -(2 ^ 62) ≤ k + 16 * t by omega), (show k + 16 * t < 2 ^ 62 by omega), for_range (lo := 0) (n := (k + 16 * t).toNat) (fun j σ H2 => Ob (H2 = H' ∧ ∃ y9, σ = [sR a, sI i, sI k, sI size, sI c, sI t, sI (nPick ns i k), sI (itd j (c / 10 ^ 18)), y9, none])) (ob ⟨rfl, none, ?_⟩) ?_ ?_⟩
          · rw [← ep]
            rfl
          · rintro j σ H2 hj h
            obtain ⟨rfl, y9, rfl⟩ := unob h
            refine un ?_
            walk_at "go"
            refine ifEq (fun z => ?_) (fun z => ?_)
            · walk_at "go"
              refine k2 _ _ ⟨rfl, sI (0 + (j : Int)), ?_⟩
              have z2 : itd (nPick ns i k).toNat (c / 10 ^ 18) = 0 := by
                have z3 := itd_add _ z ((nPick ns i k).toNat - j)
                rw [show j + ((nPick ns i k).toNat - j) = (nPick ns i k).toNat by omega] at z3
                exact z3
              rw [z2, ← z]
              rfl
            · walk_at "go"
              exact ob ⟨rfl, _, rfl⟩
          · rintro σ H2 h
            obtain ⟨rfl, y9, rfl⟩ := unob h
            refine k2 _ _ ⟨rfl, y9, ?_⟩
            rw [ep]
      · walk_at "go"
        have g' : ¬ c ≥ 10 ^ 18 := g
        refine kk _ _ ⟨rfl, .inl (by omega), none, none, ?_⟩
        rw [← ep]
        rfl
  · walk_at "go"
    refine ifD (fun c => ?_) (fun c => ?_)
    · walk_at "go"
      rw [hml] at c
      refine ⟨_, _, _, _, rfl, rfl, hS, atI_getD (Int.emod_nonneg _ (by omega)) (by rw [hml]; exact Int.emod_lt_of_pos _ (by omega)), ?_⟩
      walk_at "go"
      refine kk _ _ ⟨_, _, ?_, ?_, rfl, rfl⟩
      · unfold nCell
        rw [if_neg (show ¬ ns.length = 0 by omega)]
        simp only [hml]
        split
        · omega
        · omega
      · unfold nTurn
        rw [if_neg (by omega), hml]
    · walk_at "go"
      rw [hml] at c
      refine kk _ _ ⟨_, _, ?_, ?_, rfl, rfl⟩
      · unfold nCell
        rw [if_pos (by omega)]
      · unfold nTurn
        rw [if_pos (by omega)]
end

/-! ### _law_is_whole, _law_same -/
abbrev s_is_whole : Stmt := topS 31
theorem sc_is_whole : FnScope ["_law_told"] ["_law_told"] (C8.fnScope s_is_whole) := C8.fnScope_by (by decide +kernel)
abbrev s_same : Stmt := topS 32
theorem sc_same : FnScope ["_law_told", "_law_due", "_law_k"] ["_law_told", "_law_due"] (C8.fnScope s_same) := C8.fnScope_by (by decide +kernel)
def spWhole : Sp := fun vs H Q _ => ∃ (x : V) (d : PyData), vs = [x] ∧ Dh H d x ∧ Q (.bl (isI d)) H
def spSame (n : Nat) : Sp := fun vs H Q _ => ∃ (x y : V) (d e : PyData), vs = [x, y] ∧ Dh H d x ∧ Dh H e y ∧ Dle n e ∧ ∀ (b : Bool) (H' : Hp), (b = true ↔ d = e) → Same H H' → Q (.bl b) H'
section
variable {P : Program} {w : World} {K : PySem.W.Frag} {mg : Str → Option Value} {base : Heap}
theorem ok_whole {f : Addr} {fd : FuncData} (D : Def K mg "_law_is_whole" s_is_whole f fd) (b : Binds K fd ["_law_told"] []) (T : Txt mg) : Cal P w K mg base 1 "_law_is_whole" spWhole [] := by
  refine cal0 D b .nil sc_is_whole (fun vs H Q E h => ?_) (fun cdv A outer s H vs Q E hr h => ?_)
  · obtain ⟨x, d, rfl, _⟩ := h
    rfl
  obtain ⟨x, d, rfl, hx, q⟩ := h
  refine ⟨_, (pss_one (ps_ret (pe_and (pe_callB is_int (by rfl) T.isinstance (by decide +kernel) (pa_cons (pv 0) (pa_cons (pe_bltn (v := .ty "int") (by rfl) T.int (by decide +kernel) rfl) pa_nil))) (pe_one (pe_not (pe_callB is_bool (by rfl) T.isinstance (by decide +kernel) (pa_cons (pv 0) (pa_cons (pe_bltn (v := .ty "bool") (by rfl) T.bool (by decide +kernel) rfl) pa_nil)))))))), ?_⟩
  cases d <;> (walk_at "go"; exact q)
theorem ok_same_step {f : Addr} {fd : FuncData} (D : Def K mg "_law_same" s_same f fd) (b : Binds K fd ["_law_told", "_law_due"] []) (T : Txt mg) (c_is_whole : Cal P w K mg base 1 "_law_is_whole" spWhole []) {n : Nat}
    (c_same : Cal P w K mg base (n + 1) "_law_same" (spSame n) []) : Cal P w K mg base (n + 2) "_law_same" (spSame (n + 1)) [] := by
  refine cal0 D b .nil sc_same (fun vs H Q E h => ?_) (fun cdv A outer s H vs Q E hr h => ?_)
  · obtain ⟨x, y, d, e, rfl, _⟩ := h
    rfl
  obtain ⟨x, y, d, e, rfl, hx, hy, he, q⟩ := h
  refine ⟨_, (pss_cons (ps_mk (ps_if (pt_val (pe_callB is_lt (by rfl) T.isinstance (by decide +kernel) (pa_cons (pv 1) (pa_cons (pe_tup (pa_cons (pe_bltn (v := .ty "list") (by rfl) T.list (by decide +kernel) rfl) (pa_cons (pe_bltn (v := .ty "tuple") (by rfl) T.tuple (by decide +kernel) rfl) pa_nil))) pa_nil))))
      (pss_cons (ps_mk (ps_if (PW.pt (pw_or (pt_not (pt_val (pe_callB is_lt (by rfl) T.isinstance (by decide +kernel) (pa_cons (pv 0) (pa_cons (pe_tup (pa_cons (pe_bltn (v := .ty "list") (by rfl) T.list (by decide +kernel) rfl) (pa_cons (pe_bltn (v := .ty "tuple") (by rfl) T.tuple (by decide +kernel) rfl) pa_nil))) pa_nil))))) (pw_or1 (pt_cmpR op_ne (pe_callB is_list (by rfl) T.isinstance (by decide +kernel) (pa_cons (pv 0) (pa_cons (pe_bltn (v := .ty "list") (by rfl) T.list (by decide +kernel) rfl) pa_nil))) (pe_callB is_list (by rfl) T.isinstance (by decide +kernel) (pa_cons (pv 1) (pa_cons (pe_bltn (v := .ty "list") (by rfl) T.list (by decide +kernel) rfl) pa_nil))) (nomark _)))))
      (pss_one (ps_ret pe_bl))
      pss_nil))
      (pss_cons (ps_mk (ps_if (pt_cmpR op_ne (pe_callB (lenQ K rfl) (by rfl) T.len PySem.boot_len (pa_cons (pv 0) pa_nil)) (pe_callB (lenQ K rfl) (by rfl) T.len PySem.boot_len (pa_cons (pv 1) pa_nil)) (nomark _))
      (pss_one (ps_ret pe_bl))
      pss_nil))
      (pss_one (ps_ret (pe_cmpR op_eq (pe_callB (lenQ K rfl) (by rfl) T.len PySem.boot_len (pa_cons (pe_lc (own := [("_law_k", 2)]) (g := gName 2) rfl sc_same.nd (pi_range1 (by rfl) T.range (pa_cons (pe_callB (lenQ K rfl) (by rfl) T.len PySem.boot_len (pa_cons (pv 1) pa_nil)) pa_nil)) (blkOk_by (own := [("_law_k", 2)]) (N := ["_law_told", "_law_due", "_law_k"]) (sc := C8.fnScope s_same) (by decide +kernel)) (fun _ _ _ _ _ => (pg_name (i := 2) sc_same.nd rfl (.inl rfl))) (fun _ _ _ _ _ => (pts_one (pt_not (pt_val (C8.pe_c c_same hr (by omega) (by rfl) (pa_cons (pe_ix (ixA K rfl) (pv 0) (pv 2) (fun _ _ => rfl)) (pa_cons (pe_ix (ixA K rfl) (pv 1) (pv 2) (fun _ _ => rfl)) pa_nil))))))) (fun _ _ _ _ _ => (pv 2))) pa_nil)) pe_int (nomark _))))))
      pss_nil))
      (pss_cons (ps_mk (ps_if (pt_val (pe_callB is_bool (by rfl) T.isinstance (by decide +kernel) (pa_cons (pv 1) (pa_cons (pe_bltn (v := .ty "bool") (by rfl) T.bool (by decide +kernel) rfl) pa_nil))))
      (pss_one (ps_ret (pe_and (pe_callB is_bool (by rfl) T.isinstance (by decide +kernel) (pa_cons (pv 0) (pa_cons (pe_bltn (v := .ty "bool") (by rfl) T.bool (by decide +kernel) rfl) pa_nil))) (pe_one (pe_cmpR op_eq (pv 0) (pv 1) (nomark _))))))
      pss_nil))
      (pss_cons (ps_mk (ps_if (pt_val (pe_callB is_int (by rfl) T.isinstance (by decide +kernel) (pa_cons (pv 1) (pa_cons (pe_bltn (v := .ty "int") (by rfl) T.int (by decide +kernel) rfl) pa_nil))))
      (pss_one (ps_ret (pe_and (C8.pe_c c_is_whole hr (by omega) (by rfl) (pa_cons (pv 0) pa_nil)) (pe_one (pe_cmpR op_eq (pv 0) (pv 1) (nomark _))))))
      pss_nil))
      (pss_cons (ps_mk (ps_if (pt_val (pe_callB is_str (by rfl) T.isinstance (by decide +kernel) (pa_cons (pv 1) (pa_cons (pe_bltn (v := .ty "str") (by rfl) T.str (by decide +kernel) rfl) pa_nil))))
      (pss_one (ps_ret (pe_and (pe_callB is_str (by rfl) T.isinstance (by decide +kernel) (pa_cons (pv 0) (pa_cons (pe_bltn (v := .ty "str") (by rfl) T.str (by decide +kernel) rfl) pa_nil))) (pe_one (pe_cmpR op_eq (pv 0) (pv 1) (nomark _))))))
      pss_nil))
      (pss_one (ps_ret (pe_and (pe_cmpR op_isN (pv 0) pe_non (nomark _)) (pe_one (pe_cmpR op_isN (pv 1) pe_non (nomark _)))))))))), ?_⟩
  refine jn (M := fun σ H' => Same H H' ∧ σ = [some x, some y, none] ∧ (isL e || isT e) = false) ?_ (fun N kk => ?_)
  · rintro σ H1 ⟨s1, rfl, hf⟩
    have hx1 := Dh.mono s1 _ _ hx
    have hy1 := Dh.mono s1 _ _ hy
    clear hx hy he
    cases e with
    | list es => cases hf
    | tuple es => cases hf
    | dict kvs => exact False.elim hy1
    | none =>
      cases (show y = V.non from hy1)
      cases d
      case dict => exact False.elim hx1
      all_goals first | (obtain ⟨_, _, e1, _, _⟩ := id hx1; cases e1) | (cases (show x = _ from hx1))
      all_goals repeat (first | refine un ?_ | walk_at "st")
      all_goals exact q _ _ (by simp) s1
    | bool c =>
      cases (show y = V.bl c from hy1)
      cases d
      case dict => exact False.elim hx1
      all_goals first | (obtain ⟨_, _, e1, _, _⟩ := id hx1; cases e1) | (cases (show x = _ from hx1))
      all_goals repeat (first | refine un ?_ | walk_at "st")
      all_goals exact q _ _ (by simp) s1
    | int c =>
      cases (show y = V.int c from hy1)
      cases d
      case dict => exact False.elim hx1
      all_goals first | (obtain ⟨_, _, e1, _, _⟩ := id hx1; cases e1) | (cases (show x = _ from hx1))
      all_goals repeat (first | refine un ?_ | walk_at "st")
      all_goals first | exact q _ _ (by simp) s1 | skip
      all_goals refine ⟨_, _, rfl, hx1, ?_⟩
      all_goals repeat (first | refine un ?_ | walk_at "st")
      all_goals exact q _ _ (by simp) s1
    | str c =>
      cases (show y = V.str c from hy1)
      cases d
      case dict => exact False.elim hx1
      all_goals first | (obtain ⟨_, _, e1, _, _⟩ := id hx1; cases e1) | (cases (show x = _ from hx1))
      all_goals repeat (first | refine un ?_ | walk_at "st")
      all_goals exact q _ _ (by simp) s1
  · walk_at "go"
    refine ⟨sz, fun p hp => ?_⟩
    refine ⟨_, _, _, rfl, upd_same, Dh.mono (same_upd hp) _ _ hy, ?_⟩
    walk_at "go"
    have s1 : Same H (upd H p (.tup [.ty "list", .ty "tuple"])) := same_upd hp
    have hx1 := Dh.mono s1 _ _ hx
    have hy1 := Dh.mono s1 _ _ hy
    cases hf : (isL e || isT e) with
    | false =>
      refine ifBF rfl ?_
      exact kk _ _ ⟨s1, rfl, hf⟩
    | true =>
      refine ifBT rfl ?_
      generalize upd H p (HO.tup [V.ty "list", V.ty "tuple"]) = H1 at *
      clear hx hy kk hp
      walk_at "go"
      refine jn (M := fun σ H2 => Same H1 H2 ∧ ∃ a c xs ys ds es, σ = [sR a, sR c, none] ∧ (SqL K H2 a xs ∨ SqT K H2 a xs) ∧ (SqL K H2 c ys ∨ SqT K H2 c ys) ∧ DhAll H2 ds xs ∧ DhAll H2 es ys ∧ es.length ≤ 100000 ∧ (∀ e' ∈ es, Dle n e') ∧ (d = e ↔ ds = es)) ?_ (fun N2 k2 => ?_)
      · rintro σ H2 ⟨s2, a, c, xs, ys, ds, es, rfl, hA, hC, hds, hes, hlen, hle, hiff⟩
        have lx := hds.len
        have ly := hes.len
        walk_at "go"
        refine jn (M := fun σ H3 => H3 = H2 ∧ σ = [sR a, sR c, none] ∧ ds.length = es.length) ?_ (fun N3 k3 => ?_)
        · rintro σ H3 ⟨rfl, rfl, el⟩
          walk_at "go"
          refine ⟨by omega, by omega, fun L hL => lc_range (lo := 0) (n := ((ys.length : Nat) : Int).toNat)
            (fun i H' => Ob (Same H3 H' ∧ ∃ acc, H' L = some (.lst acc) ∧ acc.length ≤ i ∧ (acc = [] ↔ ds.take i = es.take i))) (ob ⟨same_upd hL, [], upd_same, Nat.le_refl _, by simp⟩) ?_ ?_⟩
          · intro i H4 hi h4
            obtain ⟨s4, acc, g4, l4, e4⟩ := unob h4
            have hi2 : i < es.length := by omega
            have hi3 : i < ds.length := by omega
            obtain ⟨xv, ex, dx⟩ := hds.get (List.getElem?_eq_getElem hi3)
            obtain ⟨yv, ey, dy⟩ := hes.get (List.getElem?_eq_getElem hi2)
            have tk := take_succ_eq (List.getElem?_eq_getElem hi3) (List.getElem?_eq_getElem hi2)
            have ax : atI xs (0 + (i : Int)) = some xv := by
              rw [Int.zero_add]
              exact atI_nat ex
            have ay : atI ys (0 + (i : Int)) = some yv := by
              rw [Int.zero_add]
              exact atI_nat ey
            refine ⟨rfl, ?_⟩
            walk_at "go"
            refine ixAny (sqAny s4 hA) ax ?_
            walk_at "go"
            refine ixAny (sqAny s4 hC) ay ?_
            walk_at "go"
            refine ⟨_, _, _, _, rfl, Dh.mono s4 _ _ dx, Dh.mono s4 _ _ dy, hle _ (List.getElem_mem hi2), fun b5 H5 hb s5 => ?_⟩
            walk_at "go"
            refine ifN ?_
            cases b5 with
            | true =>
              refine ifBT rfl (ob ⟨s4.trans s5, acc, s5 _ _ g4, Nat.le_succ_of_le l4, ?_⟩)
              rw [e4, tk]
              exact ⟨fun z => ⟨z, hb.mp rfl⟩, fun z => z.1⟩
            | false =>
              refine ifBF rfl ?_
              walk_at "go"
              refine ⟨acc, s5 _ _ g4, sz5 (by omega), ob ⟨same_put (s4.trans s5) hL, _, upd_same, ?_, ?_⟩⟩
              · rw [List.length_append]
                exact Nat.add_le_add_right l4 1
              · constructor
                · intro z
                  exact absurd (congrArg List.length z) (by rw [List.length_append]; simp)
                · intro z
                  exact absurd (hb.mpr (tk.mp z).2) Bool.false_ne_true
          · intro H4 h4
            obtain ⟨s4, acc, g4, l4, e4⟩ := unob h4
            walk_at "go"
            refine q _ _ ?_ ((s1.trans s2).trans s4)
            rw [hiff]
            have et : ((ys.length : Nat) : Int).toNat = es.length := by omega
            rw [et, List.take_of_length_le (by omega), List.take_of_length_le (Nat.le_refl _)] at e4
            rw [← e4, decide_eq_true_iff]
            constructor
            · intro z
              have z2 := V.int.inj z
              exact List.eq_nil_of_length_eq_zero (by omega)
            · intro z
              rw [z]
              rfl
        · walk_at "go"
          refine ifNe (fun z => ?_) (fun z => ?_)
          · walk_at "go"
            refine q _ _ ?_ (s1.trans s2)
            rw [hiff]
            constructor
            · intro h
              cases h
            · intro h
              rw [h] at lx
              omega
          · walk_at "go"
            exact k3 _ _ ⟨rfl, rfl, by omega⟩
      · walk_at "go"
        refine ⟨sz, fun p2 hp2 => ?_⟩
        have s2 : Same H1 (upd H1 p2 (HO.tup [V.ty "list", V.ty "tuple"])) := same_upd hp2
        refine ⟨_, _, _, rfl, upd_same, Dh.mono s2 _ _ hx1, ?_⟩
        have hx2 := Dh.mono s2 _ _ hx1
        have hy2 := Dh.mono s2 _ _ hy1
        walk_at "go"
        generalize upd H1 p2 (HO.tup [V.ty "list", V.ty "tuple"]) = H2 at *
        clear hp2
        cases e with
        | none => cases hf
        | bool _ => cases hf
        | int _ => cases hf
        | str _ => cases hf
        | dict kvs => cases hf
        | list es =>
          obtain ⟨c, ys, rfl, gy, hes⟩ := id hy2
          cases d
          case dict => exact False.elim hx2
          case list ds =>
            obtain ⟨a, xs, rfl, gx, hds⟩ := id hx2
            walk_at "go"
            exact k2 _ _ ⟨s2, _, _, _, _, ds, es, rfl, .inl (.inl (.inl gx)), .inl (.inl (.inl gy)), hds, hes, he.1, he.2, by simp⟩
          all_goals walk_at "go"
          all_goals exact q _ _ (by simp) (s1.trans s2)
        | tuple es =>
          obtain ⟨c, ys, rfl, gy, hes⟩ := id hy2
          cases d
          case dict => exact False.elim hx2
          case tuple ds =>
            obtain ⟨a, xs, rfl, gx, hds⟩ := id hx2
            walk_at "go"
            exact k2 _ _ ⟨s2, _, _, _, _, ds, es, rfl, .inr (.inl (.inl gx)), .inr (.inl (.inl gy)), hds, hes, he.1, he.2, by simp⟩
          all_goals walk_at "go"
          all_goals exact q _ _ (by simp) (s1.trans s2)
theorem ok_same {f : Addr} {fd : FuncData} (D : Def K mg "_law_same" s_same f fd) (b : Binds K fd ["_law_told", "_law_due"] []) (T : Txt mg) (c_is_whole : Cal P w K mg base 1 "_law_is_whole" spWhole []) :
    ∀ n, Cal P w K mg base (n + 1) "_law_same" (spSame n) []
  | 0 => by
    have no : ∀ vs H Q E, ¬ spSame 0 vs H Q E := fun vs H Q E h => by
      obtain ⟨x, y, d, e, _, _, _, h1, _⟩ := h
      exact h1
    exact ⟨f, fd, _, _, ⟨fun vs H Q E h => absurd h (no vs H Q E), fun A outer s H args us vs Q E _ _ _ _ h => absurd h (no vs H Q E)⟩, D.mgf, D.kp, b, .nil⟩
  | n + 1 => ok_same_step D b T c_is_whole (ok_same D b T c_is_whole n)
end

end

section

-- a condition of an operator
local macro_rules | `(tactic| walk_at "cond") => `(tactic| first
  | (show (0 : Int) < _; omega)
  | (show CDiv _ _; constructor <;> (first | decide | omega))
  | (show CMul _ _; first | (refine cmul_l ?_; constructor <;> (first | decide | omega)) | (refine cmul_r ?_; constructor <;> (first | decide | omega)))
  | (show CPow _ _; exact (by refine ⟨by decide, by decide, by decide⟩))
  | (show CDivW _ _; exact ⟨by decide, by decide +kernel⟩))
local macro_rules | `(tactic| walk_at "sq") => `(tactic| first | assumption | exact Dh.mono (same_upd (by assumption)) _ _ (by assumption) | exact .inl (.inl (.inl (by assumption))) | exact .inr (.inl (.inl (by assumption))) | exact SqL.of (by assumption) | exact .inl (by assumption) | exact .inl (SqL.of (by assumption)) | exact SqT.of (by assumption) | exact .inr (SqT.of (by assumption)))
local macro_rules | `(tactic| walk_at "st") => `(tactic| first
  | refine ⟨_, rfl, ?_⟩
  | refine ⟨_, _, rfl, rfl, ?_⟩
  | refine .inl ⟨_, rfl, ?_⟩
  | refine ⟨rfl, ?_⟩
  | refine ⟨_, _, rfl, by walk_at "sq", ?_⟩
  | refine ⟨.inl ⟨rfl, _, SqL.of (by assumption)⟩, ?_⟩
  | refine ⟨by walk_at "cond", ?_⟩
  | (refine' ifBT ?hh ?_; (case hh => first | rfl | assumption))
  | (refine' ifBF ?hh ?_; (case hh => first | rfl | assumption)))
local macro_rules | `(tactic| walk_at "go") => `(tactic| repeat walk_at "st")
local macro_rules | `(tactic| walk_at "yes") => `(tactic| (refine' ifT ?hh ?_; (case hh => first | rfl | decide +kernel)))
local macro_rules | `(tactic| walk_at "no") => `(tactic| (refine' ifF ?hh ?_; (case hh => first | decide +kernel | (intro z; cases z; done))))

local macro_rules | `(tactic| walk_at "st") => `(tactic| refine ⟨_, _, _, _, _, rfl, by assumption, by assumption, by omega, by omega, by omega, by omega, by omega, ?_⟩)
local macro_rules | `(tactic| walk_at "st") => `(tactic| refine ⟨_, _, _, _, _, rfl, Same.seq (by assumption) (by assumption), by assumption, by omega, by omega, by omega, by omega, by omega, ?_⟩)

/-! ### _law_file_names -/
abbrev s_file_names : Stmt := topS 37
theorem sc_file_names : FnScope ["_law_script", "_law_letters", "_law_many", "_law_base", "_law_step", "_law_first", "_law_k", "_law_second", "_law_spot", "_law_third", "_law_names", "_law_one"] ["_law_script"] (C8.fnScope s_file_names) := C8.fnScope_by (by decide +kernel)
def NmOk (x : Str) : Prop := PyData.canLay0 (.str x) = true ∧ x.length ≤ 1000
theorem strOk_app {x y : Str} (hx : PyData.strOk x = true) (hy : PyData.strOk y = true) : PyData.strOk (x ++ y) = true := by
  have h1 : x.cps.all (· < 0x110000) = true := hx
  have h2 : y.cps.all (· < 0x110000) = true := hy
  show (x ++ y).cps.all (· < 0x110000) = true
  rw [Str.cps_append, Array.all_append, h1, h2]
  rfl
theorem join_ok : ∀ {ys : List Str}, (∀ y ∈ ys, PyData.strOk y = true ∧ y.length = 1) → PyData.strOk (Str.join "" ys) = true ∧ (Str.join "" ys).length = ys.length
  | [], _ => ⟨by decide +kernel, by decide +kernel⟩
  | [x], h => ⟨(h x (by simp)).1, (h x (by simp)).2⟩
  | x :: z :: r, h => by
    have hx := h x (by simp)
    have ih := join_ok (ys := z :: r) fun y hy => h y (List.mem_cons_of_mem _ hy)
    show PyData.strOk (x ++ "" ++ Str.join "" (z :: r)) = true ∧ (x ++ "" ++ Str.join "" (z :: r)).length = _
    refine ⟨strOk_app (strOk_app hx.1 (by decide +kernel)) ih.1, ?_⟩
    rw [Str.length_append, Str.length_append, List.length_cons]
    have e : ("" : Str).length = 0 := by decide +kernel
    have h2 := hx.2
    have h3 := ih.2
    omega
theorem letter (j : Int) (h0 : 0 ≤ j) (h1 : j < 26) : ∃ c, atI ("abcdefghijklmnopqrstuvwxyz" : Str).cps.toList j = some c ∧ c < 0x110000 := by
  have hl : ("abcdefghijklmnopqrstuvwxyz" : Str).cps.toList.length = 26 := by decide +kernel
  have ha : ∀ c ∈ ("abcdefghijklmnopqrstuvwxyz" : Str).cps.toList, c < 0x110000 := by decide +kernel
  generalize ("abcdefghijklmnopqrstuvwxyz" : Str).cps.toList = l at *
  have e : j = ((j.toNat : Nat) : Int) := by omega
  have hj : j.toNat < l.length := by omega
  refine ⟨l[j.toNat], ?_, ha _ (List.getElem_mem hj)⟩
  have z := atI_nat (List.getElem?_eq_getElem hj)
  rw [← e] at z
  exact z
def Let (H : Hp) (a : Addr) : Prop := ∃ xs : List Int, H a = some (.lst (xs.map V.int)) ∧ (1 ≤ xs.length ∧ xs.length ≤ 30) ∧ ∀ x ∈ xs, 0 ≤ x ∧ x < 26
theorem Let.mono {H H' : Hp} {a : Addr} (h : Let H a) (s : Same H H') : Let H' a := by
  obtain ⟨xs, g, l, r⟩ := h
  exact ⟨xs, s _ _ g, l, r⟩
theorem set_ints (ns : List Int) (i : Nat) (v : Int) : (ns.map V.int).set i (.int v) = (ns.set i v).map V.int := by rw [List.map_set]
theorem ix_ok {n : Nat} {i : Int} (h0 : 0 ≤ i) (h1 : i < n) : ixN n i = some i.toNat := by
  unfold ixN
  rw [if_pos h0, if_pos h1]
def spFn (K : PySem.W.Frag) : Sp := fun vs H Q _ => ∃ (a : Addr) (ns : List Int), vs = [.ref a] ∧ SqL K H a (ns.map V.int) ∧ ns.length ≤ 63 ∧
  ∀ (r : Addr) (nm : List Str) (H' : Hp), Same H H' → nm.length = 3 → (∀ x ∈ nm, NmOk x ∧ 1 ≤ x.length) → H' r = some (.lst (nm.map V.str)) → Q (.ref r) H'
section
variable {P : Program} {w : World} {K : PySem.W.Frag} {mg : Str → Option Value} {base : Heap}
theorem ok_file_names {f : Addr} {fd : FuncData} (D : Def K mg "_law_file_names" s_file_names f fd) (b : Binds K fd ["_law_script"] []) (T : Txt mg) (c_number : Cal P w K mg base 1 "_law_number" (spNum K) []) : Cal P w K mg base 2 "_law_file_names" (spFn K) [] := by
  refine cal0 D b .nil sc_file_names (fun vs H Q E h => ?_) (fun cdv A outer s H vs Q E hr h => ?_)
  · obtain ⟨a, ns, rfl, _⟩ := h
    rfl
  obtain ⟨a, ns, rfl, ha, hl, q⟩ := h
  refine ⟨_, (pss_cons (ps_set (i := 1) sc_file_names.nd rfl (.inr rfl) pe_str)
      (pss_cons (ps_set (i := 2) sc_file_names.nd rfl (.inl rfl) (pe_op op_add pe_int (C8.pe_c c_number hr (by omega) (by rfl) (pa_cons (pv 0) (pa_cons pe_int (pa_cons pe_int (pa_cons pe_int pa_nil)))))))
      (pss_cons (ps_set (i := 3) sc_file_names.nd rfl (.inr rfl) (C8.pe_c c_number hr (by omega) (by rfl) (pa_cons (pv 0) (pa_cons pe_int (pa_cons pe_int (pa_cons pe_int pa_nil))))))
      (pss_cons (ps_set (i := 4) sc_file_names.nd rfl (.inr rfl) (C8.pe_c c_number hr (by omega) (by rfl) (pa_cons (pv 0) (pa_cons pe_int (pa_cons pe_int (pa_cons pe_int pa_nil))))))
      (pss_cons (ps_setLc (i := 5) (own := [("_law_k", 6)]) (g := gName 6) (tt := tYes) rfl sc_file_names.nd rfl rfl (sw_true rfl rfl rfl (by decide +kernel)) (pi_range1 (by rfl) T.range (pa_cons (pv 2) pa_nil)) (blkOk_by (own := [("_law_k", 6)]) (N := ["_law_script", "_law_letters", "_law_many", "_law_base", "_law_step", "_law_first", "_law_k", "_law_second", "_law_spot", "_law_third", "_law_names", "_law_one"]) (sc := C8.fnScope s_file_names) (by decide +kernel)) (fun _ _ _ _ _ => (pg_name (i := 6) sc_file_names.nd rfl (.inl rfl))) (fun _ _ _ _ _ => pts_nil) (fun _ _ _ _ _ => (pe_op op_mod (pe_callTy call_int1 (by rfl) T.int (by decide +kernel) (pa_cons (pe_op op_add (pv 3) (pe_op op_mul (pv 4) (pv 6))) pa_nil)) pe_int)))
      (pss_cons (ps_set (i := 7) sc_file_names.nd rfl (.inl rfl) (pe_callTy (listQ K rfl) (by rfl) T.list (by decide +kernel) (pa_cons (pv 5) pa_nil)))
      (pss_cons (ps_set (i := 8) sc_file_names.nd rfl (.inl rfl) (C8.pe_c c_number hr (by omega) (by rfl) (pa_cons (pv 0) (pa_cons pe_int (pa_cons pe_int (pa_cons (pv 2) pa_nil))))))
      (pss_cons (ps_asg (pe_op op_mod (pe_callTy call_int1 (by rfl) T.int (by decide +kernel) (pa_cons (pe_op op_add (pe_op op_add (pe_ix (ixL K rfl) (pv 5) (pv 8) (fun _ _ => rfl)) pe_int) (C8.pe_c c_number hr (by omega) (by rfl) (pa_cons (pv 0) (pa_cons pe_int (pa_cons pe_int (pa_cons pe_int pa_nil)))))) pa_nil)) pe_int) (pg_sub (pv 7) (pv 8) set_list))
      (pss_cons (ps_set (i := 9) sc_file_names.nd rfl (.inl rfl) (pe_op op_cat (pv 5) (pe_lst (pa_cons (pv 3) pa_nil))))
      (pss_cons (ps_mk (ps_if (pt_cmpR op_gt (pv 2) pe_int (nomark _))
      (pss_one (ps_set (i := 9) sc_file_names.nd rfl (.inl rfl) (pe_slice sl_list (pv 5) (po_some pe_int) po_none)))
      pss_nil))
      (pss_cons (ps_set (i := 10) sc_file_names.nd rfl (.inl rfl) (pe_lst pa_nil))
      (pss_cons (ps_mk (ps_for PassesOwn.never rfl (pi_list (pe_lst (pa_cons (pv 5) (pa_cons (pv 7) (pa_cons (pv 9) pa_nil))))) (pg_name (i := 11) sc_file_names.nd rfl (.inl rfl))
      (pss_one (ps_expr (pe_bm PySem.F.plainAttrs_list PySem.F.slot_list_append PySem.F.type_list_append mt_append (pv 10) (pa_cons (pe_join pe_str (pe_lc (own := [("_law_k", 6)]) (g := gName 6) (tt := tYes) rfl sc_file_names.nd (pi_list (pv 11)) (blkOk_by (own := [("_law_k", 6)]) (N := ["_law_script", "_law_letters", "_law_many", "_law_base", "_law_step", "_law_first", "_law_k", "_law_second", "_law_spot", "_law_third", "_law_names", "_law_one"]) (sc := C8.fnScope s_file_names) (by decide +kernel)) (fun _ _ _ _ _ => (pg_name (i := 6) sc_file_names.nd rfl (.inl rfl))) (fun _ _ _ _ _ => pts_nil) (fun _ _ _ _ _ => (pe_ix ix_str (pv 1) (pv 6) (fun _ _ => rfl))))) pa_nil))))))
      (pss_one (ps_ret (pv 10))))))))))))))), ?_⟩
  have n0 : 0 ≤ num ns 0 10 21 := num_nn (by decide)
  have n1 : num ns 0 10 21 < 21 := num_lt (by decide)
  walk_at "go"
  obtain ⟨mN, em⟩ : ∃ mN : Nat, 1 + num ns 0 10 21 = (mN : Int) := ⟨(1 + num ns 0 10 21).toNat, by omega⟩
  rw [em]
  have bs0 : 0 ≤ num ns 0 11 26 := num_nn (by decide)
  have bs1 : num ns 0 11 26 < 26 := num_lt (by decide)
  generalize num ns 0 11 26 = bs at *
  generalize num ns 0 12 26 = st at *
  walk_at "go"
  refine ⟨by omega, by omega, fun L1 nL1 => lc_range (lo := 0) (n := mN) (fun j H' => Ob (Same H H' ∧ ∃ xs : List Int, xs.length = j ∧ (∀ x ∈ xs, 0 ≤ x ∧ x < 26) ∧ H' L1 = some (.lst (xs.map V.int)))) (ob ⟨same_upd nL1, [], rfl, by simp, upd_same⟩) ?_ ?_⟩
  · intro j H2 hj h
    obtain ⟨s2, xs, lx, hx, g2⟩ := unob h
    clear h
    rw [Int.zero_add]
    walk_at "go"
    have b0 := Int.emod_nonneg (bs + st * (j : Int)) (show (26 : Int) ≠ 0 by decide)
    have b1 := Int.emod_lt_of_pos (bs + st * (j : Int)) (show (0 : Int) < 26 by decide)
    dsimp only
    generalize (bs + st * (j : Int)) % 26 = v at *
    refine ⟨_, g2, sz5 (by rw [List.length_map]; omega), ob ⟨same_put s2 nL1, xs ++ [v], by rw [List.length_append, lx]; rfl, fun x hx' => ?_, by rw [upd_same, List.map_append]; rfl⟩⟩
    rcases List.mem_append.mp hx' with e | e
    · exact hx x e
    · rw [List.mem_singleton.mp e]
      exact ⟨b0, b1⟩
  · intro H2 h
    obtain ⟨s2, xs, lx, hx, g2⟩ := unob h
    clear h
    have ha2 := s2.seq ha
    have lm : mN ≤ 21 := by omega
    have lm1 : 1 ≤ mN := by omega
    walk_at "go"
    intro L2 nL2
    have s3 := same_upd (o := HO.lst (xs.map V.int)) nL2
    have g3 := upd_same (H := H2) (a := L2) (o := HO.lst (xs.map V.int))
    have g13 := s3 _ _ g2
    have ha3 := s3.seq ha2
    have s3' := s2.trans s3
    generalize upd H2 L2 (HO.lst (xs.map V.int)) = H3 at *
    have p0 : 0 ≤ num ns 0 13 (1 + num ns 0 10 21) := num_nn (by omega)
    have p1 : num ns 0 13 (1 + num ns 0 10 21) < (1 + num ns 0 10 21) := num_lt (by omega)
    dsimp only
    rw [em] at p0 p1 ⊢
    walk_at "go"
    generalize num ns 0 13 (mN : Int) = sp at *
    refine ⟨L1, _, _, .int (xs.getD sp.toNat 0), rfl, rfl, SqL.of g13, atI_getD (by omega) (by omega), ?_⟩
    walk_at "go"
    have v0 := Int.emod_nonneg (xs.getD sp.toNat 0 + 1 + num ns 0 14 25) (show (26 : Int) ≠ 0 by decide)
    have v1 := Int.emod_lt_of_pos (xs.getD sp.toNat 0 + 1 + num ns 0 14 25) (show (0 : Int) < 26 by decide)
    dsimp only
    generalize (xs.getD sp.toNat 0 + 1 + num ns 0 14 25) % 26 = v at *
    refine ⟨L2, _, sp, _, rfl, rfl, g3, ix_ok p0 (by rw [List.length_map]; omega), ?_⟩
    rw [set_ints]
    have n12 : L1 ≠ L2 := ne_of_none g2 nL2
    have s4 := same_put (o := HO.lst ((xs.set sp.toNat v).map V.int)) s3' (s2.free nL2)
    have k1 : Let (upd H3 L2 (HO.lst ((xs.set sp.toNat v).map V.int))) L1 := ⟨xs, by rw [upd_ne n12]; exact g13, ⟨by omega, by omega⟩, hx⟩
    have k2 : Let (upd H3 L2 (HO.lst ((xs.set sp.toNat v).map V.int))) L2 := ⟨xs.set sp.toNat v, upd_same, by rw [List.length_set]; omega, fun y hy => by
      rcases List.mem_or_eq_of_mem_set hy with e | e
      · exact hx y e
      · rw [e]
        exact ⟨v0, v1⟩⟩
    have g14 : (upd H3 L2 (HO.lst ((xs.set sp.toNat v).map V.int))) L1 = some (.lst (xs.map V.int)) := by
      rw [upd_ne n12]
      exact g13
    show _
    generalize upd H3 L2 (HO.lst ((xs.set sp.toNat v).map V.int)) = H4 at *
    clear g2 g3 g13 ha2 ha3 s3 s3' s2
    walk_at "go"
    refine ⟨sz, fun L3 nL3 => ?_⟩
    have s5 := same_upd (o := HO.lst [V.int bs]) nL3
    have g5 := upd_same (H := H4) (a := L3) (o := HO.lst [V.int bs])
    show _
    generalize upd H4 L3 (HO.lst [V.int bs]) = H5 at *
    refine ⟨L1, L3, _, _, rfl, rfl, s5 _ _ g14, g5, Nat.le_of_lt (sz5 (by rw [List.length_map]; simp; omega)), fun L4 nL4 => ?_⟩
    have s6 := s5.trans (same_upd (o := HO.lst (xs.map V.int ++ [V.int bs])) nL4)
    have k4 : Let (upd H5 L4 (HO.lst (xs.map V.int ++ [V.int bs]))) L4 := ⟨xs ++ [bs], by rw [upd_same, List.map_append]; rfl, by rw [List.length_append, List.length_singleton]; omega, fun y hy => by
      rcases List.mem_append.mp hy with e | e
      · exact hx y e
      · rw [List.mem_singleton.mp e]
        exact ⟨bs0, bs1⟩⟩
    show _
    generalize upd H5 L4 (HO.lst (xs.map V.int ++ [V.int bs])) = H6 at *
    have k1 := k1.mono s6
    have k2 := k2.mono s6
    have g16 := s6 _ _ g14
    have s7 := s4.trans s6
    clear s4 s5 s6 g5 g14
    refine jnS (M := fun σ H' => Same H H' ∧ Let H' L1 ∧ Let H' L2 ∧ ∃ c, Let H' c ∧ σ = [sR a, sS "abcdefghijklmnopqrstuvwxyz", sI mN, sI bs, sI st, sR L1, none, sR L2, sI sp, sR c, none, none]) ?_ (fun N kk => ?_)
    rotate_left
    · walk_at "go"
      refine ifD (fun c => ?_) (fun c => ?_)
      · walk_at "go"
        intro L5 nL5
        have e := cut_hi (us := xs.map V.int) (b := 1)
        have e2 : cutV (xs.map V.int) (some 1) none = (xs.drop (min 1 (xs.map V.int).length)).map V.int := by
          rw [List.map_drop]
          exact e
        rw [e2]
        refine kk _ _ ⟨s7.trans (same_upd nL5), k1.mono (same_upd nL5), k2.mono (same_upd nL5), L5, ⟨_, upd_same, by rw [List.length_drop, List.length_map]; omega, fun y hy => hx y (List.mem_of_mem_drop hy)⟩, rfl⟩
      · exact kk _ _ ⟨s7, k1, k2, L4, k4, rfl⟩
    rintro σ H7 ⟨t7, z1, z2, c, z3, rfl⟩
    clear k1 k2 k4 g16 s7
    walk_at "go"
    refine ⟨sz, fun NL nNL => ?_⟩
    have s8 := same_upd (o := HO.lst []) nNL
    have g8 := upd_same (H := H7) (a := NL) (o := HO.lst [])
    generalize upd H7 NL (HO.lst []) = H8 at *
    refine jnS (M := fun σ H' => Same H7 H' ∧ ∃ (nm : List Str) (y6 y11 : Option V), nm.length = 3 ∧ (∀ x ∈ nm, NmOk x ∧ 1 ≤ x.length) ∧ H' NL = some (.lst (nm.map V.str)) ∧ σ = [sR a, sS "abcdefghijklmnopqrstuvwxyz", sI mN, sI bs, sI st, sR L1, y6, sR L2, sI sp, sR c, sR NL, y11]) ?_ (fun N kk => ?_)
    · rintro σ H9 ⟨s9, nm, y6, y11, l3, ok, g9, rfl⟩
      walk_at "go"
      exact q NL nm H9 (t7.trans s9) l3 ok g9
    walk_at "go"
    refine ⟨sz, fun W nW => ?_⟩
    have s9 := same_upd (o := HO.lst [V.ref L1, V.ref L2, V.ref c]) nW
    have gW := upd_same (H := H8) (a := W) (o := HO.lst [V.ref L1, V.ref L2, V.ref c])
    have nNW : NL ≠ W := ne_of_none g8 nW
    have g9 := s9 _ _ g8
    have s9' := s8.trans s9
    generalize upd H8 W (HO.lst [V.ref L1, V.ref L2, V.ref c]) = H9 at *
    walk_at "go"
    refine ⟨⟨_, SqL.of gW⟩, for_list (K := K) (a := W) (xs := [V.ref L1, V.ref L2, V.ref c]) (fun i σ H' => Ob (Same H7 H' ∧ H' W = some (.lst [V.ref L1, V.ref L2, V.ref c]) ∧ ∃ (nm : List Str) (y6 y11 : Option V), nm.length = i ∧ (∀ x ∈ nm, NmOk x ∧ 1 ≤ x.length) ∧ H' NL = some (.lst (nm.map V.str)) ∧ σ = [sR a, sS "abcdefghijklmnopqrstuvwxyz", sI mN, sI bs, sI st, sR L1, y6, sR L2, sI sp, sR c, sR NL, y11])) (ob ⟨s9', gW, [], none, none, rfl, by simp, g9, rfl⟩) (fun i σ H' _ h => SqL.of (unob h).2.1) ?_ ?_⟩
    · intro i v' σ H10 hi h
      obtain ⟨sA, gWA, nm, y6, y11, ln, ok, gN, rfl⟩ := unob h
      clear h
      have hv : ∃ o, v' = V.ref o ∧ Let H10 o := by
        have hm := List.mem_of_getElem? hi
        simp only [List.mem_cons, List.not_mem_nil, or_false] at hm
        rcases hm with e | e | e
        · exact ⟨_, e, z1.mono sA⟩
        · exact ⟨_, e, z2.mono sA⟩
        · exact ⟨_, e, z3.mono sA⟩
      obtain ⟨o, rfl, ys, go, yl, hy⟩ := hv
      have il := (List.getElem?_eq_some_iff.mp hi).1
      simp only [List.length_cons, List.length_nil] at il
      walk_at "go"
      refine ⟨⟨_, rfl⟩, ?_⟩
      walk_at "go"
      refine ⟨⟨_, SqL.of go⟩, fun D' nD => lc_list (K := K) (a := o) (xs := ys.map V.int) (fun i H' => Ob (Same H10 H' ∧ ∃ ss : List Str, ss.length = i ∧ (∀ x ∈ ss, PyData.strOk x = true ∧ x.length = 1) ∧ H' D' = some (.lst (ss.map V.str)))) (ob ⟨same_upd nD, [], rfl, by simp, upd_same⟩) (fun i H' _ h => SqL.of ((unob h).1 _ _ go)) ?_ ?_⟩
      · intro j y H11 hj h
        obtain ⟨sB, ss, ls, oks, gD⟩ := unob h
        clear h
        have hjl : j < ys.length := by
          have z := (List.getElem?_eq_some_iff.mp hj).1
          rw [List.length_map] at z
          exact z
        obtain rfl : y = .int ys[j] := by
          rw [List.getElem?_map, List.getElem?_eq_getElem hjl] at hj
          exact (Option.some.inj hj).symm
        have yb := hy _ (List.getElem_mem hjl)
        generalize ys[j] = yv at *
        obtain ⟨ch, ac, cc⟩ := letter yv yb.1 yb.2
        refine ⟨rfl, ?_⟩
        walk_at "go"
        refine ⟨_, _, ch, rfl, rfl, (by decide +kernel), ac, ?_⟩
        refine ⟨_, gD, sz5 (by rw [List.length_map]; omega), ob ⟨same_put sB nD, ss ++ [⟨#[ch]⟩], by rw [List.length_append, ls]; rfl, fun x hx' => ?_, by rw [upd_same, List.map_append]; rfl⟩⟩
        rcases List.mem_append.mp hx' with e | e
        · exact oks x e
        · rw [List.mem_singleton.mp e]
          refine ⟨?_, rfl⟩
          show (#[ch] : Array Nat).all (· < 0x110000) = true
          simpa using cc
      · intro H11 h
        obtain ⟨sB, ss, ls, oks, gD⟩ := unob h
        clear h
        rw [List.length_map] at ls
        have jo := join_ok oks
        have gN2 := sB _ _ gN
        have gW2 := sB _ _ gWA
        have sl : (ss.map (·.length)).sum + ss.length * ("" : Str).length ≤ 16777216 := by
          have e0 : ("" : Str).length = 0 := by decide +kernel
          have e1 : ∀ l : List Str, (∀ x ∈ l, PyData.strOk x = true ∧ x.length = 1) → (l.map (·.length)).sum ≤ l.length := by
            intro l
            induction l with
            | nil => intro _; exact Nat.le_refl _
            | cons x l ih =>
              intro h
              have h1 := (h x List.mem_cons_self).2
              have h2 := ih fun y hy => h y (List.mem_cons_of_mem _ hy)
              rw [List.map_cons, List.sum_cons, List.length_cons]
              omega
          have e2 := e1 ss oks
          rw [e0, Nat.mul_zero]
          omega
        refine ⟨_, D', ss, rfl, rfl, .inl (SqL.of gD), sl, ?_⟩
        walk_at "go"
        refine ⟨NL, _, _, rfl, rfl, gN2, sz5 (by rw [List.length_map]; omega), ?_⟩
        refine ob ⟨same_put (sA.trans sB) nNL, by rw [upd_ne nNW.symm]; exact gW2, nm ++ [Str.join "" ss], _, _, by rw [List.length_append, ln]; rfl, fun x hx' => ?_, by rw [upd_same, List.map_append]; exact congrArg (fun z => some (HO.lst (nm.map V.str ++ [V.str z]))) (TL.join_eq _ _), rfl⟩
        rcases List.mem_append.mp hx' with e | e
        · exact ok x e
        · rw [List.mem_singleton.mp e]
          exact ⟨⟨jo.1, by have := jo.2; omega⟩, by have := jo.2; omega⟩
    · intro σ H10 h
      obtain ⟨sA, gWA, nm, y6, y11, ln, ok, gN, rfl⟩ := unob h
      exact kk _ _ ⟨sA, nm, y6, y11, ln, ok, gN, rfl⟩
end

end

/-! ### a deed -/
inductive Deed where
  | un (lo hi : Int)
  | pr (lo hi : Int) (r : Str)
  | asg (lo hi : Int) (r f : Str) (i w : Int)
def Deed.t : Deed → List V
  | .un lo hi => [.str "unassign", .int lo, .int hi]
  | .pr lo hi r => [.str "protect", .int lo, .int hi, .str r]
  | .asg lo hi r f i w => [.str "assign", .int lo, .int hi, .str r, .str f, .int i, .int w]
def Deed.ok : Deed → Prop
  | .un lo hi => Far lo ∧ Far hi
  | .pr lo hi r => Far lo ∧ Far hi ∧ NmOk r
  | .asg lo hi r f i w => Far lo ∧ Far hi ∧ NmOk r ∧ NmOk f ∧ (w = 0 ∨ (w = 1 ∧ i = 0) ∨ (w = 2 ∧ f = "") ∨ (w = 3 ∧ f = "" ∧ i = 0))
theorem names_at {nm : List Str} {i : Int} (h0 : 0 ≤ i) (h1 : i < 3) (l : nm.length = 3) (ok : ∀ x ∈ nm, NmOk x) : ∃ x : Str, atI (nm.map V.str) i = some (.str x) ∧ NmOk x := by
  have e : i = ((i.toNat : Nat) : Int) := by omega
  have hj : i.toNat < nm.length := by omega
  refine ⟨nm[i.toNat], ?_, ok _ (List.getElem_mem hj)⟩
  have z := atI_nat (xs := nm.map V.str) (j := i.toNat) (v := .str nm[i.toNat]) (by rw [List.getElem?_map, List.getElem?_eq_getElem hj]; rfl)
  rw [← e] at z
  exact z

/-! ### a dictionary page -> mark, as the law keeps it -/
structure KOk (kvs : List (Key × V)) (n : Nat) : Prop where
  len : kvs.length ≤ n
  nd : (kvs.map (·.1)).Nodup
  ki : ∀ kv ∈ kvs, ∃ i : Int, kv.1 = .inl i
theorem KOk.le {kvs : List (Key × V)} {n m : Nat} (h : KOk kvs n) (l : n ≤ m) : KOk kvs m := ⟨Nat.le_trans h.len l, h.nd, h.ki⟩
theorem KOk.nil {n : Nat} : KOk [] n := ⟨Nat.zero_le _, List.nodup_nil, by simp⟩
theorem put_keys (kvs : List (Key × V)) (k : Key) (v : V) : (putK kvs k v).map (·.1) = if (kvs.any fun kv => decide (kv.1 = k)) = true then kvs.map (·.1) else kvs.map (·.1) ++ [k] := by
  unfold putK
  split
  · rw [List.map_map]
    refine List.map_congr_left fun kv _ => ?_
    show (if kv.1 = k then (kv.1, v) else kv).1 = kv.1
    split <;> rfl
  · rw [List.map_append]
    rfl
theorem KOk.put {kvs : List (Key × V)} {n : Nat} (h : KOk kvs n) (i : Int) (v : V) : KOk (putK kvs (.inl i) v) (n + 1) := by
  have e := put_keys kvs (.inl i) v
  refine ⟨?_, ?_, fun kv hkv => ?_⟩
  · have hl := h.len
    unfold putK
    split
    · rw [List.length_map]
      omega
    · rw [List.length_append, List.length_singleton]
      omega
  · rw [e]
    split
    · exact h.nd
    · rename_i c
      refine List.nodup_append.mpr ⟨h.nd, List.pairwise_singleton _ _, fun a ha b hb z => c ?_⟩
      rw [List.mem_singleton.mp hb] at z
      obtain ⟨kv, hkv, rfl⟩ := List.mem_map.mp ha
      exact List.any_eq_true.mpr ⟨kv, hkv, decide_eq_true z⟩
  · have hm : kv.1 ∈ (putK kvs (.inl i) v).map (·.1) := List.mem_map.mpr ⟨kv, hkv, rfl⟩
    rw [e] at hm
    split at hm
    · obtain ⟨kw, hkw, f⟩ := List.mem_map.mp hm
      rw [← f]
      exact h.ki kw hkw
    · rcases List.mem_append.mp hm with hm | hm
      · obtain ⟨kw, hkw, f⟩ := List.mem_map.mp hm
        rw [← f]
        exact h.ki kw hkw
      · exact ⟨i, List.mem_singleton.mp hm⟩
theorem KOk.drop {kvs : List (Key × V)} {n : Nat} (h : KOk kvs n) (k : Key) : KOk (dropK kvs k) n := by
  unfold dropK
  refine ⟨Nat.le_trans (List.length_filter_le _ _) h.len, ?_, fun kv hkv => h.ki kv (List.mem_filter.mp hkv).1⟩
  exact h.nd.sublist (List.Sublist.map _ List.filter_sublist)
structure DTab (H : Hp) (da : Addr) (T : Int → Option RMark) (n : Nat) : Prop where
  ex : ∃ kvs : List (Key × V), H da = some (.dK kvs) ∧ KOk kvs n ∧ ∀ p : Int, (T p = none → valV kvs (.inl p) = none) ∧ ∀ m, T p = some m → ∃ a, valV kvs (.inl p) = some (.ref a) ∧ H a = some (.tup (mV m))
theorem DTab.same {H H' : Hp} {da : Addr} {T : Int → Option RMark} {n : Nat} (h : DTab H da T n) (s : Same H H') : DTab H' da T n := by
  obtain ⟨kvs, g, l, t⟩ := h.ex
  refine ⟨kvs, s _ _ g, l, fun p => ⟨(t p).1, fun m e => ?_⟩⟩
  obtain ⟨a, e1, e2⟩ := (t p).2 m e
  exact ⟨a, e1, s _ _ e2⟩
theorem tup_put_d {H : Hp} {L : Addr} {kvs : List (Key × V)} {o : HO} (g : H L = some (.dK kvs)) : ∀ a us, H a = some (.tup us) → (upd H L o) a = some (.tup us) := fun a us e => by
  have ne : a ≠ L := fun z => by
    rw [z, g] at e
    cases e
  rw [upd_ne ne]
  exact e
/-- d[p] = a mark's tuple -/
theorem DTab.put {H : Hp} {da a : Addr} {T : Int → Option RMark} {n : Nat} {kvs : List (Key × V)} {p : Int} {m : RMark} (g : H da = some (.dK kvs)) (l : KOk kvs n) (t : ∀ q : Int, (T q = none → valV kvs (.inl q) = none) ∧ ∀ m, T q = some m → ∃ a, valV kvs (.inl q) = some (.ref a) ∧ H a = some (.tup (mV m)))
    (ga : H a = some (.tup (mV m))) : DTab (upd H da (.dK (putK kvs (.inl p) (.ref a)))) da (fun q => if q = p then some m else T q) (n + 1) := by
  refine ⟨_, upd_same, l.put p _, fun q => ?_⟩
  · by_cases c : q = p
    · subst c
      rw [if_pos rfl]
      refine ⟨fun z => (by cases z), fun m' z => ?_⟩
      cases z
      exact ⟨a, by rw [valV_put, if_pos rfl], tup_put_d g _ _ ga⟩
    · rw [if_neg c]
      have e : valV (putK kvs (.inl p) (.ref a)) (.inl q) = valV kvs (.inl q) := by rw [valV_put, if_neg (fun z => c (Sum.inl.inj z))]
      refine ⟨fun z => by rw [e]; exact (t q).1 z, fun m' z => ?_⟩
      obtain ⟨a', e1, e2⟩ := (t q).2 m' z
      exact ⟨a', by rw [e]; exact e1, tup_put_d g _ _ e2⟩
theorem valV_drop (k j : Key) : ∀ kvs : List (Key × V), valV (dropK kvs k) j = if j = k then none else valV kvs j
  | [] => by
    split <;> rfl
  | p :: r => by
    have ih := valV_drop k j r
    by_cases e : p.1 = k
    · rw [dropK_pos e, ih]
      by_cases c : j = k
      · rw [if_pos c, if_pos c]
      · rw [if_neg c, if_neg c, valV_neg (fun z => c (by rw [← z, e]))]
    · rw [dropK_neg e]
      by_cases c : j = k
      · rw [if_pos c, valV_neg (fun z => e (by rw [z, c])), ih, if_pos c]
      · rw [if_neg c]
        by_cases d : p.1 = j
        · rw [valV_pos d, valV_pos d]
        · rw [valV_neg d, valV_neg d, ih, if_neg c]
/-- d.pop(p) -/
theorem DTab.drop {H : Hp} {da : Addr} {T : Int → Option RMark} {n : Nat} {kvs : List (Key × V)} {p : Int} (g : H da = some (.dK kvs)) (l : KOk kvs n) (t : ∀ q : Int, (T q = none → valV kvs (.inl q) = none) ∧ ∀ m, T q = some m → ∃ a, valV kvs (.inl q) = some (.ref a) ∧ H a = some (.tup (mV m))) :
    DTab (upd H da (.dK (dropK kvs (.inl p)))) da (fun q => if q = p then none else T q) n := by
  refine ⟨_, upd_same, l.drop _, fun q => ?_⟩
  by_cases c : q = p
  · subst c
    rw [if_pos rfl]
    exact ⟨fun _ => (by rw [valV_drop, if_pos rfl]), fun m' z => (by cases z)⟩
  · rw [if_neg c]
    have e : valV (dropK kvs (.inl p)) (.inl q) = valV kvs (.inl q) := by rw [valV_drop, if_neg (fun z => c (Sum.inl.inj z))]
    refine ⟨fun z => by rw [e]; exact (t q).1 z, fun m' z => ?_⟩
    obtain ⟨a', e1, e2⟩ := (t q).2 m' z
    exact ⟨a', by rw [e]; exact e1, tup_put_d g _ _ e2⟩

/-! ### two objects at once -/
/-- an object that is neither a list nor a tuple -/
def Mut (H : Hp) (q : Addr) : Prop := (∀ us, H q ≠ some (.lst us)) ∧ ∀ us, H q ≠ some (.tup us)
theorem Mut.ins {H : Hp} {q C dx : Addr} {fs : List (Str × V)} (h : H q = some (.ins C dx fs)) : Mut H q := ⟨fun us z => (by rw [h] at z; cases z), fun us z => (by rw [h] at z; cases z)⟩
theorem Mut.dk {H : Hp} {q : Addr} {kvs : List (Key × V)} (h : H q = some (.dK kvs)) : Mut H q := ⟨fun us z => (by rw [h] at z; cases z), fun us z => (by rw [h] at z; cases z)⟩
theorem But.tup {H H' : Hp} {q a : Addr} {us : List V} (b : But H H' q) (m : Mut H q) (g : H a = some (.tup us)) : H' a = some (.tup us) := b a _ (fun z => m.2 us (by rw [← z]; exact g)) g
theorem But.lst {H H' : Hp} {q a : Addr} {us : List V} (b : But H H' q) (m : Mut H q) (g : H a = some (.lst us)) : H' a = some (.lst us) := b a _ (fun z => m.1 us (by rw [← z]; exact g)) g
theorem RegB.but {C : Addr} {H H' : Hp} {p ra dx q : Addr} {lim : Int} {us : List V} {xs : List RRow} (h : RegB C H p ra dx lim us xs) (b : But H H' q) (m : Mut H q) (ne : p ≠ q) : RegB C H' p ra dx lim us xs :=
  ⟨⟨b _ _ ne h.at_.g, b.lst m h.at_.r, rows_mono (fun a us g => b.tup m g) h.at_.d, h.at_.a, h.at_.ok, h.at_.n⟩, h.el, h.l0, h.l1⟩
theorem DTab.but {H H' : Hp} {da q : Addr} {T : Int → Option RMark} {n : Nat} (h : DTab H da T n) (b : But H H' q) (m : Mut H q) (ne : da ≠ q) : DTab H' da T n := by
  obtain ⟨kvs, g, l, t⟩ := h.ex
  refine ⟨kvs, b _ _ ne g, l, fun p => ⟨(t p).1, fun m' e => ?_⟩⟩
  obtain ⟨a, e1, e2⟩ := (t p).2 m' e
  exact ⟨a, e1, b.tup m e2⟩
theorem DTab.mut {H : Hp} {da : Addr} {T : Int → Option RMark} {n : Nat} (h : DTab H da T n) : Mut H da := by
  obtain ⟨kvs, g, _⟩ := h.ex
  exact Mut.dk g
theorem RegB.mut {C : Addr} {H : Hp} {p ra dx : Addr} {lim : Int} {us : List V} {xs : List RRow} (h : RegB C H p ra dx lim us xs) : Mut H p := Mut.ins h.at_.g
theorem reg_tab {C : Addr} {H : Hp} {p ra dx da : Addr} {lim : Int} {us : List V} {xs : List RRow} {T : Int → Option RMark} {n : Nat} (h : RegB C H p ra dx lim us xs) (d : DTab H da T n) : p ≠ da := fun z => by
  obtain ⟨kvs, g, _⟩ := d.ex
  have k := h.at_.g
  rw [z, g] at k
  cases k

section

-- a condition of an operator
local macro_rules | `(tactic| walk_at "cond") => `(tactic| first
  | (show (0 : Int) < _; omega)
  | (show CDiv _ _; constructor <;> (first | decide | omega))
  | (show CMul _ _; first | (refine cmul_l ?_; constructor <;> (first | decide | omega)) | (refine cmul_r ?_; constructor <;> (first | decide | omega)))
  | (show CPow _ _; exact (by refine ⟨by decide, by decide, by decide⟩))
  | (show CDivW _ _; exact ⟨by decide, by decide +kernel⟩))
local macro_rules | `(tactic| walk_at "sq") => `(tactic| first | assumption | exact Dh.mono (same_upd (by assumption)) _ _ (by assumption) | exact .inl (.inl (.inl (by assumption))) | exact .inr (.inl (.inl (by assumption))) | exact SqL.of (by assumption) | exact .inl (by assumption) | exact .inl (SqL.of (by assumption)) | exact SqT.of (by assumption) | exact .inr (SqT.of (by assumption)))
local macro_rules | `(tactic| walk_at "st") => `(tactic| first
  | refine ⟨_, rfl, ?_⟩
  | refine ⟨_, _, rfl, rfl, ?_⟩
  | refine .inl ⟨_, rfl, ?_⟩
  | refine ⟨rfl, ?_⟩
  | refine ⟨_, _, rfl, by walk_at "sq", ?_⟩
  | refine ⟨.inl ⟨rfl, _, SqL.of (by assumption)⟩, ?_⟩
  | refine ⟨by walk_at "cond", ?_⟩
  | (refine' ifBT ?hh ?_; (case hh => first | rfl | assumption))
  | (refine' ifBF ?hh ?_; (case hh => first | rfl | assumption)))
local macro_rules | `(tactic| walk_at "go") => `(tactic| repeat walk_at "st")
local macro_rules | `(tactic| walk_at "yes") => `(tactic| (refine' ifT ?hh ?_; (case hh => first | rfl | decide +kernel)))
local macro_rules | `(tactic| walk_at "no") => `(tactic| (refine' ifF ?hh ?_; (case hh => first | decide +kernel | (intro z; cases z; done))))

/-! ### _law_marks_do -/
abbrev s_marks_do : Stmt := topS 39
theorem sc_marks_do : FnScope ["_law_marks", "_law_deed", "_law_limit", "_law_low", "_law_high", "_law_page"] ["_law_marks", "_law_deed", "_law_limit"] (C8.fnScope s_marks_do) := C8.fnScope_by (by decide +kernel)
def Deed.lo : Deed → Int
  | .un lo _ => lo
  | .pr lo _ _ => lo
  | .asg lo _ _ _ _ _ => lo
def Deed.hi : Deed → Int
  | .un _ hi => hi
  | .pr _ hi _ => hi
  | .asg _ hi _ _ _ _ => hi
def Deed.fine (d : Deed) (lim : Int) : Prop := 0 ≤ d.lo ∧ d.lo < d.hi ∧ d.hi ≤ lim
/-- what the deed gives a page of its range -/
def Deed.at_ (T : Int → Option RMark) : Deed → Int → Option RMark
  | .un _ _ => fun _ => none
  | .pr _ _ r => fun p => (T p).map (setM r)
  | .asg lo _ r f i _ => fun p => some (if f = "" then ⟨r, "", 0⟩ else ⟨r, f, i + (p - lo)⟩)
def Deed.tab (d : Deed) (T : Int → Option RMark) : Int → Option RMark := tSetR T d.lo d.hi (d.at_ T)
def giveD : PyData := .tuple [.str "gives", .none]
def badD (lo hi : Int) : PyData := .tuple [.str "raises", .str "BadRange", .tuple [.int lo, .int hi]]
def unmD (g : Int) : PyData := .tuple [.str "raises", .str "Unmapped", .tuple [.int g]]
def Deed.isPr : Deed → Bool
  | .pr _ _ _ => true
  | _ => false
def spDo : Sp := fun vs H Q _ => ∃ (da ra : Addr) (d : Deed) (lim : Int) (T : Int → Option RMark) (n : Nat), vs = [.ref da, .ref ra, .int lim] ∧ DTab H da T n ∧ n ≤ 900000 ∧ lim ≤ 5000 ∧ H ra = some (.tup d.t) ∧ d.ok ∧
  (¬ d.fine lim → ∀ v H', Same H H' → Dh H' (badD d.lo d.hi) v → Q v H') ∧
  (d.fine lim → d.isPr = true → ∀ g, d.lo ≤ g → g < d.hi → T g = none → (∀ p, d.lo ≤ p → p < g → (T p).isSome = true) → ∀ v H', Same H H' → Dh H' (unmD g) v → Q v H') ∧
  (d.fine lim → (d.isPr = true → ∀ p, d.lo ≤ p → p < d.hi → (T p).isSome = true) → ∀ v H', But H H' da → DTab H' da (d.tab T) (n + 5000) → Dh H' giveD v → Q v H')
section
variable {P : Program} {w : World} {K : PySem.W.Frag} {mg : Str → Option Value} {base : Heap}
theorem tset_step (T : Int → Option RMark) (lo : Int) (j : Nat) (v : Int → Option RMark) : (fun q => if q = lo + (j : Int) then v (lo + (j : Int)) else tSetR T lo (lo + (j : Int)) v q) = tSetR T lo (lo + ((j + 1 : Nat) : Int)) v := by
  funext q
  unfold tSetR
  by_cases c : q = lo + (j : Int)
  · subst c
    rw [if_pos rfl, if_pos (by omega)]
  · rw [if_neg c]
    by_cases d : lo ≤ q ∧ q < lo + (j : Int)
    · rw [if_pos d, if_pos (by omega)]
    · rw [if_neg d, if_neg (by omega)]
theorem tset_now (T : Int → Option RMark) (lo : Int) (j : Nat) (v : Int → Option RMark) : tSetR T lo (lo + (j : Int)) v (lo + (j : Int)) = T (lo + (j : Int)) := if_neg (by omega)
theorem tset_no (T : Int → Option RMark) (lo : Int) (v : Int → Option RMark) : tSetR T lo (lo + ((0 : Nat) : Int)) v = T := by
  funext q
  exact if_neg (by omega)
theorem DTab.le {H : Hp} {da : Addr} {T : Int → Option RMark} {n m : Nat} (h : DTab H da T n) (l : n ≤ m) : DTab H da T m := by
  obtain ⟨kvs, g, k, t⟩ := h.ex
  exact ⟨kvs, g, k.le l, t⟩
theorem tab_mono {H H' : Hp} {T : Int → Option RMark} {kvs : List (Key × V)} (s : Same H H') (t : ∀ q : Int, (T q = none → valV kvs (.inl q) = none) ∧ ∀ m, T q = some m → ∃ a, valV kvs (.inl q) = some (.ref a) ∧ H a = some (.tup (mV m))) : ∀ q : Int, (T q = none → valV kvs (.inl q) = none) ∧ ∀ m, T q = some m → ∃ a, valV kvs (.inl q) = some (.ref a) ∧ H' a = some (.tup (mV m)) := fun q => ⟨(t q).1, fun m e => by
  obtain ⟨a, e1, e2⟩ := (t q).2 m e
  exact ⟨a, e1, s _ _ e2⟩⟩
theorem deed_lo (d : Deed) : atI d.t 1 = some (.int d.lo) := by cases d <;> rfl
theorem deed_hi (d : Deed) : atI d.t 2 = some (.int d.hi) := by cases d <;> rfl
theorem ok_marks_do {f : Addr} {fd : FuncData} (Df : Def K mg "_law_marks_do" s_marks_do f fd) (b : Binds K fd ["_law_marks", "_law_deed", "_law_limit"] []) (T : Txt mg) : Cal P w K mg base 1 "_law_marks_do" spDo [] := by
  refine cal0 Df b .nil sc_marks_do (fun vs H Q E h => ?_) (fun cdv A outer s H vs Q E hr h => ?_)
  · obtain ⟨da, ra, d, lim, T, n, rfl, _⟩ := h
    rfl
  obtain ⟨da, ra, d, lim, Tb, n, rfl, dt, n0, l1, gr, dok, q1, q2, q3⟩ := h
  refine ⟨_, (pss_cons (ps_set (i := 3) sc_marks_do.nd rfl (.inl rfl) (pe_ix (ixT K rfl) (pv 1) pe_int (fun _ _ => rfl)))
      (pss_cons (ps_set (i := 4) sc_marks_do.nd rfl (.inl rfl) (pe_ix (ixT K rfl) (pv 1) pe_int (fun _ _ => rfl)))
      (pss_cons (ps_mk (ps_if (PW.pt (pw_or (pt_cmpR op_lt (pv 3) pe_int (nomark _)) (pw_or (pt_cmpR op_ge (pv 3) (pv 4) (nomark _)) (pw_or1 (pt_cmpR op_gt (pv 4) (pv 2) (nomark _))))))
      (pss_one (ps_ret (pe_tup (pa_cons pe_str (pa_cons pe_str (pa_cons (pe_tup (pa_cons (pv 3) (pa_cons (pv 4) pa_nil))) pa_nil))))))
      pss_nil))
      (pss_cons (ps_mk (ps_if (pt_cmpR op_eq (pe_ix (ixT K rfl) (pv 1) pe_int (fun _ _ => rfl)) pe_str (nomark _))
      (pss_one (ps_mk (ps_for PassesOwn.never rfl (pi_range2 (by rfl) T.range (pa_cons (pv 3) (pa_cons (pv 4) pa_nil))) (pg_name (i := 5) sc_marks_do.nd rfl (.inl rfl))
      (pss_one (ps_mk (ps_if (pt_cmp (pc_dnotin (hu_of hr) (pv 5) (pv 0)))
      (pss_one (ps_ret (pe_tup (pa_cons pe_str (pa_cons pe_str (pa_cons (pe_tup (pa_cons (pv 5) pa_nil)) pa_nil))))))
      pss_nil))))))
      pss_nil))
      (pss_cons (ps_mk (ps_for PassesOwn.never rfl (pi_range2 (by rfl) T.range (pa_cons (pv 3) (pa_cons (pv 4) pa_nil))) (pg_name (i := 5) sc_marks_do.nd rfl (.inl rfl))
      (pss_one (ps_mk (ps_if (pt_cmpR op_eq (pe_ix (ixT K rfl) (pv 1) pe_int (fun _ _ => rfl)) pe_str (nomark _))
      (pss_one (ps_dput (hu_of hr) (pv 0) (pv 5) (pe_tup (pa_cons (pe_ix (ixT K rfl) (pv 1) pe_int (fun _ _ => rfl)) (pa_cons (pe_ix (ixT K rfl) (pe_dget (hu_of hr) (pv 0) (pv 5) (fun _ _ => rfl)) pe_int (fun _ _ => rfl)) (pa_cons (pe_ix (ixT K rfl) (pe_dget (hu_of hr) (pv 0) (pv 5) (fun _ _ => rfl)) pe_int (fun _ _ => rfl)) pa_nil)))) rfl))
      (pss_one (ps_mk (ps_if (PW.pt (pw_and (pt_cmpR op_eq (pe_ix (ixT K rfl) (pv 1) pe_int (fun _ _ => rfl)) pe_str (nomark _)) (pw_and1 (pt_cmpR op_ne (pe_ix (ixT K rfl) (pv 1) pe_int (fun _ _ => rfl)) pe_str (nomark _)))))
      (pss_one (ps_dput (hu_of hr) (pv 0) (pv 5) (pe_tup (pa_cons (pe_ix (ixT K rfl) (pv 1) pe_int (fun _ _ => rfl)) (pa_cons (pe_ix (ixT K rfl) (pv 1) pe_int (fun _ _ => rfl)) (pa_cons (pe_op op_sub (pe_op op_add (pe_ix (ixT K rfl) (pv 1) pe_int (fun _ _ => rfl)) (pv 5)) (pv 3)) pa_nil)))) rfl))
      (pss_one (ps_mk (ps_if (pt_cmpR op_eq (pe_ix (ixT K rfl) (pv 1) pe_int (fun _ _ => rfl)) pe_str (nomark _))
      (pss_one (ps_dput (hu_of hr) (pv 0) (pv 5) (pe_tup (pa_cons (pe_ix (ixT K rfl) (pv 1) pe_int (fun _ _ => rfl)) (pa_cons pe_str (pa_cons pe_int pa_nil)))) rfl))
      (pss_one (ps_mk (ps_if (pt_cmp (pc_din (hu_of hr) (pv 5) (pv 0)))
      (pss_one (ps_expr (pe_dpop1 (pv 0) (pv 5) ⟨rfl, rfl, rfl, rfl⟩)))
      pss_nil))))))))))))))
      (pss_one (ps_ret (pe_tup (pa_cons pe_str (pa_cons pe_non pa_nil)))))))))), ?_⟩
  walk_at "go"
  refine ⟨ra, _, _, _, rfl, rfl, SqT.of gr, deed_lo d, ?_⟩
  walk_at "go"
  refine ⟨ra, _, _, _, rfl, rfl, SqT.of gr, deed_hi d, ?_⟩
  obtain ⟨lo, elo⟩ : ∃ lo, lo = d.lo := ⟨_, rfl⟩
  obtain ⟨hi, ehi⟩ : ∃ hi, hi = d.hi := ⟨_, rfl⟩
  have ef : d.fine lim ↔ (0 ≤ lo ∧ lo < hi ∧ hi ≤ lim) := by rw [elo, ehi]; exact Iff.rfl
  have et : d.tab Tb = tSetR Tb lo hi (d.at_ Tb) := by rw [elo, ehi]; rfl
  rw [et] at q3
  rw [← elo, ← ehi] at q1 q2 q3 ⊢
  have bad : ¬ d.fine lim → ∀ t1 t2 H', Same H H' → H' t1 = some (.tup [.int lo, .int hi]) → H' t2 = some (.tup [.str "raises", .str "BadRange", .ref t1]) → Q (.ref t2) H' := fun z t1 t2 H' s1 g1 g2 => q1 z _ H' s1 ⟨t2, _, rfl, g2, _, _, rfl, rfl, _, _, rfl, rfl, _, _, rfl, ⟨t1, _, rfl, g1, _, _, rfl, rfl, _, _, rfl, rfl, rfl⟩, rfl⟩
  refine jnS (M := fun σ H' => d.fine lim ∧ H' = H ∧ σ = [sR da, sR ra, sI lim, sI lo, sI hi, none]) ?_ (fun N kk => ?_)
  rotate_left
  · walk_at "go"
    refine ifD (fun c => ?_) (fun c => ?_)
    · walk_at "go"
      refine ⟨sz, fun t1 nt1 => ?_⟩
      have s1 := same_upd (o := HO.tup [V.int lo, V.int hi]) nt1
      have g1 := upd_same (H := H) (a := t1) (o := HO.tup [V.int lo, V.int hi])
      show _
      generalize upd H t1 (HO.tup [V.int lo, V.int hi]) = H1 at *
      walk_at "go"
      refine ⟨sz, fun t2 nt2 => ?_⟩
      exact bad (fun z => by have := ef.mp z; omega) t1 t2 _ (s1.trans (same_upd nt2)) (same_upd nt2 _ _ g1) upd_same
    walk_at "go"
    refine ifD (fun c2 => ?_) (fun c2 => ?_)
    · walk_at "go"
      refine ⟨sz, fun t1 nt1 => ?_⟩
      have s1 := same_upd (o := HO.tup [V.int lo, V.int hi]) nt1
      have g1 := upd_same (H := H) (a := t1) (o := HO.tup [V.int lo, V.int hi])
      show _
      generalize upd H t1 (HO.tup [V.int lo, V.int hi]) = H1 at *
      walk_at "go"
      refine ⟨sz, fun t2 nt2 => ?_⟩
      exact bad (fun z => by have := ef.mp z; omega) t1 t2 _ (s1.trans (same_upd nt2)) (same_upd nt2 _ _ g1) upd_same
    walk_at "go"
    refine ifD (fun c3 => ?_) (fun c3 => ?_)
    · walk_at "go"
      refine ⟨sz, fun t1 nt1 => ?_⟩
      have s1 := same_upd (o := HO.tup [V.int lo, V.int hi]) nt1
      have g1 := upd_same (H := H) (a := t1) (o := HO.tup [V.int lo, V.int hi])
      show _
      generalize upd H t1 (HO.tup [V.int lo, V.int hi]) = H1 at *
      walk_at "go"
      refine ⟨sz, fun t2 nt2 => ?_⟩
      exact bad (fun z => by have := ef.mp z; omega) t1 t2 _ (s1.trans (same_upd nt2)) (same_upd nt2 _ _ g1) upd_same
    · exact kk _ _ ⟨ef.mpr ⟨by omega, by omega, by omega⟩, rfl, rfl⟩
  rintro σ H1 ⟨fine, e1, rfl⟩
  subst e1
  obtain ⟨f0, f1, f2⟩ := ef.mp fine
  have q2 := q2 fine
  have q3 := q3 fine
  clear q1 bad
  obtain ⟨kvs, gd, kl, tt⟩ := dt.ex
  have kl0 := kl.len
  refine jnS (M := fun σ H' => (d.isPr = true → ∀ p, lo ≤ p → p < hi → (Tb p).isSome = true) ∧ H' = H1 ∧ ∃ y5, σ = [sR da, sR ra, sI lim, sI lo, sI hi, y5]) ?_ (fun N kk => ?_)
  rotate_left
  · walk_at "go"
    cases d with
    | un a b =>
      refine ⟨ra, _, _, .str "unassign", rfl, rfl, SqT.of gr, atI_nat (j := 0) rfl, ?_⟩
      walk_at "go"
      exact kk _ _ ⟨fun z => (by cases z), rfl, _, rfl⟩
    | asg a b r f i w =>
      refine ⟨ra, _, _, .str "assign", rfl, rfl, SqT.of gr, atI_nat (j := 0) rfl, ?_⟩
      walk_at "go"
      exact kk _ _ ⟨fun z => (by cases z), rfl, _, rfl⟩
    | pr a b r =>
      refine ⟨ra, _, _, .str "protect", rfl, rfl, SqT.of gr, atI_nat (j := 0) rfl, ?_⟩
      walk_at "go"
      refine un ?_
      walk_at "go"
      refine ⟨_, _, rfl, ⟨by omega, by omega, by omega, by omega⟩, for_range (lo := lo) (n := (hi - lo).toNat) (fun j σ H' => Ob (H' = H1 ∧ (∀ p, lo ≤ p → p < lo + j → (Tb p).isSome = true) ∧ ∃ y5, σ = [sR da, sR ra, sI lim, sI lo, sI hi, y5])) (ob ⟨rfl, fun p h0 h1 => by omega, none, rfl⟩) ?_ ?_⟩
      · intro j σ H2 hj h
        obtain ⟨e2, hp, y5, rfl⟩ := unob h
        subst e2
        walk_at "go"
        refine un ?_
        walk_at "go"
        refine ⟨da, valV kvs (.inl (lo + (j : Int))), rfl, DGet.k (k := .inl (lo + (j : Int))) gd, ?_⟩
        refine ⟨_, rfl, ?_⟩
        refine ifN ?_
        cases em : Tb (lo + (j : Int)) with
        | none =>
          rw [(tt _).1 em]
          refine ifBF rfl ?_
          walk_at "go"
          refine ⟨sz, fun t1 nt1 => ?_⟩
          have s1 := same_upd (o := HO.tup [V.int (lo + (j : Int))]) nt1
          have g1 := upd_same (H := H2) (a := t1) (o := HO.tup [V.int (lo + (j : Int))])
          show _
          generalize upd H2 t1 (HO.tup [V.int (lo + (j : Int))]) = H3 at *
          walk_at "go"
          refine ⟨sz, fun t2 nt2 => ?_⟩
          exact q2 rfl (lo + (j : Int)) (by omega) (by omega) em hp _ _ (s1.trans (same_upd nt2)) ⟨t2, _, rfl, upd_same, _, _, rfl, rfl, _, _, rfl, rfl, _, _, rfl, ⟨t1, _, rfl, same_upd nt2 _ _ g1, _, _, rfl, rfl, rfl⟩, rfl⟩
        | some m =>
          obtain ⟨ma, e1, g1⟩ := (tt _).2 m em
          rw [e1]
          refine ifBT rfl ?_
          refine ob ⟨rfl, fun p h0 h1 => ?_, _, rfl⟩
          by_cases c : p = lo + (j : Int)
          · rw [c, em]
            rfl
          · exact hp p h0 (by omega)
      · intro σ H2 h
        obtain ⟨e2, hp, y5, rfl⟩ := unob h
        exact kk _ _ ⟨fun _ p h0 h1 => hp p h0 (by omega), e2, y5, rfl⟩
  rintro σ H2 ⟨all, e2, y5, rfl⟩
  subst e2
  have q3 := q3 all
  refine jnS (M := fun σ H' => But H2 H' da ∧ DTab H' da (tSetR Tb lo hi (d.at_ Tb)) (n + 5000) ∧ ∃ y5, σ = [sR da, sR ra, sI lim, sI lo, sI hi, y5]) ?_ (fun N kk => ?_)
  · rintro σ H3 ⟨b3, d3, y5, rfl⟩
    walk_at "go"
    refine ⟨sz, fun t nt => ?_⟩
    exact q3 _ _ (b3.trans (Same.one (same_upd nt))) (d3.same (same_upd nt)) ⟨t, _, rfl, upd_same, _, _, rfl, rfl, _, _, rfl, rfl, rfl⟩
  walk_at "go"
  refine ⟨_, _, rfl, ⟨by omega, by omega, by omega, by omega⟩, for_range (lo := lo) (n := (hi - lo).toNat) (fun j σ H' => Ob (But H2 H' da ∧ DTab H' da (tSetR Tb lo (lo + (j : Int)) (d.at_ Tb)) (n + j) ∧ H' ra = some (.tup d.t) ∧ ∃ y5, σ = [sR da, sR ra, sI lim, sI lo, sI hi, y5])) (ob ⟨fun _ _ _ e => e, by rw [tset_no]; exact dt, gr, y5, rfl⟩) ?_ ?_⟩
  rotate_left
  · intro σ H3 h
    obtain ⟨b3, d3, _, y5, rfl⟩ := unob h
    have e : lo + (((hi - lo).toNat : Nat) : Int) = hi := by omega
    rw [e] at d3
    exact kk _ _ ⟨b3, d3.le (by omega), y5, rfl⟩
  · intro j σ H3 hj h
    obtain ⟨b3, d3, gr3, y5, rfl⟩ := unob h
    clear h gd kl kl0 tt kvs
    obtain ⟨kvs, gd, kl, tt⟩ := d3.ex
    have kl0 := kl.len
    have ts := tset_step Tb lo j (d.at_ Tb)
    have tn := tset_now Tb lo j (d.at_ Tb)
    have pg : kV (.inl (lo + (j : Int))) = V.int (lo + (j : Int)) := rfl
    walk_at "go"
    refine un ?_
    walk_at "go"
    cases d with
    | un a b =>
      refine ⟨ra, _, _, .str "unassign", rfl, rfl, SqT.of gr3, atI_nat (j := 0) rfl, ?_⟩
      walk_at "go"
      refine un ?_
      walk_at "go"
      refine ⟨ra, _, _, .str "unassign", rfl, rfl, SqT.of gr3, atI_nat (j := 0) rfl, ?_⟩
      walk_at "go"
      refine un ?_
      walk_at "go"
      refine ⟨ra, _, _, .str "unassign", rfl, rfl, SqT.of gr3, atI_nat (j := 0) rfl, ?_⟩
      walk_at "go"
      refine un ?_
      walk_at "go"
      refine ⟨da, valV kvs (.inl (lo + (j : Int))), rfl, DGet.k (k := .inl (lo + (j : Int))) gd, ?_⟩
      refine ⟨_, rfl, ?_⟩
      cases em : Tb (lo + (j : Int)) with
      | none =>
        rw [(tt _).1 (tn.trans em)]
        refine ifBF rfl ?_
        refine ob ⟨b3, ?_, gr3, _, rfl⟩
        have e : tSetR Tb lo (lo + ((j + 1 : Nat) : Int)) ((Deed.un a b).at_ Tb) = tSetR Tb lo (lo + (j : Int)) ((Deed.un a b).at_ Tb) := by
          rw [← ts]
          funext q
          by_cases c : q = lo + (j : Int)
          · rw [if_pos c, c, tn, em]
            rfl
          · rw [if_neg c]
        rw [e]
        exact d3.le (by omega)
      | some m =>
        obtain ⟨ma, e1, g1⟩ := (tt _).2 m (tn.trans em)
        rw [e1]
        refine ifBT rfl ?_
        walk_at "go"
        refine ⟨.inl ⟨kvs, .inl gd⟩, ?_⟩
        refine ⟨_, rfl, kvs, .inl (lo + (j : Int)), _, gd, rfl, e1, ?_⟩
        refine ob ⟨b3.trans But.put, ?_, tup_put_d gd _ _ gr3, _, rfl⟩
        rw [← ts]
        exact (DTab.drop gd kl tt).le (by omega)
    | pr a b r =>
      refine ⟨ra, _, _, .str "protect", rfl, rfl, SqT.of gr3, atI_nat (j := 0) rfl, ?_⟩
      obtain ⟨m, em⟩ := Option.isSome_iff_exists.mp (all rfl (lo + (j : Int)) (by omega) (by omega))
      obtain ⟨ma, e1, g1⟩ := (tt _).2 m (tn.trans em)
      have dg : DGet H3 da (V.int (lo + (j : Int))) (some (V.ref ma)) := by
        rw [← e1]
        exact DGet.k (k := .inl (lo + (j : Int))) gd
      walk_at "go"
      refine ⟨ra, _, _, .str r, rfl, rfl, SqT.of gr3, atI_nat (j := 3) rfl, ?_⟩
      walk_at "go"
      refine ⟨ma, _, _, .str m.f, rfl, rfl, SqT.of g1, atI_nat (j := 1) rfl, ?_⟩
      walk_at "go"
      refine ⟨ma, _, _, .int m.i, rfl, rfl, SqT.of g1, atI_nat (j := 2) rfl, ?_⟩
      walk_at "go"
      refine ⟨sz, fun t nt => ?_⟩
      have s4 := same_upd (o := HO.tup (mV (setM r m))) nt
      have gt := upd_same (H := H3) (a := t) (o := HO.tup (mV (setM r m)))
      show _
      unfold mV setM at s4 gt
      generalize upd H3 t (HO.tup [V.str r, V.str m.f, V.int m.i]) = H4 at *
      walk_at "go"
      refine ⟨da, _, rfl, DPut.k (k := .inl (lo + (j : Int))) (s4 _ _ gd) (sz5 (by omega)), ?_⟩
      have ev : (Deed.pr a b r).at_ Tb (lo + (j : Int)) = some (setM r m) := by
        show (Tb (lo + (j : Int))).map (setM r) = _
        rw [em]
        rfl
      rw [ev] at ts
      refine ob ⟨(b3.trans (Same.one s4)).trans But.put, ?_, tup_put_d (s4 _ _ gd) _ _ (s4 _ _ gr3), _, rfl⟩
      rw [← ts]
      exact DTab.put (m := setM r m) (s4 _ _ gd) kl (tab_mono s4 tt) gt
    | asg a b r f i w =>
      refine ⟨ra, _, _, .str "assign", rfl, rfl, SqT.of gr3, atI_nat (j := 0) rfl, ?_⟩
      walk_at "go"
      refine un ?_
      walk_at "go"
      refine ⟨ra, _, _, .str "assign", rfl, rfl, SqT.of gr3, atI_nat (j := 0) rfl, ?_⟩
      walk_at "go"
      refine ⟨ra, _, _, .str f, rfl, rfl, SqT.of gr3, atI_nat (j := 4) rfl, ?_⟩
      walk_at "go"
      have ea : a = lo := elo.symm
      refine ifN ?_
      refine ifD (fun c => ?_) (fun c => ?_)
      · refine un ?_
        walk_at "go"
        refine ⟨ra, _, _, .str "assign", rfl, rfl, SqT.of gr3, atI_nat (j := 0) rfl, ?_⟩
        walk_at "go"
        refine ⟨ra, _, _, .str r, rfl, rfl, SqT.of gr3, atI_nat (j := 3) rfl, ?_⟩
        walk_at "go"
        refine ⟨sz, fun t nt => ?_⟩
        have s4 := same_upd (o := HO.tup [V.str r, V.str "", V.int 0]) nt
        have gt := upd_same (H := H3) (a := t) (o := HO.tup [V.str r, V.str "", V.int 0])
        show _
        generalize upd H3 t (HO.tup [V.str r, V.str "", V.int 0]) = H4 at *
        walk_at "go"
        refine ⟨da, _, rfl, DPut.k (k := .inl (lo + (j : Int))) (s4 _ _ gd) (sz5 (by omega)), ?_⟩
        have ev : (Deed.asg a b r f i w).at_ Tb (lo + (j : Int)) = some ⟨r, "", 0⟩ := by
          show some (if f = "" then _ else _) = _
          rw [if_pos (V.str.inj c)]
        rw [ev] at ts
        refine ob ⟨(b3.trans (Same.one s4)).trans But.put, ?_, tup_put_d (s4 _ _ gd) _ _ (s4 _ _ gr3), _, rfl⟩
        rw [← ts]
        exact DTab.put (m := ⟨r, "", 0⟩) (s4 _ _ gd) kl (tab_mono s4 tt) gt
      · walk_at "go"
        refine ⟨ra, _, _, .str r, rfl, rfl, SqT.of gr3, atI_nat (j := 3) rfl, ?_⟩
        walk_at "go"
        refine ⟨ra, _, _, .str f, rfl, rfl, SqT.of gr3, atI_nat (j := 4) rfl, ?_⟩
        walk_at "go"
        refine ⟨ra, _, _, .int i, rfl, rfl, SqT.of gr3, atI_nat (j := 5) rfl, ?_⟩
        walk_at "go"
        refine ⟨sz, fun t nt => ?_⟩
        have s4 := same_upd (o := HO.tup [V.str r, V.str f, V.int (i + (lo + (j : Int)) - lo)]) nt
        have gt := upd_same (H := H3) (a := t) (o := HO.tup [V.str r, V.str f, V.int (i + (lo + (j : Int)) - lo)])
        show _
        generalize upd H3 t (HO.tup [V.str r, V.str f, V.int (i + (lo + (j : Int)) - lo)]) = H4 at *
        walk_at "go"
        refine ⟨da, _, rfl, DPut.k (k := .inl (lo + (j : Int))) (s4 _ _ gd) (sz5 (by omega)), ?_⟩
        have ev : (Deed.asg a b r f i w).at_ Tb (lo + (j : Int)) = some ⟨r, f, i + (lo + (j : Int)) - lo⟩ := by
          show some (if f = "" then _ else (⟨r, f, i + (lo + (j : Int) - a)⟩ : RMark)) = _
          rw [if_neg (fun z => c (congrArg V.str z)), ea, show i + (lo + (j : Int) - lo) = i + (lo + (j : Int)) - lo by omega]
        rw [ev] at ts
        refine ob ⟨(b3.trans (Same.one s4)).trans But.put, ?_, tup_put_d (s4 _ _ gd) _ _ (s4 _ _ gr3), _, rfl⟩
        rw [← ts]
        exact DTab.put (m := ⟨r, f, i + (lo + (j : Int)) - lo⟩) (s4 _ _ gd) kl (tab_mono s4 tt) gt
end

end

/-! ### assign, as it is called -/
section
variable {P : Program} {w : World} {K : PySem.W.Frag} {mg : Str → Option Value} {base : Heap} {C D : Addr}
theorem vals_app {xs ys : List V} {us vs : List Value} (h : Vals xs us) (k : Vals ys vs) : Vals (xs ++ ys) (us ++ vs) := h.append k
theorem kb_both {f : Addr} {fd : FuncData} (F : FunD K "assign" "Regions.assign" (C8.fnArgs s_Regions_assign) (C8.fnBody s_Regions_assign) (C8.fnScope s_Regions_assign) [] [("file", .str ""), ("index", .int 0)] f fd) :
    ∃ g, KBn K fd ["self", "start", "end", "rights", "file", "index"] 4 ["file", "index"] g (fun vs zs => vs ++ zs) := by
  obtain ⟨mv, k⟩ := F.kbinds0 4 ["file", "index"] [] (fun vs _ zs => vs ++ zs) (ps := ["self", "start", "end", "rights", "file", "index"]) (by simp) (by simp) (fun h _ k => h.append k) (fun D doc pm an cdv ct us mv ws h1 h2 h3 => by
    match us, h1, mv, h2, ws, h3 with
    | [a, b, c, d], _, [], _, [x, y], _ => exact (by kernel_rfl : bindArgs (PySem.W.fnOf "assign" "Regions.assign" (C8.fnArgs s_Regions_assign) (C8.fnBody s_Regions_assign) (C8.fnScope s_Regions_assign) .none (.ref D) doc pm an cdv ct) ⟨[a, b, c, d], [(("file" : Str), x), (("index" : Str), y)]⟩ = pure ([(("self" : Str), a), (("start" : Str), b), (("end" : Str), c), (("rights" : Str), d), (("file" : Str), x), (("index" : Str), y)] : List (Str × Value))))
  exact ⟨_, k⟩
theorem kb_file {f : Addr} {fd : FuncData} (F : FunD K "assign" "Regions.assign" (C8.fnArgs s_Regions_assign) (C8.fnBody s_Regions_assign) (C8.fnScope s_Regions_assign) [] [("file", .str ""), ("index", .int 0)] f fd) :
    ∃ g, KBn K fd ["self", "start", "end", "rights", "file", "index"] 4 ["file"] g (fun vs zs => vs ++ (zs ++ [.int 0])) := by
  obtain ⟨mv, k⟩ := F.kbinds0 4 ["file"] [("index", .int 0)] (fun vs mz zs => vs ++ (zs ++ mz)) (ps := ["self", "start", "end", "rights", "file", "index"]) (by simp) (by simp) (fun h m k => h.append (k.append m)) (fun D doc pm an cdv ct us mv ws h1 h2 h3 => by
    match us, h1, mv, h2, ws, h3 with
    | [a, b, c, d], _, [y], _, [x], _ => exact ⟨_, _, _, _, _, _, rfl, rfl, rfl⟩)
  exact ⟨_, k⟩
theorem kb_index {f : Addr} {fd : FuncData} (F : FunD K "assign" "Regions.assign" (C8.fnArgs s_Regions_assign) (C8.fnBody s_Regions_assign) (C8.fnScope s_Regions_assign) [] [("file", .str ""), ("index", .int 0)] f fd) :
    ∃ g, KBn K fd ["self", "start", "end", "rights", "file", "index"] 4 ["index"] g (fun vs zs => vs ++ ([.str ""] ++ zs)) := by
  obtain ⟨mv, k⟩ := F.kbinds0 4 ["index"] [("file", .str "")] (fun vs mz zs => vs ++ (mz ++ zs)) (ps := ["self", "start", "end", "rights", "file", "index"]) (by simp) (by simp) (fun h m k => h.append (m.append k)) (fun D doc pm an cdv ct us mv ws h1 h2 h3 => by
    match us, h1, mv, h2, ws, h3 with
    | [a, b, c, d], _, [y], _, [x], _ => exact ⟨_, _, _, _, _, _, rfl, rfl, rfl⟩)
  exact ⟨_, k⟩
theorem kb_none {f : Addr} {fd : FuncData} (F : FunD K "assign" "Regions.assign" (C8.fnArgs s_Regions_assign) (C8.fnBody s_Regions_assign) (C8.fnScope s_Regions_assign) [] [("file", .str ""), ("index", .int 0)] f fd) :
    ∃ g, KBn K fd ["self", "start", "end", "rights", "file", "index"] 4 [] g (fun vs _ => vs ++ [.str "", .int 0]) := by
  obtain ⟨mv, k⟩ := F.kbinds0 4 [] [("file", .str ""), ("index", .int 0)] (fun vs mz _ => vs ++ mz) (ps := ["self", "start", "end", "rights", "file", "index"]) (by simp) (by simp) (fun h m _ => h.append m) (fun D doc pm an cdv ct us mv ws h1 h2 h3 => by
    match us, h1, mv, h2, ws, h3 with
    | [a, b, c, d], _, [y, z], _, [], _ => exact ⟨_, _, _, _, _, _, rfl, rfl, _, _, _, _, _, _, rfl, rfl, rfl⟩)
  exact ⟨_, k⟩
/-- assign in its four ways -/
structure AsgM (P : Program) (w : World) (K : PySem.W.Frag) (mg : Str → Option Value) (base : Heap) (C D : Addr) : Prop where
  both : MetN P w K mg base 6 C "assign" (spAsg C D) 3 ["file", "index"] (fun vs zs => vs ++ zs)
  file : MetN P w K mg base 6 C "assign" (spAsg C D) 3 ["file"] (fun vs zs => vs ++ (zs ++ [.int 0]))
  index : MetN P w K mg base 6 C "assign" (spAsg C D) 3 ["index"] (fun vs zs => vs ++ ([.str ""] ++ zs))
  none : MetN P w K mg base 6 C "assign" (spAsg C D) 3 [] (fun vs _ => vs ++ [.str "", .int 0])
theorem ok_asgm {f : Addr} {fd : FuncData} (F : FunD K "assign" "Regions.assign" (C8.fnArgs s_Regions_assign) (C8.fnBody s_Regions_assign) (C8.fnScope s_Regions_assign) [] [("file", .str ""), ("index", .int 0)] f fd) (M : Meth K C "assign" f) (S : STxt K mg C) (e_check : CalE P w K mg base 3 "check_range" (spCheck D)) (m_splice : C8.Met P w K mg base 5 C "_splice" (spSplice C) []) : AsgM P w K mg base C D := by
  have ok := ok_assign (P := P) (w := w) (base := base) F S e_check m_splice
  obtain ⟨g1, k1⟩ := kb_both F
  obtain ⟨g2, k2⟩ := kb_file F
  obtain ⟨g3, k3⟩ := kb_index F
  obtain ⟨g4, k4⟩ := kb_none F
  exact ⟨⟨f, fd, _, g1, S.cl, M, ok, k1⟩, ⟨f, fd, _, g2, S.cl, M, ok, k2⟩, ⟨f, fd, _, g3, S.cl, M, ok, k3⟩, ⟨f, fd, _, g4, S.cl, M, ok, k4⟩⟩
end

/-! ### a try whose wish the body sees as a letter -/
def tTry (K : PySem.W.Frag) (c : Value) (i : Nat) (tb : WX → TS) (ts : Addr → Value → Option Addr → TS) (Wout : WX) : TS := fun D σ H => ∀ W : WX, (∀ cls d σ2 H2, wAs K c i ts Wout D cls d σ2 H2 → W cls d σ2 H2) → tb W D σ H
theorem ps_try_m {X : Cx} {x n : Str} {c : Value} {i : Nat} {body suite : List Stmt} {b0 : Stmt} {np pos pos2 : Pos} {tb : WX → TS} {ts : Addr → Value → Option Addr → TS} {Wout : WX} (hs : X.stack = X.env :: X.outer) (hf : X.env.frame = some X.env.locals) (hN : X.N.Nodup) (hi : X.N[i]? = some n) (hln : X.env.kindOf n = some .local) (hc : Names X x c) (tk : Takes X Wout)
    (hb : ∀ (W : WX) (pn : List (Addr × Obj)) (xe : Value → Shared → Prop), Takes (X.tr pn xe) W → PassesOwn (model X.prog X.w) X.A X.env xe → PSs (X.tr pn xe) body (tb W))
    (hu : ∀ (a : Addr) (oe : Obj) (cls : Value) (d : Option Addr) (pn : List (Addr × Obj)), Zc cls d oe → (∃ vs, oe.data = .fields vs) → PSs (X.suite a ((a, oe) :: pn)) (b0 :: suite) (ts a cls d)) :
    PS X (.Try body [.ExceptHandler (some (.Name x np)) (some n) (b0 :: suite) pos2] [] [] pos) (tTry X.K c i tb ts Wout) :=
  ⟨fun pins s σ H D I h => (ps_try_as hs hf hN hi hln hc tk hb hu).run pins s σ H D I (h _ fun _ _ _ _ z => z)⟩
/-- the catch takes it -/
theorem catch_yes {K : PySem.W.Frag} {c : Value} {i : Nat} {ts : Addr → Value → Option Addr → TS} {Wout : WX} {D : Ends} {cls : Value} {d : Option Addr} {σ : L2.St} {H : Hp} (e : PySem.W.exmOne K cls c = some true)
    (h : ∀ a, H a = none → ts a cls d { nx := fun σ' H' => D.nx (σ'.set i none) H', rt := D.rt, bk := fun σ' H' => D.bk (σ'.set i none) H', ct := fun σ' H' => D.ct (σ'.set i none) H' } (σ.set i (some (.ref a))) H) : wAs K c i ts Wout D cls d σ H :=
  ⟨true, e, fun _ => h, fun z => by cases z⟩

/-! ### several except clauses, each with a name; the body sees the wish as a letter -/
def wManyAs (K : PySem.W.Frag) (Wout : WX) (D : Ends) : List (Value × Nat × (Addr → Value → Option Addr → TS)) → WX
  | [] => Wout
  | (c, i, ts) :: r => fun cls d σ H => ∃ b, PySem.W.exmOne K cls c = some b ∧ (b = true → ∀ a, H a = none → ts a cls d { nx := fun σ' H' => D.nx (σ'.set i none) H', rt := D.rt, bk := fun σ' H' => D.bk (σ'.set i none) H', ct := fun σ' H' => D.ct (σ'.set i none) H' } (σ.set i (some (.ref a))) H) ∧ (b = false → wManyAs K Wout D r cls d σ H)
inductive HdsAs (X : Cx) : List ExceptHandler → List (Value × Nat × (Addr → Value → Option Addr → TS)) → Prop
  | nil : HdsAs X [] []
  | cons {x n : Str} {c : Value} {i : Nat} {ts : Addr → Value → Option Addr → TS} {b0 : Stmt} {suite : List Stmt} {np pos2 : Pos} {hds : List ExceptHandler} {l : List (Value × Nat × (Addr → Value → Option Addr → TS))} (hi : X.N[i]? = some n) (hln : X.env.kindOf n = some .local) (hc : Names X x c)
      (hsu : ∀ (a : Addr) (oe : Obj) (cls : Value) (d : Option Addr) (pn : List (Addr × Obj)), Zc cls d oe → (∃ vs, oe.data = .fields vs) → PSs (X.suite a ((a, oe) :: pn)) (b0 :: suite) (ts a cls d)) (r : HdsAs X hds l) :
      HdsAs X (.ExceptHandler (some (.Name x np)) (some n) (b0 :: suite) pos2 :: hds) ((c, i, ts) :: l)
section
variable {X : Cx} {body : List Stmt} {h0 : ExceptHandler} {hds : List ExceptHandler} {l : List (Value × Nat × (Addr → Value → Option Addr → TS))} {pos : Pos} {tb : WX → TS} {Wout : WX}
theorem ps_try_mas (hs : X.stack = X.env :: X.outer) (hf : X.env.frame = some X.env.locals) (hN : X.N.Nodup) (tk : Takes X Wout)
    (hb : ∀ (W : WX) (pn : List (Addr × Obj)) (xe : Value → Shared → Prop), Takes (X.tr pn xe) W → PassesOwn (model X.prog X.w) X.A X.env xe → PSs (X.tr pn xe) body (tb W))
    (hh : HdsAs X (h0 :: hds) l) : PS X (.Try body (h0 :: hds) [] [] pos) (fun D σ H => tb (wManyAs X.K Wout D l) D σ H) := by
  refine ⟨fun pins s σ H D I h => ?_⟩
  have ok := I.ok
  have hfr : X.A.frames = some (X.env :: X.outer) := by rw [ok.frames, hs]
  refine wpAny_Try_except ?_
  refine wpAny_mono ((hb (wManyAs X.K Wout D l) (X.pn ++ pins) (fun e s₁ => wpAny (model X.prog X.w) X.A (noteFrame e X.env) (fun _ s₂ => wpAny (model X.prog X.w) X.A (setFlight e none) (fun _ s₃ =>
    wpAny (model X.prog X.w) X.A (handleBy e X.env (h0 :: hds)) (SP X pins D) X.xe s₃) X.xe s₂) X.xe s₁) (fun u s' xx => ?_) PassesOwn.looking).run [] s σ H D (I.toTry _) h) (fun f s1 hsp => ?_) (fun e s1 he => he)
  · obtain ⟨a, B, sI, pins', σ', H', cls, d, rfl, J', nb, up, sky, na, os, ag, w⟩ := xx
    have J : Inv X pins σ' H' sI := J'.ofTry ok
    have sky' : Sky B (X.env :: X.outer) a (Zc cls d) X.env.locals s'.heap := by rw [← hs]; exact sky
    show wpAny (model X.prog X.w) X.A (noteFrame (.ref a) X.env) _ _ _
    refine Sky.land Zc.steady hfr hf sky' fun h3 fl3 up3 => ?_
    have J3 : Inv X pins σ' H' { s' with heap := h3 } := J.landed nb fl3.1 (up.trans up3) os ag
    obtain ⟨oe3, vs3, he3, hz3, hd3⟩ := fl3.there
    have notFr : ∀ {h : Heap} {o : Obj} {vs : Array Value}, h.FunFrames B (X.env :: X.outer) → h.get? a = some o → o.data = .fields vs → a ∉ frs (X.env :: X.outer) := fun {h o vs} ff e dd hm => by
      obtain ⟨_, o', e', hnf⟩ := ff.mem hm
      rw [e] at e'; cases e'
      exact hnf _ dd
    have nfr := notFr fl3.2.2.1 he3 hd3
    have nL : a ≠ X.env.locals := fun z => nfr (List.mem_filterMap.mpr ⟨X.env, List.mem_cons_self, by rw [hf, z]⟩)
    have nF : a ∉ X.fs := fun hm => by
      obtain ⟨e, he, q⟩ := List.mem_filterMap.mp hm
      exact nfr (List.mem_filterMap.mpr ⟨e, List.mem_cons_of_mem _ he, q⟩)
    have S3 := J3.suite he3 hd3 na nL nF
    have go : ∀ {hds' : List ExceptHandler} {l' : List (Value × Nat × (Addr → Value → Option Addr → TS))}, HdsAs X hds' l' → wManyAs X.K Wout D l' cls d σ' H' →
        wpAny (model X.prog X.w) X.A (handleBy (.ref a) X.env hds') (SP X pins D) X.xe { s' with heap := h3 } := by
      intro hds' l' hk
      induction hk with
      | nil =>
        intro w
        refine wpAny_handleBy_nil ?_
        obtain ⟨k1, k2, k3, oe, vs, T, oT, ts', he, hz, hd, h1, hr⟩ := id fl3
        unfold PySem.passOn
        refine wpAny_bind (wpAny_field he hd h1 ?_)
        rw [if_neg (show ¬ ((Value.ref T == Value.none) = true) from by simp)]
        have fin : wpAny (model X.prog X.w) X.A (setFlight (.ref a) X.env.frame) (fun _ s4 => wpAny (model X.prog X.w) X.A (throw (.ref a) : Sem Flow) (SP X pins D) X.xe s4) X.xe { s' with heap := h3 } := by
          rw [hf]
          refine HandSPX.setFlight_upZ fl3 fun h4 hh4 up4 => wpAny_throw (tk _ _ ?_)
          exact ⟨a, B, sI, pins, σ', H', cls, d, rfl, J, nb, (up.trans up3).trans up4, .inr (.inr (by rw [hs]; exact hh4)), na, os, ag, w⟩
        first
          | exact wpAny_bind (wpAny_pure (wpAny_bind fin))
          | exact wpAny_bind fin
      | @cons x n c i ts b₀ suite np pos' hds2 l2 hi hln hc hsu r ih =>
        intro w
        obtain ⟨b, hb1, hyes, hno⟩ := w
        have hloc : Loc X.env.scope n := .inl hln
        refine wpAny_handleBy_cons (codeAny_handlers_test ?_) (by intro q; cases q)
        have LT : PySem.W.Looks (model X.prog X.w) h3 (typeOf (.ref a)) cls := fun A Q E s k q => wpAny_typeOf_ref (k _ _ he3) (by rw [hz3.1]; exact q)
        have LM := PySem.W.exm_one (M := model X.prog X.w) (J3.kIn) LT hb1
        have test : ∀ {Q : Value → Shared → Prop} {E : Value → Shared → Prop}, Q c { s' with heap := h3 } → wpAny (model X.prog X.w) (X.A.mark (some (.ref a))) (eval (.Name x np) X.env) Q E { s' with heap := h3 } := fun {Q E} q => by
          obtain ⟨hg, hdbg, hm | ⟨hm, hv, hnn⟩⟩ := hc
          · exact ld_glob (X := X.suite a ((a, oe3) :: (X.pn ++ pins))) S3 hg hm q hdbg
          · exact ld_blt (X := X.suite a ((a, oe3) :: (X.pn ++ pins))) S3 hg hm hv q hnn hdbg
        refine test (LM.here ?_)
        cases b with
        | true =>
          refine codeAny_handlers_suite_as ?_
          refine HandSPX.lands_againZ fl3 fun h4 fl4 up4 => ?_
          have J4 : Inv X pins σ' H' { s' with heap := h4 } := J.landed nb fl4.1 ((up.trans up3).trans up4) os ag
          obtain ⟨oe4, vs4, he4, hz4, hd4⟩ := fl4.there
          have S4 := J4.suite he4 hd4 na nL nF
          refine store_ok (X := X.suite a ((a, oe4) :: (X.pn ++ pins))) (v := .ref a) S4 hN hi hloc rfl (fun s5 S5 => ?_) (.inr hln)
          refine wpAny_mono ((hsu a oe4 cls d (X.pn ++ pins) hz4 ⟨_, hd4⟩).run [] s5 _ H' _ S5 (hyes rfl a na)) (fun f s6 hsp => ?_) (fun _ _ z => False.elim z)
          have end_ : ∀ {σ6 : L2.St} {H6 : Hp} {Q : Shared → Prop}, Inv (X.suite a ((a, oe4) :: (X.pn ++ pins))) [] σ6 H6 s6 → (∀ s7, Inv X pins (σ6.set i none) H6 s7 → Q s7) →
              wpAny (model X.prog X.w) X.A (do bindName X.env n .none; unbindBehindTheSuite X.env n pos') (fun _ s7 => Q s7) X.xe s6 := fun {σ6 H6 Q} S6 hq => gone_ok (S6.unsuite ok) hN hi hln hq
          cases f with
          | next =>
            obtain ⟨σ6, H6, S6, q6⟩ := hsp
            exact end_ S6 fun s7 J7 => ⟨_, _, J7, q6⟩
          | brk =>
            obtain ⟨σ6, H6, S6, q6⟩ := hsp
            exact end_ S6 fun s7 J7 => ⟨_, _, J7, q6⟩
          | cont =>
            obtain ⟨σ6, H6, S6, q6⟩ := hsp
            exact end_ S6 fun s7 J7 => ⟨_, _, J7, q6⟩
          | ret u =>
            obtain ⟨v6, σ6, H6, S6, r6, q6⟩ := hsp
            exact end_ S6 fun s7 J7 => ⟨_, _, _, J7, r6, q6⟩
        | false =>
          show wpAny _ X.A (handleBy (.ref a) X.env hds2) _ _ _
          exact ih (hno rfl)
    exact go hh w
  · cases f with
    | next =>
      obtain ⟨σ', H', J', q⟩ := hsp
      exact wpAny_execs_nil ⟨σ', H', J'.ofTry ok, q⟩
    | brk =>
      obtain ⟨σ', H', J', q⟩ := hsp
      exact ⟨σ', H', J'.ofTry ok, q⟩
    | cont =>
      obtain ⟨σ', H', J', q⟩ := hsp
      exact ⟨σ', H', J'.ofTry ok, q⟩
    | ret u =>
      obtain ⟨v, σ', H', J', r, q⟩ := hsp
      exact ⟨v, σ', H', J'.ofTry ok, r, q⟩
def tTryM (K : PySem.W.Frag) (l : List (Value × Nat × (Addr → Value → Option Addr → TS))) (tb : WX → TS) (Wout : WX) : TS := fun D σ H => ∀ W : WX, (∀ cls d σ2 H2, wManyAs K Wout D l cls d σ2 H2 → W cls d σ2 H2) → tb W D σ H
theorem ps_try_ms (hs : X.stack = X.env :: X.outer) (hf : X.env.frame = some X.env.locals) (hN : X.N.Nodup) (tk : Takes X Wout)
    (hb : ∀ (W : WX) (pn : List (Addr × Obj)) (xe : Value → Shared → Prop), Takes (X.tr pn xe) W → PassesOwn (model X.prog X.w) X.A X.env xe → PSs (X.tr pn xe) body (tb W))
    (hh : HdsAs X (h0 :: hds) l) : PS X (.Try body (h0 :: hds) [] [] pos) (tTryM X.K l tb Wout) :=
  ⟨fun pins s σ H D I h => (ps_try_mas hs hf hN tk hb hh).run pins s σ H D I (h _ fun _ _ _ _ z => z)⟩
end
/-- the first clause that takes it -/
theorem many_yes {K : PySem.W.Frag} {c : Value} {i : Nat} {ts : Addr → Value → Option Addr → TS} {Wout : WX} {D : Ends} {l : List (Value × Nat × (Addr → Value → Option Addr → TS))} {cls : Value} {d : Option Addr} {σ : L2.St} {H : Hp} (e : PySem.W.exmOne K cls c = some true)
    (h : ∀ a, H a = none → ts a cls d { nx := fun σ' H' => D.nx (σ'.set i none) H', rt := D.rt, bk := fun σ' H' => D.bk (σ'.set i none) H', ct := fun σ' H' => D.ct (σ'.set i none) H' } (σ.set i (some (.ref a))) H) : wManyAs K Wout D ((c, i, ts) :: l) cls d σ H :=
  ⟨true, e, fun _ => h, fun z => by cases z⟩
theorem many_no {K : PySem.W.Frag} {c : Value} {i : Nat} {ts : Addr → Value → Option Addr → TS} {Wout : WX} {D : Ends} {l : List (Value × Nat × (Addr → Value → Option Addr → TS))} {cls : Value} {d : Option Addr} {σ : L2.St} {H : Hp} (e : PySem.W.exmOne K cls c = some false)
    (h : wManyAs K Wout D l cls d σ H) : wManyAs K Wout D ((c, i, ts) :: l) cls d σ H :=
  ⟨false, e, fun z => (by cases z), fun _ => h⟩

section

-- a condition of an operator
local macro_rules | `(tactic| walk_at "cond") => `(tactic| first
  | (show (0 : Int) < _; omega)
  | (show CDiv _ _; constructor <;> (first | decide | omega))
  | (show CMul _ _; first | (refine cmul_l ?_; constructor <;> (first | decide | omega)) | (refine cmul_r ?_; constructor <;> (first | decide | omega)))
  | (show CPow _ _; exact (by refine ⟨by decide, by decide, by decide⟩))
  | (show CDivW _ _; exact ⟨by decide, by decide +kernel⟩))
local macro_rules | `(tactic| walk_at "sq") => `(tactic| first | assumption | exact Dh.mono (same_upd (by assumption)) _ _ (by assumption) | exact .inl (.inl (.inl (by assumption))) | exact .inr (.inl (.inl (by assumption))) | exact SqL.of (by assumption) | exact .inl (by assumption) | exact .inl (SqL.of (by assumption)) | exact SqT.of (by assumption) | exact .inr (SqT.of (by assumption)))
local macro_rules | `(tactic| walk_at "st") => `(tactic| first
  | refine ⟨_, rfl, ?_⟩
  | refine ⟨_, _, rfl, rfl, ?_⟩
  | refine .inl ⟨_, rfl, ?_⟩
  | refine ⟨rfl, ?_⟩
  | refine ⟨_, _, rfl, by walk_at "sq", ?_⟩
  | refine ⟨.inl ⟨rfl, _, SqL.of (by assumption)⟩, ?_⟩
  | refine ⟨by walk_at "cond", ?_⟩
  | (refine' ifBT ?hh ?_; (case hh => first | rfl | assumption))
  | (refine' ifBF ?hh ?_; (case hh => first | rfl | assumption)))
local macro_rules | `(tactic| walk_at "go") => `(tactic| repeat walk_at "st")
local macro_rules | `(tactic| walk_at "yes") => `(tactic| (refine' ifT ?hh ?_; (case hh => first | rfl | decide +kernel)))
local macro_rules | `(tactic| walk_at "no") => `(tactic| (refine' ifF ?hh ?_; (case hh => first | decide +kernel | (intro z; cases z; done))))

/-! ### what the top says of the errors -/
structure EAsk (K : PySem.W.Frag) (mg : Str → Option Value) (D U : Addr) : Prop where
  mB : mg "BadRange" = some (.ref D)
  mU : mg "Unmapped" = some (.ref U)
  xf : XfC K D
  nS : PySem.W.findIn K (.ref D) "start" = some none
  nE : PySem.W.findIn K (.ref D) "end" = some none
  xfU : XfC K U
  nP : PySem.W.findIn K (.ref U) "page" = some none
  eDD : PySem.W.exmOne K (.ref D) (.ref D) = some true
  eUD : PySem.W.exmOne K (.ref U) (.ref D) = some false
  eUU : PySem.W.exmOne K (.ref U) (.ref U) = some true
theorem br_end {i j : Int} : (brF i j).lookup ("end" : Str) = some (.int j) := by
  unfold brF
  simp [List.lookup]
theorem br_start {i j : Int} : (brF i j).lookup ("start" : Str) = some (.int i) := by
  unfold brF
  have e : (("start" : Str) == ("end" : Str)) = false := by decide +kernel
  simp [List.lookup, e]
theorem um_page {i : Int} : (umF i).lookup ("page" : Str) = some (.int i) := by
  unfold umF
  simp [List.lookup]
/-! ### _law_marks_ask -/
abbrev s_marks_ask : Stmt := topS 40
theorem sc_marks_ask : FnScope ["_law_regions", "_law_deed", "e"] ["_law_regions", "_law_deed"] (C8.fnScope s_marks_ask) := C8.fnScope_by (by decide +kernel)
def spAsk (C : Addr) : Sp := fun vs H Q _ => ∃ (p rp dx ra : Addr) (d : Deed) (lim : Int) (us : List V) (xs : List RRow) (T : Int → Option RMark), vs = [.ref p, .ref ra] ∧ RegB C H p rp dx lim us xs ∧ TbIs xs T ∧ H ra = some (.tup d.t) ∧ d.ok ∧
  (¬ d.fine lim → ∀ v H', Same H H' → Dh H' (badD d.lo d.hi) v → Q v H') ∧
  (d.fine lim → d.isPr = true → ∀ g, d.lo ≤ g → g < d.hi → T g = none → (∀ p, d.lo ≤ p → p < g → (T p).isSome = true) → ∀ v H', Same H H' → Dh H' (unmD g) v → Q v H') ∧
  (d.fine lim → (d.isPr = true → ∀ p, d.lo ≤ p → p < d.hi → (T p).isSome = true) → ∀ v rp' us' xs' H', RegB C H' p rp' dx lim us' xs' → TbIs xs' (d.tab T) → (Can xs → Can xs') → H rp' = none → But H H' p → Dh H' giveD v → Q v H')
section
variable {P : Program} {w : World} {K : PySem.W.Frag} {mg : Str → Option Value} {base : Heap} {C D U : Addr}
theorem ok_marks_ask {f : Addr} {fd : FuncData} (Df : Def K mg "_law_marks_ask" s_marks_ask f fd) (b : Binds K fd ["_law_regions", "_law_deed"] []) (TE : EAsk K mg D U)
    (e_un : MetE P w K mg base 6 C "unassign" (spUnas C D)) (e_pr : MetE P w K mg base 6 C "protect" (spProt C D U)) (am : AsgM P w K mg base C D) : Cal P w K mg base 7 "_law_marks_ask" (spAsk C) [] := by
  refine cal0 Df b .nil sc_marks_ask (fun vs H Q E h => ?_) (fun cdv A outer s H vs Q E hr h => ?_)
  · obtain ⟨p, rp, dx, ra, d, lim, us, xs, T, rfl, _⟩ := h
    rfl
  obtain ⟨p, rp, dx, ra, d, lim, us, xs, Tb, rfl, hc, tt, gr, dok, q1, q2, q3⟩ := h
  refine ⟨_, (pss_one (ps_mk (ps_try_ms rfl rfl sc_marks_ask.nd takes0 (fun W pn xe tk _ =>
      (pss_cons (ps_mk (ps_if (pt_cmpR op_eq (pe_ix (ixT K rfl) (pv 1) pe_int (fun _ _ => rfl)) pe_str (nomark _))
      (pss_one (ps_ret (pe_tup (pa_cons pe_str (pa_cons (pe_mE e_un tk hr (by omega) (pv 0) (pa_cons (pe_ix (ixT K rfl) (pv 1) pe_int (fun _ _ => rfl)) (pa_cons (pe_ix (ixT K rfl) (pv 1) pe_int (fun _ _ => rfl)) pa_nil))) pa_nil)))))
      pss_nil))
      (pss_cons (ps_mk (ps_if (pt_cmpR op_eq (pe_ix (ixT K rfl) (pv 1) pe_int (fun _ _ => rfl)) pe_str (nomark _))
      (pss_one (ps_ret (pe_tup (pa_cons pe_str (pa_cons (pe_mE e_pr tk hr (by omega) (pv 0) (pa_cons (pe_ix (ixT K rfl) (pv 1) pe_int (fun _ _ => rfl)) (pa_cons (pe_ix (ixT K rfl) (pv 1) pe_int (fun _ _ => rfl)) (pa_cons (pe_ix (ixT K rfl) (pv 1) pe_int (fun _ _ => rfl)) pa_nil)))) pa_nil)))))
      pss_nil))
      (pss_cons (ps_mk (ps_if (pt_cmpR op_eq (pe_ix (ixT K rfl) (pv 1) pe_int (fun _ _ => rfl)) pe_int (nomark _))
      (pss_one (ps_ret (pe_tup (pa_cons pe_str (pa_cons (pe_mN am.both tk hr (by omega) (pv 0) (pa_cons (pe_ix (ixT K rfl) (pv 1) pe_int (fun _ _ => rfl)) (pa_cons (pe_ix (ixT K rfl) (pv 1) pe_int (fun _ _ => rfl)) (pa_cons (pe_ix (ixT K rfl) (pv 1) pe_int (fun _ _ => rfl)) pa_nil))) (pk_cons (pe_ix (ixT K rfl) (pv 1) pe_int (fun _ _ => rfl)) (pk_cons (pe_ix (ixT K rfl) (pv 1) pe_int (fun _ _ => rfl)) pk_nil))) pa_nil)))))
      pss_nil))
      (pss_cons (ps_mk (ps_if (pt_cmpR op_eq (pe_ix (ixT K rfl) (pv 1) pe_int (fun _ _ => rfl)) pe_int (nomark _))
      (pss_one (ps_ret (pe_tup (pa_cons pe_str (pa_cons (pe_mN am.file tk hr (by omega) (pv 0) (pa_cons (pe_ix (ixT K rfl) (pv 1) pe_int (fun _ _ => rfl)) (pa_cons (pe_ix (ixT K rfl) (pv 1) pe_int (fun _ _ => rfl)) (pa_cons (pe_ix (ixT K rfl) (pv 1) pe_int (fun _ _ => rfl)) pa_nil))) (pk_cons (pe_ix (ixT K rfl) (pv 1) pe_int (fun _ _ => rfl)) pk_nil)) pa_nil)))))
      pss_nil))
      (pss_cons (ps_mk (ps_if (pt_cmpR op_eq (pe_ix (ixT K rfl) (pv 1) pe_int (fun _ _ => rfl)) pe_int (nomark _))
      (pss_one (ps_ret (pe_tup (pa_cons pe_str (pa_cons (pe_mN am.index tk hr (by omega) (pv 0) (pa_cons (pe_ix (ixT K rfl) (pv 1) pe_int (fun _ _ => rfl)) (pa_cons (pe_ix (ixT K rfl) (pv 1) pe_int (fun _ _ => rfl)) (pa_cons (pe_ix (ixT K rfl) (pv 1) pe_int (fun _ _ => rfl)) pa_nil))) (pk_cons (pe_ix (ixT K rfl) (pv 1) pe_int (fun _ _ => rfl)) pk_nil)) pa_nil)))))
      pss_nil))
      (pss_one (ps_ret (pe_tup (pa_cons pe_str (pa_cons (pe_mN am.none tk hr (by omega) (pv 0) (pa_cons (pe_ix (ixT K rfl) (pv 1) pe_int (fun _ _ => rfl)) (pa_cons (pe_ix (ixT K rfl) (pv 1) pe_int (fun _ _ => rfl)) (pa_cons (pe_ix (ixT K rfl) (pv 1) pe_int (fun _ _ => rfl)) pa_nil))) pk_nil) pa_nil)))))))))))
      (.cons (i := 2) rfl rfl ⟨rfl, by decide, Or.inl TE.mB⟩ (fun a oe cls d pn hz hf =>
      (pss_one (ps_ret (pe_tup (pa_cons pe_str (pa_cons pe_str (pa_cons (pe_tup (pa_cons (pe_xf TE.xf TE.nS hz hf (pv 2)) (pa_cons (pe_xf TE.xf TE.nE hz hf (pv 2)) pa_nil))) pa_nil)))))))
      (.cons (i := 2) rfl rfl ⟨rfl, by decide, Or.inl TE.mU⟩ (fun a oe cls d pn hz hf =>
      (pss_one (ps_ret (pe_tup (pa_cons pe_str (pa_cons pe_str (pa_cons (pe_tup (pa_cons (pe_xf TE.xfU TE.nP hz hf (pv 2)) pa_nil)) pa_nil)))))))
      .nil))))), ?_⟩
  refine un ?_
  intro W hW
  have bad : ∀ lo hi : Int, d.lo = lo → d.hi = hi → ¬ (0 ≤ lo ∧ lo < hi ∧ hi ≤ lim) → ∀ x, H x = none → W (.ref D) (some x) (start ["_law_regions", "_law_deed", "e"] [V.ref p, V.ref ra]) (upd H x (.xd (brF lo hi))) := fun lo hi el eh z x nx => hW _ _ _ _ (many_yes TE.eDD fun a na => by
    have s1 := same_upd (o := HO.xd (brF lo hi)) nx
    have gd := upd_same (H := H) (a := x) (o := HO.xd (brF lo hi))
    clear hW
    generalize upd H x (HO.xd (brF lo hi)) = H1 at *
    walk_at "go"
    refine ⟨x, _, .int lo, rfl, gd, br_start, ?_⟩
    walk_at "go"
    refine ⟨x, _, .int hi, rfl, gd, br_end, ?_⟩
    walk_at "go"
    refine ⟨sz, fun t1 n1 => ?_⟩
    have s2 := same_upd (o := HO.tup [V.int lo, V.int hi]) n1
    have g1 := upd_same (H := H1) (a := t1) (o := HO.tup [V.int lo, V.int hi])
    show _
    generalize upd H1 t1 (HO.tup [V.int lo, V.int hi]) = H2 at *
    walk_at "go"
    refine ⟨sz, fun t2 n2 => ?_⟩
    refine q1 (fun y => z (by rw [← el, ← eh]; exact y)) _ _ ((s1.trans s2).trans (same_upd n2)) ?_
    rw [el, eh]
    exact ⟨t2, _, rfl, upd_same, _, _, rfl, rfl, _, _, rfl, rfl, _, _, rfl, ⟨t1, _, rfl, same_upd n2 _ _ g1, _, _, rfl, rfl, _, _, rfl, rfl, rfl⟩, rfl⟩)
  walk_at "go"
  cases d with
  | un lo hi =>
    refine un ?_
    walk_at "go"
    refine ⟨ra, _, _, .str "unassign", rfl, rfl, SqT.of gr, atI_nat (j := 0) rfl, ?_⟩
    walk_at "go"
    refine ⟨p, dx, _, rfl, hc.at_.g, rg_no6, ?_⟩
    walk_at "go"
    refine ⟨ra, _, _, .int lo, rfl, rfl, SqT.of gr, atI_nat (j := 1) rfl, ?_⟩
    walk_at "go"
    refine ⟨ra, _, _, .int hi, rfl, rfl, SqT.of gr, atI_nat (j := 2) rfl, ?_⟩
    walk_at "go"
    refine ⟨p, rp, dx, lim, lo, hi, us, xs, rfl, hc, dok.1, dok.2, fun z rb us' H1 h1 nb b1 => ?_, fun z x nx => bad lo hi rfl rfl z x nx⟩
    walk_at "go"
    refine ⟨sz, fun t nt => ?_⟩
    exact q3 z (fun y => by cases y) _ rb us' _ _ (h1.same (same_upd nt)) (tb_unas z.1 z.2.1 z.2.2 hc.at_.a hc.el tt) (splice_can z.1 z.2.1 z.2.2 hc.at_.a hc.el trivial (by simp)) nb (b1.trans (Same.one (same_upd nt))) ⟨t, _, rfl, upd_same, _, _, rfl, rfl, _, _, rfl, rfl, rfl⟩
  | pr lo hi r =>
    refine un ?_
    walk_at "go"
    refine ⟨ra, _, _, .str "protect", rfl, rfl, SqT.of gr, atI_nat (j := 0) rfl, ?_⟩
    walk_at "go"
    refine un ?_
    walk_at "go"
    refine ⟨ra, _, _, .str "protect", rfl, rfl, SqT.of gr, atI_nat (j := 0) rfl, ?_⟩
    walk_at "go"
    refine ⟨p, dx, _, rfl, hc.at_.g, rg_no7, ?_⟩
    walk_at "go"
    refine ⟨ra, _, _, .int lo, rfl, rfl, SqT.of gr, atI_nat (j := 1) rfl, ?_⟩
    walk_at "go"
    refine ⟨ra, _, _, .int hi, rfl, rfl, SqT.of gr, atI_nat (j := 2) rfl, ?_⟩
    walk_at "go"
    refine ⟨ra, _, _, .str r, rfl, rfl, SqT.of gr, atI_nat (j := 3) rfl, ?_⟩
    walk_at "go"
    have o := hc.at_.a
    refine ⟨p, rp, dx, lim, lo, hi, us, xs, r, rfl, hc, dok.1, dok.2.1, dok.2.2.1, fun z eg rb us' H1 h1 nb b1 => ?_, fun z g eg x H1 s1 nx => ?_, fun z x nx => bad lo hi rfl rfl z x nx⟩
    · walk_at "go"
      refine ⟨sz, fun t nt => ?_⟩
      refine q3 z (fun _ pg k0 k1 => ?_) _ rb us' _ _ (h1.same (same_upd nt)) (tb_prot z.1 z.2.1 z.2.2 o hc.el tt) (splice_can z.1 z.2.1 z.2.2 o hc.el (asc_set r (parts_asc o.ord lo hi)) (fun x hx => (by obtain ⟨y, hy, rfl⟩ := List.mem_map.mp hx; exact parts_end y hy))) nb (b1.trans (Same.one (same_upd nt))) ⟨t, _, rfl, upd_same, _, _, rfl, rfl, _, _, rfl, rfl, rfl⟩
      have k := gap_none (parts_asc o.ord lo hi) eg pg k0 k1
      rw [parts_tb o (by omega), if_pos ⟨k0, k1⟩, tt pg] at k
      exact k
    · obtain ⟨k0, k1, k2, k3⟩ := gap_some (parts_asc o.ord lo hi) parts_end (by omega) eg
      rw [parts_tb o (by omega), if_pos ⟨k0, k1⟩, tt g] at k2
      refine hW _ _ _ _ (many_no TE.eUD (many_yes TE.eUU fun a na => ?_))
      have s2 := s1.trans (same_upd (o := HO.xd (umF g)) nx)
      have gd := upd_same (H := H1) (a := x) (o := HO.xd (umF g))
      generalize upd H1 x (HO.xd (umF g)) = H2 at *
      walk_at "go"
      refine ⟨x, _, .int g, rfl, gd, um_page, ?_⟩
      walk_at "go"
      refine ⟨sz, fun t1 n1 => ?_⟩
      have s3 := s2.trans (same_upd (o := HO.tup [V.int g]) n1)
      have g1 := upd_same (H := H2) (a := t1) (o := HO.tup [V.int g])
      show _
      generalize upd H2 t1 (HO.tup [V.int g]) = H3 at *
      walk_at "go"
      refine ⟨sz, fun t2 n2 => ?_⟩
      refine q2 z rfl g k0 k1 k2 (fun pg j0 j1 => ?_) _ _ (s3.trans (same_upd n2)) ⟨t2, _, rfl, upd_same, _, _, rfl, rfl, _, _, rfl, rfl, _, _, rfl, ⟨t1, _, rfl, same_upd n2 _ _ g1, _, _, rfl, rfl, rfl⟩, rfl⟩
      have k := k3 pg j0 j1
      rw [parts_tb o (by omega), if_pos ⟨j0, by omega⟩, tt pg] at k
      exact k
  | asg lo hi r f i wy =>
    obtain ⟨f0, f1, rk, fk, wk⟩ := dok
    have asg : ∀ rb us' H1, (0 ≤ lo ∧ lo < hi ∧ hi ≤ lim) → RegB C H1 p rb dx lim us' (spliceR lim lo hi [⟨lo, hi, asgM r f i⟩] xs) → H rb = none → But H H1 p → ∀ t, H1 t = none → Q (.ref t) (upd H1 t (.tup [.str "gives", .non])) := fun rb us' H1 z h1 nb b1 t nt =>
      q3 z (fun y => by cases y) _ rb us' _ _ (h1.same (same_upd nt)) (tb_assign z.1 z.2.1 z.2.2 hc.at_.a hc.el tt) (splice_can z.1 z.2.1 z.2.2 hc.at_.a hc.el (show Asc lo [(⟨lo, hi, asgM r f i⟩ : RRow)] from ⟨Int.le_refl _, z.2.1, trivial⟩) (fun x hx => (by rw [List.mem_singleton.mp hx]; exact Int.le_refl _))) nb (b1.trans (Same.one (same_upd nt))) ⟨t, _, rfl, upd_same, _, _, rfl, rfl, _, _, rfl, rfl, rfl⟩
    refine un ?_
    walk_at "go"
    refine ⟨ra, _, _, .str "assign", rfl, rfl, SqT.of gr, atI_nat (j := 0) rfl, ?_⟩
    walk_at "go"
    refine un ?_
    walk_at "go"
    refine ⟨ra, _, _, .str "assign", rfl, rfl, SqT.of gr, atI_nat (j := 0) rfl, ?_⟩
    walk_at "go"
    refine un ?_
    walk_at "go"
    refine ⟨ra, _, _, .int wy, rfl, rfl, SqT.of gr, atI_nat (j := 6) rfl, ?_⟩
    walk_at "go"
    refine ifEq (fun c0 => ?_) (fun c0 => ?_)
    · walk_at "go"
      refine ⟨p, dx, _, rfl, hc.at_.g, rg_no5, ?_⟩
      walk_at "go"
      refine ⟨ra, _, _, .int lo, rfl, rfl, SqT.of gr, atI_nat (j := 1) rfl, ?_⟩
      walk_at "go"
      refine ⟨ra, _, _, .int hi, rfl, rfl, SqT.of gr, atI_nat (j := 2) rfl, ?_⟩
      walk_at "go"
      refine ⟨ra, _, _, .str r, rfl, rfl, SqT.of gr, atI_nat (j := 3) rfl, ?_⟩
      walk_at "go"
      refine ⟨ra, _, _, .str f, rfl, rfl, SqT.of gr, atI_nat (j := 4) rfl, ?_⟩
      walk_at "go"
      refine ⟨ra, _, _, .int i, rfl, rfl, SqT.of gr, atI_nat (j := 5) rfl, ?_⟩
      walk_at "go"
      refine ⟨p, rp, dx, lim, lo, hi, us, xs, _, _, _, rfl, hc, f0, f1, ⟨rk.1, fk.1⟩, fk.2, fun z rb us' H1 h1 nb b1 => ?_, fun z x nx => bad lo hi rfl rfl z x nx⟩
      walk_at "go"
      exact ⟨sz, fun t nt => asg rb us' H1 z h1 nb b1 t nt⟩
    walk_at "go"
    refine un ?_
    walk_at "go"
    refine ⟨ra, _, _, .int wy, rfl, rfl, SqT.of gr, atI_nat (j := 6) rfl, ?_⟩
    walk_at "go"
    refine ifEq (fun c1 => ?_) (fun c1 => ?_)
    · walk_at "go"
      have ei : i = 0 := by omega
      subst ei
      refine ⟨p, dx, _, rfl, hc.at_.g, rg_no5, ?_⟩
      walk_at "go"
      refine ⟨ra, _, _, .int lo, rfl, rfl, SqT.of gr, atI_nat (j := 1) rfl, ?_⟩
      walk_at "go"
      refine ⟨ra, _, _, .int hi, rfl, rfl, SqT.of gr, atI_nat (j := 2) rfl, ?_⟩
      walk_at "go"
      refine ⟨ra, _, _, .str r, rfl, rfl, SqT.of gr, atI_nat (j := 3) rfl, ?_⟩
      walk_at "go"
      refine ⟨ra, _, _, .str f, rfl, rfl, SqT.of gr, atI_nat (j := 4) rfl, ?_⟩
      walk_at "go"
      refine ⟨p, rp, dx, lim, lo, hi, us, xs, _, _, _, rfl, hc, f0, f1, ⟨rk.1, fk.1⟩, fk.2, fun z rb us' H1 h1 nb b1 => ?_, fun z x nx => bad lo hi rfl rfl z x nx⟩
      walk_at "go"
      exact ⟨sz, fun t nt => asg rb us' H1 z h1 nb b1 t nt⟩
    walk_at "go"
    refine un ?_
    walk_at "go"
    refine ⟨ra, _, _, .int wy, rfl, rfl, SqT.of gr, atI_nat (j := 6) rfl, ?_⟩
    walk_at "go"
    refine ifEq (fun c2 => ?_) (fun c2 => ?_)
    · walk_at "go"
      have ef : f = "" := by rcases wk with z | z | z | z <;> first | omega | exact z.2 | exact z.2.1
      subst ef
      refine ⟨p, dx, _, rfl, hc.at_.g, rg_no5, ?_⟩
      walk_at "go"
      refine ⟨ra, _, _, .int lo, rfl, rfl, SqT.of gr, atI_nat (j := 1) rfl, ?_⟩
      walk_at "go"
      refine ⟨ra, _, _, .int hi, rfl, rfl, SqT.of gr, atI_nat (j := 2) rfl, ?_⟩
      walk_at "go"
      refine ⟨ra, _, _, .str r, rfl, rfl, SqT.of gr, atI_nat (j := 3) rfl, ?_⟩
      walk_at "go"
      refine ⟨ra, _, _, .int i, rfl, rfl, SqT.of gr, atI_nat (j := 5) rfl, ?_⟩
      walk_at "go"
      refine ⟨p, rp, dx, lim, lo, hi, us, xs, _, _, _, rfl, hc, f0, f1, ⟨rk.1, fk.1⟩, fk.2, fun z rb us' H1 h1 nb b1 => ?_, fun z x nx => bad lo hi rfl rfl z x nx⟩
      walk_at "go"
      exact ⟨sz, fun t nt => asg rb us' H1 z h1 nb b1 t nt⟩
    walk_at "go"
    have ef : f = "" ∧ i = 0 := by rcases wk with z | z | z | z <;> first | omega | exact z.2
    obtain ⟨rfl, rfl⟩ := ef
    refine ⟨p, dx, _, rfl, hc.at_.g, rg_no5, ?_⟩
    walk_at "go"
    refine ⟨ra, _, _, .int lo, rfl, rfl, SqT.of gr, atI_nat (j := 1) rfl, ?_⟩
    walk_at "go"
    refine ⟨ra, _, _, .int hi, rfl, rfl, SqT.of gr, atI_nat (j := 2) rfl, ?_⟩
    walk_at "go"
    refine ⟨ra, _, _, .str r, rfl, rfl, SqT.of gr, atI_nat (j := 3) rfl, ?_⟩
    walk_at "go"
    refine ⟨p, rp, dx, lim, lo, hi, us, xs, _, _, _, rfl, hc, f0, f1, ⟨rk.1, fk.1⟩, fk.2, fun z rb us' H1 h1 nb b1 => ?_, fun z x nx => bad lo hi rfl rfl z x nx⟩
    walk_at "go"
    exact ⟨sz, fun t nt => asg rb us' H1 z h1 nb b1 t nt⟩
end

end

/-! ### what is due of a deed -/
/-- a Regions object and the law's dictionary agree -/
structure PairAt (C : Addr) (H : Hp) (p da : Addr) (lim : Int) (n : Nat) : Prop where
  ex : ∃ rp dx us xs T, RegB C H p rp dx lim us xs ∧ TbIs xs T ∧ DTab H da T n
theorem PairAt.same {C : Addr} {H H' : Hp} {p da : Addr} {lim : Int} {n : Nat} (h : PairAt C H p da lim n) (s : Same H H') : PairAt C H' p da lim n := by
  obtain ⟨rp, dx, us, xs, T, h1, h2, h3⟩ := h.ex
  exact ⟨rp, dx, us, xs, T, h1.same s, h2, h3.same s⟩
theorem PairAt.but {C : Addr} {H H' : Hp} {p da q : Addr} {lim : Int} {n : Nat} (h : PairAt C H p da lim n) (b : But H H' q) (m : Mut H q) (n1 : p ≠ q) (n2 : da ≠ q) : PairAt C H' p da lim n := by
  obtain ⟨rp, dx, us, xs, T, h1, h2, h3⟩ := h.ex
  exact ⟨rp, dx, us, xs, T, h1.but b m n1, h2, h3.but b m n2⟩
theorem PairAt.le {C : Addr} {H : Hp} {p da : Addr} {lim : Int} {n m : Nat} (h : PairAt C H p da lim n) (l : n ≤ m) : PairAt C H p da lim m := by
  obtain ⟨rp, dx, us, xs, T, h1, h2, h3⟩ := h.ex
  exact ⟨rp, dx, us, xs, T, h1, h2, h3.le l⟩
theorem PairAt.ne {C : Addr} {H : Hp} {p p' da da' : Addr} {lim : Int} {n n' : Nat} (h : PairAt C H p da lim n) (h' : PairAt C H p' da' lim n') : p ≠ da' := by
  obtain ⟨rp, dx, us, xs, T, h1, _⟩ := h.ex
  obtain ⟨_, _, _, _, _, _, _, h3⟩ := h'.ex
  exact reg_tab h1 h3
/-- what is due of a deed, and the table behind it -/
def IsDue (d : Deed) (T : Int → Option RMark) (lim : Int) (e : PyData) (T' : Int → Option RMark) : Prop :=
  (¬ d.fine lim ∧ e = badD d.lo d.hi ∧ T' = T) ∨
  (d.fine lim ∧ d.isPr = true ∧ ∃ g, d.lo ≤ g ∧ g < d.hi ∧ T g = none ∧ (∀ p, d.lo ≤ p → p < g → (T p).isSome = true) ∧ e = unmD g ∧ T' = T) ∨
  (d.fine lim ∧ (d.isPr = true → ∀ p, d.lo ≤ p → p < d.hi → (T p).isSome = true) ∧ e = giveD ∧ T' = d.tab T)
theorem IsDue.uniq {d : Deed} {T T1 T2 : Int → Option RMark} {lim : Int} {e1 e2 : PyData} (h1 : IsDue d T lim e1 T1) (h2 : IsDue d T lim e2 T2) : e1 = e2 ∧ T1 = T2 := by
  rcases h1 with ⟨a, rfl, rfl⟩ | ⟨a, b, g, g0, g1, g2, g3, rfl, rfl⟩ | ⟨a, b, rfl, rfl⟩ <;> rcases h2 with ⟨a', rfl, rfl⟩ | ⟨a', b', g', g0', g1', g2', g3', rfl, rfl⟩ | ⟨a', b', rfl, rfl⟩
  · exact ⟨rfl, rfl⟩
  · exact absurd a' a
  · exact absurd a' a
  · exact absurd a a'
  · have : g = g' := by
      rcases Int.lt_trichotomy g g' with z | z | z
      · have := g3' g g0 z
        rw [g2] at this
        cases this
      · exact z
      · have := g3 g' g0' z
        rw [g2'] at this
        cases this
    rw [this]
    exact ⟨rfl, rfl⟩
  · have := b' b g g0 g1
    rw [g2] at this
    cases this
  · exact absurd a a'
  · have := b b' g' g0' g1'
    rw [g2'] at this
    cases this
  · exact ⟨rfl, rfl⟩
theorem dle_due {d : Deed} {T T' : Int → Option RMark} {lim : Int} {e : PyData} (h : IsDue d T lim e T') : Dle 4 e := by
  have two : ∀ x y : PyData, Dle 3 x → Dle 3 y → Dle 4 (.tuple [x, y]) := fun x y hx hy => ⟨by simp, fun z hz => by
    simp only [List.mem_cons, List.not_mem_nil, or_false] at hz
    rcases hz with rfl | rfl
    · exact hx
    · exact hy⟩
  have three : ∀ x y z : PyData, Dle 3 x → Dle 3 y → Dle 3 z → Dle 4 (.tuple [x, y, z]) := fun x y z hx hy hz => ⟨by simp, fun u hu => by
    simp only [List.mem_cons, List.not_mem_nil, or_false] at hu
    rcases hu with rfl | rfl | rfl
    · exact hx
    · exact hy
    · exact hz⟩
  rcases h with ⟨_, rfl, _⟩ | ⟨_, _, g, _, _, _, _, rfl, _⟩ | ⟨_, _, rfl, _⟩
  · exact three _ _ _ trivial trivial ⟨by simp, fun u hu => by
      simp only [List.mem_cons, List.not_mem_nil, or_false] at hu
      rcases hu with rfl | rfl <;> trivial⟩
  · exact three _ _ _ trivial trivial ⟨by simp, fun u hu => by
      simp only [List.mem_cons, List.not_mem_nil, or_false] at hu
      rcases hu with rfl
      trivial⟩
  · exact two _ _ trivial trivial
theorem do_one {H : Hp} {Q : VK} {E : XK} {da ra : Addr} {d : Deed} {lim : Int} {T : Int → Option RMark} {n : Nat} (dt : DTab H da T n) (hn : n ≤ 900000) (hl : lim ≤ 5000) (g : H ra = some (.tup d.t)) (ok : d.ok)
    (q : ∀ v e T' H', But H H' da → DTab H' da T' (n + 5000) → IsDue d T lim e T' → Dh H' e v → Q v H') : spDo [.ref da, .ref ra, .int lim] H Q E :=
  ⟨da, ra, d, lim, T, n, rfl, dt, hn, hl, g, ok, fun z v H' s h => q v _ T H' (Same.one s) ((dt.same s).le (by omega)) (.inl ⟨z, rfl, rfl⟩) h,
    fun z pr g g0 g1 g2 g3 v H' s h => q v _ T H' (Same.one s) ((dt.same s).le (by omega)) (.inr (.inl ⟨z, pr, g, g0, g1, g2, g3, rfl, rfl⟩)) h,
    fun z al v H' b h3 h => q v _ _ H' b h3 (.inr (.inr ⟨z, al, rfl, rfl⟩)) h⟩
theorem ask_one {C : Addr} {H : Hp} {Q : VK} {E : XK} {p rp dx ra : Addr} {d : Deed} {lim : Int} {us : List V} {xs : List RRow} {T : Int → Option RMark} (hc : RegB C H p rp dx lim us xs) (tt : TbIs xs T) (g : H ra = some (.tup d.t)) (ok : d.ok)
    (q : ∀ v e T' rp' us' xs' H', RegB C H' p rp' dx lim us' xs' → TbIs xs' T' → (Can xs → Can xs') → But H H' p → IsDue d T lim e T' → Dh H' e v → Q v H') : spAsk C [.ref p, .ref ra] H Q E :=
  ⟨p, rp, dx, ra, d, lim, us, xs, T, rfl, hc, tt, g, ok, fun z v H' s h => q v _ T rp us xs H' (hc.same s) tt (fun k => k) (Same.one s) (.inl ⟨z, rfl, rfl⟩) h,
    fun z pr g g0 g1 g2 g3 v H' s h => q v _ T rp us xs H' (hc.same s) tt (fun k => k) (Same.one s) (.inr (.inl ⟨z, pr, g, g0, g1, g2, g3, rfl, rfl⟩)) h,
    fun z al v rp' us' xs' H' h1 h2 h3 _ b h => q v _ _ rp' us' xs' H' h1 h2 h3 b (.inr (.inr ⟨z, al, rfl, rfl⟩)) h⟩
theorem RegB.but2 {C : Addr} {H H' : Hp} {p ra dx q q' : Addr} {lim : Int} {us : List V} {xs : List RRow} (h : RegB C H p ra dx lim us xs) (b : ∀ c o, c ≠ q → c ≠ q' → H c = some o → H' c = some o) (m : Mut H q) (m' : Mut H q') (n : p ≠ q) (n' : p ≠ q') : RegB C H' p ra dx lim us xs :=
  ⟨⟨b _ _ n n' h.at_.g, b _ _ (fun z => m.1 _ (by rw [← z]; exact h.at_.r)) (fun z => m'.1 _ (by rw [← z]; exact h.at_.r)) h.at_.r, rows_mono (fun a us g => b _ _ (fun z => m.2 _ (by rw [← z]; exact g)) (fun z => m'.2 _ (by rw [← z]; exact g)) g) h.at_.d, h.at_.a, h.at_.ok, h.at_.n⟩, h.el, h.l0, h.l1⟩
theorem DTab.but2 {H H' : Hp} {da q q' : Addr} {T : Int → Option RMark} {n : Nat} (h : DTab H da T n) (b : ∀ c o, c ≠ q → c ≠ q' → H c = some o → H' c = some o) (m : Mut H q) (m' : Mut H q') (n1 : da ≠ q) (n2 : da ≠ q') : DTab H' da T n := by
  obtain ⟨kvs, g, l, t⟩ := h.ex
  refine ⟨kvs, b _ _ n1 n2 g, l, fun p => ⟨(t p).1, fun m'' e => ?_⟩⟩
  obtain ⟨a, e1, e2⟩ := (t p).2 m'' e
  exact ⟨a, e1, b _ _ (fun z => m.2 _ (by rw [← z]; exact e2)) (fun z => m'.2 _ (by rw [← z]; exact e2)) e2⟩
mutual
/-- no lists inside -/
def noL : PyData → Bool
  | .list _ => false
  | .dict _ => false
  | .tuple ds => noLs ds
  | _ => true
def noLs : List PyData → Bool
  | [] => true
  | d :: ds => noL d && noLs ds
end
mutual
theorem Dh.tups {H H' : Hp} (s : ∀ a us, H a = some (.tup us) → H' a = some (.tup us)) : ∀ (d : PyData) (x : V), noL d = true → Dh H d x → Dh H' d x
  | .none, x, _, h => h
  | .bool b, x, _, h => h
  | .int i, x, _, h => h
  | .str i, x, _, h => h
  | .list ds, x, n, h => by cases n
  | .tuple ds, x, n, h => by
    obtain ⟨a, xs, e, g, r⟩ := h
    exact ⟨a, xs, e, s _ _ g, DhAll.tups s ds xs n r⟩
  | .dict _, x, n, h => by cases n
theorem DhAll.tups {H H' : Hp} (s : ∀ a us, H a = some (.tup us) → H' a = some (.tup us)) : ∀ (ds : List PyData) (xs : List V), noLs ds = true → DhAll H ds xs → DhAll H' ds xs
  | [], xs, _, h => h
  | d :: ds, xs, n, h => by
    obtain ⟨v, vs, e, g, r⟩ := h
    have n2 : noL d = true ∧ noLs ds = true := Bool.and_eq_true_iff.mp n
    exact ⟨v, vs, e, Dh.tups s d v n2.1 g, DhAll.tups s ds vs n2.2 r⟩
end
theorem due_noL {d : Deed} {T T' : Int → Option RMark} {lim : Int} {e : PyData} (h : IsDue d T lim e T') : noL e = true := by
  rcases h with ⟨_, rfl, _⟩ | ⟨_, _, g, _, _, _, _, rfl, _⟩ | ⟨_, _, rfl, _⟩ <;> rfl
theorem gap_empty {lim : Int} (h : 1 ≤ lim) : gap (partsR 0 lim []) 0 lim = some 0 := by
  have e : partsR 0 lim [] = [] := by
    unfold partsR nearR clipR
    simp
  rw [e]
  unfold gap
  rw [if_pos (by omega)]
theorem same_one {H H1 H2 : Hp} {q : Addr} (s : Same H H1) (n : H q = none) (b : But H1 H2 q) : Same H H2 := fun c o e => b c o (ne_of_none e n) (s c o e)

section

-- a condition of an operator
local macro_rules | `(tactic| walk_at "cond") => `(tactic| first
  | (show (0 : Int) < _; omega)
  | (show CDiv _ _; constructor <;> (first | decide | omega))
  | (show CMul _ _; first | (refine cmul_l ?_; constructor <;> (first | decide | omega)) | (refine cmul_r ?_; constructor <;> (first | decide | omega)))
  | (show CPow _ _; exact (by refine ⟨by decide, by decide, by decide⟩))
  | (show CDivW _ _; exact ⟨by decide, by decide +kernel⟩))
local macro_rules | `(tactic| walk_at "sq") => `(tactic| first | assumption | exact Dh.mono (same_upd (by assumption)) _ _ (by assumption) | exact .inl (.inl (.inl (by assumption))) | exact .inr (.inl (.inl (by assumption))) | exact SqL.of (by assumption) | exact .inl (by assumption) | exact .inl (SqL.of (by assumption)) | exact SqT.of (by assumption) | exact .inr (SqT.of (by assumption)))
local macro_rules | `(tactic| walk_at "st") => `(tactic| first
  | refine ⟨_, rfl, ?_⟩
  | refine ⟨_, _, rfl, rfl, ?_⟩
  | refine .inl ⟨_, rfl, ?_⟩
  | refine ⟨rfl, ?_⟩
  | refine ⟨_, _, rfl, by walk_at "sq", ?_⟩
  | refine ⟨.inl ⟨rfl, _, SqL.of (by assumption)⟩, ?_⟩
  | refine ⟨by walk_at "cond", ?_⟩
  | (refine' ifBT ?hh ?_; (case hh => first | rfl | assumption))
  | (refine' ifBF ?hh ?_; (case hh => first | rfl | assumption)))
local macro_rules | `(tactic| walk_at "go") => `(tactic| repeat walk_at "st")
local macro_rules | `(tactic| walk_at "yes") => `(tactic| (refine' ifT ?hh ?_; (case hh => first | rfl | decide +kernel)))
local macro_rules | `(tactic| walk_at "no") => `(tactic| (refine' ifF ?hh ?_; (case hh => first | decide +kernel | (intro z; cases z; done))))

/-! ### as_list, the mark after -/
abbrev s_Regions_as_list : Stmt := inClass (topS 27) 4
theorem sc_Regions_as_list : FnScope ["self"] ["self"] (C8.fnScope s_Regions_as_list) := C8.fnScope_by (by decide +kernel)
abbrev s_after : Stmt := topS 42
theorem sc_after : FnScope ["_law_mark"] ["_law_mark"] (C8.fnScope s_after) := C8.fnScope_by (by decide +kernel)
def spAsList (C : Addr) : Sp := fun vs H Q _ => ∃ (p ra dx : Addr) (lim : Int) (us : List V) (xs : List RRow), vs = [.ref p] ∧ RegAt C H p ra dx lim us xs ∧ ∀ l, H l = none → Q (.ref l) (upd H l (.lst us))
def spNext : Sp := fun vs H Q _ => ∃ (a : Addr) (m : RMark), vs = [.ref a] ∧ H a = some (.tup (mV m)) ∧ ∀ b H', Same H H' → H' b = some (.tup (mV (m.after 1))) → Q (.ref b) H'
section
variable {P : Program} {w : World} {K : PySem.W.Frag} {mg : Str → Option Value} {base : Heap} {C : Addr}
theorem ok_as_list {f : Addr} {fd : FuncData} (F : C8.Fun K "as_list" "Regions.as_list" s_Regions_as_list f fd) (M : Meth K C "as_list" f) (b : Binds K fd ["self"] []) (S : STxt K mg C) (T : TMm mg) : C8.Met P w K mg base 1 C "as_list" (spAsList C) [] := by
  refine C8.met0 S.cl M F b sc_Regions_as_list (fun vs H Q E h => ?_) (fun cdv A outer s H vs Q E hr h => ?_)
  · obtain ⟨p, ra, dx, lim, us, xs, rfl, _⟩ := h
    rfl
  obtain ⟨p, ra, dx, lim, us, xs, rfl, hc, q⟩ := h
  refine ⟨_, (pss_one (ps_ret (pe_callTy (listQ K rfl) (by rfl) T.list (by decide +kernel) (pa_cons (pe_fld (pv 0) rfl) pa_nil)))), ?_⟩
  walk_at "go"
  refine ⟨_, _, _, _, _, rfl, hc.g, S.cl, S.n2, rg_rows, ?_⟩
  walk_at "go"
  exact ⟨ra, us, rfl, .inl (SqL.of hc.r), q⟩
theorem ok_next {f : Addr} {fd : FuncData} (D : Def K mg "_law_after" s_after f fd) (b : Binds K fd ["_law_mark"] []) : Cal P w K mg base 1 "_law_after" spNext [] := by
  refine cal0 D b .nil sc_after (fun vs H Q E h => ?_) (fun cdv A outer s H vs Q E hr h => ?_)
  · obtain ⟨a, m, rfl, _⟩ := h
    rfl
  obtain ⟨a, m, rfl, g, q⟩ := h
  refine ⟨_, (pss_cons (ps_mk (ps_if (pt_cmpR op_eq (pe_ix (ixT K rfl) (pv 0) pe_int (fun _ _ => rfl)) pe_str (nomark _))
      (pss_one (ps_ret (pv 0)))
      pss_nil))
      (pss_one (ps_ret (pe_tup (pa_cons (pe_ix (ixT K rfl) (pv 0) pe_int (fun _ _ => rfl)) (pa_cons (pe_ix (ixT K rfl) (pv 0) pe_int (fun _ _ => rfl)) (pa_cons (pe_op op_add (pe_ix (ixT K rfl) (pv 0) pe_int (fun _ _ => rfl)) pe_int) pa_nil))))))), ?_⟩
  refine jnS (M := fun σ H' => H' = H ∧ m.f ≠ "" ∧ σ = [sR a]) ?_ (fun N kk => ?_)
  rotate_left
  · walk_at "go"
    refine ⟨a, _, _, .str m.f, rfl, rfl, SqT.of g, atI_nat (j := 1) rfl, ?_⟩
    walk_at "go"
    refine ifD (fun c => ?_) (fun c => ?_)
    · walk_at "go"
      refine q _ _ same_rfl ?_
      have e : m.after 1 = m := by
        unfold RMark.after
        rw [if_pos (V.str.inj c)]
      rw [e]
      exact g
    · exact kk _ _ ⟨rfl, fun z => c (congrArg V.str z), rfl⟩
  rintro σ H1 ⟨e1, ne, rfl⟩
  subst e1
  walk_at "go"
  refine ⟨a, _, _, .str m.r, rfl, rfl, SqT.of g, atI_nat (j := 0) rfl, ?_⟩
  walk_at "go"
  refine ⟨a, _, _, .str m.f, rfl, rfl, SqT.of g, atI_nat (j := 1) rfl, ?_⟩
  walk_at "go"
  refine ⟨a, _, _, .int m.i, rfl, rfl, SqT.of g, atI_nat (j := 2) rfl, ?_⟩
  walk_at "go"
  refine ⟨sz, fun t nt => ?_⟩
  refine q _ _ (same_upd nt) ?_
  have e : m.after 1 = ⟨m.r, m.f, m.i + 1⟩ := by
    unfold RMark.after
    rw [if_neg ne]
  rw [e]
  exact upd_same
end
/-! ### counting -/
theorem nodup_len {α : Type} [BEq α] [LawfulBEq α] : ∀ {xs ys : List α}, xs.Nodup → ys.Nodup → (∀ a, a ∈ xs ↔ a ∈ ys) → xs.length = ys.length
  | [], [], _, _, _ => rfl
  | [], y :: ys, _, _, h => absurd ((h y).mpr List.mem_cons_self) (by simp)
  | x :: xs, ys, hx, hy, h => by
    have mx : x ∈ ys := (h x).mp List.mem_cons_self
    have cx := List.nodup_cons.mp hx
    have ih := nodup_len cx.2 (hy.erase x) fun a => by
      rw [hy.mem_erase_iff]
      constructor
      · intro k
        exact ⟨fun e => cx.1 (e ▸ k), (h a).mp (List.mem_cons_of_mem _ k)⟩
      · rintro ⟨ne, k⟩
        rcases List.mem_cons.mp ((h a).mpr k) with e | k
        · exact absurd e ne
        · exact k
    rw [List.length_erase_of_mem mx] at ih
    have : 0 < ys.length := List.length_pos_of_mem mx
    rw [List.length_cons]
    omega
def keyI (kv : Key × V) : Int := match kv.1 with
  | .inl i => i
  | .inr _ => 0
theorem keys_nd {kvs : List (Key × V)} {n : Nat} (h : KOk kvs n) : (kvs.map keyI).Nodup := by
  have k := h.nd
  have ki := h.ki
  clear h
  induction kvs with
  | nil => exact List.nodup_nil
  | cons kv kvs ih =>
    have c := List.nodup_cons.mp k
    refine List.nodup_cons.mpr ⟨fun z => c.1 ?_, ih c.2 fun kw hw => ki kw (List.mem_cons_of_mem _ hw)⟩
    obtain ⟨kw, hw, e⟩ := List.mem_map.mp z
    obtain ⟨i, ei⟩ := ki kv List.mem_cons_self
    obtain ⟨j, ej⟩ := ki kw (List.mem_cons_of_mem _ hw)
    have e2 : i = j := by
      unfold keyI at e
      rw [ei, ej] at e
      exact e.symm
    show kv.1 ∈ _
    rw [ei, e2, ← ej]
    exact List.mem_map.mpr ⟨kw, hw, rfl⟩
theorem keys_mem {kvs : List (Key × V)} {n : Nat} (h : KOk kvs n) (p : Int) : p ∈ kvs.map keyI ↔ (valV kvs (.inl p)).isSome = true := by
  rw [← valV_any, List.any_eq_true, List.mem_map]
  constructor
  · rintro ⟨kv, hkv, e⟩
    obtain ⟨i, ei⟩ := h.ki kv hkv
    refine ⟨kv, hkv, decide_eq_true ?_⟩
    unfold keyI at e
    rw [ei] at e
    rw [ei]
    exact congrArg Sum.inl e
  · rintro ⟨kv, hkv, e⟩
    refine ⟨kv, hkv, ?_⟩
    unfold keyI
    rw [of_decide_eq_true e]
theorem keys_V {kvs : List (Key × V)} {n : Nat} (h : KOk kvs n) : kvs.map (fun kv => kV kv.1) = (kvs.map keyI).map V.int := by
  rw [List.map_map]
  refine List.map_congr_left fun kv hkv => ?_
  obtain ⟨i, ei⟩ := h.ki kv hkv
  show kV kv.1 = V.int (keyI kv)
  unfold keyI
  rw [ei]
  rfl
def pagesR (xs : List RRow) : List Int := xs.flatMap fun x => (List.range (x.e - x.s).toNat).map fun i : Nat => x.s + (i : Int)
theorem pages_mem {xs : List RRow} (p : Int) : p ∈ pagesR xs ↔ ∃ x ∈ xs, x.s ≤ p ∧ p < x.e := by
  unfold pagesR
  rw [List.mem_flatMap]
  constructor
  · rintro ⟨x, hx, h⟩
    obtain ⟨i, hi, rfl⟩ := List.mem_map.mp h
    have := List.mem_range.mp hi
    exact ⟨x, hx, by omega, by omega⟩
  · rintro ⟨x, hx, h0, h1⟩
    exact ⟨x, hx, List.mem_map.mpr ⟨(p - x.s).toNat, List.mem_range.mpr (by omega), by omega⟩⟩
def sumR : List RRow → Int
  | [] => 0
  | x :: xs => (x.e - x.s) + sumR xs
theorem sum_snoc (x : RRow) : ∀ xs : List RRow, sumR (xs ++ [x]) = sumR xs + (x.e - x.s)
  | [] => by
    show (x.e - x.s) + 0 = 0 + (x.e - x.s)
    omega
  | y :: ys => by
    show (y.e - y.s) + sumR (ys ++ [x]) = (y.e - y.s) + sumR ys + _
    rw [sum_snoc x ys]
    omega
theorem pages_len : ∀ {xs : List RRow}, Ord xs → ((pagesR xs).length : Int) = sumR xs
  | [], _ => rfl
  | x :: xs, o => by
    have ih := pages_len (xs := xs) ⟨fun z hz => o.1 z (List.mem_cons_of_mem _ hz), (List.pairwise_cons.mp o.2).2⟩
    have x0 := o.1 x List.mem_cons_self
    have e : pagesR (x :: xs) = ((List.range (x.e - x.s).toNat).map fun i : Nat => x.s + (i : Int)) ++ pagesR xs := by
      unfold pagesR
      rw [List.flatMap_cons]
    rw [e, List.length_append, List.length_map, List.length_range]
    show _ = (x.e - x.s) + sumR xs
    omega
theorem pages_nd : ∀ {xs : List RRow}, Ord xs → (pagesR xs).Nodup
  | [], _ => List.nodup_nil
  | x :: xs, o => by
    have p := List.pairwise_cons.mp o.2
    have ih := pages_nd (xs := xs) ⟨fun z hz => o.1 z (List.mem_cons_of_mem _ hz), p.2⟩
    have e : pagesR (x :: xs) = ((List.range (x.e - x.s).toNat).map fun i : Nat => x.s + (i : Int)) ++ pagesR xs := by
      unfold pagesR
      rw [List.flatMap_cons]
    rw [e]
    refine List.nodup_append.mpr ⟨?_, ih, fun a ha b hb z => ?_⟩
    · refine List.Pairwise.map _ (fun a b ne z => ne (by omega)) List.nodup_range
    · obtain ⟨i, hi, rfl⟩ := List.mem_map.mp ha
      obtain ⟨y, hy, y0, _⟩ := (pages_mem b).mp hb
      have := List.mem_range.mp hi
      have := p.1 y hy
      omega
/-- as many pages in the rows as keys in the dictionary -/
theorem keys_sum {xs : List RRow} {kvs : List (Key × V)} {n : Nat} (o : Ord xs) (h : KOk kvs n) (t : ∀ p : Int, (valV kvs (.inl p)).isSome = (tb xs p).isSome) : (kvs.length : Int) = sumR xs := by
  rw [← pages_len o]
  have := nodup_len (keys_nd h) (pages_nd o) fun p => by
    rw [keys_mem h, t, pages_mem]
    constructor
    · intro k
      obtain ⟨m, e⟩ := Option.isSome_iff_exists.mp k
      obtain ⟨x, hx, x0, x1, _⟩ := tb_some e
      exact ⟨x, hx, x0, x1⟩
    · rintro ⟨x, hx, x0, x1⟩
      rw [tb_mem o hx x0 x1]
      rfl
  rw [List.length_map] at this
  rw [this]
theorem tab_some {H : Hp} {kvs : List (Key × V)} {T : Int → Option RMark} (t : ∀ q : Int, (T q = none → valV kvs (.inl q) = none) ∧ ∀ m, T q = some m → ∃ a, valV kvs (.inl q) = some (.ref a) ∧ H a = some (.tup (mV m))) (p : Int) : (valV kvs (.inl p)).isSome = (T p).isSome := by
  cases e : T p with
  | none =>
    rw [(t p).1 e]
    rfl
  | some m =>
    obtain ⟨a, e1, _⟩ := (t p).2 m e
    rw [e1]
    rfl

end

/-! ### further facts of regions and tables -/
theorem dh_rows {H : Hp} {a : Addr} {us : List V} {xs : List RRow} (g : H a = some (.lst us)) (d : DhAll H (xs.map rD) us) : Dh H (.list (xs.map rD)) (.ref a) := ⟨a, us, rfl, g, d⟩
theorem RegB.lst {C : Addr} {H : Hp} {p ra dx q : Addr} {lim : Int} {us zs zs' : List V} {xs : List RRow} (h : RegB C H p ra dx lim us xs) (g : H q = some (.lst zs)) (n : ra ≠ q) : RegB C (upd H q (.lst zs')) p ra dx lim us xs := by
  have pq : p ≠ q := fun z => by
    have k := h.at_.g
    rw [z, g] at k
    cases k
  exact ⟨⟨by rw [upd_ne pq]; exact h.at_.g, by rw [upd_ne n]; exact h.at_.r, rows_put g h.at_.d, h.at_.a, h.at_.ok, h.at_.n⟩, h.el, h.l0, h.l1⟩
/-- marks in good order -/
def TOk (T : Int → Option RMark) : Prop := ∀ p m, T p = some m → NmOk m.r ∧ NmOk m.f ∧ (m.f = "" → m.i = 0)
theorem nm_empty : NmOk "" := ⟨by decide +kernel, by decide +kernel⟩
theorem TOk.tab {T : Int → Option RMark} (h : TOk T) {d : Deed} (k : d.ok) : TOk (d.tab T) := fun p m e => by
  have e : (if d.lo ≤ p ∧ p < d.hi then d.at_ T p else T p) = some m := e
  split at e
  · cases d with
    | un lo hi => cases e
    | pr lo hi r =>
      obtain ⟨m', e', rfl⟩ := Option.map_eq_some_iff.mp e
      have h' := h p m' e'
      exact ⟨k.2.2, h'.2.1, h'.2.2⟩
    | asg lo hi r f i w =>
      have e2 : (if f = "" then (⟨r, "", 0⟩ : RMark) else ⟨r, f, i + (p - lo)⟩) = m := Option.some.inj e
      split at e2
      · subst e2
        exact ⟨k.2.2.1, nm_empty, fun _ => rfl⟩
      · rename_i c
        subst e2
        exact ⟨k.2.2.1, k.2.2.2.1, fun z => absurd z c⟩
  · exact h p m e
theorem due_tok {d : Deed} {T T' : Int → Option RMark} {lim : Int} {e : PyData} (h : TOk T) (k : d.ok) (u : IsDue d T lim e T') : TOk T' := by
  rcases u with ⟨_, _, rfl⟩ | ⟨_, _, _, _, _, _, _, _, rfl⟩ | ⟨_, _, _, rfl⟩
  · exact h
  · exact h
  · exact h.tab k

section

-- a condition of an operator
local macro_rules | `(tactic| walk_at "cond") => `(tactic| first
  | (show (0 : Int) < _; omega)
  | (show CDiv _ _; constructor <;> (first | decide | omega))
  | (show CMul _ _; first | (refine cmul_l ?_; constructor <;> (first | decide | omega)) | (refine cmul_r ?_; constructor <;> (first | decide | omega)))
  | (show CPow _ _; exact (by refine ⟨by decide, by decide, by decide⟩))
  | (show CDivW _ _; exact ⟨by decide, by decide +kernel⟩))
local macro_rules | `(tactic| walk_at "sq") => `(tactic| first | assumption | exact Dh.mono (same_upd (by assumption)) _ _ (by assumption) | exact .inl (.inl (.inl (by assumption))) | exact .inr (.inl (.inl (by assumption))) | exact SqL.of (by assumption) | exact .inl (by assumption) | exact .inl (SqL.of (by assumption)) | exact SqT.of (by assumption) | exact .inr (SqT.of (by assumption)))
local macro_rules | `(tactic| walk_at "st") => `(tactic| first
  | refine ⟨_, rfl, ?_⟩
  | refine ⟨_, _, rfl, rfl, ?_⟩
  | refine .inl ⟨_, rfl, ?_⟩
  | refine ⟨rfl, ?_⟩
  | refine ⟨_, _, rfl, by walk_at "sq", ?_⟩
  | refine ⟨.inl ⟨rfl, _, SqL.of (by assumption)⟩, ?_⟩
  | refine ⟨by walk_at "cond", ?_⟩
  | (refine' ifBT ?hh ?_; (case hh => first | rfl | assumption))
  | (refine' ifBF ?hh ?_; (case hh => first | rfl | assumption)))
local macro_rules | `(tactic| walk_at "go") => `(tactic| repeat walk_at "st")
local macro_rules | `(tactic| walk_at "yes") => `(tactic| (refine' ifT ?hh ?_; (case hh => first | rfl | decide +kernel)))
local macro_rules | `(tactic| walk_at "no") => `(tactic| (refine' ifF ?hh ?_; (case hh => first | decide +kernel | (intro z; cases z; done))))

open RT
open RZ
/-! ### _spans_of -/
abbrev s_spans_of : Stmt := topS 25
theorem sc_spans_of : FnScope ["widths", "spans", "width"] ["widths"] (C8.fnScope s_spans_of) := C8.fnScope_by (by decide +kernel)
structure Txt1 (mg : Str → Option Value) : Prop where
  len : mg "len" = none
  reversed : mg "reversed" = none
  tuple : mg "tuple" = none
  zip : mg "zip" = none
  sum : mg "sum" = none
def prodI : List Int → Int
  | [] => 1
  | w :: ws => w * prodI ws
def spansOf : List Int → List Int
  | [] => []
  | _ :: ws => prodI ws :: spansOf ws
def Small (ws : List Int) : Prop := ws ≠ [] ∧ ws.length ≤ 6 ∧ ∀ w ∈ ws, 2 ≤ w ∧ w ≤ 8
theorem spans_last (w : Int) : spansOf [w] = [1] := rfl
theorem spans_drop {ws : List Int} {k : Nat} (h : k + 1 < ws.length) : spansOf (ws.drop k) = (prodI (ws.drop (k + 1))) :: spansOf (ws.drop (k + 1)) := by
  rw [List.drop_eq_getElem_cons (by omega)]
  rfl
theorem prod_drop {ws : List Int} {k : Nat} (h : k < ws.length) : prodI (ws.drop k) = ws[k] * prodI (ws.drop (k + 1)) := by
  rw [List.drop_eq_getElem_cons h]
  rfl
theorem six1 {n d : Nat} (h : 1 ≤ n) : HT.sIx n d (some 1) = 1 := by
  rw [show (1 : Int) = ((1 : Nat) : Int) from rfl, HT.sIx_nat]
  omega
theorem cut_tail (x : V) (xs : List V) : cutV (x :: xs) (some 1) none = xs := by
  unfold cutV
  rw [six1 (by simp), HT.sIx_none]
  simp
def spSpans (K : PySem.W.Frag) : Sp := fun vs H Q _ => ∃ (p : Addr) (ws : List Int), vs = [.ref p] ∧ SqT K H p (ws.map V.int) ∧ Small ws ∧ ∀ r H', Same H H' → H r = none → H' r = some (.tup ((spansOf ws).map V.int)) → Q (.ref r) H'
section
variable {P : Program} {w : World} {K : PySem.W.Frag} {mg : Str → Option Value} {base : Heap}
theorem ok_spans {f : Addr} {fd : FuncData} (D : Def K mg "_spans_of" s_spans_of f fd) (b : Binds K fd ["widths"] []) (T : Txt1 mg) : Cal P w K mg base 1 "_spans_of" (spSpans K) [] := by
  refine cal0 D b .nil sc_spans_of (fun vs H Q E h => ?_) (fun cdv A outer s H vs Q E hr h => ?_)
  · obtain ⟨p, ws, rfl, _⟩ := h
    rfl
  obtain ⟨p, ws, rfl, hp, sm, q⟩ := h
  refine ⟨_, (pss_cons (ps_set (i := 1) sc_spans_of.nd rfl (.inl rfl) (pe_lst (pa_cons pe_int pa_nil)))
      (pss_cons (ps_mk (ps_for PassesOwn.never rfl (pi_revA (by rfl) T.reversed (pe_slice sl_tup (pv 0) (po_some pe_int) po_none)) (pg_name (i := 2) sc_spans_of.nd rfl (.inl rfl))
      (pss_one (ps_expr (pe_bm PySem.F.plainAttrs_list PySem.F.slot_list_append PySem.F.type_list_append mt_append (pv 1) (pa_cons (pe_op op_mul (pe_ix (ixL K rfl) (pv 1) (pe_un un_neg pe_int) (fun _ _ => rfl)) (pv 2)) pa_nil))))))
      (pss_one (ps_ret (pe_callTy call_tuple_of (by rfl) T.tuple (by decide +kernel) (pa_cons (pe_revL (pv 1)) pa_nil)))))), ?_⟩
  walk_at "go"
  refine ⟨sz, fun L nL => ?_⟩
  have s1 := same_upd (o := HO.lst [V.int 1]) nL
  have gL := upd_same (H := H) (a := L) (o := HO.lst [V.int 1])
  have hp1 := sameT s1 hp
  generalize upd H L (HO.lst [V.int 1]) = H1 at *
  obtain ⟨ne, l6, sm⟩ := sm
  obtain ⟨w0, w1, rfl⟩ : ∃ w0 w1, ws = w0 :: w1 := by
    cases ws with
    | nil => exact absurd rfl ne
    | cons a b => exact ⟨a, b, rfl⟩
  walk_at "go"
  refine jnS (M := fun σ H' => Same H H' ∧ ∃ y, H' L = some (.lst ((spansOf (w0 :: w1)).reverse.map V.int)) ∧ σ = [sR p, sR L, y]) ?_ (fun N kk => ?_)
  · rintro σ H2 ⟨s2, y, g2, rfl⟩
    walk_at "go"
    intro r nr
    walk_at "go"
    refine ⟨r, _, rfl, .inl ⟨SqL.of upd_same, fun t nt => ?_⟩⟩
    have s3 := s2.trans (same_upd (o := HO.lst ((spansOf (w0 :: w1)).reverse.map V.int).reverse) nr)
    refine q t _ (s3.trans (same_upd nt)) (s3.free nt) ?_
    rw [upd_same, ← List.map_reverse, List.reverse_reverse]
  walk_at "go"
  have n7 : 1 ≤ ((w0 :: w1).map V.int).length := by simp
  refine ⟨fun z => absurd z.1 (by rw [six1 n7]; decide), fun t nt => ?_⟩
  have s2 := same_upd (o := HO.tup (cutV ((w0 :: w1).map V.int) (some 1) none)) nt
  have gt := upd_same (H := H1) (a := t) (o := HO.tup (cutV ((w0 :: w1).map V.int) (some 1) none))
  rw [show cutV ((w0 :: w1).map V.int) (some 1) none = w1.map V.int from cut_tail _ _] at s2 gt ⊢
  have gL2 := s2 _ _ gL
  have s02 := s1.trans s2
  have hLt : L ≠ t := ne_of_none gL nt
  generalize upd H1 t (HO.tup (w1.map V.int)) = H2 at *
  have nw : w1.length + 1 ≤ 6 := l6
  refine ⟨t, _, rfl, .inr ⟨SqT.of gt, for_ItvT (fun i σ H' => Ob (Same H H' ∧ H' t = some (.tup (w1.map V.int)) ∧ ∃ y, H' L = some (.lst ((spansOf ((w0 :: w1).drop (w1.length - i))).reverse.map V.int)) ∧ σ = [sR p, sR L, y])) (ob ⟨s02, gt, none, ?_, rfl⟩) (fun i σ H' h => SqT.of (unob h).2.1) ?_ ?_⟩⟩
  · have e : (w0 :: w1).drop w1.length = [(w0 :: w1)[w1.length]] := by
      rw [List.drop_eq_getElem_cons (by simp), List.drop_of_length_le (by simp)]
    rw [Nat.sub_zero, e]
    exact gL2
  · intro i x σ H' hi hx h
    obtain ⟨s3, gt3, y, gL3, rfl⟩ := unob h
    rw [List.length_map] at hi hx
    obtain ⟨k, hk⟩ : ∃ k, w1.length - i = k + 1 := ⟨w1.length - i - 1, by omega⟩
    have hk1 : k + 1 < (w0 :: w1).length := by simp; omega
    have ex : x = .int ((w0 :: w1)[k + 1]) := by
      have e1 : w1.length - 1 - i = k := by omega
      rw [e1, List.getElem?_map, List.getElem?_eq_getElem (by omega)] at hx
      exact (Option.some.inj hx).symm
    subst ex
    have hw := sm _ (List.getElem_mem hk1)
    have pd := prod_drop hk1
    generalize (w0 :: w1)[k + 1] = wv at *
    have el : spansOf ((w0 :: w1).drop (k + 1)) = prodI ((w0 :: w1).drop (k + 2)) :: (spansOf ((w0 :: w1).drop (k + 1))).tail := by
      rw [List.drop_eq_getElem_cons hk1]
      rfl
    have ln : (spansOf ((w0 :: w1).drop (k + 1))).length ≤ 1000 := by
      have gen : ∀ l : List Int, (spansOf l).length = l.length := fun l => by
        induction l with
        | nil => rfl
        | cons a l ih => exact congrArg (· + 1) ih
      rw [gen, List.length_drop]
      simp
      omega
    rw [hk] at gL3
    have sd := spans_drop (ws := w0 :: w1) (k := k) hk1
    have lastv : atI ((spansOf ((w0 :: w1).drop (k + 1))).reverse.map V.int) (-1) = some (.int (prodI ((w0 :: w1).drop (k + 2)))) := by
      rw [el, List.reverse_cons, List.map_append]
      exact atI_last _ _
    walk_at "go"
    refine ⟨L, _, -1, _, rfl, rfl, SqL.of gL3, lastv, ?_⟩
    walk_at "go"
    refine ⟨L, _, _, rfl, rfl, gL3, sz5 (by rw [List.length_map, List.length_reverse]; omega), ?_⟩
    walk_at "go"
    have nL0 := nL
    refine ob ⟨same_put s3 nL, ?_, _, ?_, rfl⟩
    · rw [upd_ne hLt.symm]
      exact gt3
    · rw [upd_same, show w1.length - (i + 1) = k by omega, sd, List.reverse_cons, List.map_append, pd, Int.mul_comm]
      rfl
  · intro σ H' h
    obtain ⟨s3, gt3, y, gL3, rfl⟩ := unob h
    rw [List.length_map, Nat.sub_self, List.drop_zero] at gL3
    exact kk _ _ ⟨s3, y, gL3, rfl⟩
end

end

section

-- a condition of an operator
local macro_rules | `(tactic| walk_at "cond") => `(tactic| first
  | (show (0 : Int) < _; omega)
  | (show CDiv _ _; constructor <;> (first | decide | omega))
  | (show CMul _ _; first | (refine cmul_l ?_; constructor <;> (first | decide | omega)) | (refine cmul_r ?_; constructor <;> (first | decide | omega)))
  | (show CPow _ _; exact (by refine ⟨by decide, by decide, by decide⟩))
  | (show CDivW _ _; exact ⟨by decide, by decide +kernel⟩))
local macro_rules | `(tactic| walk_at "sq") => `(tactic| first | assumption | exact Dh.mono (same_upd (by assumption)) _ _ (by assumption) | exact .inl (.inl (.inl (by assumption))) | exact .inr (.inl (.inl (by assumption))) | exact SqL.of (by assumption) | exact .inl (by assumption) | exact .inl (SqL.of (by assumption)) | exact SqT.of (by assumption) | exact .inr (SqT.of (by assumption)))
local macro_rules | `(tactic| walk_at "st") => `(tactic| first
  | refine ⟨_, rfl, ?_⟩
  | refine ⟨_, _, rfl, rfl, ?_⟩
  | refine .inl ⟨_, rfl, ?_⟩
  | refine ⟨rfl, ?_⟩
  | refine ⟨_, _, rfl, by walk_at "sq", ?_⟩
  | refine ⟨.inl ⟨rfl, _, SqL.of (by assumption)⟩, ?_⟩
  | refine ⟨by walk_at "cond", ?_⟩
  | (refine' ifBT ?hh ?_; (case hh => first | rfl | assumption))
  | (refine' ifBF ?hh ?_; (case hh => first | rfl | assumption)))
local macro_rules | `(tactic| walk_at "go") => `(tactic| repeat walk_at "st")
local macro_rules | `(tactic| walk_at "yes") => `(tactic| (refine' ifT ?hh ?_; (case hh => first | rfl | decide +kernel)))
local macro_rules | `(tactic| walk_at "no") => `(tactic| (refine' ifF ?hh ?_; (case hh => first | decide +kernel | (intro z; cases z; done))))

open RT
open RZ
/-! ### Shape -/
abbrev s_Shape___init__ : Stmt := inClass (topS 22) 0
theorem sc_Shape___init__ : FnScope ["self", "widths"] ["self", "widths"] (C8.fnScope s_Shape___init__) := C8.fnScope_by (by decide +kernel)
abbrev s_Shape_span : Stmt := inClass (topS 22) 1
theorem sc_Shape_span : FnScope ["self", "level"] ["self", "level"] (C8.fnScope s_Shape_span) := C8.fnScope_by (by decide +kernel)
structure ShTxt (K : PySem.W.Frag) (mg : Str → Option Value) (C : Addr) : Prop where
  cl : Cls K C
  nW : NoAttr K C "widths"
  nL : NoAttr K C "levels"
  nS : NoAttr K C "_spans"
  nP : NoAttr K C "page_count"
  mgC : mg "Shape" = some (.ref C)
def f1 (wt : Addr) : List (Str × V) := putF "widths" (.ref wt) []
def f2 (wt : Addr) (n : Nat) : List (Str × V) := putF "levels" (.int n) (f1 wt)
def f3 (wt : Addr) (n : Nat) (st : Addr) : List (Str × V) := putF "_spans" (.ref st) (f2 wt n)
def shF (wt st : Addr) (ws : List Int) : List (Str × V) := putF "page_count" (.int (prodI ws)) (f3 wt ws.length st)
theorem ne1 : ¬ (("widths" : Str) = "levels") := by decide +kernel
theorem ne2 : ¬ (("widths" : Str) = "_spans") := by decide +kernel
theorem ne3 : ¬ (("widths" : Str) = "page_count") := by decide +kernel
theorem ne4 : ¬ (("levels" : Str) = "_spans") := by decide +kernel
theorem ne5 : ¬ (("levels" : Str) = "page_count") := by decide +kernel
theorem ne6 : ¬ (("_spans" : Str) = "page_count") := by decide +kernel
theorem l1w {wt : Addr} : (f1 wt).lookup ("widths" : Str) = some (.ref wt) := by
  unfold f1
  rw [lookup_putF, if_pos rfl]
theorem l3w {wt st : Addr} {n : Nat} : (f3 wt n st).lookup ("widths" : Str) = some (.ref wt) := by
  unfold f3 f2
  rw [lookup_putF, if_neg ne2, lookup_putF, if_neg ne1, l1w]
theorem l2w {wt : Addr} {n : Nat} : (f2 wt n).lookup ("widths" : Str) = some (.ref wt) := by
  unfold f2
  rw [lookup_putF, if_neg ne1, l1w]
theorem l3s {wt st : Addr} {n : Nat} : (f3 wt n st).lookup ("_spans" : Str) = some (.ref st) := by
  unfold f3
  rw [lookup_putF, if_pos rfl]
theorem shw {wt st : Addr} {ws : List Int} : (shF wt st ws).lookup ("widths" : Str) = some (.ref wt) := by
  unfold shF
  rw [lookup_putF, if_neg ne3, l3w]
theorem shs {wt st : Addr} {ws : List Int} : (shF wt st ws).lookup ("_spans" : Str) = some (.ref st) := by
  unfold shF
  rw [lookup_putF, if_neg ne6, l3s]
theorem shl {wt st : Addr} {ws : List Int} : (shF wt st ws).lookup ("levels" : Str) = some (.int ws.length) := by
  unfold shF f3 f2
  rw [lookup_putF, if_neg ne5, lookup_putF, if_neg ne4, lookup_putF, if_pos rfl]
theorem shp {wt st : Addr} {ws : List Int} : (shF wt st ws).lookup ("page_count" : Str) = some (.int (prodI ws)) := by
  unfold shF
  rw [lookup_putF, if_pos rfl]
theorem sh_no {wt st : Addr} {ws : List Int} {m : Str} (h1 : ¬ m = "page_count") (h2 : ¬ m = "_spans") (h3 : ¬ m = "levels") (h4 : ¬ m = "widths") : (shF wt st ws).lookup m = none := by
  unfold shF f3 f2 f1
  rw [lookup_putF, if_neg h1, lookup_putF, if_neg h2, lookup_putF, if_neg h3, lookup_putF, if_neg h4]
  rfl
structure ShapeAt (C : Addr) (H : Hp) (p wt st dx : Addr) (ws : List Int) : Prop where
  g : H p = some (.ins C dx (shF wt st ws))
  w : H wt = some (.tup (ws.map V.int))
  s : H st = some (.tup ((spansOf ws).map V.int))
  sm : Small ws
theorem ShapeAt.same {C : Addr} {H H' : Hp} {p wt st dx : Addr} {ws : List Int} (h : ShapeAt C H p wt st dx ws) (s : Same H H') : ShapeAt C H' p wt st dx ws := ⟨s _ _ h.g, s _ _ h.w, s _ _ h.s, h.sm⟩
theorem spans_len : ∀ l : List Int, (spansOf l).length = l.length
  | [] => rfl
  | _ :: l => congrArg (· + 1) (spans_len l)
/-- the span of a level -/
def spanN (ws : List Int) (k : Nat) : Int := prodI (ws.drop (k + 1))
theorem spans_get : ∀ {ws : List Int} {k : Nat}, k < ws.length → (spansOf ws)[k]? = some (spanN ws k)
  | [], _, h => absurd h (Nat.not_lt_zero _)
  | _ :: _, 0, _ => rfl
  | _ :: ws, k + 1, h => by
    show (spansOf ws)[k]? = some (spanN ws k)
    exact spans_get (by simpa using h)
theorem prod_pos : ∀ {ws : List Int}, (∀ w ∈ ws, 2 ≤ w ∧ w ≤ 8) → 1 ≤ prodI ws ∧ prodI ws ≤ 8 ^ ws.length
  | [], _ => ⟨by decide, by decide⟩
  | w :: ws, h => by
    have h1 := h w List.mem_cons_self
    have h2 := prod_pos (ws := ws) fun x hx => h x (List.mem_cons_of_mem _ hx)
    show 1 ≤ w * prodI ws ∧ w * prodI ws ≤ _
    rw [List.length_cons, Int.pow_succ, Int.mul_comm _ 8]
    exact ⟨by
      have := Int.mul_le_mul (show (1 : Int) ≤ w by omega) h2.1 (by omega) (by omega)
      omega, Int.mul_le_mul h1.2 h2.2 (by omega) (by omega)⟩
def spShI (C : Addr) (K : PySem.W.Frag) : Sp := fun vs H Q _ => ∃ (p dx a : Addr) (ws : List Int), vs = [.ref p, .ref a] ∧ H p = some (.ins C dx []) ∧ (H a = some (.lst (ws.map V.int)) ∨ H a = some (.tup (ws.map V.int))) ∧ Small ws ∧
  ∀ wt st H', ShapeAt C H' p wt st dx ws → But H H' p → Q .non H'
def spSpan (C : Addr) : Sp := fun vs H Q _ => ∃ (p wt st dx : Addr) (ws : List Int) (k : Nat), vs = [.ref p, .int k] ∧ ShapeAt C H p wt st dx ws ∧ k < ws.length ∧ Q (.int (spanN ws k)) H
section
variable {P : Program} {w : World} {K : PySem.W.Frag} {mg : Str → Option Value} {base : Heap} {C D : Addr}
theorem ok_span {f : Addr} {fd : FuncData} (F : C8.Fun K "span" "Shape.span" s_Shape_span f fd) (M : Meth K C "span" f) (b : Binds K fd ["self", "level"] []) (T : ShTxt K mg C) : C8.Met P w K mg base 1 C "span" (spSpan C) [] := by
  refine C8.met0 T.cl M F b sc_Shape_span (fun vs H Q E h => ?_) (fun cdv A outer s H vs Q E hr h => ?_)
  · obtain ⟨p, wt, st, dx, ws, k, rfl, _⟩ := h
    rfl
  obtain ⟨p, wt, st, dx, ws, k, rfl, hs, hk, q⟩ := h
  have g := hs.g
  refine ⟨_, (pss_one (ps_ret (pe_ix (ixT K rfl) (pe_fld (pv 0) rfl) (pv 1) (fun _ _ => rfl)))), ?_⟩
  walk_at "go"
  refine ⟨_, _, _, _, _, rfl, g, T.cl, T.nS, shs, ?_⟩
  walk_at "go"
  refine ⟨_, _, _, _, rfl, rfl, SqT.of hs.s, atI_nat (by rw [List.getElem?_map, spans_get hk]; rfl), ?_⟩
  exact q
theorem log_small {i : Int} (h1 : -(10 ^ 10) ≤ i) (h2 : i ≤ 10 ^ 10) : i.natAbs.log2 < 1920 := by
  by_cases z : i.natAbs = 0
  · rw [z]
    decide
  · rw [Nat.log2_lt z]
    have : i.natAbs ≤ 10 ^ 10 := by omega
    exact Nat.lt_of_le_of_lt this (Nat.lt_of_lt_of_le (show 10 ^ 10 < 2 ^ 40 by decide) (Nat.pow_le_pow_right (by decide) (by decide)))
theorem ok_shI {f : Addr} {fd : FuncData} (F : C8.Fun K "__init__" "Shape.__init__" s_Shape___init__ f fd) (M : Mk K C f) (b : Binds K fd ["self", "widths"] []) (S : ShTxt K mg C) (T : Txt1 mg) (c__spans_of : Cal P w K mg base 1 "_spans_of" (spSpans K) []) : C8.Mak P w K mg base 2 "Shape" C (spShI C K) [] := by
  refine C8.mak0 M S.mgC F b .nil sc_Shape___init__ (fun vs H Q E h => ?_) (fun cdv A outer s H vs Q E hr h => ?_)
  · obtain ⟨p, dx, a, ws, rfl, _⟩ := h
    rfl
  obtain ⟨p, dx, a, ws, rfl, hp, hA, sm, q⟩ := h
  refine ⟨_, (pss_cons (ps_mk (ps_fld (pv 0) (pe_callTy call_tuple_of (by rfl) T.tuple (by decide +kernel) (pa_cons (pv 1) pa_nil)) rfl))
      (pss_cons (ps_fld (pv 0) (pe_callB (lenQ K rfl) (by rfl) T.len PySem.boot_len (pa_cons (pe_fld (pv 0) rfl) pa_nil)) rfl)
      (pss_cons (ps_fld (pv 0) (C8.pe_c c__spans_of hr (by omega) (by rfl) (pa_cons (pe_fld (pv 0) rfl) pa_nil)) rfl)
      (pss_one (ps_fld (pv 0) (pe_op op_mul (pe_ix (ixT K rfl) (pe_fld (pv 0) rfl) pe_int (fun _ _ => rfl)) (pe_ix (ixT K rfl) (pe_fld (pv 0) rfl) pe_int (fun _ _ => rfl))) rfl))))), ?_⟩
  refine jnS (M := fun σ H' => ∃ wt, H' p = some (.ins C dx (f1 wt)) ∧ H' wt = some (.tup (ws.map V.int)) ∧ But H H' p ∧ σ = [sR p, sR a]) ?_ (fun N kk => ?_)
  rotate_left
  · walk_at "go"
    rcases hA with hA | hA
    · refine ⟨a, _, rfl, .inl ⟨SqL.of hA, fun l nl => ?_⟩⟩
      have s1 := same_upd (o := HO.tup (ws.map V.int)) nl
      have hp1 := s1 _ _ hp
      have hlp : l ≠ p := (ne_of_none hp nl).symm
      refine ⟨_, rfl, p, C, dx, [], rfl, hp1, S.cl, S.nW, (by show 0 < 1000; decide), ?_⟩
      refine kk _ _ ⟨l, upd_same, ?_, fun c o n e => ?_, rfl⟩
      · rw [upd_ne hlp]
        exact upd_same
      · rw [upd_ne n]
        exact s1 _ _ e
    · refine ⟨a, _, rfl, .inr ⟨SqT.of hA, ?_⟩⟩
      have hap : a ≠ p := ne_of hA hp (fun z => by cases z)
      refine ⟨_, rfl, p, C, dx, [], rfl, hp, S.cl, S.nW, (by show 0 < 1000; decide), ?_⟩
      refine kk _ _ ⟨a, upd_same, ?_, fun c o n e => ?_, rfl⟩
      · rw [upd_ne hap]
        exact hA
      · rw [upd_ne n]
        exact e
  rintro σ H1 ⟨wt, g1, gw, b1, rfl⟩
  have hwp : wt ≠ p := ne_of gw g1 (fun z => by cases z)
  walk_at "go"
  refine ⟨_, _, _, _, _, rfl, g1, S.cl, S.nW, l1w, ?_⟩
  walk_at "go"
  obtain ⟨w0, w1, rfl⟩ : ∃ w0 w1, ws = w0 :: w1 := by
    cases ws with
    | nil => exact absurd rfl sm.1
    | cons a b => exact ⟨a, b, rfl⟩
  refine ⟨p, C, dx, _, rfl, g1, S.cl, S.nL, (by show 1 < 1000; decide), ?_⟩
  have el : putF "levels" (V.int (((w0 :: w1).map V.int).length : Nat)) (f1 wt) = f2 wt (w0 :: w1).length := by rw [List.length_map]; rfl
  rw [el]
  have g2 := upd_same (H := H1) (a := p) (o := HO.ins C dx (f2 wt (w0 :: w1).length))
  have gw2 : upd H1 p (HO.ins C dx (f2 wt (w0 :: w1).length)) wt = some (.tup ((w0 :: w1).map V.int)) := by rw [upd_ne hwp]; exact gw
  have b2 : But H (upd H1 p (HO.ins C dx (f2 wt (w0 :: w1).length))) p := fun c o n e => by
    rw [upd_ne n]
    exact b1 _ _ n e
  generalize upd H1 p (HO.ins C dx (f2 wt (w0 :: w1).length)) = H2 at *
  walk_at "go"
  refine ⟨_, _, _, _, _, rfl, g2, S.cl, S.nW, l2w, ?_⟩
  walk_at "go"
  refine ⟨sm, fun st H3 s3 nst gst => ?_⟩
  have g3 := s3 _ _ g2
  have gw3 := s3 _ _ gw2
  have hsp : st ≠ p := (ne_of_none g2 nst).symm
  walk_at "go"
  refine ⟨p, C, dx, _, rfl, g3, S.cl, S.nS, (by show 2 < 1000; decide), ?_⟩
  show _
  have g4 := upd_same (H := H3) (a := p) (o := HO.ins C dx (f3 wt (w0 :: w1).length st))
  have gw4 : upd H3 p (HO.ins C dx (f3 wt (w0 :: w1).length st)) wt = some (.tup ((w0 :: w1).map V.int)) := by rw [upd_ne hwp]; exact gw3
  have gs4 : upd H3 p (HO.ins C dx (f3 wt (w0 :: w1).length st)) st = some (.tup ((spansOf (w0 :: w1)).map V.int)) := by rw [upd_ne hsp]; exact gst
  have b4 : But H (upd H3 p (HO.ins C dx (f3 wt (w0 :: w1).length st))) p := fun c o n e => by
    rw [upd_ne n]
    exact s3 _ _ (b2 _ _ n e)
  have e3 : upd H3 p (HO.ins C dx (putF "_spans" (V.ref st) (f2 wt (w0 :: w1).length))) = upd H3 p (HO.ins C dx (f3 wt (w0 :: w1).length st)) := rfl
  rw [e3]
  generalize upd H3 p (HO.ins C dx (f3 wt (w0 :: w1).length st)) = H4 at *
  have hw0 := sm.2.2 w0 List.mem_cons_self
  walk_at "go"
  refine ⟨_, _, _, _, _, rfl, g4, S.cl, S.nW, l3w, ?_⟩
  walk_at "go"
  refine ⟨_, _, _, .int w0, rfl, rfl, SqT.of gw4, atI_nat (j := 0) rfl, ?_⟩
  walk_at "go"
  refine ⟨_, _, _, _, _, rfl, g4, S.cl, S.nS, l3s, ?_⟩
  walk_at "go"
  refine ⟨_, _, _, .int (prodI w1), rfl, rfl, SqT.of gs4, atI_nat (j := 0) rfl, ?_⟩
  walk_at "go"
  refine ⟨p, C, dx, _, rfl, g4, S.cl, S.nP, (by show 3 < 1000; decide), ?_⟩
  refine q wt st _ ⟨upd_same, by rw [upd_ne hwp]; exact gw4, by rw [upd_ne hsp]; exact gs4, sm⟩ fun c o n e => ?_
  rw [upd_ne n]
  exact b4 _ _ n e
end

end

section

-- a condition of an operator
local macro_rules | `(tactic| walk_at "cond") => `(tactic| first
  | (show (0 : Int) < _; omega)
  | (show CDiv _ _; constructor <;> (first | decide | omega))
  | (show CMul _ _; first | (refine cmul_l ?_; constructor <;> (first | decide | omega)) | (refine cmul_r ?_; constructor <;> (first | decide | omega)))
  | (show CPow _ _; exact (by refine ⟨by decide, by decide, by decide⟩))
  | (show CDivW _ _; exact ⟨by decide, by decide +kernel⟩))
local macro_rules | `(tactic| walk_at "sq") => `(tactic| first | assumption | exact Dh.mono (same_upd (by assumption)) _ _ (by assumption) | exact .inl (.inl (.inl (by assumption))) | exact .inr (.inl (.inl (by assumption))) | exact SqL.of (by assumption) | exact .inl (by assumption) | exact .inl (SqL.of (by assumption)) | exact SqT.of (by assumption) | exact .inr (SqT.of (by assumption)))
local macro_rules | `(tactic| walk_at "st") => `(tactic| first
  | refine ⟨_, rfl, ?_⟩
  | refine ⟨_, _, rfl, rfl, ?_⟩
  | refine .inl ⟨_, rfl, ?_⟩
  | refine ⟨rfl, ?_⟩
  | refine ⟨_, _, rfl, by walk_at "sq", ?_⟩
  | refine ⟨.inl ⟨rfl, _, SqL.of (by assumption)⟩, ?_⟩
  | refine ⟨by walk_at "cond", ?_⟩
  | (refine' ifBT ?hh ?_; (case hh => first | rfl | assumption))
  | (refine' ifBF ?hh ?_; (case hh => first | rfl | assumption)))
local macro_rules | `(tactic| walk_at "go") => `(tactic| repeat walk_at "st")
local macro_rules | `(tactic| walk_at "yes") => `(tactic| (refine' ifT ?hh ?_; (case hh => first | rfl | decide +kernel)))
local macro_rules | `(tactic| walk_at "no") => `(tactic| (refine' ifF ?hh ?_; (case hh => first | decide +kernel | (intro z; cases z; done))))

/-! ### _law_fan_spans, _law_fan, _law_page -/
abbrev s_fan_spans : Stmt := topS 33
theorem sc_fan_spans : FnScope ["_law_fan_here", "_law_spans", "_law_level", "_law_span", "_law_one"] ["_law_fan_here"] (C8.fnScope s_fan_spans) := C8.fnScope_by (by decide +kernel)
def spFanSpans (K : PySem.W.Frag) : Sp := fun vs H Q _ => ∃ (a : Addr) (ws : List Int), vs = [.ref a] ∧ SqL K H a (ws.map V.int) ∧ Small ws ∧ ∀ r H', Same H H' → H r = none → H' r = some (.lst ((spansOf ws).map V.int)) → Q (.ref r) H'
theorem cut_from (xs : List V) (k : Nat) (h : k + 1 ≤ xs.length) : cutV xs (some (((k : Nat) : Int) + 1)) none = xs.drop (k + 1) := by
  unfold cutV
  have e : ((k : Nat) : Int) + 1 = ((k + 1 : Nat) : Int) := by omega
  rw [e, HT.sIx_nat, HT.sIx_none, Nat.min_eq_left h, List.take_of_length_le (by rw [List.length_drop]; exact Nat.le_refl _)]
theorem prod_snoc : ∀ (l : List Int) (x : Int), prodI (l ++ [x]) = prodI l * x
  | [], x => by
    show x * 1 = 1 * x
    omega
  | a :: l, x => by
    show a * prodI (l ++ [x]) = a * prodI l * x
    rw [prod_snoc l x, Int.mul_assoc]
theorem take_snoc {l : List Int} {i : Nat} (h : i < l.length) : prodI (l.take (i + 1)) = prodI (l.take i) * l[i] := by
  rw [List.take_add_one, List.getElem?_eq_getElem h]
  exact prod_snoc _ _
section
variable {P : Program} {w : World} {K : PySem.W.Frag} {mg : Str → Option Value} {base : Heap}
theorem ok_fan_spans {f : Addr} {fd : FuncData} (D : Def K mg "_law_fan_spans" s_fan_spans f fd) (b : Binds K fd ["_law_fan_here"] []) (T : Txt mg) : Cal P w K mg base 1 "_law_fan_spans" (spFanSpans K) [] := by
  refine cal0 D b .nil sc_fan_spans (fun vs H Q E h => ?_) (fun cdv A outer s H vs Q E hr h => ?_)
  · obtain ⟨a, ws, rfl, _⟩ := h
    rfl
  obtain ⟨a, ws, rfl, ha, sm, q⟩ := h
  refine ⟨_, (pss_cons (ps_set (i := 1) sc_fan_spans.nd rfl (.inl rfl) (pe_lst pa_nil))
      (pss_cons (ps_mk (ps_for PassesOwn.never rfl (pi_range1 (by rfl) T.range (pa_cons (pe_callB (lenQ K rfl) (by rfl) T.len PySem.boot_len (pa_cons (pv 0) pa_nil)) pa_nil)) (pg_name (i := 2) sc_fan_spans.nd rfl (.inl rfl))
      (pss_cons (ps_set (i := 3) sc_fan_spans.nd rfl (.inl rfl) pe_int)
      (pss_cons (ps_mk (ps_for PassesOwn.never rfl (pi_list (pe_slice sl_list (pv 0) (po_some (pe_op op_add (pv 2) pe_int)) po_none)) (pg_name (i := 4) sc_fan_spans.nd rfl (.inl rfl))
      (pss_one (ps_set (i := 3) sc_fan_spans.nd rfl (.inl rfl) (pe_op op_mul (pv 3) (pv 4))))))
      (pss_one (ps_expr (pe_bm PySem.F.plainAttrs_list PySem.F.slot_list_append PySem.F.type_list_append mt_append (pv 1) (pa_cons (pv 3) pa_nil))))))))
      (pss_one (ps_ret (pv 1))))), ?_⟩
  walk_at "go"
  refine ⟨sz, fun L nL => ?_⟩
  have s1 := same_upd (o := HO.lst []) nL
  have gL := upd_same (H := H) (a := L) (o := HO.lst [])
  generalize upd H L (HO.lst []) = H1 at *
  refine jnS (M := fun σ H' => Same H H' ∧ ∃ y2 y3 y4, H' L = some (.lst ((spansOf ws).map V.int)) ∧ σ = [sR a, sR L, y2, y3, y4]) ?_ (fun N kk => ?_)
  · rintro σ H2 ⟨s2, y2, y3, y4, g2, rfl⟩
    walk_at "go"
    exact q L _ s2 nL g2
  have h6 := sm.2.1
  have ha1 := s1.seq ha
  walk_at "go"
  rw [List.length_map]
  refine ⟨by omega, by omega, for_range (lo := 0) (n := ws.length) (fun j σ H' => Ob (Same H H' ∧ ∃ y2 y3 y4, H' L = some (.lst (((spansOf ws).take j).map V.int)) ∧ σ = [sR a, sR L, y2, y3, y4])) (ob ⟨s1, none, none, none, gL, rfl⟩) ?_ ?_⟩
  · intro j σ H2 hj h
    obtain ⟨s2, y2, y3, y4, g2, rfl⟩ := unob h
    clear h kk ha1 gL s1
    have ha2 := s2.seq ha
    rw [Int.zero_add]
    walk_at "go"
    refine jnS (M := fun σ H' => Same H H' ∧ ∃ y4, H' L = some (.lst (((spansOf ws).take j).map V.int)) ∧ σ = [sR a, sR L, sI j, sI (spanN ws j), y4]) ?_ (fun N kk => ?_)
    · rintro σ H3 ⟨s3, y4, g3, rfl⟩
      walk_at "go"
      refine ⟨L, _, _, rfl, rfl, g3, sz5 (by rw [List.length_map, List.length_take, spans_len]; omega), ?_⟩
      refine ob ⟨same_put s3 nL, _, _, _, ?_, rfl⟩
      rw [upd_same, List.take_add_one, spans_get hj, List.map_append]
      rfl
    walk_at "go"
    intro t nt
    have ec : cutV (ws.map V.int) (some ((j : Int) + 1)) none = (ws.drop (j + 1)).map V.int := by
      rw [cut_from _ _ (by rw [List.length_map]; omega), List.map_drop]
    have s3 := same_upd (o := HO.lst (cutV (ws.map V.int) (some ((j : Int) + 1)) none)) nt
    have gt := upd_same (H := H2) (a := t) (o := HO.lst (cutV (ws.map V.int) (some ((j : Int) + 1)) none))
    have g3 := s3 _ _ g2
    have s23 := s2.trans s3
    rw [ec] at s3 gt g3 s23 ⊢
    generalize upd H2 t (HO.lst ((ws.drop (j + 1)).map V.int)) = H3 at *
    have sd : ∀ x ∈ ws.drop (j + 1), 2 ≤ x ∧ x ≤ 8 := fun x hx => sm.2.2 x (List.mem_of_mem_drop hx)
    refine ⟨t, rfl, ⟨_, SqL.of gt⟩, for_list (K := K) (a := t) (xs := (ws.drop (j + 1)).map V.int) (fun i σ H' => Ob (H' = H3 ∧ ∃ y4, σ = [sR a, sR L, sI j, sI (prodI ((ws.drop (j + 1)).take i)), y4])) (ob ⟨rfl, y4, rfl⟩) (fun i σ H' _ h => by rw [(unob h).1]; exact SqL.of gt) ?_ ?_⟩
    · intro i x σ H' hi h
      obtain ⟨rfl, y4, rfl⟩ := unob h
      have hil : i < (ws.drop (j + 1)).length := by
        have z := (List.getElem?_eq_some_iff.mp hi).1
        rw [List.length_map] at z
        exact z
      obtain rfl : x = .int (ws.drop (j + 1))[i] := by
        rw [List.getElem?_map, List.getElem?_eq_getElem hil] at hi
        exact (Option.some.inj hi).symm
      have hx := sd _ (List.getElem_mem hil)
      have ts := take_snoc hil
      generalize (ws.drop (j + 1))[i] = xv at *
      walk_at "go"
      refine ob ⟨rfl, sI xv, ?_⟩
      rw [ts]
      rfl
    · intro σ H' h
      obtain ⟨rfl, y4, rfl⟩ := unob h
      rw [List.length_map, List.take_length]
      exact kk _ _ ⟨s23, y4, g3, rfl⟩
  · intro σ H2 h
    obtain ⟨s2, y2, y3, y4, g2, rfl⟩ := unob h
    rw [List.take_of_length_le (by rw [spans_len]; exact Nat.le_refl _)] at g2
    exact kk _ _ ⟨s2, y2, y3, y4, g2, rfl⟩
end

local macro_rules | `(tactic| walk_at "st") => `(tactic| refine ⟨_, _, _, _, _, rfl, by assumption, by assumption, by omega, by omega, by omega, by omega, by omega, ?_⟩)
local macro_rules | `(tactic| walk_at "st") => `(tactic| refine ⟨_, _, _, _, _, rfl, Same.seq (by assumption) (by assumption), by assumption, by omega, by omega, by omega, by omega, by omega, ?_⟩)

/-! ### _law_fan -/
abbrev s_fan : Stmt := topS 34
theorem sc_fan : FnScope ["_law_script", "_law_at", "_law_most", "_law_fan_here", "_law_total", "_law_k", "_law_width"] ["_law_script", "_law_at", "_law_most"] (C8.fnScope s_fan) := C8.fnScope_by (by decide +kernel)
def spFan (K : PySem.W.Frag) : Sp := fun vs H Q _ => ∃ (a : Addr) (ns : List Int) (i mo : Int), vs = [.ref a, .int i, .int mo] ∧ 8 ≤ mo ∧ mo ≤ 4096 ∧ SqL K H a (ns.map V.int) ∧ ns.length ≤ 63 ∧ 0 ≤ i ∧ i ≤ 1000000 ∧
  ∀ r ws H', Same H H' → H r = none → Small ws → prodI ws ≤ 4096 → H' r = some (.lst (ws.map V.int)) → Q (.ref r) H'
section
variable {P : Program} {w : World} {K : PySem.W.Frag} {mg : Str → Option Value} {base : Heap}
theorem ok_fan {f : Addr} {fd : FuncData} (D : Def K mg "_law_fan" s_fan f fd) (b : Binds K fd ["_law_script", "_law_at", "_law_most"] []) (T : Txt mg) (c_number : Cal P w K mg base 1 "_law_number" (spNum K) []) : Cal P w K mg base 2 "_law_fan" (spFan K) [] := by
  refine cal0 D b .nil sc_fan (fun vs H Q E h => ?_) (fun cdv A outer s H vs Q E hr h => ?_)
  · obtain ⟨a, ns, i, mo, rfl, _⟩ := h
    rfl
  obtain ⟨a, ns, i, mo, rfl, mo0, mo1, ha, hl, i0, i1, q⟩ := h
  refine ⟨_, (pss_cons (ps_set (i := 3) sc_fan.nd rfl (.inl rfl) (pe_lst pa_nil))
      (pss_cons (ps_set (i := 4) sc_fan.nd rfl (.inl rfl) pe_int)
      (pss_cons (ps_mk (ps_for PassesOwn.never rfl (pi_range1 (by rfl) T.range (pa_cons (pe_op op_add pe_int (C8.pe_c c_number hr (by omega) (by rfl) (pa_cons (pv 0) (pa_cons (pv 1) (pa_cons pe_int (pa_cons pe_int pa_nil)))))) pa_nil)) (pg_name (i := 5) sc_fan.nd rfl (.inl rfl))
      (pss_cons (ps_set (i := 6) sc_fan.nd rfl (.inl rfl) (pe_op op_add pe_int (C8.pe_c c_number hr (by omega) (by rfl) (pa_cons (pv 0) (pa_cons (pv 1) (pa_cons (pv 5) (pa_cons pe_int pa_nil)))))))
      (pss_one (ps_mk (ps_if (pt_cmpR op_le (pe_op op_mul (pv 4) (pv 6)) (pv 2) (nomark _))
      (pss_cons (ps_expr (pe_bm PySem.F.plainAttrs_list PySem.F.slot_list_append PySem.F.type_list_append mt_append (pv 3) (pa_cons (pv 6) pa_nil)))
      (pss_one (ps_set (i := 4) sc_fan.nd rfl (.inl rfl) (pe_op op_mul (pv 4) (pv 6)))))
      pss_nil))))))
      (pss_one (ps_ret (pv 3)))))), ?_⟩
  walk_at "go"
  refine ⟨sz, fun L nL => ?_⟩
  have s1 := same_upd (o := HO.lst []) nL
  have gL := upd_same (H := H) (a := L) (o := HO.lst [])
  have ha1 := s1.seq ha
  generalize upd H L (HO.lst []) = H1 at *
  walk_at "go"
  refine jnS (M := fun σ H' => Same H H' ∧ ∃ (ws : List Int) (y4 y5 y6 : Option V), Small ws ∧ prodI ws ≤ mo ∧ H' L = some (.lst (ws.map V.int)) ∧ σ = [sR a, sI i, sI mo, sR L, y4, y5, y6]) ?_ (fun N kk => ?_)
  · rintro σ H2 ⟨s2, ws, y4, y5, y6, sm, pl, g2, rfl⟩
    walk_at "go"
    exact q L ws _ s2 nL sm (Int.le_trans pl mo1) g2
  have n0 : 0 ≤ num ns i 6 4 := num_nn (by decide)
  have n1 : num ns i 6 4 < 4 := num_lt (by decide)
  walk_at "go"
  refine ⟨by omega, by omega, for_range (lo := 0) (n := (1 + num ns i 6 4).toNat) (fun j σ H' => Ob (Same H H' ∧ ∃ (ws : List Int) (y5 y6 : Option V), ws.length ≤ j ∧ (0 < j → ws ≠ []) ∧ (∀ x ∈ ws, 2 ≤ x ∧ x ≤ 8) ∧ prodI ws ≤ mo ∧ H' L = some (.lst (ws.map V.int)) ∧ σ = [sR a, sI i, sI mo, sR L, sI (prodI ws), y5, y6])) (ob ⟨s1, [], none, none, Nat.le_refl _, fun z => absurd z (Nat.lt_irrefl _), fun x hx => (by cases hx), (show (1 : Int) ≤ mo by omega), gL, rfl⟩) ?_ ?_⟩
  · intro j σ H2 hj h
    obtain ⟨s2, ws, y5, y6, lj, ne, sm, pl, g2, rfl⟩ := unob h
    clear h kk ha1 gL s1
    have ha2 := s2.seq ha
    have hj4 : j < 4 := by omega
    have w0 : 0 ≤ num ns i (0 + (j : Int)) 7 := num_nn (by decide)
    have w1 : num ns i (0 + (j : Int)) 7 < 7 := num_lt (by decide)
    have pp := prod_pos sm
    walk_at "go"
    generalize num ns i (0 + (j : Int)) 7 = u at *
    refine un ?_
    walk_at "go"
    refine ifD (fun c => ?_) (fun c => ?_)
    · have c' : prodI ws * (2 + u) ≤ mo := c
      walk_at "go"
      refine ⟨L, _, _, rfl, rfl, g2, sz5 (by rw [List.length_map]; omega), ?_⟩
      walk_at "go"
      refine ob ⟨same_put s2 nL, ws ++ [2 + u], sI (0 + (j : Int)), sI (2 + u), by rw [List.length_append]; exact Nat.add_le_add_right lj 1, fun _ => by simp, fun x hx => ?_, ?_, ?_, ?_⟩
      · rcases List.mem_append.mp hx with hx | hx
        · exact sm x hx
        · obtain rfl := List.mem_singleton.mp hx
          omega
      · rw [prod_snoc]
        exact c'
      · rw [upd_same, List.map_append]
        rfl
      · rw [prod_snoc]
        rfl
    · walk_at "go"
      refine ob ⟨s2, ws, _, _, Nat.le_succ_of_le lj, fun _ => ?_, sm, pl, g2, rfl⟩
      intro e
      rw [e] at c
      exact c (by show 1 * (2 + u) ≤ mo; omega)
  · intro σ H2 h
    obtain ⟨s2, ws, y5, y6, lj, ne, sm, pl, g2, rfl⟩ := unob h
    exact kk _ _ ⟨s2, ws, _, _, _, ⟨ne (by omega), by omega, sm⟩, pl, g2, rfl⟩
end

end

/-! ### blocks, said plainly -/
/-- the mark of the first page goes on through the block -/
def Uni (T : Int → Option RMark) (lo n : Int) : Prop := ∃ m, T lo = some m ∧ ∀ p, lo ≤ p → p < lo + n → T p = some (m.after (p - lo))
def Emp (T : Int → Option RMark) (lo n : Int) : Prop := ∀ p, lo ≤ p → p < lo + n → T p = none
theorem uni_emp {T : Int → Option RMark} {lo n : Int} (h : Uni T lo n) (k : Emp T lo n) (hn : 0 < n) : False := by
  obtain ⟨m, e, _⟩ := h
  rw [k lo (Int.le_refl _) (by omega)] at e
  cases e
def markD : Option RMark → PyData
  | none => .none
  | some m => mD m
open Classical in
/-- what stands for a block in a table -/
noncomputable def entD (T : Int → Option RMark) (sub : Int → List PyData) (n lo : Int) : PyData := if Uni T lo n then markD (T lo) else if Emp T lo n then .none else .list (sub lo)
/-- the table of the widths left, from a page on -/
noncomputable def foldD (T : Int → Option RMark) : List Int → Int → List PyData
  | [], _ => []
  | w :: ws, first => (List.range w.toNat).map fun k : Nat => entD T (foldD T ws) (prodI ws) (first + (k : Int) * prodI ws)
theorem ent_uni {T : Int → Option RMark} {sub : Int → List PyData} {n lo : Int} {m : RMark} (h : Uni T lo n) (e : T lo = some m) : entD T sub n lo = mD m := by
  unfold entD
  rw [if_pos h, e]
  rfl
theorem ent_emp {T : Int → Option RMark} {sub : Int → List PyData} {n lo : Int} (h : Emp T lo n) (hn : 0 < n) : entD T sub n lo = .none := by
  have nu : ¬ Uni T lo n := fun z => uni_emp z h hn
  unfold entD
  rw [if_neg nu, if_pos h]
theorem ent_sub {T : Int → Option RMark} {sub : Int → List PyData} {n lo : Int} (h : ¬ Uni T lo n) (k : ¬ Emp T lo n) : entD T sub n lo = .list (sub lo) := by
  unfold entD
  rw [if_neg h, if_neg k]
theorem foldD_len (T : Int → Option RMark) (w : Int) (ws : List Int) (first : Int) : (foldD T (w :: ws) first).length = w.toNat := by
  show ((List.range w.toNat).map _).length = _
  rw [List.length_map, List.length_range]
/-- the rows of a block -/
structure BlkR (T : Int → Option RMark) (lo n : Int) (R : List RRow) : Prop where
  a : Asc lo R
  el : ∀ x ∈ R, x.e ≤ lo + n
  c : Can R
  t : ∀ p, tb R p = if lo ≤ p ∧ p < lo + n then T p else none
  ok : ∀ x ∈ R, MOk x.m
theorem BlkR.emp {T : Int → Option RMark} {lo n : Int} {R : List RRow} (h : BlkR T lo n R) : R = [] ↔ Emp T lo n := by
  constructor
  · rintro rfl p p0 p1
    have := h.t p
    rw [if_pos ⟨p0, p1⟩] at this
    exact this.symm
  · intro k
    cases R with
    | nil => rfl
    | cons x R =>
      have x0 := h.a.1
      have x1 := h.a.2.1
      have x2 := h.el x List.mem_cons_self
      have := h.t x.s
      rw [if_pos ⟨x0, by omega⟩, tb_mem h.a.ord List.mem_cons_self (Int.le_refl _) x1, k x.s x0 (by omega)] at this
      cases this
theorem BlkR.uni {T : Int → Option RMark} {lo n : Int} {R : List RRow} (h : BlkR T lo n R) (hn : 0 < n) (u : Uni T lo n) : ∃ m, T lo = some m ∧ R = [⟨lo, lo + n, m⟩] := by
  obtain ⟨m, e, k⟩ := u
  refine ⟨m, e, rows_uniq h.a.ord (Ord.one (by show lo < lo + n; omega)) h.c (List.pairwise_singleton _ _) fun p => ?_⟩
  rw [h.t p]
  show _ = if lo ≤ p ∧ p < lo + n then some (m.after (p - lo)) else none
  by_cases c : lo ≤ p ∧ p < lo + n
  · rw [if_pos c, if_pos c, k p c.1 c.2]
  · rw [if_neg c, if_neg c]
theorem BlkR.full {T : Int → Option RMark} {lo n : Int} {x : RRow} {R : List RRow} (h : BlkR T lo n (x :: R)) (e1 : x.s = lo) (e2 : x.e = lo + n) : Uni T lo n ∧ T lo = some x.m := by
  have x1 := h.a.2.1
  have k : ∀ p, lo ≤ p → p < lo + n → T p = some (x.at' p) := fun p p0 p1 => by
    have := h.t p
    rw [if_pos ⟨p0, p1⟩, tb_mem h.a.ord List.mem_cons_self (by omega) (by omega)] at this
    exact this.symm
  have z := k lo (Int.le_refl _) (by omega)
  rw [← e1, at_start] at z
  refine ⟨⟨x.m, by rw [← e1]; exact z, fun p p0 p1 => ?_⟩, by rw [← e1]; exact z⟩
  rw [k p p0 p1]
  unfold RRow.at'
  rw [e1]
theorem clip_can {lo hi : Int} : ∀ {xs : List RRow}, Ord xs → Can xs → Can (clipR lo hi xs)
  | [], _, _ => .nil
  | x :: xs, o, c => by
    have e : clipR lo hi (x :: xs) = clip1 lo hi x ++ clipR lo hi xs := by
      unfold clipR
      rw [List.flatMap_cons]
    have o2 := List.pairwise_cons.mp o.2
    have c2 := List.pairwise_cons.mp c
    have ox : Ord xs := ⟨fun y hy => o.1 y (List.mem_cons_of_mem _ hy), o2.2⟩
    rw [e]
    refine List.pairwise_append.mpr ⟨?_, clip_can ox c2.2, fun a ha b hb g => ?_⟩
    · unfold clip1
      split
      · exact List.pairwise_singleton _ _
      · exact .nil
    · have a1 := clip1_mem ha
      have a2 : ∀ p, a.at' p = x.at' p := fun p => by
        unfold clip1 at ha
        split at ha
        · rw [List.mem_singleton.mp ha]
          exact at_sum x _ p
        · cases ha
      obtain ⟨y, hy, b1, b2, b3⟩ := clip_from hb
      have b4 := clip_mem hb
      have xy := o2.1 y hy
      have y0 := ox.1 y hy
      have hb1 : hiI y.s lo = y.s ∨ (hiI y.s lo = lo ∧ y.s < lo) := by
        unfold hiI
        split <;> omega
      obtain ⟨g1, g2⟩ := g
      have bs : b.s = y.s ∧ x.e = y.s := by
        have := a1.2.2.2.1
        have := a1.1
        have := a1.2.2.1
        omega
      refine c2.1 y hy ⟨bs.2, ?_⟩
      rw [← bs.1, ← a2, g2, ← at_start b, b3, bs.1, at_start]
theorem BlkR.clip {T : Int → Option RMark} {lo n lo' n' : Int} {R : List RRow} (h : BlkR T lo n R) (h0 : lo ≤ lo') (h1 : lo' + n' ≤ lo + n) (hn : 0 ≤ n') : BlkR T lo' n' (clipR lo' (lo' + n') R) := by
  have o := h.a.ord
  refine ⟨(clip_ord lo' (lo' + n') o).asc fun x hx => ?_, fun x hx => ?_, clip_can o h.c, fun p => ?_, clip_ok h.ok⟩
  · obtain ⟨y, _, _, _, k, _⟩ := clip_mem hx
    exact k
  · obtain ⟨y, _, _, _, _, _, k⟩ := clip_mem hx
    exact k
  · rw [clip_tb, h.t p]
    by_cases c : lo' ≤ p ∧ p < lo' + n'
    · rw [if_pos c, if_pos c, if_pos (by omega)]
    · rw [if_neg c, if_neg c]
/-- a block of one page is empty or uniform -/
theorem one_page {T : Int → Option RMark} {lo : Int} : Uni T lo 1 ∨ Emp T lo 1 := by
  cases e : T lo with
  | none =>
    refine .inr fun p p0 p1 => ?_
    have : p = lo := by omega
    rw [this]
    exact e
  | some m =>
    refine .inl ⟨m, e, fun p p0 p1 => ?_⟩
    have : p = lo := by omega
    rw [this, e, Int.sub_self, after_zero]

/-! ### nested lists made anew -/
mutual
/-- d stands at x; no list of it stood in B -/
def Dhf (B H : Hp) : PyData → V → Prop
  | .none, x => x = .non
  | .bool b, x => x = .bl b
  | .int i, x => x = .int i
  | .str s, x => x = .str s
  | .list ds, x => ∃ a xs, x = .ref a ∧ H a = some (.lst xs) ∧ B a = none ∧ DhfAll B H ds xs
  | .tuple ds, x => noL (.tuple ds) = true ∧ Dh H (.tuple ds) x
  | .dict _, _ => False
def DhfAll (B H : Hp) : List PyData → List V → Prop
  | [], xs => xs = []
  | d :: ds, xs => ∃ v vs, xs = v :: vs ∧ Dhf B H d v ∧ DhfAll B H ds vs
end
mutual
theorem Dhf.mono {B B' H H' : Hp} (s1 : ∀ a us, H a = some (.tup us) → H' a = some (.tup us)) (s2 : ∀ a us, B a = none → H a = some (.lst us) → H' a = some (.lst us)) (w : ∀ a, B a = none → B' a = none) : ∀ (d : PyData) (x : V), Dhf B H d x → Dhf B' H' d x
  | .none, x, h => h
  | .bool b, x, h => h
  | .int i, x, h => h
  | .str i, x, h => h
  | .list ds, x, h => by
    obtain ⟨a, xs, e, g, n, r⟩ := h
    exact ⟨a, xs, e, s2 _ _ n g, w _ n, DhfAll.mono s1 s2 w ds xs r⟩
  | .tuple ds, x, h => ⟨h.1, Dh.tups s1 _ _ h.1 h.2⟩
  | .dict _, x, h => False.elim h
theorem DhfAll.mono {B B' H H' : Hp} (s1 : ∀ a us, H a = some (.tup us) → H' a = some (.tup us)) (s2 : ∀ a us, B a = none → H a = some (.lst us) → H' a = some (.lst us)) (w : ∀ a, B a = none → B' a = none) : ∀ (ds : List PyData) (xs : List V), DhfAll B H ds xs → DhfAll B' H' ds xs
  | [], xs, h => h
  | d :: ds, xs, h => by
    obtain ⟨v, vs, e, g, r⟩ := h
    exact ⟨v, vs, e, Dhf.mono s1 s2 w d v g, DhfAll.mono s1 s2 w ds vs r⟩
end
mutual
theorem Dhf.dh {B H : Hp} : ∀ (d : PyData) (x : V), Dhf B H d x → Dh H d x
  | .none, x, h => h
  | .bool b, x, h => h
  | .int i, x, h => h
  | .str i, x, h => h
  | .list ds, x, h => by
    obtain ⟨a, xs, e, g, _, r⟩ := h
    exact ⟨a, xs, e, g, DhfAll.dh ds xs r⟩
  | .tuple ds, x, h => h.2
  | .dict _, x, h => False.elim h
theorem DhfAll.dh {B H : Hp} : ∀ (ds : List PyData) (xs : List V), DhfAll B H ds xs → DhAll H ds xs
  | [], xs, h => h
  | d :: ds, xs, h => by
    obtain ⟨v, vs, e, g, r⟩ := h
    exact ⟨v, vs, e, Dhf.dh d v g, DhfAll.dh ds vs r⟩
end
theorem DhfAll.snoc {B H : Hp} : ∀ {ds : List PyData} {xs : List V} {d : PyData} {x : V}, DhfAll B H ds xs → Dhf B H d x → DhfAll B H (ds ++ [d]) (xs ++ [x])
  | [], xs, d, x, h, hx => by
    cases (show xs = [] from h)
    exact ⟨x, [], rfl, hx, rfl⟩
  | d' :: ds, xs, d, x, h, hx => by
    obtain ⟨v, vs, rfl, h1, h2⟩ := h
    exact ⟨v, vs ++ [x], rfl, h1, DhfAll.snoc h2 hx⟩
theorem Dhf.same {B H H' : Hp} {d : PyData} {x : V} (h : Dhf B H d x) (s : Same H H') : Dhf B H' d x := Dhf.mono (fun a us g => s _ _ g) (fun a us _ g => s _ _ g) (fun _ n => n) d x h
theorem DhfAll.same {B H H' : Hp} {ds : List PyData} {xs : List V} (h : DhfAll B H ds xs) (s : Same H H') : DhfAll B H' ds xs := DhfAll.mono (fun a us g => s _ _ g) (fun a us _ g => s _ _ g) (fun _ n => n) ds xs h
theorem Dhf.weak {B B' H : Hp} {d : PyData} {x : V} (h : Dhf B H d x) (w : ∀ a, B a = none → B' a = none) : Dhf B' H d x := Dhf.mono (fun _ _ g => g) (fun _ _ _ g => g) w d x h
/-- a list of the base is changed -/
theorem DhfAll.put {B H : Hp} {L : Addr} {zs zs' : List V} {o : HO} {ds : List PyData} {xs : List V} (h : DhfAll B H ds xs) (g : H L = some (.lst zs)) (b : B L = some o) : DhfAll B (upd H L (.lst zs')) ds xs :=
  DhfAll.mono (tup_put g) (fun a us n e => by
    have ne : a ≠ L := fun z => by
      rw [z, b] at n
      cases n
    rw [upd_ne ne]
    exact e) (fun _ n => n) ds xs h
theorem free_put {H H3 : Hp} {L : Addr} {o o3 : HO} (s : Same H H3) (g : H3 L = some o3) : ∀ a, H3 a = none → (upd H L o) a = none := fun a n => by
  have ne : a ≠ L := fun z => by
    rw [z, g] at n
    cases n
  rw [upd_ne ne]
  exact s.free n
theorem noL_mark (m : RMark) : noL (mD m) = true := rfl

section

-- a condition of an operator
local macro_rules | `(tactic| walk_at "cond") => `(tactic| first
  | (show (0 : Int) < _; omega)
  | (show CDiv _ _; constructor <;> (first | decide | omega))
  | (show CMul _ _; first | (refine cmul_l ?_; constructor <;> (first | decide | omega)) | (refine cmul_r ?_; constructor <;> (first | decide | omega)))
  | (show CPow _ _; exact (by refine ⟨by decide, by decide, by decide⟩))
  | (show CDivW _ _; exact ⟨by decide, by decide +kernel⟩))
local macro_rules | `(tactic| walk_at "sq") => `(tactic| first | assumption | exact Dh.mono (same_upd (by assumption)) _ _ (by assumption) | exact .inl (.inl (.inl (by assumption))) | exact .inr (.inl (.inl (by assumption))) | exact SqL.of (by assumption) | exact .inl (by assumption) | exact .inl (SqL.of (by assumption)) | exact SqT.of (by assumption) | exact .inr (SqT.of (by assumption)))
local macro_rules | `(tactic| walk_at "st") => `(tactic| first
  | refine ⟨_, rfl, ?_⟩
  | refine ⟨_, _, rfl, rfl, ?_⟩
  | refine .inl ⟨_, rfl, ?_⟩
  | refine ⟨rfl, ?_⟩
  | refine ⟨_, _, rfl, by walk_at "sq", ?_⟩
  | refine ⟨.inl ⟨rfl, _, SqL.of (by assumption)⟩, ?_⟩
  | refine ⟨by walk_at "cond", ?_⟩
  | (refine' ifBT ?hh ?_; (case hh => first | rfl | assumption))
  | (refine' ifBF ?hh ?_; (case hh => first | rfl | assumption)))
local macro_rules | `(tactic| walk_at "go") => `(tactic| repeat walk_at "st")
local macro_rules | `(tactic| walk_at "yes") => `(tactic| (refine' ifT ?hh ?_; (case hh => first | rfl | decide +kernel)))
local macro_rules | `(tactic| walk_at "no") => `(tactic| (refine' ifF ?hh ?_; (case hh => first | decide +kernel | (intro z; cases z; done))))

/-! ### FoldedTable: _fold, _fold_block, __init__ -/
abbrev s_fold : Stmt := topS 9
theorem sc_fold : FnScope ["shape", "level", "start", "regions", "span", "table", "number", "low"] ["shape", "level", "start", "regions"] (C8.fnScope s_fold) := C8.fnScope_by (by decide +kernel)
abbrev s_fold_block : Stmt := topS 10
theorem sc_fold_block : FnScope ["shape", "level", "start", "regions"] ["shape", "level", "start", "regions"] (C8.fnScope s_fold_block) := C8.fnScope_by (by decide +kernel)
abbrev s_FoldedTable___init__ : Stmt := inClass (topS 8) 0
theorem sc_FoldedTable___init__ : FnScope ["self", "shape", "regions"] ["self", "shape", "regions"] (C8.fnScope s_FoldedTable___init__) := C8.fnScope_by (by decide +kernel)
structure FTxt (K : PySem.W.Frag) (mg : Str → Option Value) (C : Addr) : Prop where
  cl : Cls K C
  nS : NoAttr K C "_shape"
  nR : NoAttr K C "_root"
  mgC : mg "FoldedTable" = some (.ref C)
def ftF (sh rt : Addr) : List (Str × V) := putF "_root" (.ref rt) (putF "_shape" (.ref sh) [])
theorem ft_root {sh rt : Addr} : (ftF sh rt).lookup ("_root" : Str) = some (.ref rt) := by kernel_rfl
theorem ft_shape {sh rt : Addr} : (ftF sh rt).lookup ("_shape" : Str) = some (.ref sh) := by kernel_rfl
theorem ft_no1 {sh rt : Addr} : (ftF sh rt).lookup ("tree" : Str) = none := by kernel_rfl
/-- lists, tuples and marks in one another -/
theorem cut_two (a b : V) (r : List V) : cutV (a :: b :: r) none (some 2) = [a, b] := by
  rw [show (2 : Int) = ((2 : Nat) : Int) from rfl, cut_lo]
  show List.take (min 2 (r.length + 1 + 1)) _ = _
  rw [Nat.min_eq_left (by omega)]
  rfl
def spFold (CS : Addr) (k : Nat) : Sp := fun vs H Q _ => ∃ (sh wt st dx ra : Addr) (ws : List Int) (lv : Nat) (lo : Int) (us : List V) (R : List RRow) (T : Int → Option RMark), vs = [.ref sh, .int lv, .int lo, .ref ra] ∧ ShapeAt CS H sh wt st dx ws ∧ lv < ws.length ∧ ws.length - lv ≤ k ∧ H ra = some (.lst us) ∧ DhAll H (R.map rD) us ∧ R.length ≤ 10000 ∧ BlkR T lo (prodI (ws.drop lv)) R ∧
  ∀ r H', Same H H' → Dhf H H' (.list (foldD T (ws.drop lv) lo)) (.ref r) → Q (.ref r) H'
def spFB (CS : Addr) (k : Nat) : Sp := fun vs H Q _ => ∃ (sh wt st dx ra : Addr) (ws : List Int) (lv : Nat) (lo : Int) (us : List V) (R : List RRow) (T : Int → Option RMark), vs = [.ref sh, .int lv, .int lo, .ref ra] ∧ ShapeAt CS H sh wt st dx ws ∧ lv < ws.length ∧ ws.length - lv ≤ k ∧ H ra = some (.lst us) ∧ DhAll H (R.map rD) us ∧ R.length ≤ 10000 ∧ BlkR T lo (spanN ws lv) R ∧
  ∀ v H', Same H H' → Dhf H H' (entD T (foldD T (ws.drop (lv + 1))) (spanN ws lv) lo) v → Q v H'
section
variable {P : Program} {w : World} {K : PySem.W.Frag} {mg : Str → Option Value} {base : Heap} {C CS : Addr}
theorem span_pos {ws : List Int} (sm : Small ws) (k : Nat) : 1 ≤ spanN ws k := (prod_pos (ws := ws.drop (k + 1)) fun x hx => sm.2.2 x (List.mem_of_mem_drop hx)).1
theorem ok_fb_step {f : Addr} {fd : FuncData} (Df : Def K mg "_fold_block" s_fold_block f fd) (b : Binds K fd ["shape", "level", "start", "regions"] []) (m_span : C8.Met P w K mg base 1 CS "span" (spSpan CS) []) {j k : Nat} (hj : 1 ≤ j)
    (c__fold : Cal P w K mg base j "_fold" (spFold CS k) []) : Cal P w K mg base (j + 1) "_fold_block" (spFB CS (k + 1)) [] := by
  refine cal0 Df b .nil sc_fold_block (fun vs H Q E h => ?_) (fun cdv A outer s H vs Q E hr h => ?_)
  · obtain ⟨sh, wt, st, dx, ra, ws, lv, lo, us, R, Tb, rfl, _⟩ := h
    rfl
  obtain ⟨sh, wt, st, dx, ra, ws, lv, lo, us, R, Tb, rfl, hs, hl, hk, gr, dr, rl, bk, q⟩ := h
  refine ⟨_, (pss_cons (ps_mk (ps_if (pt_not (pt_truth (pv 3) (by intro _; rfl)))
      (pss_one (ps_ret pe_non))
      pss_nil))
      (pss_cons (ps_mk (ps_if (pt_cmpR (eqQ K rfl hr.units) (pe_slice (slT K rfl) (pe_ix (ixL K rfl) (pv 3) pe_int (fun _ _ => rfl)) po_none (po_some pe_int)) (pe_tup (pa_cons (pv 2) (pa_cons (pe_op op_add (pv 2) (C8.pe_mt m_span hr (by omega) (pv 0) (pa_cons (pv 1) pa_nil))) pa_nil))) (nomark _))
      (pss_one (ps_ret (pe_slice (slT K rfl) (pe_ix (ixL K rfl) (pv 3) pe_int (fun _ _ => rfl)) (po_some pe_int) po_none)))
      pss_nil))
      (pss_one (ps_ret (C8.pe_c c__fold hr (by omega) (by rfl) (pa_cons (pv 0) (pa_cons (pe_op op_add (pv 1) pe_int) (pa_cons (pv 2) (pa_cons (pv 3) pa_nil))))))))), ?_⟩
  have sp := span_pos hs.sm lv
  have em := bk.emp
  have ul := rows_len dr
  refine jnS (M := fun σ H' => H' = H ∧ R ≠ [] ∧ σ = [sR sh, sI lv, sI lo, sR ra]) ?_ (fun N kk => ?_)
  rotate_left
  · cases R with
    | nil =>
      cases (show us = [] from dr)
      walk_at "go"
      refine ⟨false, .inl ⟨_, SqL.of gr, rfl⟩, ?_⟩
      walk_at "go"
      refine q .non H same_rfl ?_
      rw [ent_emp (em.mp rfl) (by omega)]
      rfl
    | cons x R =>
      obtain ⟨v, vs', rfl, _⟩ := id dr
      walk_at "go"
      refine ⟨true, .inl ⟨_, SqL.of gr, rfl⟩, ?_⟩
      walk_at "go"
      exact kk _ _ ⟨rfl, by simp, rfl⟩
  rintro σ H1 ⟨e1, ne, rfl⟩
  subst e1
  obtain ⟨x, R', rfl⟩ : ∃ x R', R = x :: R' := by
    cases R with
    | nil => exact absurd rfl ne
    | cons x R' => exact ⟨x, R', rfl⟩
  obtain ⟨v, us', rfl, hv, _⟩ := id dr
  obtain ⟨xa, rfl, gx⟩ := row_of hv
  refine jnS (M := fun σ H' => Same H1 H' ∧ ¬ Uni Tb lo (spanN ws lv) ∧ σ = [sR sh, sI lv, sI lo, sR ra]) ?_ (fun N kk => ?_)
  rotate_left
  · walk_at "go"
    refine ⟨ra, _, _, _, rfl, rfl, SqL.of gr, atI_nat (j := 0) rfl, ?_⟩
    walk_at "go"
    refine ⟨fun z => absurd z.2 (by show ¬ ((2 : Nat) = 5); decide), fun t nt => ?_⟩
    have ec : cutV (rV x) none (some 2) = [V.int x.s, V.int x.e] := cut_two _ _ _
    rw [ec]
    have s2 := same_upd (o := HO.tup [V.int x.s, V.int x.e]) nt
    have gt := upd_same (H := H1) (a := t) (o := HO.tup [V.int x.s, V.int x.e])
    show _
    generalize upd H1 t (HO.tup [V.int x.s, V.int x.e]) = H2 at *
    walk_at "go"
    refine ⟨sh, dx, _, rfl, s2 _ _ hs.g, sh_no (by decide +kernel) (by decide +kernel) (by decide +kernel) (by decide +kernel), ?_⟩
    walk_at "go"
    refine ⟨sh, wt, st, dx, ws, lv, rfl, hs.same s2, hl, ?_⟩
    walk_at "go"
    refine ⟨sz, fun t2 nt2 => ?_⟩
    have s3 := s2.trans (same_upd (o := HO.tup [V.int lo, V.int (lo + spanN ws lv)]) nt2)
    have gt2 := upd_same (H := H2) (a := t2) (o := HO.tup [V.int lo, V.int (lo + spanN ws lv)])
    have gt := same_upd (o := HO.tup [V.int lo, V.int (lo + spanN ws lv)]) nt2 _ _ gt
    show _
    generalize upd H2 t2 (HO.tup [V.int lo, V.int (lo + spanN ws lv)]) = H3 at *
    have d1 : Dh H3 (.tuple [.int x.s, .int x.e]) (.ref t) := ⟨t, _, rfl, gt, _, _, rfl, rfl, _, _, rfl, rfl, rfl⟩
    have d2 : Dh H3 (.tuple [.int lo, .int (lo + spanN ws lv)]) (.ref t2) := ⟨t2, _, rfl, gt2, _, _, rfl, rfl, _, _, rfl, rfl, rfl⟩
    walk_at "go"
    refine ⟨_, _, Dh.dp _ _ d1, Dh.dp _ _ d2, rfl, rfl, ?_⟩
    have ee : PyData.eqv (.tuple [.int x.s, .int x.e]) (.tuple [.int lo, .int (lo + spanN ws lv)]) = decide (x.s = lo ∧ x.e = lo + spanN ws lv) := by
      rw [Bool.eq_iff_iff]
      simp [PyData.eqv, PyData.eqvAll]
    rw [ee]
    refine ⟨_, rfl, ?_⟩
    by_cases c : x.s = lo ∧ x.e = lo + spanN ws lv
    · refine ifBT (decide_eq_true c) ?_
      obtain ⟨u1, u2⟩ := bk.full c.1 c.2
      have gr3 := s3 _ _ gr
      have gx3 := s3 _ _ gx
      walk_at "go"
      refine ⟨ra, _, _, _, rfl, rfl, SqL.of gr3, atI_nat (j := 0) rfl, ?_⟩
      walk_at "go"
      refine ⟨fun z => absurd z.1 (by show ¬ ((2 : Nat) = 0); decide), fun m nm => ?_⟩
      rw [cut2]
      refine q _ _ (s3.trans (same_upd nm)) ?_
      rw [ent_uni u1 u2]
      exact ⟨rfl, dh_mark upd_same⟩
    · refine ifBF (decide_eq_false c) ?_
      refine kk _ _ ⟨s3, fun u => ?_, rfl⟩
      obtain ⟨m, _, e⟩ := bk.uni (by omega) u
      cases e
      exact c ⟨rfl, rfl⟩
  rintro σ H2 ⟨s2, nu, rfl⟩
  have ne : ¬ Emp Tb lo (spanN ws lv) := fun z => by
    have := em.mpr z
    cases this
  have l2 : lv + 1 < ws.length := by
    refine Classical.byContradiction fun z => ?_
    have e1 : spanN ws lv = 1 := by
      show prodI (ws.drop (lv + 1)) = 1
      rw [List.drop_of_length_le (by omega)]
      rfl
    rw [e1] at nu ne
    exact (one_page (T := Tb) (lo := lo)).elim nu ne
  walk_at "go"
  refine ⟨sh, wt, st, dx, ra, ws, lv + 1, lo, _, _, Tb, rfl, hs.same s2, l2, by omega, s2 _ _ gr, DhAll.mono s2 _ _ dr, rl, bk, fun r H3 s3 d3 => ?_⟩
  refine q _ _ (s2.trans s3) ?_
  rw [ent_sub nu ne]
  exact d3.weak fun a n => s2.free n
theorem ok_fold_step {f : Addr} {fd : FuncData} (Df : Def K mg "_fold" s_fold f fd) (b : Binds K fd ["shape", "level", "start", "regions"] []) (T : Txt mg) (S : ShTxt K mg CS) (m_span : C8.Met P w K mg base 1 CS "span" (spSpan CS) []) (c_clip : Cal P w K mg base 3 "clip" spClip []) {j k : Nat} (hj : 3 ≤ j)
    (c__fold_block : Cal P w K mg base j "_fold_block" (spFB CS k) []) : Cal P w K mg base (j + 1) "_fold" (spFold CS k) [] := by
  refine cal0 Df b .nil sc_fold (fun vs H Q E h => ?_) (fun cdv A outer s H vs Q E hr h => ?_)
  · obtain ⟨sh, wt, st, dx, ra, ws, lv, lo, us, R, Tb, rfl, _⟩ := h
    rfl
  obtain ⟨sh, wt, st, dx, ra, ws, lv, lo, us, R, Tb, rfl, hs, hl, hk, gr, dr, rl, bk, q⟩ := h
  refine ⟨_, (pss_cons (ps_set (i := 4) sc_fold.nd rfl (.inl rfl) (C8.pe_mt m_span hr (by omega) (pv 0) (pa_cons (pv 1) pa_nil)))
      (pss_cons (ps_set (i := 5) sc_fold.nd rfl (.inl rfl) (pe_lst pa_nil))
      (pss_cons (ps_mk (ps_for PassesOwn.never rfl (pi_range1 (by rfl) T.range (pa_cons (pe_ix (ixT K rfl) (pe_fld (pv 0) rfl) (pv 1) (fun _ _ => rfl)) pa_nil)) (pg_name (i := 6) sc_fold.nd rfl (.inl rfl))
      (pss_cons (ps_set (i := 7) sc_fold.nd rfl (.inl rfl) (pe_op op_add (pv 2) (pe_op op_mul (pv 6) (pv 4))))
      (pss_one (ps_expr (pe_bm PySem.F.plainAttrs_list PySem.F.slot_list_append PySem.F.type_list_append mt_append (pv 5) (pa_cons (C8.pe_c c__fold_block hr (by omega) (by rfl) (pa_cons (pv 0) (pa_cons (pv 1) (pa_cons (pv 7) (pa_cons (C8.pe_c c_clip hr (by omega) (by rfl) (pa_cons (pv 3) (pa_cons (pv 7) (pa_cons (pe_op op_add (pv 7) (pv 4)) pa_nil)))) pa_nil))))) pa_nil)))))))
      (pss_one (ps_ret (pv 5)))))), ?_⟩
  have sp := span_pos hs.sm lv
  have hw := hs.sm.2.2 _ (List.getElem_mem hl)
  have ed := List.drop_eq_getElem_cons hl
  have sp8 : spanN ws lv ≤ 8 ^ 6 := by
    have pp := prod_pos (ws := ws.drop (lv + 1)) fun x hx => hs.sm.2.2 x (List.mem_of_mem_drop hx)
    refine Int.le_trans pp.2 (Int.le_trans (b := ((8 ^ 6 : Nat) : Int)) ?_ (by decide))
    have h6 := hs.sm.2.1
    have : (8 : Nat) ^ (ws.drop (lv + 1)).length ≤ 8 ^ 6 := Nat.pow_le_pow_right (by decide) (by rw [List.length_drop]; omega)
    exact_mod_cast this
  rw [ed] at bk q
  have bk : BlkR Tb lo (ws[lv] * spanN ws lv) R := bk
  have gw : atI (ws.map V.int) ((lv : Nat) : Int) = some (.int ws[lv]) := atI_nat (by rw [List.getElem?_map, List.getElem?_eq_getElem hl]; rfl)
  have q : ∀ r H', Same H H' → Dhf H H' (.list ((List.range ws[lv].toNat).map fun k : Nat => entD Tb (foldD Tb (ws.drop (lv + 1))) (spanN ws lv) (lo + (k : Int) * spanN ws lv))) (.ref r) → Q (.ref r) H' := q
  generalize ws[lv] = wd at *
  walk_at "go"
  refine ⟨sh, dx, _, rfl, hs.g, sh_no (by decide +kernel) (by decide +kernel) (by decide +kernel) (by decide +kernel), ?_⟩
  walk_at "go"
  refine ⟨sh, wt, st, dx, ws, lv, rfl, hs, hl, ?_⟩
  walk_at "go"
  refine ⟨sz, fun L nL => ?_⟩
  have s1 := same_upd (o := HO.lst []) nL
  have gL := upd_same (H := H) (a := L) (o := HO.lst [])
  have bL : (upd H L (HO.lst [])) L = some (HO.lst []) := upd_same
  have hs1 := hs.same s1
  show _
  generalize hB : upd H L (HO.lst []) = B at *
  refine jnS (M := fun σ H' => Same H H' ∧ ∃ (vs : List V) (y6 y7 : Option V), H' L = some (.lst vs) ∧ DhfAll B H' ((List.range wd.toNat).map fun k : Nat => entD Tb (foldD Tb (ws.drop (lv + 1))) (spanN ws lv) (lo + (k : Int) * spanN ws lv)) vs ∧ σ = [sR sh, sI lv, sI lo, sR ra, sI (spanN ws lv), sR L, y6, y7]) ?_ (fun N kk => ?_)
  · rintro σ H2 ⟨s2, vs, y6, y7, g2, d2, rfl⟩
    walk_at "go"
    refine q L H2 s2 ⟨L, vs, rfl, g2, nL, DhfAll.mono (fun _ _ g => g) (fun _ _ _ g => g) (fun a n => ?_) _ _ d2⟩
    rw [← hB] at n
    have ne : a ≠ L := fun z => by
      rw [z, upd_same] at n
      cases n
    rw [upd_ne ne] at n
    exact n
  walk_at "go"
  refine ⟨_, _, _, _, _, rfl, hs1.g, S.cl, S.nW, shw, ?_⟩
  walk_at "go"
  refine ⟨wt, _, _, _, rfl, rfl, SqT.of hs1.w, gw, ?_⟩
  generalize hsp : spanN ws lv = sp' at *
  refine ⟨_, rfl, by omega, by omega, for_range (lo := 0) (n := wd.toNat) (fun i σ H' => Ob (Same H H' ∧ ∃ (vs : List V) (y6 y7 : Option V), vs.length = i ∧ H' L = some (.lst vs) ∧ DhfAll B H' ((List.range i).map fun k : Nat => entD Tb (foldD Tb (ws.drop (lv + 1))) sp' (lo + (k : Int) * sp')) vs ∧ σ = [sR sh, sI lv, sI lo, sR ra, sI sp', sR L, y6, y7])) (ob ⟨s1, [], none, none, rfl, gL, rfl, rfl⟩) ?_ ?_⟩
  · intro i σ H2 hi h
    obtain ⟨s2, vs, y6, y7, vl, g2, d2, rfl⟩ := unob h
    clear h kk s1 gL hs1
    rw [Int.zero_add]
    have hi8 : i < 8 := by omega
    have m0 : 0 ≤ (i : Int) * sp' := Int.mul_nonneg (by omega) (by omega)
    have m1 : (i : Int) * sp' + sp' ≤ wd * sp' := by
      have := Int.mul_le_mul_of_nonneg_right (show (i : Int) + 1 ≤ wd by omega) (show 0 ≤ sp' by omega)
      rw [Int.add_mul, Int.one_mul] at this
      exact this
    have bk2 := bk.clip (lo' := lo + (i : Int) * sp') (n' := sp') (by omega) (by omega) (by omega)
    walk_at "go"
    dsimp only
    generalize hlw : lo + (i : Int) * sp' = lw at *
    walk_at "go"
    refine ⟨ra, us, R, lw, lw + sp', rfl, s2 _ _ gr, DhAll.mono s2 _ _ dr, by omega, fun C1 cs H3 s3 nC gC dC => ?_⟩
    have cl := clipR_len lw (lw + sp') R
    walk_at "go"
    refine ⟨sh, wt, st, dx, C1, ws, lv, lw, cs, _, Tb, rfl, hs.same (s2.trans s3), hl, hk, gC, dC, by omega, by rw [hsp]; exact bk2, fun v H4 s4 dv => ?_⟩
    rw [hsp] at dv
    have g3 := s3 _ _ g2
    have g4 := s4 _ _ g3
    have dv : Dhf B H4 (entD Tb (foldD Tb (ws.drop (lv + 1))) sp' lw) v := dv.weak fun a n => by
      rw [← hB]
      exact free_put (s2.trans s3) g3 a n
    have d4 := d2.same (s3.trans s4)
    walk_at "go"
    refine ⟨L, _, _, rfl, rfl, g4, sz5 (by omega), ?_⟩
    refine ob ⟨same_put ((s2.trans s3).trans s4) nL, vs ++ [v], _, _, by rw [List.length_append, vl]; rfl, upd_same, ?_, rfl⟩
    rw [List.range_succ, List.map_append]
    refine DhfAll.put (g := g4) (b := bL) ?_
    refine DhfAll.snoc d4 ?_
    show Dhf B H4 (entD Tb (foldD Tb (ws.drop (lv + 1))) sp' (lo + (i : Int) * sp')) v
    rw [hlw]
    exact dv
  · intro σ H2 h
    obtain ⟨s2, vs, y6, y7, vl, g2, d2, rfl⟩ := unob h
    exact kk _ _ ⟨s2, vs, _, _, g2, d2, rfl⟩
/-- _fold down to k levels -/
theorem ok_fold {f f2 : Addr} {fd fd2 : FuncData} (Df : Def K mg "_fold" s_fold f fd) (b : Binds K fd ["shape", "level", "start", "regions"] []) (D2 : Def K mg "_fold_block" s_fold_block f2 fd2) (b2 : Binds K fd2 ["shape", "level", "start", "regions"] []) (T : Txt mg) (S : ShTxt K mg CS) (m_span : C8.Met P w K mg base 1 CS "span" (spSpan CS) []) (c_clip : Cal P w K mg base 3 "clip" spClip []) :
    ∀ k, Cal P w K mg base (4 + 2 * k) "_fold" (spFold CS k) []
  | 0 => by
    have no : ∀ vs H Q E, ¬ spFold CS 0 vs H Q E := fun vs H Q E h => by
      obtain ⟨sh, wt, st, dx, ra, ws, lv, lo, us, R, Tb, _, _, h1, h2, _⟩ := h
      omega
    exact ⟨f, fd, _, _, ⟨fun vs H Q E h => absurd h (no vs H Q E), fun A outer s H args us vs Q E _ _ _ _ h => absurd h (no vs H Q E)⟩, Df.mgf, Df.kp, b, .nil⟩
  | k + 1 => ok_fold_step Df b T S m_span c_clip (j := 4 + 2 * k + 1) (by omega) (ok_fb_step D2 b2 m_span (by omega) (ok_fold Df b D2 b2 T S m_span c_clip k))
end

end

section

-- a condition of an operator
local macro_rules | `(tactic| walk_at "cond") => `(tactic| first
  | (show (0 : Int) < _; omega)
  | (show CDiv _ _; constructor <;> (first | decide | omega))
  | (show CMul _ _; first | (refine cmul_l ?_; constructor <;> (first | decide | omega)) | (refine cmul_r ?_; constructor <;> (first | decide | omega)))
  | (show CPow _ _; exact (by refine ⟨by decide, by decide, by decide⟩))
  | (show CDivW _ _; exact ⟨by decide, by decide +kernel⟩))
local macro_rules | `(tactic| walk_at "sq") => `(tactic| first | assumption | exact Dh.mono (same_upd (by assumption)) _ _ (by assumption) | exact .inl (.inl (.inl (by assumption))) | exact .inr (.inl (.inl (by assumption))) | exact SqL.of (by assumption) | exact .inl (by assumption) | exact .inl (SqL.of (by assumption)) | exact SqT.of (by assumption) | exact .inr (SqT.of (by assumption)))
local macro_rules | `(tactic| walk_at "st") => `(tactic| first
  | refine ⟨_, rfl, ?_⟩
  | refine ⟨_, _, rfl, rfl, ?_⟩
  | refine .inl ⟨_, rfl, ?_⟩
  | refine ⟨rfl, ?_⟩
  | refine ⟨_, _, rfl, by walk_at "sq", ?_⟩
  | refine ⟨.inl ⟨rfl, _, SqL.of (by assumption)⟩, ?_⟩
  | refine ⟨by walk_at "cond", ?_⟩
  | (refine' ifBT ?hh ?_; (case hh => first | rfl | assumption))
  | (refine' ifBF ?hh ?_; (case hh => first | rfl | assumption)))
local macro_rules | `(tactic| walk_at "go") => `(tactic| repeat walk_at "st")
local macro_rules | `(tactic| walk_at "yes") => `(tactic| (refine' ifT ?hh ?_; (case hh => first | rfl | decide +kernel)))
local macro_rules | `(tactic| walk_at "no") => `(tactic| (refine' ifF ?hh ?_; (case hh => first | decide +kernel | (intro z; cases z; done))))

/-! ### FoldedTable.__init__ -/
structure FtAt (C CS : Addr) (H : Hp) (p sh rt dx : Addr) (ws : List Int) (ds : List PyData) : Prop where
  g : H p = some (.ins C dx (ftF sh rt))
  s : ∃ wt st dx', ShapeAt CS H sh wt st dx' ws
  r : Dh H (.list ds) (.ref rt)
theorem FtAt.same {C CS : Addr} {H H' : Hp} {p sh rt dx : Addr} {ws : List Int} {ds : List PyData} (h : FtAt C CS H p sh rt dx ws ds) (s : Same H H') : FtAt C CS H' p sh rt dx ws ds := by
  obtain ⟨wt, st, dx', h2⟩ := h.s
  exact ⟨s _ _ h.g, ⟨wt, st, dx', h2.same s⟩, Dh.mono s _ _ h.r⟩
@[irreducible] def spFtI (C CS CR : Addr) : Sp := fun vs H Q _ => ∃ (p dx sh wt st dxs rg rp dxr : Addr) (ws : List Int) (lim : Int) (us : List V) (xs : List RRow) (T : Int → Option RMark), vs = [.ref p, .ref sh, .ref rg] ∧ H p = some (.ins C dx []) ∧ ShapeAt CS H sh wt st dxs ws ∧ lim = prodI ws ∧ RegB CR H rg rp dxr lim us xs ∧ Can xs ∧ TbIs xs T ∧
  ∀ rt H', FtAt C CS H' p sh rt dx ws (foldD T ws 0) → Dhf H H' (.list (foldD T ws 0)) (.ref rt) → But H H' p → Q .non H'
section
variable {P : Program} {w : World} {K : PySem.W.Frag} {mg : Str → Option Value} {base : Heap} {C CS CR : Addr}
theorem rg_no8 {lim : Int} {ra : Addr} : (rgF lim ra).lookup ("as_list" : Str) = none := by kernel_rfl
theorem ft_put1 {sh : Addr} : putF "_shape" (.ref sh) ([] : List (Str × V)) = putF "_shape" (.ref sh) [] := rfl
theorem reg_blk {CR : Addr} {H : Hp} {p rp dx : Addr} {lim : Int} {us : List V} {xs : List RRow} {T : Int → Option RMark} (h : RegB CR H p rp dx lim us xs) (c : Can xs) (t : TbIs xs T) : BlkR T 0 lim xs := by
  refine ⟨h.at_.a, fun x hx => by have := h.el x hx; omega, c, fun p => ?_, h.at_.ok⟩
  by_cases d : 0 ≤ p ∧ p < 0 + lim
  · rw [if_pos d, t p]
  · rw [if_neg d]
    refine tb_none fun x hx z => d ⟨?_, ?_⟩
    · have := (h.at_.a.mem hx).1
      omega
    · have := h.el x hx
      omega
theorem ok_ftI {f : Addr} {fd : FuncData} (F : C8.Fun K "__init__" "FoldedTable.__init__" s_FoldedTable___init__ f fd) (M : Mk K C f) (b : Binds K fd ["self", "shape", "regions"] []) (S : FTxt K mg C) (m_as_list : C8.Met P w K mg base 1 CR "as_list" (spAsList CR) []) (c__fold : Cal P w K mg base 16 "_fold" (spFold CS 6) []) : C8.Mak P w K mg base 17 "FoldedTable" C (spFtI C CS CR) [] := by
  refine C8.mak0 M S.mgC F b .nil sc_FoldedTable___init__ (fun vs H Q E h => ?_) (fun cdv A outer s H vs Q E hr h => ?_)
  · unfold spFtI at h
    obtain ⟨p, dx, sh, wt, st, dxs, rg, rp, dxr, ws, lim, us, xs, Tb, rfl, _⟩ := h
    rfl
  unfold spFtI at h
  obtain ⟨p, dx, sh, wt, st, dxs, rg, rp, dxr, ws, lim, us, xs, Tb, rfl, hp, hs, rfl, hc, cn, tt, q⟩ := h
  refine ⟨_, (pss_cons (ps_fld (pv 0) (pv 1) rfl)
      (pss_one (ps_fld (pv 0) (C8.pe_c c__fold hr (by omega) (by rfl) (pa_cons (pv 1) (pa_cons pe_int (pa_cons pe_int (pa_cons (C8.pe_mt0 m_as_list hr (by omega) (pv 2) ) pa_nil))))) rfl))), ?_⟩
  have psh : p ≠ sh := fun z => by
    have := hs.g
    rw [← z, hp] at this
    cases this
  have prg : p ≠ rg := fun z => by
    have := hc.at_.g
    rw [← z, hp] at this
    cases this
  walk_at "go"
  refine ⟨p, C, dx, _, rfl, hp, S.cl, S.nS, (by show 0 < 1000; decide), ?_⟩
  have g1 := upd_same (H := H) (a := p) (o := HO.ins C dx (putF "_shape" (V.ref sh) []))
  have b1 := But.put (H := H) (p := p) (o := HO.ins C dx (putF "_shape" (V.ref sh) []))
  show _
  generalize upd H p (HO.ins C dx (putF "_shape" (V.ref sh) [])) = H1 at *
  have mp : Mut H p := Mut.ins hp
  have hs1 : ShapeAt CS H1 sh wt st dxs ws := ⟨b1 _ _ psh.symm hs.g, b1.tup mp hs.w, b1.tup mp hs.s, hs.sm⟩
  have hc1 := hc.but b1 mp prg.symm
  walk_at "go"
  refine ⟨rg, dxr, _, rfl, hc1.at_.g, rg_no8, ?_⟩
  refine ⟨rg, rp, dxr, prodI ws, us, xs, rfl, hc1.at_, fun l nl => ?_⟩
  have s2 := same_upd (o := HO.lst us) nl
  have gl := upd_same (H := H1) (a := l) (o := HO.lst us)
  show _
  generalize upd H1 l (HO.lst us) = H2 at *
  have hc2 := hc1.same s2
  walk_at "go"
  have hl : 0 < ws.length := List.length_pos_iff.mpr hs.sm.1
  refine ⟨sh, wt, st, dxs, l, ws, 0, 0, us, xs, Tb, rfl, hs1.same s2, hl, hs.sm.2.1, gl, hc2.at_.d, hc2.at_.n, reg_blk hc2 cn tt, fun rt H3 s3 d3 => ?_⟩
  have g3 := s3 _ _ (s2 _ _ g1)
  have b3 := b1.trans ((Same.one (p := p) s2).trans (Same.one s3))
  walk_at "go"
  refine ⟨p, C, dx, _, rfl, g3, S.cl, S.nR, (by show 1 < 1000; decide), ?_⟩
  have w2 : ∀ a, H2 a = none → H a = none := fun a n => by
    cases e : H a with
    | none => rfl
    | some o =>
      have : H1 a ≠ none := by
        by_cases z : a = p
        · rw [z, g1]
          exact fun y => by cases y
        · rw [b1 a o z e]
          exact fun y => by cases y
      exact absurd (s2.free n) this
  have d4 : Dhf H (upd H3 p (HO.ins C dx (ftF sh rt))) (.list (foldD Tb ws 0)) (.ref rt) := by
    refine Dhf.mono (fun a us e => ?_) (fun a us n e => ?_) w2 _ _ d3
    · rw [upd_ne (fun z => by rw [z, g3] at e; cases e)]
      exact e
    · rw [upd_ne (fun z => by rw [z, g3] at e; cases e)]
      exact e
  refine q rt _ ⟨upd_same, ⟨wt, st, dxs, ?_⟩, Dhf.dh _ _ d4⟩ d4 (b3.trans But.put)
  have hs3 := hs1.same (s2.trans s3)
  exact ⟨by rw [upd_ne psh.symm]; exact hs3.g, But.put.tup (Mut.ins g3) hs3.w, But.put.tup (Mut.ins g3) hs3.s, hs3.sm⟩
end

end

section

-- a condition of an operator
local macro_rules | `(tactic| walk_at "cond") => `(tactic| first
  | (show (0 : Int) < _; omega)
  | (show CDiv _ _; constructor <;> (first | decide | omega))
  | (show CMul _ _; first | (refine cmul_l ?_; constructor <;> (first | decide | omega)) | (refine cmul_r ?_; constructor <;> (first | decide | omega)))
  | (show CPow _ _; exact (by refine ⟨by decide, by decide, by decide⟩))
  | (show CDivW _ _; exact ⟨by decide, by decide +kernel⟩))
local macro_rules | `(tactic| walk_at "sq") => `(tactic| first | assumption | exact Dh.mono (same_upd (by assumption)) _ _ (by assumption) | exact .inl (.inl (.inl (by assumption))) | exact .inr (.inl (.inl (by assumption))) | exact SqL.of (by assumption) | exact .inl (by assumption) | exact .inl (SqL.of (by assumption)) | exact SqT.of (by assumption) | exact .inr (SqT.of (by assumption)))
local macro_rules | `(tactic| walk_at "st") => `(tactic| first
  | refine ⟨_, rfl, ?_⟩
  | refine ⟨_, _, rfl, rfl, ?_⟩
  | refine .inl ⟨_, rfl, ?_⟩
  | refine ⟨rfl, ?_⟩
  | refine ⟨_, _, rfl, by walk_at "sq", ?_⟩
  | refine ⟨.inl ⟨rfl, _, SqL.of (by assumption)⟩, ?_⟩
  | refine ⟨by walk_at "cond", ?_⟩
  | (refine' ifBT ?hh ?_; (case hh => first | rfl | assumption))
  | (refine' ifBF ?hh ?_; (case hh => first | rfl | assumption)))
local macro_rules | `(tactic| walk_at "go") => `(tactic| repeat walk_at "st")
local macro_rules | `(tactic| walk_at "yes") => `(tactic| (refine' ifT ?hh ?_; (case hh => first | rfl | decide +kernel)))
local macro_rules | `(tactic| walk_at "no") => `(tactic| (refine' ifF ?hh ?_; (case hh => first | decide +kernel | (intro z; cases z; done))))

/-! ### _copy_table, tree -/
abbrev s_copy_table : Stmt := topS 13
theorem sc_copy_table : FnScope ["table", "entry"] ["table"] (C8.fnScope s_copy_table) := C8.fnScope_by (by decide +kernel)
abbrev s_FoldedTable_tree : Stmt := inClass (topS 8) 4
theorem sc_FoldedTable_tree : FnScope ["self"] ["self"] (C8.fnScope s_FoldedTable_tree) := C8.fnScope_by (by decide +kernel)
mutual
/-- d stands at x, its lists at as -/
def TrA (H : Hp) : PyData → V → List Addr → Prop
  | .none, x, as => as = [] ∧ x = .non
  | .bool b, x, as => as = [] ∧ x = .bl b
  | .int i, x, as => as = [] ∧ x = .int i
  | .str s, x, as => as = [] ∧ x = .str s
  | .list ds, x, as => ∃ a xs bs, x = .ref a ∧ as = a :: bs ∧ H a = some (.lst xs) ∧ TrAs H ds xs bs
  | .tuple ds, x, as => as = [] ∧ noL (.tuple ds) = true ∧ Dh H (.tuple ds) x
  | .dict _, _, _ => False
def TrAs (H : Hp) : List PyData → List V → List Addr → Prop
  | [], xs, as => xs = [] ∧ as = []
  | d :: ds, xs, as => ∃ v vs as1 as2, xs = v :: vs ∧ as = as1 ++ as2 ∧ TrA H d v as1 ∧ TrAs H ds vs as2
end
mutual
theorem TrA.mono {H H' : Hp} (s1 : ∀ a us, H a = some (.tup us) → H' a = some (.tup us)) : ∀ (d : PyData) (x : V) (as : List Addr), (∀ a ∈ as, ∀ us, H a = some (.lst us) → H' a = some (.lst us)) → TrA H d x as → TrA H' d x as
  | .none, x, as, _, h => h
  | .bool b, x, as, _, h => h
  | .int i, x, as, _, h => h
  | .str i, x, as, _, h => h
  | .list ds, x, as, s2, h => by
    obtain ⟨a, xs, bs, e, e2, g, r⟩ := h
    exact ⟨a, xs, bs, e, e2, s2 a (by rw [e2]; exact List.mem_cons_self) _ g, TrAs.mono s1 ds xs bs (fun b hb => s2 b (by rw [e2]; exact List.mem_cons_of_mem _ hb)) r⟩
  | .tuple ds, x, as, _, h => ⟨h.1, h.2.1, Dh.tups s1 _ _ h.2.1 h.2.2⟩
  | .dict _, x, as, _, h => False.elim h
theorem TrAs.mono {H H' : Hp} (s1 : ∀ a us, H a = some (.tup us) → H' a = some (.tup us)) : ∀ (ds : List PyData) (xs : List V) (as : List Addr), (∀ a ∈ as, ∀ us, H a = some (.lst us) → H' a = some (.lst us)) → TrAs H ds xs as → TrAs H' ds xs as
  | [], xs, as, _, h => h
  | d :: ds, xs, as, s2, h => by
    obtain ⟨v, vs, as1, as2, e, e2, g, r⟩ := h
    exact ⟨v, vs, as1, as2, e, e2, TrA.mono s1 d v as1 (fun b hb => s2 b (by rw [e2]; exact List.mem_append_left _ hb)) g, TrAs.mono s1 ds vs as2 (fun b hb => s2 b (by rw [e2]; exact List.mem_append_right _ hb)) r⟩
end
mutual
theorem TrA.dh {H : Hp} : ∀ (d : PyData) (x : V) (as : List Addr), TrA H d x as → Dh H d x
  | .none, x, as, h => h.2
  | .bool b, x, as, h => h.2
  | .int i, x, as, h => h.2
  | .str i, x, as, h => h.2
  | .list ds, x, as, h => by
    obtain ⟨a, xs, bs, e, e2, g, r⟩ := h
    exact ⟨a, xs, e, g, TrAs.dh ds xs bs r⟩
  | .tuple ds, x, as, h => h.2.2
  | .dict _, x, as, h => False.elim h
theorem TrAs.dh {H : Hp} : ∀ (ds : List PyData) (xs : List V) (as : List Addr), TrAs H ds xs as → DhAll H ds xs
  | [], xs, as, h => h.1
  | d :: ds, xs, as, h => by
    obtain ⟨v, vs, as1, as2, e, e2, g, r⟩ := h
    exact ⟨v, vs, e, TrA.dh d v as1 g, TrAs.dh ds vs as2 r⟩
end
mutual
theorem TrA.has {H : Hp} : ∀ (d : PyData) (x : V) (as : List Addr), TrA H d x as → ∀ a ∈ as, ∃ us, H a = some (.lst us)
  | .none, x, as, h, a, ha => by rw [h.1] at ha; cases ha
  | .bool b, x, as, h, a, ha => by rw [h.1] at ha; cases ha
  | .int i, x, as, h, a, ha => by rw [h.1] at ha; cases ha
  | .str i, x, as, h, a, ha => by rw [h.1] at ha; cases ha
  | .list ds, x, as, h, a, ha => by
    obtain ⟨a', xs, bs, e, e2, g, r⟩ := h
    rw [e2] at ha
    rcases List.mem_cons.mp ha with e | ha
    · rw [e]
      exact ⟨xs, g⟩
    · exact TrAs.has ds xs bs r a ha
  | .tuple ds, x, as, h, a, ha => by rw [h.1] at ha; cases ha
  | .dict _, x, as, h, a, ha => False.elim h
theorem TrAs.has {H : Hp} : ∀ (ds : List PyData) (xs : List V) (as : List Addr), TrAs H ds xs as → ∀ a ∈ as, ∃ us, H a = some (.lst us)
  | [], xs, as, h, a, ha => by rw [h.2] at ha; cases ha
  | d :: ds, xs, as, h, a, ha => by
    obtain ⟨v, vs, as1, as2, e, e2, g, r⟩ := h
    rw [e2] at ha
    rcases List.mem_append.mp ha with ha | ha
    · exact TrA.has d v as1 g a ha
    · exact TrAs.has ds vs as2 r a ha
end
theorem TrAs.snoc {H : Hp} : ∀ {ds : List PyData} {xs : List V} {as as2 : List Addr} {d : PyData} {x : V}, TrAs H ds xs as → TrA H d x as2 → TrAs H (ds ++ [d]) (xs ++ [x]) (as ++ as2)
  | [], xs, as, as2, d, x, h, hx => by
    obtain ⟨rfl, rfl⟩ := (show xs = [] ∧ as = [] from h)
    exact ⟨x, [], as2, [], rfl, (List.append_nil _).symm, hx, rfl, rfl⟩
  | d' :: ds, xs, as, as2, d, x, h, hx => by
    obtain ⟨v, vs, as1, as3, rfl, rfl, h1, h2⟩ := h
    exact ⟨v, vs ++ [x], as1, as3 ++ as2, rfl, List.append_assoc _ _ _, h1, TrAs.snoc h2 hx⟩
/-- no list inside a tuple -/
def Tidy : Nat → PyData → Prop
  | 0, _ => False
  | n + 1, .list ds => ∀ d ∈ ds, Tidy n d
  | _, .tuple ds => noL (.tuple ds) = true
  | _, .dict _ => False
  | _, _ => True
theorem tr_flat {H : Hp} {n : Nat} : ∀ {d : PyData} {x : V}, isL d = false → Tidy n d → Dh H d x → TrA H d x []
  | .none, x, _, _, h => ⟨rfl, h⟩
  | .bool b, x, _, _, h => ⟨rfl, h⟩
  | .int i, x, _, _, h => ⟨rfl, h⟩
  | .str i, x, _, _, h => ⟨rfl, h⟩
  | .list ds, x, e, _, h => by cases e
  | .tuple ds, x, _, t, h => ⟨rfl, (by cases n <;> first | exact t.elim | exact t), h⟩
  | .dict _, x, _, _, h => False.elim h
def spCopy (k : Nat) : Sp := fun vs H Q _ => ∃ (a : Addr) (ds : List PyData), vs = [.ref a] ∧ Dh H (.list ds) (.ref a) ∧ Dle k (.list ds) ∧ Tidy k (.list ds) ∧
  ∀ r as H', Same H H' → TrA H' (.list ds) (.ref r) as → as.Nodup → (∀ b ∈ as, H b = none) → Q (.ref r) H'
def spTree (C CS : Addr) : Sp := fun vs H Q _ => ∃ (p sh rt dx : Addr) (ws : List Int) (ds : List PyData), vs = [.ref p] ∧ FtAt C CS H p sh rt dx ws ds ∧ Dle 8 (.list ds) ∧ Tidy 8 (.list ds) ∧
  ∀ r as H', Same H H' → TrA H' (.list ds) (.ref r) as → as.Nodup → (∀ b ∈ as, H b = none) → Q (.ref r) H'
section
variable {P : Program} {w : World} {K : PySem.W.Frag} {mg : Str → Option Value} {base : Heap} {C CS : Addr}
theorem ok_copy_step {f : Addr} {fd : FuncData} (Df : Def K mg "_copy_table" s_copy_table f fd) (b : Binds K fd ["table"] []) (T : Txt mg) {k : Nat} (c__copy_table : Cal P w K mg base (k + 1) "_copy_table" (spCopy k) []) : Cal P w K mg base (k + 2) "_copy_table" (spCopy (k + 1)) [] := by
  refine cal0 Df b .nil sc_copy_table (fun vs H Q E h => ?_) (fun cdv A outer s H vs Q E hr h => ?_)
  · obtain ⟨a, ds, rfl, _⟩ := h
    rfl
  obtain ⟨a, ds, rfl, ⟨a', xs, ea, ga, dx⟩, dl, td, q⟩ := h
  cases ea
  refine ⟨_, (pss_one (ps_ret (pe_lc (own := [("entry", 1)]) (g := gName 1) (tt := tYes) rfl sc_copy_table.nd (pi_list (pv 0)) (blkOk_by (own := [("entry", 1)]) (N := ["table", "entry"]) (sc := C8.fnScope s_copy_table) (by decide +kernel)) (fun _ _ _ _ _ => (pg_name (i := 1) sc_copy_table.nd rfl (.inl rfl))) (fun _ _ _ _ _ => pts_nil) (fun _ _ _ _ _ => (pe_ifExp (pt_val (pe_callB is_list (by rfl) T.isinstance (by decide +kernel) (pa_cons (pv 1) (pa_cons (pe_bltn (v := .ty "list") (by rfl) T.list (by decide +kernel) rfl) pa_nil)))) (C8.pe_c c__copy_table hr (by omega) (by rfl) (pa_cons (pv 1) pa_nil)) (pv 1)))))), ?_⟩
  have xl := dx.len
  have dl1 : ds.length ≤ 100000 := dl.1
  walk_at "go"
  refine ⟨⟨_, SqL.of ga⟩, fun R nR => lc_list (K := K) (a := a) (xs := xs) (fun i H' => Ob (Same H H' ∧ ∃ ys as, H' R = some (.lst ys) ∧ ys.length = i ∧ TrAs H' (ds.take i) ys as ∧ as.Nodup ∧ ∀ b ∈ as, H b = none ∧ b ≠ R)) (ob ⟨same_upd nR, [], [], upd_same, rfl, ⟨rfl, rfl⟩, List.nodup_nil, by simp⟩) (fun i H' _ h => SqL.of ((unob h).1 _ _ ga)) ?_ ?_⟩
  · intro i v H1 hi h
    obtain ⟨s1, ys, as, gR, yl, tr, nd, fr⟩ := unob h
    clear h
    have hil : i < ds.length := by
      have := (List.getElem?_eq_some_iff.mp hi).1
      omega
    obtain ⟨v', ev, dv⟩ := dx.get (List.getElem?_eq_getElem hil)
    rw [hi] at ev
    cases ev
    have dm : ds[i] ∈ ds := List.getElem_mem hil
    have et : ds.take (i + 1) = ds.take i ++ [ds[i]] := by
      rw [List.take_add_one, List.getElem?_eq_getElem hil]
      rfl
    rw [et]
    have dle := dl.2 _ dm
    have tid := td _ dm
    generalize ds[i] = d at *
    have dv1 := Dh.mono s1 _ _ dv
    refine ⟨rfl, ?_⟩
    -- behind the element
    have put : ∀ (H2 : Hp) (y : V) (as2 : List Addr), Same H1 H2 → TrA H2 d y as2 → as2.Nodup → (∀ b ∈ as2, H1 b = none) → ∃ acc, H2 R = some (.lst acc) ∧ acc.length < sizeLine ∧ Ob (Same H (upd H2 R (.lst (acc ++ [y]))) ∧ ∃ ys as, (upd H2 R (.lst (acc ++ [y]))) R = some (.lst ys) ∧ ys.length = i + 1 ∧ TrAs (upd H2 R (.lst (acc ++ [y]))) (ds.take i ++ [d]) ys as ∧ as.Nodup ∧ ∀ b ∈ as, H b = none ∧ b ≠ R) := by
      intro H2 y as2 s2 t2 n2 f2
      have g2 := s2 _ _ gR
      refine ⟨ys, g2, sz5 (by omega), ob ⟨same_put (s1.trans s2) nR, ys ++ [y], as ++ as2, upd_same, by rw [List.length_append, yl]; rfl, ?_, ?_, ?_⟩⟩
      · have ta := TrAs.mono (fun a us g => s2 _ _ g) _ _ _ (fun a _ us g => s2 _ _ g) tr
        refine TrAs.mono (tup_put g2) _ _ _ (fun b hb us g => ?_) (TrAs.snoc ta t2)
        have ne : b ≠ R := by
          rcases List.mem_append.mp hb with hb | hb
          · exact (fr b hb).2
          · exact fun z => by
              have := f2 b hb
              rw [z, gR] at this
              cases this
        rw [upd_ne ne]
        exact g
      · refine List.nodup_append.mpr ⟨nd, n2, fun x hx y hy z => ?_⟩
        obtain ⟨us, g⟩ := TrAs.has _ _ _ tr x hx
        have := f2 y hy
        rw [← z, g] at this
        cases this
      · intro b hb
        rcases List.mem_append.mp hb with hb | hb
        · exact fr b hb
        · exact ⟨s1.free (f2 b hb), fun z => by
            have := f2 b hb
            rw [z, gR] at this
            cases this⟩
    walk_at "go"
    cases hL : isL d with
    | false =>
      refine ifBF rfl ?_
      walk_at "go"
      exact put H1 v [] same_rfl (tr_flat hL tid dv1) List.nodup_nil (by simp)
    | true =>
      refine ifBT rfl ?_
      cases d with
      | list es =>
        obtain ⟨a2, xs2, rfl, _⟩ := id dv1
        walk_at "go"
        refine ⟨dle, tid, fun r as2 H2 s2 t2 n2 f2 => ?_⟩
        exact put H2 (.ref r) as2 s2 t2 n2 f2
      | _ => cases hL
  · intro H1 h
    obtain ⟨s1, ys, as, gR, yl, tr, nd, fr⟩ := unob h
    rw [xl, List.take_length] at tr
    refine q R (R :: as) H1 s1 ⟨R, ys, as, rfl, rfl, gR, tr⟩ (List.nodup_cons.mpr ⟨fun z => (fr R z).2 rfl, nd⟩) fun b hb => ?_
    rcases List.mem_cons.mp hb with e | hb
    · rw [e]
      exact nR
    · exact (fr b hb).1
theorem ok_copy {f : Addr} {fd : FuncData} (Df : Def K mg "_copy_table" s_copy_table f fd) (b : Binds K fd ["table"] []) (T : Txt mg) : ∀ k, Cal P w K mg base (k + 1) "_copy_table" (spCopy k) []
  | 0 => by
    have no : ∀ vs H Q E, ¬ spCopy 0 vs H Q E := fun vs H Q E h => by
      obtain ⟨a, ds, _, _, h1, _⟩ := h
      exact h1
    exact ⟨f, fd, _, _, ⟨fun vs H Q E h => absurd h (no vs H Q E), fun A outer s H args us vs Q E _ _ _ _ h => absurd h (no vs H Q E)⟩, Df.mgf, Df.kp, b, .nil⟩
  | k + 1 => ok_copy_step Df b T (ok_copy Df b T k)
theorem ok_tree {f : Addr} {fd : FuncData} (F : C8.Fun K "tree" "FoldedTable.tree" s_FoldedTable_tree f fd) (M : Meth K C "tree" f) (b : Binds K fd ["self"] []) (S : FTxt K mg C) (c__copy_table : Cal P w K mg base 9 "_copy_table" (spCopy 8) []) : C8.Met P w K mg base 10 C "tree" (spTree C CS) [] := by
  refine C8.met0 S.cl M F b sc_FoldedTable_tree (fun vs H Q E h => ?_) (fun cdv A outer s H vs Q E hr h => ?_)
  · obtain ⟨p, sh, rt, dx, ws, ds, rfl, _⟩ := h
    rfl
  obtain ⟨p, sh, rt, dx, ws, ds, rfl, hf, dl, td, q⟩ := h
  refine ⟨_, (pss_one (ps_ret (C8.pe_c c__copy_table hr (by omega) (by rfl) (pa_cons (pe_fld (pv 0) rfl) pa_nil)))), ?_⟩
  walk_at "go"
  refine ⟨_, _, _, _, _, rfl, hf.g, S.cl, S.nR, ft_root, ?_⟩
  walk_at "go"
  exact ⟨rt, ds, rfl, hf.r, dl, td, q⟩
end

end

section

-- a condition of an operator
local macro_rules | `(tactic| walk_at "cond") => `(tactic| first
  | (show (0 : Int) < _; omega)
  | (show CDiv _ _; constructor <;> (first | decide | omega))
  | (show CMul _ _; first | (refine cmul_l ?_; constructor <;> (first | decide | omega)) | (refine cmul_r ?_; constructor <;> (first | decide | omega)))
  | (show CPow _ _; exact (by refine ⟨by decide, by decide, by decide⟩))
  | (show CDivW _ _; exact ⟨by decide, by decide +kernel⟩))
local macro_rules | `(tactic| walk_at "sq") => `(tactic| first | assumption | exact Dh.mono (same_upd (by assumption)) _ _ (by assumption) | exact .inl (.inl (.inl (by assumption))) | exact .inr (.inl (.inl (by assumption))) | exact SqL.of (by assumption) | exact .inl (by assumption) | exact .inl (SqL.of (by assumption)) | exact SqT.of (by assumption) | exact .inr (SqT.of (by assumption)))
local macro_rules | `(tactic| walk_at "st") => `(tactic| first
  | refine ⟨_, rfl, ?_⟩
  | refine ⟨_, _, rfl, rfl, ?_⟩
  | refine .inl ⟨_, rfl, ?_⟩
  | refine ⟨rfl, ?_⟩
  | refine ⟨_, _, rfl, by walk_at "sq", ?_⟩
  | refine ⟨.inl ⟨rfl, _, SqL.of (by assumption)⟩, ?_⟩
  | refine ⟨by walk_at "cond", ?_⟩
  | (refine' ifBT ?hh ?_; (case hh => first | rfl | assumption))
  | (refine' ifBF ?hh ?_; (case hh => first | rfl | assumption)))
local macro_rules | `(tactic| walk_at "go") => `(tactic| repeat walk_at "st")
local macro_rules | `(tactic| walk_at "yes") => `(tactic| (refine' ifT ?hh ?_; (case hh => first | rfl | decide +kernel)))
local macro_rules | `(tactic| walk_at "no") => `(tactic| (refine' ifF ?hh ?_; (case hh => first | decide +kernel | (intro z; cases z; done))))

local macro_rules | `(tactic| walk_at "st") => `(tactic| refine ⟨_, _, _, _, _, rfl, by assumption, by assumption, by omega, by omega, by omega, by omega, by omega, ?_⟩)
local macro_rules | `(tactic| walk_at "st") => `(tactic| refine ⟨_, _, _, _, _, rfl, Same.seq (by assumption) (by assumption), by assumption, by omega, by omega, by omega, by omega, by omega, ?_⟩)

/-! ### _law_fold_fan, _law_fold_many -/
abbrev s_fold_fan : Stmt := topS 35
theorem sc_fold_fan : FnScope ["_law_script"] ["_law_script"] (C8.fnScope s_fold_fan) := C8.fnScope_by (by decide +kernel)
abbrev s_fold_many : Stmt := topS 36
theorem sc_fold_many : FnScope ["_law_script", "_law_total", "_law_many"] ["_law_script", "_law_total"] (C8.fnScope s_fold_many) := C8.fnScope_by (by decide +kernel)
structure TxtF (mg : Str → Option Value) : Prop extends Txt mg where
  min : mg "min" = none
def spFFan (K : PySem.W.Frag) : Sp := fun vs H Q _ => ∃ (a : Addr) (ns : List Int), vs = [.ref a] ∧ SqL K H a (ns.map V.int) ∧ ns.length ≤ 63 ∧
  ∀ r ws H', Same H H' → H r = none → Small ws → prodI ws ≤ 4096 → H' r = some (.lst (ws.map V.int)) → Q (.ref r) H'
def spFMany (K : PySem.W.Frag) : Sp := fun vs H Q _ => ∃ (a : Addr) (ns : List Int) (t : Int), vs = [.ref a, .int t] ∧ SqL K H a (ns.map V.int) ∧ ns.length ≤ 63 ∧ ∀ m, 0 ≤ m → m ≤ 10 → Q (.int m) H
section
variable {P : Program} {w : World} {K : PySem.W.Frag} {mg : Str → Option Value} {base : Heap}
theorem ok_fold_fan {f : Addr} {fd : FuncData} (D : Def K mg "_law_fold_fan" s_fold_fan f fd) (b : Binds K fd ["_law_script"] []) (T : Txt mg) (c_number : Cal P w K mg base 1 "_law_number" (spNum K) []) (c_fan : Cal P w K mg base 2 "_law_fan" (spFan K) []) : Cal P w K mg base 3 "_law_fold_fan" (spFFan K) [] := by
  refine cal0 D b .nil sc_fold_fan (fun vs H Q E h => ?_) (fun cdv A outer s H vs Q E hr h => ?_)
  · obtain ⟨a, ns, rfl, _⟩ := h
    rfl
  obtain ⟨a, ns, rfl, ha, hl, q⟩ := h
  refine ⟨_, (pss_cons (ps_mk (ps_if (pt_cmpR op_eq (C8.pe_c c_number hr (by omega) (by rfl) (pa_cons (pv 0) (pa_cons pe_int (pa_cons pe_int (pa_cons pe_int pa_nil))))) pe_int (nomark _))
      (pss_one (ps_ret (C8.pe_c c_fan hr (by omega) (by rfl) (pa_cons (pv 0) (pa_cons pe_int (pa_cons pe_int pa_nil))))))
      pss_nil))
      (pss_one (ps_ret (C8.pe_c c_fan hr (by omega) (by rfl) (pa_cons (pv 0) (pa_cons pe_int (pa_cons pe_int pa_nil))))))), ?_⟩
  refine jnS (M := fun σ H' => H' = H ∧ σ = [sR a]) ?_ (fun N kk => ?_)
  · rintro σ H1 ⟨rfl, rfl⟩
    walk_at "go"
    exact ⟨a, ns, 0, 96, rfl, by decide, by decide, ha, hl, by decide, by decide, q⟩
  · walk_at "go"
    refine ifEq (fun c => ?_) (fun c => kk _ _ ⟨rfl, rfl⟩)
    walk_at "go"
    exact ⟨a, ns, 0, 4096, rfl, by decide, by decide, ha, hl, by decide, by decide, q⟩
theorem ok_fold_many {f : Addr} {fd : FuncData} (D : Def K mg "_law_fold_many" s_fold_many f fd) (b : Binds K fd ["_law_script", "_law_total"] []) (T : TxtF mg) (c_number : Cal P w K mg base 1 "_law_number" (spNum K) []) : Cal P w K mg base 2 "_law_fold_many" (spFMany K) [] := by
  refine cal0 D b .nil sc_fold_many (fun vs H Q E h => ?_) (fun cdv A outer s H vs Q E hr h => ?_)
  · obtain ⟨a, ns, t, rfl, _⟩ := h
    rfl
  obtain ⟨a, ns, t, rfl, ha, hl, q⟩ := h
  refine ⟨_, (pss_cons (ps_set (i := 2) sc_fold_many.nd rfl (.inl rfl) (C8.pe_c c_number hr (by omega) (by rfl) (pa_cons (pv 0) (pa_cons pe_int (pa_cons pe_int (pa_cons pe_int pa_nil))))))
      (pss_cons (ps_mk (ps_if (pt_cmpR op_eq (pv 2) pe_int (nomark _))
      (pss_one (ps_set (i := 2) sc_fold_many.nd rfl (.inl rfl) pe_int))
      pss_nil))
      (pss_cons (ps_mk (ps_if (pt_cmpR op_gt (pv 1) pe_int (nomark _))
      (pss_one (ps_set (i := 2) sc_fold_many.nd rfl (.inl rfl) (pe_callB (call_min2 rfl) (by rfl) T.min (by decide +kernel) (pa_cons (pv 2) (pa_cons pe_int pa_nil)))))
      pss_nil))
      (pss_one (ps_ret (pv 2)))))), ?_⟩
  have n0 : 0 ≤ num ns 0 4 8 := num_nn (by decide)
  have n1 : num ns 0 4 8 < 8 := num_lt (by decide)
  walk_at "go"
  generalize num ns 0 4 8 = m at *
  refine jnS (M := fun σ H' => H' = H ∧ ∃ m' : Int, 0 ≤ m' ∧ m' ≤ 10 ∧ σ = [sR a, sI t, sI m']) ?_ (fun N kk => ?_)
  · rintro σ H1 ⟨rfl, m', m0, m1, rfl⟩
    refine jnS (M := fun σ H' => H' = H1 ∧ ∃ m' : Int, 0 ≤ m' ∧ m' ≤ 10 ∧ σ = [sR a, sI t, sI m']) ?_ (fun N kk => ?_)
    · rintro σ H2 ⟨rfl, m2, m20, m21, rfl⟩
      walk_at "go"
      exact q m2 m20 m21
    · walk_at "go"
      refine ifD (fun c => ?_) (fun c => kk _ _ ⟨rfl, m', m0, m1, rfl⟩)
      walk_at "go"
      repeat (first | refine ⟨_, _, rfl, ?_⟩ | walk_at "st")
      exact kk _ _ ⟨rfl, _, by split <;> omega, by split <;> omega, rfl⟩
  · walk_at "go"
    refine ifEq (fun c => ?_) (fun c => ?_)
    · walk_at "go"
      exact kk _ _ ⟨rfl, 10, by decide, by decide, rfl⟩
    · exact kk _ _ ⟨rfl, m, n0, by omega, rfl⟩
end

end

section

-- a condition of an operator
local macro_rules | `(tactic| walk_at "cond") => `(tactic| first
  | (show (0 : Int) < _; omega)
  | (show CDiv _ _; constructor <;> (first | decide | omega))
  | (show CMul _ _; first | (refine cmul_l ?_; constructor <;> (first | decide | omega)) | (refine cmul_r ?_; constructor <;> (first | decide | omega)))
  | (show CPow _ _; exact (by refine ⟨by decide, by decide, by decide⟩))
  | (show CDivW _ _; exact ⟨by decide, by decide +kernel⟩))
local macro_rules | `(tactic| walk_at "sq") => `(tactic| first | assumption | exact Dh.mono (same_upd (by assumption)) _ _ (by assumption) | exact .inl (.inl (.inl (by assumption))) | exact .inr (.inl (.inl (by assumption))) | exact SqL.of (by assumption) | exact .inl (by assumption) | exact .inl (SqL.of (by assumption)) | exact SqT.of (by assumption) | exact .inr (SqT.of (by assumption)))
local macro_rules | `(tactic| walk_at "st") => `(tactic| first
  | refine ⟨_, rfl, ?_⟩
  | refine ⟨_, _, rfl, rfl, ?_⟩
  | refine .inl ⟨_, rfl, ?_⟩
  | refine ⟨rfl, ?_⟩
  | refine ⟨_, _, rfl, by walk_at "sq", ?_⟩
  | refine ⟨.inl ⟨rfl, _, SqL.of (by assumption)⟩, ?_⟩
  | refine ⟨by walk_at "cond", ?_⟩
  | (refine' ifBT ?hh ?_; (case hh => first | rfl | assumption))
  | (refine' ifBF ?hh ?_; (case hh => first | rfl | assumption)))
local macro_rules | `(tactic| walk_at "go") => `(tactic| repeat walk_at "st")
local macro_rules | `(tactic| walk_at "yes") => `(tactic| (refine' ifT ?hh ?_; (case hh => first | rfl | decide +kernel)))
local macro_rules | `(tactic| walk_at "no") => `(tactic| (refine' ifF ?hh ?_; (case hh => first | decide +kernel | (intro z; cases z; done))))

local macro_rules | `(tactic| walk_at "st") => `(tactic| refine ⟨_, _, _, _, _, rfl, by assumption, by assumption, by omega, by omega, by omega, by omega, by omega, ?_⟩)
local macro_rules | `(tactic| walk_at "st") => `(tactic| refine ⟨_, _, _, _, _, rfl, Same.seq (by assumption) (by assumption), by assumption, by omega, by omega, by omega, by omega, by omega, ?_⟩)

/-! ### _law_fold_deed -/
abbrev s_fold_deed : Stmt := topS 38
theorem sc_fold_deed : FnScope ["_law_script", "_law_at", "_law_fan_here", "_law_names", "_law_spans", "_law_total", "_law_source", "_law_low", "_law_span", "_law_many", "_law_high", "_law_rights", "_law_name", "_law_number_here"] ["_law_script", "_law_at", "_law_fan_here", "_law_names"] (C8.fnScope s_fold_deed) := C8.fnScope_by (by decide +kernel)
def rgts12 : List V := [.str "r", .str "", .str "rw", .str "rw", .str "rw", .str "r", .str "w", .str "x", .str "rx", .str "wx", .str "rwx", .str "rw"]
theorem rgt12 {i : Int} (h0 : 0 ≤ i) (h1 : i < 12) : ∃ x : Str, atI rgts12 i = some (.str x) ∧ NmOk x := by
  have h : i = 0 ∨ i = 1 ∨ i = 2 ∨ i = 3 ∨ i = 4 ∨ i = 5 ∨ i = 6 ∨ i = 7 ∨ i = 8 ∨ i = 9 ∨ i = 10 ∨ i = 11 := by omega
  rcases h with e | e | e | e | e | e | e | e | e | e | e | e <;> subst e <;> exact ⟨_, rfl, by decide +kernel, by decide +kernel⟩
theorem nm_empty' : NmOk "" := ⟨by decide +kernel, by decide +kernel⟩
theorem names4_at {nm : List Str} {i : Int} (h0 : 0 ≤ i) (h1 : i < 4) (l : nm.length = 3) (ok : ∀ x ∈ nm, NmOk x) : ∃ x : Str, atI ([V.str ""] ++ nm.map V.str) i = some (.str x) ∧ NmOk x := by
  have e : i = ((i.toNat : Nat) : Int) := by omega
  have hj : i.toNat < (("" : Str) :: nm).length := by
    rw [List.length_cons]
    omega
  have eo : [V.str ""] ++ nm.map V.str = (("" : Str) :: nm).map V.str := rfl
  rw [eo]
  refine ⟨(("" : Str) :: nm)[i.toNat], ?_, ?_⟩
  · have z := atI_nat (xs := (("" : Str) :: nm).map V.str) (j := i.toNat) (v := .str (("" : Str) :: nm)[i.toNat]) (by rw [List.getElem?_map, List.getElem?_eq_getElem hj]; rfl)
    rw [← e] at z
    exact z
  · rcases List.mem_cons.mp (List.getElem_mem hj) with z | z
    · rw [z]
      exact nm_empty'
    · exact ok _ z
theorem span_le {ws : List Int} (sm : Small ws) : ∀ k, spanN ws k ≤ prodI ws := fun k => by
  have gen : ∀ (l : List Int) (n : Nat), (∀ x ∈ l, 2 ≤ x ∧ x ≤ 8) → prodI (l.drop n) ≤ prodI l := fun l => by
    induction l with
    | nil =>
      intro n _
      rw [List.drop_nil]
      exact Int.le_refl _
    | cons a l ih =>
      intro n h
      cases n with
      | zero => exact Int.le_refl _
      | succ n =>
        have h1 := ih n fun x hx => h x (List.mem_cons_of_mem _ hx)
        have h2 := (prod_pos (ws := l) fun x hx => h x (List.mem_cons_of_mem _ hx)).1
        have h3 := h a List.mem_cons_self
        show prodI (l.drop n) ≤ a * prodI l
        have := Int.mul_le_mul_of_nonneg_right (show 1 ≤ a by omega) (show 0 ≤ prodI l by omega)
        rw [Int.one_mul] at this
        omega
  exact gen ws (k + 1) sm.2.2
theorem span_zero {ws : List Int} (sm : Small ws) : spanN ws 0 * ws.headD 0 = prodI ws := by
  obtain ⟨ne, _⟩ := sm
  cases ws with
  | nil => exact absurd rfl ne
  | cons a l =>
    show prodI l * a = a * prodI l
    exact Int.mul_comm _ _
@[irreducible] def spFDeed (K : PySem.W.Frag) : Sp := fun vs H Q _ => ∃ (a fa na : Addr) (ns : List Int) (k : Int) (ws : List Int) (nm : List Str), vs = [.ref a, .int k, .ref fa, .ref na] ∧ SqL K H a (ns.map V.int) ∧ ns.length ≤ 63 ∧ 0 ≤ k ∧ k ≤ 1000 ∧ H fa = some (.lst (ws.map V.int)) ∧ Small ws ∧ prodI ws ≤ 4096 ∧ H na = some (.lst (nm.map V.str)) ∧ nm.length = 3 ∧ (∀ x ∈ nm, NmOk x) ∧
  ∀ (r : Addr) (d : Deed) (H' : Hp), Same H H' → d.ok → d.fine (prodI ws) → H' r = some (.tup d.t) → Q (.ref r) H'
section
variable {P : Program} {w : World} {K : PySem.W.Frag} {mg : Str → Option Value} {base : Heap}
theorem ok_fold_deed {f : Addr} {fd : FuncData} (D : Def K mg "_law_fold_deed" s_fold_deed f fd) (b : Binds K fd ["_law_script", "_law_at", "_law_fan_here", "_law_names"] []) (T : TxtF mg) (c_number : Cal P w K mg base 1 "_law_number" (spNum K) []) (c_fan_spans : Cal P w K mg base 1 "_law_fan_spans" (spFanSpans K) []) : Cal P w K mg base 2 "_law_fold_deed" (spFDeed K) [] := by
  refine cal0 D b .nil sc_fold_deed (fun vs H Q E h => ?_) (fun cdv A outer s H vs Q E hr h => ?_)
  · unfold spFDeed at h
    obtain ⟨a, fa, na, ns, k, ws, nm, rfl, _⟩ := h
    rfl
  unfold spFDeed at h
  obtain ⟨a, fa, na, ns, k, ws, nm, rfl, ha, hl, k0, k1, gf, sm, pl, gn, nl, nok, q⟩ := h
  refine ⟨_, (pss_cons (ps_set (i := 4) sc_fold_deed.nd rfl (.inl rfl) (C8.pe_c c_fan_spans hr (by omega) (by rfl) (pa_cons (pv 2) pa_nil)))
      (pss_cons (ps_set (i := 5) sc_fold_deed.nd rfl (.inl rfl) (pe_op op_mul (pe_ix (ixL K rfl) (pv 4) pe_int (fun _ _ => rfl)) (pe_ix (ixL K rfl) (pv 2) pe_int (fun _ _ => rfl))))
      (pss_cons (ps_set (i := 6) sc_fold_deed.nd rfl (.inl rfl) (pv 1))
      (pss_cons (ps_mk (ps_if (pt_cmpR op_eq (C8.pe_c c_number hr (by omega) (by rfl) (pa_cons (pv 0) (pa_cons (pv 1) (pa_cons pe_int (pa_cons pe_int pa_nil))))) pe_int (nomark _))
      (pss_one (ps_set (i := 6) sc_fold_deed.nd rfl (.inl rfl) pe_int))
      pss_nil))
      (pss_cons (ps_set (i := 7) sc_fold_deed.nd rfl (.inl rfl) (pe_op op_mod (pe_callTy call_int1 (by rfl) T.int (by decide +kernel) (pa_cons (pe_op op_add (C8.pe_c c_number hr (by omega) (by rfl) (pa_cons (pv 0) (pa_cons (pv 6) (pa_cons pe_int (pa_cons pe_int pa_nil))))) (pe_op op_mul pe_int (C8.pe_c c_number hr (by omega) (by rfl) (pa_cons (pv 0) (pa_cons (pv 6) (pa_cons pe_int (pa_cons pe_int pa_nil))))))) pa_nil)) (pv 5)))
      (pss_cons (ps_mk (ps_if (pt_cmpR op_ne (pv 6) (pv 1) (nomark _))
      (pss_one (ps_set (i := 7) sc_fold_deed.nd rfl (.inl rfl) (pe_op op_mod (pe_callTy call_int1 (by rfl) T.int (by decide +kernel) (pa_cons (pe_op op_add (pv 7) (C8.pe_c c_number hr (by omega) (by rfl) (pa_cons (pv 0) (pa_cons (pv 1) (pa_cons pe_int (pa_cons (pe_ix (ixL K rfl) (pv 4) pe_int (fun _ _ => rfl)) pa_nil)))))) pa_nil)) (pv 5))))
      pss_nil))
      (pss_cons (ps_set (i := 8) sc_fold_deed.nd rfl (.inl rfl) (pe_ix (ixL K rfl) (pv 4) (C8.pe_c c_number hr (by omega) (by rfl) (pa_cons (pv 0) (pa_cons (pv 1) (pa_cons pe_int (pa_cons (pe_callB (lenQ K rfl) (by rfl) T.len PySem.boot_len (pa_cons (pv 2) pa_nil)) pa_nil))))) (fun _ _ => rfl)))
      (pss_cons (ps_set (i := 9) sc_fold_deed.nd rfl (.inl rfl) (pe_op op_mul (pv 8) (pe_op op_add pe_int (C8.pe_c c_number hr (by omega) (by rfl) (pa_cons (pv 0) (pa_cons (pv 1) (pa_cons pe_int (pa_cons pe_int pa_nil))))))))
      (pss_cons (ps_mk (ps_if (pt_cmpR op_eq (C8.pe_c c_number hr (by omega) (by rfl) (pa_cons (pv 0) (pa_cons (pv 1) (pa_cons pe_int (pa_cons pe_int pa_nil))))) pe_int (nomark _))
      (pss_one (ps_set (i := 9) sc_fold_deed.nd rfl (.inl rfl) (pe_op op_add pe_int (C8.pe_c c_number hr (by omega) (by rfl) (pa_cons (pv 0) (pa_cons (pv 1) (pa_cons pe_int (pa_cons (pe_op op_mul pe_int (pv 8)) pa_nil))))))))
      (pss_one (ps_set (i := 7) sc_fold_deed.nd rfl (.inl rfl) (pe_op op_mul (pe_op op_fdiv (pv 7) (pv 8)) (pv 8))))))
      (pss_cons (ps_set (i := 10) sc_fold_deed.nd rfl (.inl rfl) (pe_callB (call_min2 rfl) (by rfl) T.min (by decide +kernel) (pa_cons (pv 5) (pa_cons (pe_op op_add (pv 7) (pv 9)) pa_nil))))
      (pss_cons (ps_mk (ps_if (pt_cmpR op_eq (C8.pe_c c_number hr (by omega) (by rfl) (pa_cons (pv 0) (pa_cons (pv 1) (pa_cons pe_int (pa_cons pe_int pa_nil))))) pe_int (nomark _))
      (pss_one (ps_ret (pe_tup (pa_cons pe_str (pa_cons (pv 7) (pa_cons (pv 10) pa_nil))))))
      pss_nil))
      (pss_cons (ps_set (i := 11) sc_fold_deed.nd rfl (.inl rfl) (pe_ix (ixL K rfl) (pe_lst (pa_cons pe_str (pa_cons pe_str (pa_cons pe_str (pa_cons pe_str (pa_cons pe_str (pa_cons pe_str (pa_cons pe_str (pa_cons pe_str (pa_cons pe_str (pa_cons pe_str (pa_cons pe_str (pa_cons pe_str pa_nil))))))))))))) (C8.pe_c c_number hr (by omega) (by rfl) (pa_cons (pv 0) (pa_cons (pv 6) (pa_cons pe_int (pa_cons pe_int pa_nil))))) (fun _ _ => rfl)))
      (pss_cons (ps_set (i := 12) sc_fold_deed.nd rfl (.inl rfl) (pe_ix (ixL K rfl) (pe_op op_cat (pe_lst (pa_cons pe_str pa_nil)) (pv 3)) (C8.pe_c c_number hr (by omega) (by rfl) (pa_cons (pv 0) (pa_cons (pv 6) (pa_cons pe_int (pa_cons pe_int pa_nil))))) (fun _ _ => rfl)))
      (pss_cons (ps_set (i := 13) sc_fold_deed.nd rfl (.inl rfl) (pe_op op_add (pv 7) (C8.pe_c c_number hr (by omega) (by rfl) (pa_cons (pv 0) (pa_cons pe_int (pa_cons pe_int (pa_cons pe_int pa_nil)))))))
      (pss_cons (ps_mk (ps_if (pt_cmpR op_eq (C8.pe_c c_number hr (by omega) (by rfl) (pa_cons (pv 0) (pa_cons (pv 1) (pa_cons pe_int (pa_cons pe_int pa_nil))))) pe_int (nomark _))
      (pss_one (ps_set (i := 13) sc_fold_deed.nd rfl (.inl rfl) (C8.pe_c c_number hr (by omega) (by rfl) (pa_cons (pv 0) (pa_cons (pv 1) (pa_cons pe_int (pa_cons pe_int pa_nil)))))))
      pss_nil))
      (pss_one (ps_ret (pe_tup (pa_cons pe_str (pa_cons (pv 7) (pa_cons (pv 10) (pa_cons (pv 11) (pa_cons (pv 12) (pa_cons (pv 13) (pa_cons pe_int pa_nil))))))))))))))))))))))))), ?_⟩
  have h0 : 0 < ws.length := List.length_pos_iff.mpr sm.1
  have h6 := sm.2.1
  have t2 : 2 ≤ prodI ws := by
    have h1 := span_zero sm
    have h2 := span_pos sm 0
    obtain ⟨w0, l, rfl⟩ : ∃ w0 l, ws = w0 :: l := by
      cases ws with
      | nil => exact absurd rfl sm.1
      | cons w0 l => exact ⟨w0, l, rfl⟩
    have h3 := sm.2.2 w0 List.mem_cons_self
    show 2 ≤ w0 * prodI l
    have h4 : 1 ≤ prodI l := h2
    have := Int.mul_le_mul_of_nonneg_right h3.1 (show 0 ≤ prodI l by omega)
    omega
  walk_at "go"
  refine ⟨sm, fun sa H1 s1 nsa gs => ?_⟩
  have ha1 := s1.seq ha
  have gf1 := s1 _ _ gf
  have gn1 := s1 _ _ gn
  walk_at "go"
  refine ⟨sa, _, _, .int (spanN ws 0), rfl, rfl, SqL.of gs, atI_nat (j := 0) (by rw [List.getElem?_map, spans_get h0]; rfl), ?_⟩
  walk_at "go"
  refine ⟨fa, _, _, .int (ws.headD 0), rfl, rfl, SqL.of gf1, atI_nat (j := 0) (by
    cases ws with
    | nil => exact absurd rfl sm.1
    | cons w0 l => rfl), ?_⟩
  walk_at "go"
  have p0 := span_pos sm 0
  have p1 := span_le sm 0
  refine ⟨cmul_l ⟨by omega, by omega⟩, ?_⟩
  dsimp only
  rw [span_zero sm]
  have spk := span_pos sm
  have spl := span_le sm
  generalize prodI ws = tt at *
  walk_at "go"
  -- the source
  refine jnS (M := fun σ H' => H' = H1 ∧ ∃ so : Int, 0 ≤ so ∧ so ≤ 1000 ∧ σ = [sR a, sI k, sR fa, sR na, sR sa, sI tt, sI so, none, none, none, none, none, none, none]) ?_ (fun N kk => ?_)
  rotate_left
  · walk_at "go"
    refine ifEq (fun c => ?_) (fun c => ?_)
    · walk_at "go"
      exact kk _ _ ⟨rfl, 1, by decide, by decide, rfl⟩
    · exact kk _ _ ⟨rfl, k, k0, k1, rfl⟩
  rintro σ H2 ⟨e2, so, so0, so1, rfl⟩
  subst e2
  walk_at "go"
  have m0 := Int.emod_nonneg (num ns so 1 1000 + 1000 * num ns so 2 5) (show tt ≠ 0 by omega)
  have m1 := Int.emod_lt_of_pos (num ns so 1 1000 + 1000 * num ns so 2 5) (show 0 < tt by omega)
  dsimp only
  generalize (num ns so 1 1000 + 1000 * num ns so 2 5) % tt = lw at *
  refine jnS (M := fun σ H' => H' = H2 ∧ ∃ lw : Int, 0 ≤ lw ∧ lw < tt ∧ σ = [sR a, sI k, sR fa, sR na, sR sa, sI tt, sI so, sI lw, none, none, none, none, none, none]) ?_ (fun N kk => ?_)
  rotate_left
  · walk_at "go"
    refine ifNe (fun c => ?_) (fun c => kk _ _ ⟨rfl, lw, m0, m1, rfl⟩)
    walk_at "go"
    refine ⟨sa, _, _, .int (spanN ws 0), rfl, rfl, SqL.of gs, atI_nat (j := 0) (by rw [List.getElem?_map, spans_get h0]; rfl), ?_⟩
    walk_at "go"
    refine kk _ _ ⟨rfl, _, Int.emod_nonneg _ (by omega), Int.emod_lt_of_pos _ (by omega), rfl⟩
  clear m0 m1
  rintro σ H3 ⟨e3, lw, m0, m1, rfl⟩
  subst e3
  have lw0 : (ws.map V.int).length = ws.length := List.length_map ..
  walk_at "go"
  obtain ⟨lv, elv, hlv⟩ : ∃ lv : Nat, num ns k 3 (((ws.map V.int).length : Nat) : Int) = (lv : Int) ∧ lv < ws.length := ⟨(num ns k 3 (((ws.map V.int).length : Nat) : Int)).toNat, by
    have := num_nn (ns := ns) (i := k) (k := 3) (size := (((ws.map V.int).length : Nat) : Int)) (by omega)
    omega, by
    have := num_nn (ns := ns) (i := k) (k := 3) (size := (((ws.map V.int).length : Nat) : Int)) (by omega)
    have := num_lt (ns := ns) (i := k) (k := 3) (size := (((ws.map V.int).length : Nat) : Int)) (by omega)
    omega⟩
  rw [elv]
  refine ⟨sa, _, _, .int (spanN ws lv), rfl, rfl, SqL.of gs, atI_nat (by rw [List.getElem?_map, spans_get hlv]; rfl), ?_⟩
  have s0 := spk lv
  have s1' := spl lv
  generalize spanN ws lv = sp at *
  have n40 := num_nn (ns := ns) (i := k) (k := 4) (size := 3) (by decide)
  have n41 := num_lt (ns := ns) (i := k) (k := 4) (size := 3) (by decide)
  walk_at "go"
  have mm0 : 1 ≤ sp * (1 + num ns k 4 3) := by
    have := Int.mul_le_mul (show 1 ≤ sp by omega) (show 1 ≤ 1 + num ns k 4 3 by omega) (by decide) (by omega)
    omega
  have mm1 : sp * (1 + num ns k 4 3) ≤ 4096 * 3 := Int.mul_le_mul (by omega) (by omega) (by omega) (by decide)
  dsimp only
  generalize sp * (1 + num ns k 4 3) = mn at *
  refine jnS (M := fun σ H' => H' = H3 ∧ ∃ lw mn : Int, 0 ≤ lw ∧ lw < tt ∧ 1 ≤ mn ∧ mn ≤ 20000 ∧ σ = [sR a, sI k, sR fa, sR na, sR sa, sI tt, sI so, sI lw, sI sp, sI mn, none, none, none, none]) ?_ (fun N kk => ?_)
  rotate_left
  · walk_at "go"
    refine ifEq (fun c => ?_) (fun c => ?_)
    · have z0 := num_nn (ns := ns) (i := k) (k := 10) (size := 3 * sp) (by omega)
      have z1 := num_lt (ns := ns) (i := k) (k := 10) (size := 3 * sp) (by omega)
      walk_at "go"
      exact kk _ _ ⟨rfl, lw, _, m0, m1, by omega, by omega, rfl⟩
    · have z0 : 0 ≤ lw / sp := Int.ediv_nonneg m0 (by omega)
      have z1 : lw / sp * sp ≤ lw := Int.ediv_mul_le _ (by omega)
      have z2 : 0 ≤ lw / sp * sp := Int.mul_nonneg z0 (by omega)
      walk_at "go"
      exact kk _ _ ⟨rfl, _, mn, z2, by omega, mm0, by omega, rfl⟩
  clear m0 m1 mm0 mm1 n40 n41
  rintro σ H4 ⟨e4, lw, mn, m0, m1, mm0, mm1, rfl⟩
  subst e4
  walk_at "go"
  refine ⟨_, _, rfl, ?_⟩
  obtain ⟨hi, ehi, hi0, hi1⟩ : ∃ hi : Int, (if lw + mn < tt then lw + mn else tt) = hi ∧ lw < hi ∧ hi ≤ tt := ⟨_, rfl, by split <;> omega, by split <;> omega⟩
  rw [ehi]
  walk_at "go"
  refine jnS (M := fun σ H' => H' = H4 ∧ σ = [sR a, sI k, sR fa, sR na, sR sa, sI tt, sI so, sI lw, sI sp, sI mn, sI hi, none, none, none]) ?_ (fun N kk => ?_)
  rotate_left
  · walk_at "go"
    refine ifEq (fun c => ?_) (fun c => kk _ _ ⟨rfl, rfl⟩)
    walk_at "go"
    refine ⟨sz, fun r nr => ?_⟩
    exact q r (.un lw hi) _ (s1.trans (same_upd nr)) ⟨⟨by omega, by omega⟩, ⟨by omega, by omega⟩⟩ ⟨m0, hi0, hi1⟩ upd_same
  rintro σ H5 ⟨e5, rfl⟩
  subst e5
  walk_at "go"
  refine ⟨sz, fun R nR => ?_⟩
  have s2 := same_upd (o := HO.lst rgts12) nR
  have gR := upd_same (H := H5) (a := R) (o := HO.lst rgts12)
  show _
  unfold rgts12 at s2 gR
  generalize upd H5 R (HO.lst [.str "r", .str "", .str "rw", .str "rw", .str "rw", .str "r", .str "w", .str "x", .str "rx", .str "wx", .str "rwx", .str "rw"]) = H6 at *
  have ha6 := s2.seq ha1
  have gn6 := s2 _ _ gn1
  walk_at "go"
  obtain ⟨rt, ert, rok⟩ := rgt12 (i := num ns so 6 12) (num_nn (by decide)) (num_lt (by decide))
  refine ⟨R, _, _, _, rfl, rfl, SqL.of gR, ert, ?_⟩
  walk_at "go"
  refine ⟨sz, fun Z nZ => ?_⟩
  have s3 := same_upd (o := HO.lst [V.str ""]) nZ
  have gZ := upd_same (H := H6) (a := Z) (o := HO.lst [V.str ""])
  show _
  generalize upd H6 Z (HO.lst [V.str ""]) = H7 at *
  have gn7 := s3 _ _ gn6
  walk_at "go"
  refine ⟨Z, na, _, _, rfl, rfl, gZ, gn7, Nat.le_of_lt (sz5 (by rw [List.length_map]; simp; omega)), fun Y nY => ?_⟩
  have s4 := same_upd (o := HO.lst ([V.str ""] ++ nm.map V.str)) nY
  have gY := upd_same (H := H7) (a := Y) (o := HO.lst ([V.str ""] ++ nm.map V.str))
  show _
  generalize upd H7 Y (HO.lst ([V.str ""] ++ nm.map V.str)) = H8 at *
  have s8 := s2.trans (s3.trans s4)
  have ha8 := s8.seq ha1
  walk_at "go"
  obtain ⟨fl, efl, fok⟩ := names4_at (i := num ns so 7 4) (num_nn (by decide)) (num_lt (by decide)) nl nok
  refine ⟨Y, _, _, _, rfl, rfl, SqL.of gY, efl, ?_⟩
  have n150 := num_nn (ns := ns) (i := 0) (k := 15) (size := 50) (by decide)
  have n151 := num_lt (ns := ns) (i := 0) (k := 15) (size := 50) (by decide)
  walk_at "go"
  refine jnS (M := fun σ H' => H' = H8 ∧ ∃ ix : Int, σ = [sR a, sI k, sR fa, sR na, sR sa, sI tt, sI so, sI lw, sI sp, sI mn, sI hi, sS rt, sS fl, sI ix]) ?_ (fun N kk => ?_)
  rotate_left
  · walk_at "go"
    refine ifEq (fun c => ?_) (fun c => kk _ _ ⟨rfl, _, rfl⟩)
    walk_at "go"
    exact kk _ _ ⟨rfl, _, rfl⟩
  rintro σ H9 ⟨e9, ix, rfl⟩
  subst e9
  walk_at "go"
  refine ⟨sz, fun r nr => ?_⟩
  exact q r (.asg lw hi rt fl ix 0) _ ((s1.trans s8).trans (same_upd nr)) ⟨⟨by omega, by omega⟩, ⟨by omega, by omega⟩, rok, fok, .inl rfl⟩ ⟨m0, hi0, hi1⟩ upd_same
end

end

section

-- a condition of an operator
local macro_rules | `(tactic| walk_at "cond") => `(tactic| first
  | (show (0 : Int) < _; omega)
  | (show CDiv _ _; constructor <;> (first | decide | omega))
  | (show CMul _ _; first | (refine cmul_l ?_; constructor <;> (first | decide | omega)) | (refine cmul_r ?_; constructor <;> (first | decide | omega)))
  | (show CPow _ _; exact (by refine ⟨by decide, by decide, by decide⟩))
  | (show CDivW _ _; exact ⟨by decide, by decide +kernel⟩))
local macro_rules | `(tactic| walk_at "sq") => `(tactic| first | assumption | exact Dh.mono (same_upd (by assumption)) _ _ (by assumption) | exact .inl (.inl (.inl (by assumption))) | exact .inr (.inl (.inl (by assumption))) | exact SqL.of (by assumption) | exact .inl (by assumption) | exact .inl (SqL.of (by assumption)) | exact SqT.of (by assumption) | exact .inr (SqT.of (by assumption)))
local macro_rules | `(tactic| walk_at "st") => `(tactic| first
  | refine ⟨_, rfl, ?_⟩
  | refine ⟨_, _, rfl, rfl, ?_⟩
  | refine .inl ⟨_, rfl, ?_⟩
  | refine ⟨rfl, ?_⟩
  | refine ⟨_, _, rfl, by walk_at "sq", ?_⟩
  | refine ⟨.inl ⟨rfl, _, SqL.of (by assumption)⟩, ?_⟩
  | refine ⟨by walk_at "cond", ?_⟩
  | (refine' ifBT ?hh ?_; (case hh => first | rfl | assumption))
  | (refine' ifBF ?hh ?_; (case hh => first | rfl | assumption)))
local macro_rules | `(tactic| walk_at "go") => `(tactic| repeat walk_at "st")
local macro_rules | `(tactic| walk_at "yes") => `(tactic| (refine' ifT ?hh ?_; (case hh => first | rfl | decide +kernel)))
local macro_rules | `(tactic| walk_at "no") => `(tactic| (refine' ifF ?hh ?_; (case hh => first | decide +kernel | (intro z; cases z; done))))

/-! ### _law_uniform -/
abbrev s_uniform : Stmt := topS 43
theorem sc_uniform : FnScope ["_law_marks", "_law_low", "_law_high", "_law_page"] ["_law_marks", "_law_low", "_law_high"] (C8.fnScope s_uniform) := C8.fnScope_by (by decide +kernel)
/-- page by page -/
def Stp (T : Int → Option RMark) (lo p : Int) : Prop := (T p).isSome = true ∧ (lo < p → ∀ m, T (p - 1) = some m → T p = some (m.after 1))
theorem uni_iff {T : Int → Option RMark} {lo n : Int} (hn : 0 < n) : Uni T lo n ↔ ∀ p, lo ≤ p → p < lo + n → Stp T lo p := by
  constructor
  · rintro ⟨m, e, k⟩ p p0 p1
    refine ⟨by rw [k p p0 p1]; rfl, fun h m' e' => ?_⟩
    rw [k (p - 1) (by omega) (by omega)] at e'
    cases e'
    rw [k p p0 p1, after_after]
    congr 2
    omega
  · intro h
    obtain ⟨m, e⟩ := Option.isSome_iff_exists.mp (h lo (Int.le_refl _) (by omega)).1
    refine ⟨m, e, ?_⟩
    have gen : ∀ k : Nat, (k : Int) < n → T (lo + (k : Int)) = some (m.after (k : Int)) := fun k => by
      induction k with
      | zero =>
        intro _
        show T (lo + 0) = some (m.after 0)
        rw [Int.add_zero, e, after_zero]
      | succ k ih =>
        intro hk
        have i1 := ih (by omega)
        have := (h (lo + ((k + 1 : Nat) : Int)) (by omega) (by omega)).2 (by omega) (m.after (k : Int)) (by
          rw [← i1]
          congr 1
          omega)
        rw [this, after_after]
        rfl
    intro p p0 p1
    have := gen (p - lo).toNat (by omega)
    have e2 : (((p - lo).toNat : Nat) : Int) = p - lo := by omega
    rw [e2] at this
    rw [← this]
    congr 1
    omega
@[irreducible] def spUni : Sp := fun vs H Q _ => ∃ (da : Addr) (lo n : Int) (T : Int → Option RMark) (k : Nat), vs = [.ref da, .int lo, .int (lo + n)] ∧ DTab H da T k ∧ 0 < n ∧ n ≤ 100000 ∧ -100000 ≤ lo ∧ lo ≤ 100000 ∧ (∀ p m, T p = some m → MOk m) ∧
  (Uni T lo n → ∀ H', Same H H' → Q (.bl true) H') ∧ (¬ Uni T lo n → ∀ H', Same H H' → Q (.bl false) H')
section
variable {P : Program} {w : World} {K : PySem.W.Frag} {mg : Str → Option Value} {base : Heap}
theorem ok_uniform {f : Addr} {fd : FuncData} (Df : Def K mg "_law_uniform" s_uniform f fd) (b : Binds K fd ["_law_marks", "_law_low", "_law_high"] []) (T : Txt mg) (c_after : Cal P w K mg base 1 "_law_after" spNext []) : Cal P w K mg base 2 "_law_uniform" spUni [] := by
  refine cal0 Df b .nil sc_uniform (fun vs H Q E h => ?_) (fun cdv A outer s H vs Q E hr h => ?_)
  · unfold spUni at h
    obtain ⟨da, lo, n, Tb, k, rfl, _⟩ := h
    rfl
  unfold spUni at h
  obtain ⟨da, lo, n, Tb, k, rfl, dt, n0, n1, lo0, lo1, mo, q1, q2⟩ := h
  refine ⟨_, (pss_cons (ps_mk (ps_for PassesOwn.never rfl (pi_range2 (by rfl) T.range (pa_cons (pv 1) (pa_cons (pv 2) pa_nil))) (pg_name (i := 3) sc_uniform.nd rfl (.inl rfl))
      (pss_one (ps_mk (ps_if (PW.pt (pw_or (pt_cmp (pc_dnotin (hu_of hr) (pv 3) (pv 0))) (pw_or1 (PW.pt (pw_and (pt_cmpR op_gt (pv 3) (pv 1) (nomark _)) (pw_and1 (pt_cmpR (neQ K rfl hr.units) (pe_dget (hu_of hr) (pv 0) (pv 3) (fun _ _ => rfl)) (C8.pe_c c_after hr (by omega) (by rfl) (pa_cons (pe_dget (hu_of hr) (pv 0) (pe_op op_sub (pv 3) pe_int) (fun _ _ => rfl)) pa_nil)) (nomark _))))))))
      (pss_one (ps_ret pe_bl))
      pss_nil)))))
      (pss_one (ps_ret pe_bl))), ?_⟩
  obtain ⟨kvs, gd, kl, tk⟩ := dt.ex
  rw [uni_iff n0] at q1 q2
  refine jnS (M := fun σ H' => Same H H' ∧ ∀ p, lo ≤ p → p < lo + n → Stp Tb lo p) (fun σ H1 h => ?_) (fun N kk => ?_)
  · walk_at "go"
    exact q1 h.2 H1 h.1
  walk_at "go"
  refine ⟨_, _, rfl, ⟨by omega, by omega, by omega, by omega⟩, for_range (lo := lo) (n := (lo + n - lo).toNat) (fun i σ H' => Ob (Same H H' ∧ (∀ p, lo ≤ p → p < lo + (i : Int) → Stp Tb lo p) ∧ ∃ y3, σ = [sR da, sI lo, sI (lo + n), y3])) (ob ⟨same_rfl, fun p a b => by omega, _, rfl⟩) ?_ ?_⟩
  · intro i σ H1 hi h
    obtain ⟨s1, st, y3, rfl⟩ := unob h
    clear h kk
    have gd1 := s1 _ _ gd
    have tk1 := tab_mono s1 tk
    have bad : ¬ Stp Tb lo (lo + (i : Int)) → ∀ H', Same H H' → Q (.bl false) H' := fun z H' s' => q2 (fun a => z (a _ (by omega) (by omega))) H' s'
    have good : Stp Tb lo (lo + (i : Int)) → ∀ p, lo ≤ p → p < lo + ((i + 1 : Nat) : Int) → Stp Tb lo p := fun z p a c => by
      by_cases e : p = lo + (i : Int)
      · rw [e]
        exact z
      · exact st p a (by omega)
    have prev : 0 < i → (Tb (lo + (i : Int) - 1)).isSome = true := fun h => (st (lo + (i : Int) - 1) (by omega) (by omega)).1
    generalize hpg : lo + (i : Int) = pg at *
    walk_at "go"
    refine un ?_
    have dn : DGet H1 da (V.int pg) (valV kvs (.inl pg)) := DGet.k (k := .inl pg) gd1
    cases em : Tb pg with
    | none =>
      rw [(tk pg).1 em] at dn
      walk_at "go"
      refine bad (fun z => ?_) _ s1
      have := z.1
      rw [em] at this
      cases this
    | some m =>
      obtain ⟨ma, e1, g1⟩ := (tk1 pg).2 m em
      rw [e1] at dn
      walk_at "go"
      refine ifD (fun c => ?_) (fun c => ?_)
      · obtain ⟨m', em'⟩ := Option.isSome_iff_exists.mp (prev (by omega))
        obtain ⟨mb, e2, g2⟩ := (tk1 (pg - 1)).2 m' em'
        have dp : DGet H1 da (V.int (pg - 1)) (some (V.ref mb)) := by
          rw [← e2]
          exact DGet.k (k := .inl (pg - 1)) gd1
        walk_at "go"
        intro t4 H4 s4 g4
        have mo1 := mo _ _ em
        have mo2 := (mo _ _ em').after 1
        refine ⟨mD m, mD (m'.after 1), Dh.dp _ _ (dh_mark (s4 _ _ g1)), Dh.dp _ _ (dh_mark g4), shaped_mark mo1, shaped_mark mo2, ?_⟩
        rw [eqv_mark]
        refine ⟨_, rfl, ?_⟩
        by_cases k : m = m'.after 1
        · refine ifN (ifBT (decide_eq_true k) ?_)
          refine ob ⟨s1.trans s4, good ⟨by rw [em]; rfl, fun _ m2 e => ?_⟩, _, rfl⟩
          rw [em'] at e
          cases e
          rw [em, k]
        · refine ifN (ifBF (decide_eq_false k) ?_)
          walk_at "go"
          refine bad (fun z => ?_) _ (s1.trans s4)
          have := z.2 (by omega) m' em'
          rw [em] at this
          cases this
          exact k rfl
      · refine ob ⟨s1, good ⟨by rw [em]; rfl, fun z => by omega⟩, _, rfl⟩
  · intro σ H1 h
    obtain ⟨s1, st, y3, rfl⟩ := unob h
    exact kk _ _ ⟨s1, fun p a c => st p a (by omega)⟩
end

end

/-! ### the tables walked -/
def lowN (ws : List Int) (pg : Int) (k : Nat) : Int := pg / spanN ws k * spanN ws k
def Stp2 (T : Int → Option RMark) (ws : List Int) (pg : Int) (k : Nat) : Prop := Uni T (lowN ws pg k) (spanN ws k) ∨ Emp T (lowN ws pg k) (spanN ws k)
/-- the level whose block of the page is uniform or empty -/
structure IsLv (T : Int → Option RMark) (ws : List Int) (pg : Int) (k : Nat) : Prop where
  l : k < ws.length
  s : Stp2 T ws pg k
  n : ∀ i < k, ¬ Stp2 T ws pg i
theorem IsLv.uniq {T : Int → Option RMark} {ws : List Int} {pg : Int} {k k' : Nat} (h : IsLv T ws pg k) (h' : IsLv T ws pg k') : k = k' := by
  rcases Nat.lt_trichotomy k k' with z | z | z
  · exact absurd h.s (h'.n k z)
  · exact z
  · exact absurd h'.s (h.n k' z)
def digK (ws : List Int) (i : Int) (k : Nat) : Int := i / spanN ws k % ws.getD k 0
theorem span_step {ws : List Int} {k : Nat} (h : k + 1 < ws.length) : spanN ws k = ws.getD (k + 1) 0 * spanN ws (k + 1) := by
  show prodI (ws.drop (k + 1)) = _
  rw [List.drop_eq_getElem_cons h, List.getD_eq_getElem?_getD, List.getElem?_eq_getElem h]
  rfl
theorem low_step {ws : List Int} {pg : Int} {k : Nat} (sm : Small ws) (h : k + 1 < ws.length) : lowN ws pg k + digK ws pg (k + 1) * spanN ws (k + 1) = lowN ws pg (k + 1) := by
  unfold lowN digK
  rw [span_step h]
  have sp := span_pos sm (k + 1)
  generalize ws.getD (k + 1) 0 = w
  generalize spanN ws (k + 1) = s at *
  rw [Int.mul_comm w s, ← Int.ediv_ediv_of_nonneg (show 0 ≤ s by omega)]
  generalize pg / s = q
  have e := Int.mul_ediv_add_emod q w
  have e2 : q / w * (s * w) = w * (q / w) * s := by rw [Int.mul_comm s w, ← Int.mul_assoc, Int.mul_comm (q / w) w]
  rw [e2, ← Int.add_mul, e]
theorem low_zero {ws : List Int} {pg : Int} (sm : Small ws) (h0 : 0 ≤ pg) (h1 : pg < prodI ws) : 0 + digK ws pg 0 * spanN ws 0 = lowN ws pg 0 := by
  unfold lowN digK
  have sp := span_pos sm 0
  have e := span_zero sm
  have ew : ws.getD 0 0 = ws.headD 0 := by cases ws <;> rfl
  rw [ew]
  rw [← e, Int.mul_comm] at h1
  generalize spanN ws 0 = s at *
  have q0 : 0 ≤ pg / s := Int.ediv_nonneg h0 (by omega)
  have q1 : pg / s < ws.headD 0 := Int.ediv_lt_of_lt_mul (by omega) h1
  rw [Int.emod_eq_of_lt q0 q1, Int.zero_add]
theorem dig_lt {ws : List Int} {pg : Int} {k : Nat} (sm : Small ws) (h : k < ws.length) : 0 ≤ digK ws pg k ∧ digK ws pg k < ws.getD k 0 := by
  have hw := sm.2.2 _ (List.getElem_mem h)
  have ew : ws.getD k 0 = ws[k] := by rw [List.getD_eq_getElem?_getD, List.getElem?_eq_getElem h]; rfl
  unfold digK
  rw [ew]
  exact ⟨Int.emod_nonneg _ (by omega), Int.emod_lt_of_pos _ (by omega)⟩
theorem low_in {ws : List Int} {pg : Int} {k : Nat} (sm : Small ws) : lowN ws pg k ≤ pg ∧ pg < lowN ws pg k + spanN ws k := by
  have sp := span_pos sm k
  unfold lowN
  generalize spanN ws k = s at *
  have := Int.mul_ediv_add_emod pg s
  have h0 := Int.emod_nonneg pg (show s ≠ 0 by omega)
  have h1 := Int.emod_lt_of_pos pg (show 0 < s by omega)
  rw [Int.mul_comm] at this
  omega
theorem fold_get {T : Int → Option RMark} {ws : List Int} {pg lo : Int} {k : Nat} (sm : Small ws) (h : k < ws.length) : (foldD T (ws.drop k) lo)[(digK ws pg k).toNat]? = some (entD T (foldD T (ws.drop (k + 1))) (spanN ws k) (lo + digK ws pg k * spanN ws k)) := by
  obtain ⟨d0, d1⟩ := dig_lt (pg := pg) sm h
  have ew : ws.getD k 0 = ws[k] := by rw [List.getD_eq_getElem?_getD, List.getElem?_eq_getElem h]; rfl
  rw [ew] at d1
  generalize digK ws pg k = dg at *
  rw [List.drop_eq_getElem_cons h]
  show ((List.range ws[k].toNat).map fun j : Nat => entD T (foldD T (ws.drop (k + 1))) (prodI (ws.drop (k + 1))) (lo + (j : Int) * prodI (ws.drop (k + 1))))[dg.toNat]? = _
  rw [List.getElem?_map, List.getElem?_range (by omega)]
  show some (entD T (foldD T (ws.drop (k + 1))) (spanN ws k) (lo + ((dg.toNat : Nat) : Int) * spanN ws k)) = _
  rw [show ((dg.toNat : Nat) : Int) = dg by omega]
theorem stop_last {T : Int → Option RMark} {ws : List Int} {pg : Int} {k : Nat} (h : k < ws.length) (n : ¬ Stp2 T ws pg k) : k + 1 < ws.length := by
  refine Classical.byContradiction fun z => n ?_
  unfold Stp2
  have e1 : spanN ws k = 1 := by
    show prodI (ws.drop (k + 1)) = 1
    rw [List.drop_of_length_le (by omega)]
    rfl
  rw [e1]
  exact one_page
mutual
/-- how many tables -/
def tabs : PyData → Int
  | .list ds => 1 + tabss ds
  | _ => 0
def tabss : List PyData → Int
  | [] => 0
  | d :: ds => tabs d + tabss ds
end
theorem tabss_app : ∀ (a b : List PyData), tabss (a ++ b) = tabss a + tabss b
  | [], b => by
    show tabss b = 0 + tabss b
    rw [Int.zero_add]
  | d :: a, b => by
    show tabs d + tabss (a ++ b) = tabs d + tabss a + tabss b
    rw [tabss_app a b, Int.add_assoc]
theorem tabs_not {d : PyData} (h : isL d = false) : tabs d = 0 := by
  cases d <;> first | rfl | cases h
open Classical in
/-- the rows of a block: its own mark's, or those of the table below -/
noncomputable def entR (T : Int → Option RMark) (sub : Int → List RRow) (n lo : Int) : List RRow := if Uni T lo n then (match T lo with | some m => [⟨lo, lo + n, m⟩] | none => []) else if Emp T lo n then [] else sub lo
noncomputable def rowsF (T : Int → Option RMark) : List Int → Int → List RRow
  | [], _ => []
  | w :: ws, lo => (List.range w.toNat).flatMap fun k : Nat => entR T (rowsF T ws) (prodI ws) (lo + (k : Int) * prodI ws)
theorem entR_uni {T : Int → Option RMark} {sub : Int → List RRow} {n lo : Int} {m : RMark} (h : Uni T lo n) (e : T lo = some m) : entR T sub n lo = [⟨lo, lo + n, m⟩] := by
  unfold entR
  rw [if_pos h, e]
theorem entR_emp {T : Int → Option RMark} {sub : Int → List RRow} {n lo : Int} (h : Emp T lo n) (hn : 0 < n) : entR T sub n lo = [] := by
  have nu : ¬ Uni T lo n := fun z => uni_emp z h hn
  unfold entR
  rw [if_neg nu, if_pos h]
theorem entR_sub {T : Int → Option RMark} {sub : Int → List RRow} {n lo : Int} (h : ¬ Uni T lo n) (k : ¬ Emp T lo n) : entR T sub n lo = sub lo := by
  unfold entR
  rw [if_neg h, if_neg k]

section

-- a condition of an operator
local macro_rules | `(tactic| walk_at "cond") => `(tactic| first
  | (show (0 : Int) < _; omega)
  | (show CDiv _ _; constructor <;> (first | decide | omega))
  | (show CMul _ _; first | (refine cmul_l ?_; constructor <;> (first | decide | omega)) | (refine cmul_r ?_; constructor <;> (first | decide | omega)))
  | (show CPow _ _; exact (by refine ⟨by decide, by decide, by decide⟩))
  | (show CDivW _ _; exact ⟨by decide, by decide +kernel⟩))
local macro_rules | `(tactic| walk_at "sq") => `(tactic| first | assumption | exact Dh.mono (same_upd (by assumption)) _ _ (by assumption) | exact .inl (.inl (.inl (by assumption))) | exact .inr (.inl (.inl (by assumption))) | exact SqL.of (by assumption) | exact .inl (by assumption) | exact .inl (SqL.of (by assumption)) | exact SqT.of (by assumption) | exact .inr (SqT.of (by assumption)))
local macro_rules | `(tactic| walk_at "st") => `(tactic| first
  | refine ⟨_, rfl, ?_⟩
  | refine ⟨_, _, rfl, rfl, ?_⟩
  | refine .inl ⟨_, rfl, ?_⟩
  | refine ⟨rfl, ?_⟩
  | refine ⟨_, _, rfl, by walk_at "sq", ?_⟩
  | refine ⟨.inl ⟨rfl, _, SqL.of (by assumption)⟩, ?_⟩
  | refine ⟨by walk_at "cond", ?_⟩
  | (refine' ifBT ?hh ?_; (case hh => first | rfl | assumption))
  | (refine' ifBF ?hh ?_; (case hh => first | rfl | assumption)))
local macro_rules | `(tactic| walk_at "go") => `(tactic| repeat walk_at "st")
local macro_rules | `(tactic| walk_at "yes") => `(tactic| (refine' ifT ?hh ?_; (case hh => first | rfl | decide +kernel)))
local macro_rules | `(tactic| walk_at "no") => `(tactic| (refine' ifF ?hh ?_; (case hh => first | decide +kernel | (intro z; cases z; done))))

/-! ### Shape.block_at -/
abbrev s_Shape_block_at : Stmt := inClass (topS 22) 4
theorem sc_Shape_block_at : FnScope ["self", "level", "page", "span", "start"] ["self", "level", "page"] (C8.fnScope s_Shape_block_at) := C8.fnScope_by (by decide +kernel)
def spBlock (C D : Addr) : Sp := fun vs H Q E => ∃ (p wt st dx : Addr) (ws : List Int) (k : Nat) (i : Int), vs = [.ref p, .int k, .int i] ∧ ShapeAt C H p wt st dx ws ∧ k < ws.length ∧ -(10 ^ 9) ≤ i ∧ i ≤ 10 ^ 9 ∧
  ((0 ≤ i ∧ i < prodI ws) → ∀ r H', Same H H' → H' r = some (.tup [.int (i / spanN ws k * spanN ws k), .int (i / spanN ws k * spanN ws k + spanN ws k)]) → Q (.ref r) H') ∧
  (¬ (0 ≤ i ∧ i < prodI ws) → ∀ d, H d = none → E (.ref D) (some d) (upd H d (.xd (brF i (i + 1)))))
section
variable {P : Program} {w : World} {K : PySem.W.Frag} {mg : Str → Option Value} {base : Heap} {C D : Addr}
theorem ok_block {f : Addr} {fd : FuncData} (F : C8.Fun K "block_at" "Shape.block_at" s_Shape_block_at f fd) (M : Meth K C "block_at" f) (b : Binds K fd ["self", "level", "page"] []) (T : ShTxt K mg C)
    (e_check : CalE P w K mg base 3 "check_range" (spCheck D)) (m_span : C8.Met P w K mg base 1 C "span" (spSpan C) []) : MetE P w K mg base 4 C "block_at" (spBlock C D) := by
  refine metE T.cl M F b sc_Shape_block_at (fun vs H Q E h => ?_) (fun cdv A outer s H vs Q E hr h => ?_)
  · obtain ⟨p, wt, st, dx, ws, k, i, rfl, _⟩ := h
    rfl
  obtain ⟨p, wt, st, dx, ws, k, i, rfl, hs, hk, i0, i1, q1, q2⟩ := h
  have g := hs.g
  refine ⟨_, (pss_cons (ps_expr (pe_cE e_check (takes_of rfl rfl rfl rfl) hr (by omega) (by rfl) (pa_cons (pv 2) (pa_cons (pe_op op_add (pv 2) pe_int) (pa_cons (pe_fld (pv 0) rfl) pa_nil)))))
      (pss_cons (ps_set (i := 3) sc_Shape_block_at.nd rfl (.inl rfl) (C8.pe_mt m_span hr (by omega) (pv 0) (pa_cons (pv 1) pa_nil)))
      (pss_cons (ps_set (i := 4) sc_Shape_block_at.nd rfl (.inl rfl) (pe_op op_mul (pe_op op_fdiv (pv 2) (pv 3)) (pv 3)))
      (pss_one (ps_ret (pe_tup (pa_cons (pv 4) (pa_cons (pe_op op_add (pv 4) (pv 3)) pa_nil)))))))), ?_⟩
  walk_at "go"
  refine ⟨_, _, _, _, _, rfl, g, T.cl, T.nP, shp, ?_⟩
  walk_at "go"
  refine ⟨i, i + 1, prodI ws, rfl, log_small (by omega) (by omega), log_small (by omega) (by omega), fun z => ?_, fun z d nd => q2 (fun y => z ⟨y.1, by omega, by omega⟩) d nd⟩
  walk_at "go"
  refine ⟨p, dx, _, rfl, g, sh_no (by decide +kernel) (by decide +kernel) (by decide +kernel) (by decide +kernel), ?_⟩
  walk_at "go"
  refine ⟨p, wt, st, dx, ws, k, rfl, hs, hk, ?_⟩
  have pp := prod_pos (ws := ws.drop (k + 1)) fun x hx => hs.sm.2.2 x (List.mem_of_mem_drop hx)
  have s0 : 0 < spanN ws k := by
    show 0 < prodI _
    omega
  have s1 : spanN ws k ≤ 8 ^ 6 := by
    refine Int.le_trans pp.2 (Int.le_trans (b := ((8 ^ 6 : Nat) : Int)) ?_ (by decide))
    have h6 := hs.sm.2.1
    have : (8 : Nat) ^ (ws.drop (k + 1)).length ≤ 8 ^ 6 := Nat.pow_le_pow_right (by decide) (by rw [List.length_drop]; omega)
    exact_mod_cast this
  generalize spanN ws k = sp at *
  walk_at "go"
  refine ⟨sz, fun r nr => ?_⟩
  exact q1 ⟨z.1, by omega⟩ r _ (same_upd nr) upd_same
end

end

section

-- a condition of an operator
local macro_rules | `(tactic| walk_at "cond") => `(tactic| first
  | (show (0 : Int) < _; omega)
  | (show CDiv _ _; constructor <;> (first | decide | omega))
  | (show CMul _ _; first | (refine cmul_l ?_; constructor <;> (first | decide | omega)) | (refine cmul_r ?_; constructor <;> (first | decide | omega)))
  | (show CPow _ _; exact (by refine ⟨by decide, by decide, by decide⟩))
  | (show CDivW _ _; exact ⟨by decide, by decide +kernel⟩))
local macro_rules | `(tactic| walk_at "sq") => `(tactic| first | assumption | exact Dh.mono (same_upd (by assumption)) _ _ (by assumption) | exact .inl (.inl (.inl (by assumption))) | exact .inr (.inl (.inl (by assumption))) | exact SqL.of (by assumption) | exact .inl (by assumption) | exact .inl (SqL.of (by assumption)) | exact SqT.of (by assumption) | exact .inr (SqT.of (by assumption)))
local macro_rules | `(tactic| walk_at "st") => `(tactic| first
  | refine ⟨_, rfl, ?_⟩
  | refine ⟨_, _, rfl, rfl, ?_⟩
  | refine .inl ⟨_, rfl, ?_⟩
  | refine ⟨rfl, ?_⟩
  | refine ⟨_, _, rfl, by walk_at "sq", ?_⟩
  | refine ⟨.inl ⟨rfl, _, SqL.of (by assumption)⟩, ?_⟩
  | refine ⟨by walk_at "cond", ?_⟩
  | (refine' ifBT ?hh ?_; (case hh => first | rfl | assumption))
  | (refine' ifBF ?hh ?_; (case hh => first | rfl | assumption)))
local macro_rules | `(tactic| walk_at "go") => `(tactic| repeat walk_at "st")
local macro_rules | `(tactic| walk_at "yes") => `(tactic| (refine' ifT ?hh ?_; (case hh => first | rfl | decide +kernel)))
local macro_rules | `(tactic| walk_at "no") => `(tactic| (refine' ifF ?hh ?_; (case hh => first | decide +kernel | (intro z; cases z; done))))

/-! ### _count_tables, table_count -/
abbrev s_count_tables : Stmt := topS 12
theorem sc_count_tables : FnScope ["table", "entry"] ["table"] (C8.fnScope s_count_tables) := C8.fnScope_by (by decide +kernel)
abbrev s_FoldedTable_table_count : Stmt := inClass (topS 8) 3
theorem sc_FoldedTable_table_count : FnScope ["self"] ["self"] (C8.fnScope s_FoldedTable_table_count) := C8.fnScope_by (by decide +kernel)
structure TxtS (mg : Str → Option Value) : Prop extends Txt mg where
  sum : mg "sum" = none
def spCntT (k : Nat) : Sp := fun vs H Q _ => ∃ (a : Addr) (ds : List PyData), vs = [.ref a] ∧ Dh H (.list ds) (.ref a) ∧ Dle k (.list ds) ∧ ∀ H', Same H H' → Q (.int (tabs (.list ds))) H'
def spTabC (C CS : Addr) : Sp := fun vs H Q _ => ∃ (p sh rt dx : Addr) (ws : List Int) (ds : List PyData), vs = [.ref p] ∧ FtAt C CS H p sh rt dx ws ds ∧ Dle 8 (.list ds) ∧ ∀ H', Same H H' → Q (.int (tabs (.list ds))) H'
theorem sum_snocI (a : List Int) (x : Int) : (a ++ [x]).sum = a.sum + x := by simp
section
variable {P : Program} {w : World} {K : PySem.W.Frag} {mg : Str → Option Value} {base : Heap} {C CS : Addr}
theorem ok_cntt_step {f : Addr} {fd : FuncData} (Df : Def K mg "_count_tables" s_count_tables f fd) (b : Binds K fd ["table"] []) (T : TxtS mg) {k : Nat} (c__count_tables : Cal P w K mg base (k + 1) "_count_tables" (spCntT k) []) : Cal P w K mg base (k + 2) "_count_tables" (spCntT (k + 1)) [] := by
  refine cal0 Df b .nil sc_count_tables (fun vs H Q E h => ?_) (fun cdv A outer s H vs Q E hr h => ?_)
  · obtain ⟨a, ds, rfl, _⟩ := h
    rfl
  obtain ⟨a, ds, rfl, ⟨a', xs, ea, ga, dx⟩, dl, q⟩ := h
  cases ea
  refine ⟨_, (pss_one (ps_ret (pe_op op_add pe_int (pe_callB (cr_sum rfl) (by rfl) T.sum (by decide +kernel) (pa_cons (pe_lc (own := [("entry", 1)]) (g := gName 1) rfl sc_count_tables.nd (pi_list (pv 0)) (blkOk_by (own := [("entry", 1)]) (N := ["table", "entry"]) (sc := C8.fnScope s_count_tables) (by decide +kernel)) (fun _ _ _ _ _ => (pg_name (i := 1) sc_count_tables.nd rfl (.inl rfl))) (fun _ _ _ _ _ => (pts_one (pt_val (pe_callB is_list (by rfl) T.isinstance (by decide +kernel) (pa_cons (pv 1) (pa_cons (pe_bltn (v := .ty "list") (by rfl) T.list (by decide +kernel) rfl) pa_nil)))))) (fun _ _ _ _ _ => (C8.pe_c c__count_tables hr (by omega) (by rfl) (pa_cons (pv 1) pa_nil)))) pa_nil))))), ?_⟩
  have xl := dx.len
  have dl1 : ds.length ≤ 100000 := dl.1
  walk_at "go"
  refine ⟨⟨_, SqL.of ga⟩, fun R nR => lc_list (K := K) (a := a) (xs := xs) (fun i H' => Ob (Same H H' ∧ ∃ ns : List Int, H' R = some (.lst (ns.map V.int)) ∧ ns.length ≤ i ∧ ns.sum = tabss (ds.take i))) (ob ⟨same_upd nR, [], upd_same, Nat.le_refl _, rfl⟩) (fun i H' _ h => SqL.of ((unob h).1 _ _ ga)) ?_ ?_⟩
  · intro i v H1 hi h
    obtain ⟨s1, ns, gR, nl, en⟩ := unob h
    clear h
    have hil : i < ds.length := by
      have := (List.getElem?_eq_some_iff.mp hi).1
      omega
    obtain ⟨v', ev, dv⟩ := dx.get (List.getElem?_eq_getElem hil)
    rw [hi] at ev
    cases ev
    have dm : ds[i] ∈ ds := List.getElem_mem hil
    have et : ds.take (i + 1) = ds.take i ++ [ds[i]] := by
      rw [List.take_add_one, List.getElem?_eq_getElem hil]
      rfl
    rw [et, tabss_app]
    have dle := dl.2 _ dm
    generalize ds[i] = d at *
    have dv1 := Dh.mono s1 _ _ dv
    refine ⟨rfl, ?_⟩
    walk_at "go"
    cases hL : isL d with
    | false =>
      refine ifBF rfl ?_
      refine ob ⟨s1, ns, gR, by omega, ?_⟩
      rw [en]
      show _ = _ + (tabs d + 0)
      rw [tabs_not hL]
      omega
    | true =>
      refine ifBT rfl ?_
      cases d with
      | list es =>
        obtain ⟨a2, xs2, rfl, _⟩ := id dv1
        walk_at "go"
        refine ⟨dle, fun H2 s2 => ?_⟩
        walk_at "go"
        refine ⟨_, s2 _ _ gR, sz5 (by rw [List.length_map]; omega), ob ⟨same_put (s1.trans s2) nR, ns ++ [tabs (.list es)], ?_, ?_, ?_⟩⟩
        · rw [upd_same, List.map_append]
          rfl
        · rw [List.length_append]
          exact Nat.add_le_add_right nl 1
        · rw [sum_snocI, en]
          show _ = _ + (tabs (.list es) + 0)
          omega
      | _ => cases hL
  · intro H1 h
    obtain ⟨s1, ns, gR, nl, en⟩ := unob h
    rw [xl, List.take_length] at en
    walk_at "go"
    dsimp only
    rw [en]
    exact q H1 s1
theorem ok_cntt {f : Addr} {fd : FuncData} (Df : Def K mg "_count_tables" s_count_tables f fd) (b : Binds K fd ["table"] []) (T : TxtS mg) : ∀ k, Cal P w K mg base (k + 1) "_count_tables" (spCntT k) []
  | 0 => by
    have no : ∀ vs H Q E, ¬ spCntT 0 vs H Q E := fun vs H Q E h => by
      obtain ⟨a, ds, _, _, h1, _⟩ := h
      exact h1
    exact ⟨f, fd, _, _, ⟨fun vs H Q E h => absurd h (no vs H Q E), fun A outer s H args us vs Q E _ _ _ _ h => absurd h (no vs H Q E)⟩, Df.mgf, Df.kp, b, .nil⟩
  | k + 1 => ok_cntt_step Df b T (ok_cntt Df b T k)
theorem ok_tabc {f : Addr} {fd : FuncData} (F : C8.Fun K "table_count" "FoldedTable.table_count" s_FoldedTable_table_count f fd) (M : Meth K C "table_count" f) (b : Binds K fd ["self"] []) (S : FTxt K mg C) (c__count_tables : Cal P w K mg base 9 "_count_tables" (spCntT 8) []) : C8.Met P w K mg base 10 C "table_count" (spTabC C CS) [] := by
  refine C8.met0 S.cl M F b sc_FoldedTable_table_count (fun vs H Q E h => ?_) (fun cdv A outer s H vs Q E hr h => ?_)
  · obtain ⟨p, sh, rt, dx, ws, ds, rfl, _⟩ := h
    rfl
  obtain ⟨p, sh, rt, dx, ws, ds, rfl, hf, dl, q⟩ := h
  refine ⟨_, (pss_one (ps_ret (C8.pe_c c__count_tables hr (by omega) (by rfl) (pa_cons (pe_fld (pv 0) rfl) pa_nil)))), ?_⟩
  walk_at "go"
  refine ⟨_, _, _, _, _, rfl, hf.g, S.cl, S.nR, ft_root, ?_⟩
  exact ⟨rt, ds, rfl, hf.r, dl, q⟩
end

end

/-! ### a mark where it stands -/
theorem mark_of {H : Hp} {m : RMark} {v : V} (h : Dh H (mD m) v) : ∃ a, v = .ref a ∧ H a = some (.tup (mV m)) := by
  obtain ⟨a, xs, rfl, g, _, _, rfl, e1, _, _, rfl, e2, _, _, rfl, e3, rfl⟩ := h
  cases e1
  cases e2
  cases e3
  exact ⟨a, rfl, g⟩
theorem tabss_snoc (a : List PyData) (d : PyData) : tabss (a ++ [d]) = tabss a + tabs d := by
  rw [tabss_app]
  show _ + (tabs d + 0) = _
  omega
theorem span_b {ws : List Int} (sm : Small ws) (k : Nat) : 0 < spanN ws k ∧ spanN ws k ≤ 8 ^ 6 := by
  have pp := prod_pos (ws := ws.drop (k + 1)) fun x hx => sm.2.2 x (List.mem_of_mem_drop hx)
  refine ⟨by show 0 < prodI _; omega, Int.le_trans pp.2 (Int.le_trans (b := ((8 ^ 6 : Nat) : Int)) ?_ (by decide))⟩
  have h6 := sm.2.1
  have : (8 : Nat) ^ (ws.drop (k + 1)).length ≤ 8 ^ 6 := Nat.pow_le_pow_right (by decide) (by rw [List.length_drop]; omega)
  exact_mod_cast this
theorem Same.get {H H' : Hp} {a : Addr} {o : HO} (s : Same H H') (g : H a = some o) : H' a = some o := s _ _ g

section

-- a condition of an operator
local macro_rules | `(tactic| walk_at "cond") => `(tactic| first
  | (show (0 : Int) < _; omega)
  | (show CDiv _ _; constructor <;> (first | decide | omega))
  | (show CMul _ _; first | (refine cmul_l ?_; constructor <;> (first | decide | omega)) | (refine cmul_r ?_; constructor <;> (first | decide | omega)))
  | (show CPow _ _; exact (by refine ⟨by decide, by decide, by decide⟩))
  | (show CDivW _ _; exact ⟨by decide, by decide +kernel⟩))
local macro_rules | `(tactic| walk_at "sq") => `(tactic| first | assumption | exact Dh.mono (same_upd (by assumption)) _ _ (by assumption) | exact .inl (.inl (.inl (by assumption))) | exact .inr (.inl (.inl (by assumption))) | exact SqL.of (by assumption) | exact .inl (by assumption) | exact .inl (SqL.of (by assumption)) | exact SqT.of (by assumption) | exact .inr (SqT.of (by assumption)))
local macro_rules | `(tactic| walk_at "st") => `(tactic| first
  | refine ⟨_, rfl, ?_⟩
  | refine ⟨_, _, rfl, rfl, ?_⟩
  | refine .inl ⟨_, rfl, ?_⟩
  | refine ⟨rfl, ?_⟩
  | refine ⟨_, _, rfl, by walk_at "sq", ?_⟩
  | refine ⟨.inl ⟨rfl, _, SqL.of (by assumption)⟩, ?_⟩
  | refine ⟨by walk_at "cond", ?_⟩
  | (refine' ifBT ?hh ?_; (case hh => first | rfl | assumption))
  | (refine' ifBF ?hh ?_; (case hh => first | rfl | assumption)))
local macro_rules | `(tactic| walk_at "go") => `(tactic| repeat walk_at "st")
local macro_rules | `(tactic| walk_at "yes") => `(tactic| (refine' ifT ?hh ?_; (case hh => first | rfl | decide +kernel)))
local macro_rules | `(tactic| walk_at "no") => `(tactic| (refine' ifF ?hh ?_; (case hh => first | decide +kernel | (intro z; cases z; done))))

/-! ### _marks_in, entries -/
abbrev s_marks_in : Stmt := topS 11
theorem sc_marks_in : FnScope ["shape", "table", "level", "start", "span", "found", "number", "entry", "low"] ["shape", "table", "level", "start"] (C8.fnScope s_marks_in) := C8.fnScope_by (by decide +kernel)
abbrev s_FoldedTable_entries : Stmt := inClass (topS 8) 2
theorem sc_FoldedTable_entries : FnScope ["self"] ["self"] (C8.fnScope s_FoldedTable_entries) := C8.fnScope_by (by decide +kernel)
theorem szB {n : Nat} (h : n ≤ 10000000) : n < sizeLine := Nat.lt_of_le_of_lt h (by decide)
structure TxtE (mg : Str → Option Value) : Prop extends Txt mg where
  enumerate : mg "enumerate" = none
def spMrk (CS : Addr) (k : Nat) : Sp := fun vs H Q _ => ∃ (sh wt st dx ra : Addr) (ws : List Int) (lv : Nat) (lo : Int) (T : Int → Option RMark), vs = [.ref sh, .ref ra, .int lv, .int lo] ∧ ShapeAt CS H sh wt st dx ws ∧ lv < ws.length ∧ ws.length - lv ≤ k ∧ Dh H (.list (foldD T (ws.drop lv) lo)) (.ref ra) ∧
  ∀ r us H', Same H H' → H r = none → H' r = some (.lst us) → DhAll H' ((rowsF T (ws.drop lv) lo).map rD) us → Q (.ref r) H'
def spEnt (C CS : Addr) : Sp := fun vs H Q _ => ∃ (p sh rt dx : Addr) (ws : List Int) (T : Int → Option RMark), vs = [.ref p] ∧ FtAt C CS H p sh rt dx ws (foldD T ws 0) ∧
  ∀ r us H', Same H H' → H r = none → H' r = some (.lst us) → DhAll H' ((rowsF T ws 0).map rD) us → Q (.ref r) H'
theorem DhAll.app {H : Hp} : ∀ {ds es : List PyData} {xs ys : List V}, DhAll H ds xs → DhAll H es ys → DhAll H (ds ++ es) (xs ++ ys)
  | [], _, _, _, h, k => by
    cases (show _ = [] from h)
    exact k
  | d :: ds, es, _, ys, h, k => by
    obtain ⟨v, vs, rfl, h1, h2⟩ := h
    exact ⟨v, vs ++ ys, rfl, h1, DhAll.app h2 k⟩
theorem flat_len {f : Nat → List RRow} {n : Nat} (h : ∀ k, (f k).length ≤ n) : ∀ i, ((List.range i).flatMap f).length ≤ i * n
  | 0 => Nat.zero_le _
  | i + 1 => by
    rw [List.range_succ, List.flatMap_append, List.length_append, Nat.add_mul, Nat.one_mul]
    have := flat_len h i
    have h2 := h i
    rw [List.flatMap_cons, List.flatMap_nil, List.append_nil]
    omega
theorem entR_len {T : Int → Option RMark} {sub : Int → List RRow} {n lo : Int} (hn : 1 ≤ n) (h : ∀ lo, (sub lo).length ≤ n.toNat) : (entR T sub n lo).length ≤ n.toNat := by
  unfold entR
  split
  · cases T lo with
    | none => exact Nat.zero_le _
    | some m =>
      show 1 ≤ n.toNat
      omega
  · split
    · exact Nat.zero_le _
    · exact h lo
/-- no more rows than pages -/
theorem rowsF_len {T : Int → Option RMark} : ∀ {ws : List Int} {lo : Int}, (∀ w ∈ ws, 2 ≤ w ∧ w ≤ 8) → (rowsF T ws lo).length ≤ (prodI ws).toNat
  | [], lo, _ => Nat.zero_le _
  | w :: ws, lo, h => by
    have h2 : ∀ x ∈ ws, 2 ≤ x ∧ x ≤ 8 := fun x hx => h x (List.mem_cons_of_mem _ hx)
    have hw := h w List.mem_cons_self
    have pp := (prod_pos h2).1
    have e : (prodI (w :: ws)).toNat = w.toNat * (prodI ws).toNat := by
      show (w * prodI ws).toNat = _
      exact Int.toNat_mul (by omega) (by omega)
    rw [e]
    refine flat_len (fun k => ?_) w.toNat
    exact entR_len pp fun lo' => rowsF_len h2
section
variable {P : Program} {w : World} {K : PySem.W.Frag} {mg : Str → Option Value} {base : Heap} {C CS : Addr}
theorem ok_mrk_step {f : Addr} {fd : FuncData} (Df : Def K mg "_marks_in" s_marks_in f fd) (b : Binds K fd ["shape", "table", "level", "start"] []) (T : TxtE mg) (m_span : C8.Met P w K mg base 1 CS "span" (spSpan CS) []) {k : Nat} (c__marks_in : Cal P w K mg base (k + 2) "_marks_in" (spMrk CS k) []) : Cal P w K mg base (k + 3) "_marks_in" (spMrk CS (k + 1)) [] := by
  refine cal0 Df b .nil sc_marks_in (fun vs H Q E h => ?_) (fun cdv A outer s H vs Q E hr h => ?_)
  · obtain ⟨sh, wt, st, dx, ra, ws, lv, lo, Tb, rfl, _⟩ := h
    rfl
  obtain ⟨sh, wt, st, dx, ra, ws, lv, lo, Tb, rfl, hs, hl, hk, ⟨ra', xs, er, gr, dr⟩, q⟩ := h
  cases er
  refine ⟨_, (pss_cons (ps_set (i := 4) sc_marks_in.nd rfl (.inl rfl) (C8.pe_mt m_span hr (by omega) (pv 0) (pa_cons (pv 2) pa_nil)))
      (pss_cons (ps_set (i := 5) sc_marks_in.nd rfl (.inl rfl) (pe_lst pa_nil))
      (pss_cons (ps_mk (ps_for PassesOwn.never rfl (pi_enum (by rfl) T.enumerate (pa_cons (pv 1) pa_nil)) (pg_tup rfl (pgs_cons (pg_name (i := 6) sc_marks_in.nd rfl (.inl rfl)) (pgs_cons (pg_name (i := 7) sc_marks_in.nd rfl (.inl rfl)) pgs_nil)))
      (pss_cons (ps_set (i := 8) sc_marks_in.nd rfl (.inl rfl) (pe_op op_add (pv 3) (pe_op op_mul (pv 6) (pv 4))))
      (pss_one (ps_mk (ps_if (pt_val (pe_callB is_list (by rfl) T.isinstance (by decide +kernel) (pa_cons (pv 7) (pa_cons (pe_bltn (v := .ty "list") (by rfl) T.list (by decide +kernel) rfl) pa_nil))))
      (pss_one (ps_expr (pe_bm PySem.F.plainAttrs_list PySem.F.slot_list_extend PySem.F.type_list_extend mt_extend (pv 5) (pa_cons (C8.pe_c c__marks_in hr (by omega) (by rfl) (pa_cons (pv 0) (pa_cons (pv 7) (pa_cons (pe_op op_add (pv 2) pe_int) (pa_cons (pv 8) pa_nil))))) pa_nil))))
      (pss_one (ps_mk (ps_if (pt_cmpR op_notN (pv 7) pe_non (nomark _))
      (pss_one (ps_expr (pe_bm PySem.F.plainAttrs_list PySem.F.slot_list_append PySem.F.type_list_append mt_append (pv 5) (pa_cons (pe_op (catT K rfl) (pe_tup (pa_cons (pv 8) (pa_cons (pe_op op_add (pv 8) (pv 4)) pa_nil))) (pv 7)) pa_nil))))
      pss_nil)))))))))
      (pss_one (ps_ret (pv 5)))))), ?_⟩
  have sp := span_pos hs.sm lv
  have hw := hs.sm.2.2 _ (List.getElem_mem hl)
  have h2 : ∀ x ∈ ws.drop (lv + 1), 2 ≤ x ∧ x ≤ 8 := fun x hx => hs.sm.2.2 x (List.mem_of_mem_drop hx)
  have ed := List.drop_eq_getElem_cons hl
  have sp8 : spanN ws lv ≤ 8 ^ 6 := by
    have pp := prod_pos h2
    refine Int.le_trans pp.2 (Int.le_trans (b := ((8 ^ 6 : Nat) : Int)) ?_ (by decide))
    have h6 := hs.sm.2.1
    have : (8 : Nat) ^ (ws.drop (lv + 1)).length ≤ 8 ^ 6 := Nat.pow_le_pow_right (by decide) (by rw [List.length_drop]; omega)
    exact_mod_cast this
  rw [ed] at dr q
  have dr : DhAll H ((List.range ws[lv].toNat).map fun k : Nat => entD Tb (foldD Tb (ws.drop (lv + 1))) (spanN ws lv) (lo + (k : Int) * spanN ws lv)) xs := dr
  have q : ∀ r us H', Same H H' → H r = none → H' r = some (.lst us) → DhAll H' (((List.range ws[lv].toNat).flatMap fun k : Nat => entR Tb (rowsF Tb (ws.drop (lv + 1))) (spanN ws lv) (lo + (k : Int) * spanN ws lv)).map rD) us → Q (.ref r) H' := q
  have fl : ∀ i, ((List.range i).flatMap fun k : Nat => entR Tb (rowsF Tb (ws.drop (lv + 1))) (spanN ws lv) (lo + (k : Int) * spanN ws lv)).length ≤ i * (spanN ws lv).toNat := flat_len fun k => entR_len sp fun lo' => rowsF_len h2
  have rl : ∀ lo', (rowsF Tb (ws.drop (lv + 1)) lo').length ≤ (spanN ws lv).toNat := fun lo' => rowsF_len h2
  generalize ws[lv] = wd at *
  have xl := dr.len
  rw [List.length_map, List.length_range] at xl
  walk_at "go"
  refine ⟨sh, dx, _, rfl, hs.g, sh_no (by decide +kernel) (by decide +kernel) (by decide +kernel) (by decide +kernel), ?_⟩
  walk_at "go"
  refine ⟨sh, wt, st, dx, ws, lv, rfl, hs, hl, ?_⟩
  walk_at "go"
  refine ⟨sz, fun L nL => ?_⟩
  have s1 := same_upd (o := HO.lst []) nL
  have gL := upd_same (H := H) (a := L) (o := HO.lst [])
  show _
  generalize upd H L (HO.lst []) = B at *
  have gr1 := s1 _ _ gr
  refine jnS (M := fun σ H' => Same H H' ∧ ∃ (us : List V) (y6 y7 y8 : Option V), H' L = some (.lst us) ∧ DhAll H' (((List.range wd.toNat).flatMap fun k : Nat => entR Tb (rowsF Tb (ws.drop (lv + 1))) (spanN ws lv) (lo + (k : Int) * spanN ws lv)).map rD) us ∧ σ = [sR sh, sR ra, sI lv, sI lo, sI (spanN ws lv), sR L, y6, y7, y8]) ?_ (fun N kk => ?_)
  · rintro σ H2 ⟨s2, us, y6, y7, y8, g2, d2, rfl⟩
    walk_at "go"
    exact q L us H2 s2 nL g2 d2
  walk_at "go"
  refine for_it (walk_enum (K := K) (a := ra) (xs := xs)) (fun i σ H' => Ob (Same H H' ∧ ∃ (us : List V) (y6 y7 y8 : Option V), H' L = some (.lst us) ∧ DhAll H' (((List.range i).flatMap fun k : Nat => entR Tb (rowsF Tb (ws.drop (lv + 1))) (spanN ws lv) (lo + (k : Int) * spanN ws lv)).map rD) us ∧ σ = [sR sh, sR ra, sI lv, sI lo, sI (spanN ws lv), sR L, y6, y7, y8])) (ob ⟨s1, [], none, none, none, gL, rfl, rfl⟩) (fun i σ H' _ h => SqL.of ((unob h).1 _ _ gr)) ?_ ?_
  rotate_left
  · intro σ H2 h
    obtain ⟨s2, us, y6, y7, y8, g2, d2, rfl⟩ := unob h
    rw [xl] at d2
    exact kk _ _ ⟨s2, us, _, _, _, g2, d2, rfl⟩
  intro i v σ H2 H3 hi h hy
  obtain ⟨s2, us, y6, y7, y8, g2, d2, rfl⟩ := unob h
  clear h kk s1 gL gr1
  obtain ⟨TT, x1, x2, rfl, nT, rfl, e1, e2⟩ := hy
  rw [xl] at hi
  obtain rfl := Option.some.inj e1
  obtain ⟨v', ev, dv⟩ := dr.get (i := i) (d := entD Tb (foldD Tb (ws.drop (lv + 1))) (spanN ws lv) (lo + (i : Int) * spanN ws lv)) (by rw [List.getElem?_map, List.getElem?_range hi]; rfl)
  have e2 : xs[i]? = some x2 := e2
  rw [ev] at e2
  obtain rfl := Option.some.inj e2
  have s3 := s2.trans (same_upd (o := HO.tup [V.int (i : Nat), v']) nT)
  have gT := upd_same (H := H2) (a := TT) (o := HO.tup [V.int (i : Nat), v'])
  have g2 := same_upd (o := HO.tup [V.int (i : Nat), v']) nT _ _ g2
  have d2 := DhAll.mono (same_upd (o := HO.tup [V.int (i : Nat), v']) nT) _ _ d2
  have dv := Dh.mono s3 _ _ dv
  generalize upd H2 TT (HO.tup [V.int (i : Nat), v']) = H3 at *
  have hi8 : i < 8 := by omega
  have uz : us.length ≤ 8 * 8 ^ 6 := by
    have z1 := fl i
    have z2 := d2.len
    rw [List.length_map] at z2
    have z3 : i * (spanN ws lv).toNat ≤ 8 * 8 ^ 6 := Nat.mul_le_mul (by omega) (by omega)
    omega
  have el : (entR Tb (rowsF Tb (ws.drop (lv + 1))) (spanN ws lv) (lo + (i : Int) * spanN ws lv)).length ≤ 8 ^ 6 := by
    have := entR_len (T := Tb) (lo := lo + (i : Int) * spanN ws lv) sp rl
    omega
  have put : ∀ (H4 : Hp) (vs : List V) (y6 y7 y8 : Option V), Same H3 H4 → DhAll H4 ((entR Tb (rowsF Tb (ws.drop (lv + 1))) (spanN ws lv) (lo + (i : Int) * spanN ws lv)).map rD) vs → Ob (Same H (upd H4 L (.lst (us ++ vs))) ∧ ∃ (us' : List V) (z6 z7 z8 : Option V), (upd H4 L (.lst (us ++ vs))) L = some (.lst us') ∧ DhAll (upd H4 L (.lst (us ++ vs))) (((List.range (i + 1)).flatMap fun k : Nat => entR Tb (rowsF Tb (ws.drop (lv + 1))) (spanN ws lv) (lo + (k : Int) * spanN ws lv)).map rD) us' ∧ ([sR sh, sR ra, sI lv, sI lo, sI (spanN ws lv), sR L, y6, y7, y8] : L2.St) = [sR sh, sR ra, sI lv, sI lo, sI (spanN ws lv), sR L, z6, z7, z8]) := by
    intro H4 vs y6 y7 y8 s4 d4
    have g4 := s4 _ _ g2
    refine ob ⟨same_put (s3.trans s4) nL, us ++ vs, _, _, _, upd_same, ?_, rfl⟩
    rw [List.range_succ, List.flatMap_append, List.map_append, List.flatMap_cons, List.flatMap_nil, List.append_nil]
    exact DhAll.app (rows_mono (tup_put g4) (DhAll.mono s4 _ _ d2)) (rows_mono (tup_put g4) d4)
  refine ⟨TT, _, rfl, SqT.of gT, rfl, ?_⟩
  refine ⟨_, _, rfl, ?_⟩
  refine ⟨_, _, rfl, ?_⟩
  refine ⟨rfl, ?_⟩
  walk_at "go"
  dsimp only
  generalize hlw : lo + (i : Int) * spanN ws lv = lw at *
  refine un ?_
  by_cases u : Uni Tb lw (spanN ws lv)
  · obtain ⟨m, em, _⟩ := id u
    rw [ent_uni u em] at dv
    rw [entR_uni u em] at put
    obtain ⟨ma, rfl, gm⟩ := mark_of dv
    walk_at "go"
    refine un ?_
    walk_at "go"
    refine ⟨sz, fun t nt => ?_⟩
    have s4 := same_upd (o := HO.tup [V.int lw, V.int (lw + spanN ws lv)]) nt
    have gt := upd_same (H := H3) (a := t) (o := HO.tup [V.int lw, V.int (lw + spanN ws lv)])
    show _
    generalize upd H3 t (HO.tup [V.int lw, V.int (lw + spanN ws lv)]) = H4 at *
    have gm4 := s4 _ _ gm
    walk_at "go"
    refine ⟨t, ma, _, _, rfl, rfl, SqT.of gt, SqT.of gm4, by simp, (by unfold mV; exact sz), fun z => absurd z (by unfold mV; simp), fun _ t2 nt2 => ?_⟩
    have s5 := s4.trans (same_upd (o := HO.tup ([V.int lw, V.int (lw + spanN ws lv)] ++ mV m)) nt2)
    have gt2 := upd_same (H := H4) (a := t2) (o := HO.tup ([V.int lw, V.int (lw + spanN ws lv)] ++ mV m))
    show _
    generalize upd H4 t2 (HO.tup ([V.int lw, V.int (lw + spanN ws lv)] ++ mV m)) = H5 at *
    walk_at "go"
    refine ⟨L, us, _, rfl, rfl, s5 _ _ g2, szB (by omega), ?_⟩
    exact put H5 [.ref t2] _ _ _ s5 ⟨_, [], rfl, dh_row (x := ⟨lw, lw + spanN ws lv, m⟩) gt2, rfl⟩
  · by_cases e : Emp Tb lw (spanN ws lv)
    · rw [ent_emp e (by omega)] at dv
      rw [entR_emp e (by omega)] at put
      cases (show v' = .non from dv)
      walk_at "go"
      refine un ?_
      walk_at "go"
      have e0 : upd H3 L (HO.lst us) = H3 := by
        funext b
        by_cases z : b = L
        · rw [z, upd_same, g2]
        · rw [upd_ne z]
      have p0 := put H3 [] (some (V.int (i : Nat))) (some V.non) (some (V.int lw)) same_rfl rfl
      rw [List.append_nil, e0] at p0
      exact p0
    · rw [ent_sub u e] at dv
      rw [entR_sub u e] at put
      obtain ⟨r2, xs2, rfl, gr2, dr2⟩ := id dv
      have l2 : lv + 1 < ws.length := by
        refine Classical.byContradiction fun z => ?_
        have e1 : spanN ws lv = 1 := by
          show prodI (ws.drop (lv + 1)) = 1
          rw [List.drop_of_length_le (by omega)]
          rfl
        rw [e1] at u e
        exact (one_page (T := Tb) (lo := lw)).elim u e
      walk_at "go"
      refine ⟨sh, wt, st, dx, r2, ws, lv + 1, lw, Tb, rfl, hs.same s3, l2, by omega, dv, fun r vs H4 s4 nr gr4 dr4 => ?_⟩
      have vl := dr4.len
      rw [List.length_map] at vl
      have := rl lw
      have g4 := s4 _ _ g2
      walk_at "go"
      refine ⟨L, r, us, vs, rfl, rfl, g4, gr4, Nat.le_of_lt (szB (by omega)), ?_⟩
      exact put H4 vs _ _ _ s4 dr4
theorem ok_mrk {f : Addr} {fd : FuncData} (Df : Def K mg "_marks_in" s_marks_in f fd) (b : Binds K fd ["shape", "table", "level", "start"] []) (T : TxtE mg) (m_span : C8.Met P w K mg base 1 CS "span" (spSpan CS) []) : ∀ k, Cal P w K mg base (k + 2) "_marks_in" (spMrk CS k) []
  | 0 => by
    have no : ∀ vs H Q E, ¬ spMrk CS 0 vs H Q E := fun vs H Q E h => by
      obtain ⟨sh, wt, st, dx, ra, ws, lv, lo, Tb, _, _, h1, h2, _⟩ := h
      omega
    exact ⟨f, fd, _, _, ⟨fun vs H Q E h => absurd h (no vs H Q E), fun A outer s H args us vs Q E _ _ _ _ h => absurd h (no vs H Q E)⟩, Df.mgf, Df.kp, b, .nil⟩
  | k + 1 => ok_mrk_step Df b T m_span (ok_mrk Df b T m_span k)
theorem ok_ent {f : Addr} {fd : FuncData} (F : C8.Fun K "entries" "FoldedTable.entries" s_FoldedTable_entries f fd) (M : Meth K C "entries" f) (b : Binds K fd ["self"] []) (S : FTxt K mg C) (c__marks_in : Cal P w K mg base 8 "_marks_in" (spMrk CS 6) []) : C8.Met P w K mg base 9 C "entries" (spEnt C CS) [] := by
  refine C8.met0 S.cl M F b sc_FoldedTable_entries (fun vs H Q E h => ?_) (fun cdv A outer s H vs Q E hr h => ?_)
  · obtain ⟨p, sh, rt, dx, ws, Tb, rfl, _⟩ := h
    rfl
  obtain ⟨p, sh, rt, dx, ws, Tb, rfl, hf, q⟩ := h
  refine ⟨_, (pss_one (ps_ret (C8.pe_c c__marks_in hr (by omega) (by rfl) (pa_cons (pe_fld (pv 0) rfl) (pa_cons (pe_fld (pv 0) rfl) (pa_cons pe_int (pa_cons pe_int pa_nil))))))), ?_⟩
  obtain ⟨wt, st, dx', hs⟩ := hf.s
  walk_at "go"
  refine ⟨_, _, _, _, _, rfl, hf.g, S.cl, S.nS, ft_shape, ?_⟩
  walk_at "go"
  refine ⟨_, _, _, _, _, rfl, hf.g, S.cl, S.nR, ft_root, ?_⟩
  walk_at "go"
  exact ⟨sh, wt, st, dx', rt, ws, 0, 0, Tb, rfl, hs, List.length_pos_iff.mpr hs.sm.1, hs.sm.2.1, hf.r, q⟩
end

end

/-! ### the entries of a table give every page its mark (for k52) -/
/-- rows of the pages lo .. hi - 1 that give each its mark -/
structure Tell (T : Int → Option RMark) (lo hi : Int) (xs : List RRow) : Prop where
  a : Asc lo xs
  e : ∀ x ∈ xs, x.e ≤ hi
  t : ∀ p, lo ≤ p → p < hi → tb xs p = T p
theorem asc_app2 : ∀ {xs ys : List RRow} {lo mid : Int}, Asc lo xs → (∀ x ∈ xs, x.e ≤ mid) → Asc mid ys → lo ≤ mid → Asc lo (xs ++ ys)
  | [], _, _, _, _, _, h, l => h.low l
  | x :: xs, ys, lo, mid, h, e, k, _ => ⟨h.1, h.2.1, asc_app2 h.2.2 (fun y hy => e y (List.mem_cons_of_mem _ hy)) k (e x List.mem_cons_self)⟩
section
variable {T : Int → Option RMark} {lo mid hi n : Int} {xs ys : List RRow}
theorem Tell.app (h : Tell T lo mid xs) (k : Tell T mid hi ys) (l : lo ≤ mid) (m : mid ≤ hi) : Tell T lo hi (xs ++ ys) := by
  refine ⟨asc_app2 h.a h.e k.a l, fun x hx => ?_, fun p p0 p1 => ?_⟩
  · rcases List.mem_append.mp hx with z | z
    · have := h.e x z
      omega
    · exact k.e x z
  · rw [tb_app]
    by_cases c : p < mid
    · rw [h.t p p0 c, tb_none (xs := ys) (fun x hx z => by have := (k.a.mem hx).1; omega)]
      cases T p <;> rfl
    · rw [tb_none (xs := xs) (fun x hx z => by have := h.e x hx; omega), k.t p (by omega) p1]
      rfl
theorem Tell.ent {sub : Int → List RRow} (hn : 0 < n) (hs : ¬ Uni T lo n → ¬ Emp T lo n → Tell T lo (lo + n) (sub lo)) : Tell T lo (lo + n) (entR T sub n lo) := by
  by_cases u : Uni T lo n
  · obtain ⟨m, e, k⟩ := id u
    rw [entR_uni u e]
    refine ⟨⟨Int.le_refl _, by show lo < lo + n; omega, trivial⟩, fun x hx => by rw [List.mem_singleton.mp hx]; exact Int.le_refl _, fun p p0 p1 => ?_⟩
    rw [k p p0 p1]
    exact tb_mem (x := ⟨lo, lo + n, m⟩) (Asc.ord (b := lo) ⟨Int.le_refl _, by show lo < lo + n; omega, trivial⟩) (List.mem_singleton.mpr rfl) p0 p1
  · by_cases e : Emp T lo n
    · rw [entR_emp e hn]
      exact ⟨trivial, by simp, fun p p0 p1 => (e p p0 p1).symm⟩
    · rw [entR_sub u e]
      exact hs u e
theorem tell_flat {f : Nat → List RRow} (hn : 0 < n) (h : ∀ k : Nat, Tell T (lo + (k : Int) * n) (lo + (k : Int) * n + n) (f k)) : ∀ i : Nat, Tell T lo (lo + (i : Int) * n) ((List.range i).flatMap f)
  | 0 => ⟨trivial, by simp, fun p p0 p1 => by
    rw [show ((0 : Nat) : Int) = 0 from rfl, Int.zero_mul] at p1
    omega⟩
  | i + 1 => by
    have m0 : 0 ≤ (i : Int) * n := Int.mul_nonneg (by omega) (by omega)
    have e : ((i + 1 : Nat) : Int) * n = (i : Int) * n + n := by rw [Int.natCast_succ, Int.add_mul, Int.one_mul]
    rw [List.range_succ, List.flatMap_append, List.flatMap_cons, List.flatMap_nil, List.append_nil, e, ← Int.add_assoc]
    exact (tell_flat hn h i).app (h i) (by omega) (by omega)
end
theorem tell_rows {T : Int → Option RMark} : ∀ {ws : List Int} {lo : Int}, ws ≠ [] → (∀ w ∈ ws, 2 ≤ w ∧ w ≤ 8) → Tell T lo (lo + prodI ws) (rowsF T ws lo)
  | [], _, h, _ => absurd rfl h
  | w :: ws, lo, _, h => by
    have h2 : ∀ x ∈ ws, 2 ≤ x ∧ x ≤ 8 := fun x hx => h x (List.mem_cons_of_mem _ hx)
    have hw := h w List.mem_cons_self
    have pp := (prod_pos h2).1
    have := tell_flat (T := T) (lo := lo) (n := prodI ws) (f := fun k : Nat => entR T (rowsF T ws) (prodI ws) (lo + (k : Int) * prodI ws)) (by omega) (fun k => Tell.ent (by omega) fun u e => by
      cases ws with
      | nil => exact ((one_page (T := T) (lo := lo + (k : Int) * prodI [])).elim u e).elim
      | cons w' l => exact tell_rows (by simp) h2) w.toNat
    rw [show ((w.toNat : Nat) : Int) = w by omega] at this
    exact this
theorem Tell.is {T : Int → Option RMark} {lim : Int} {xs : List RRow} (h : Tell T 0 lim xs) (o : ∀ p, ¬ (0 ≤ p ∧ p < lim) → T p = none) : TbIs xs T := fun p => by
  by_cases c : 0 ≤ p ∧ p < lim
  · exact h.t p c.1 c.2
  · rw [o p c]
    exact tb_none fun x hx z => c ⟨Int.le_trans (h.a.mem hx).1 z.1, by have := h.e x hx; omega⟩
/-- a span divides those above it -/
theorem span_dvd {ws : List Int} : ∀ {k : Nat}, k < ws.length → ∃ c : Int, prodI ws = c * spanN ws k := fun {k} h => by
  induction ws generalizing k with
  | nil => cases h
  | cons w l ih =>
    cases k with
    | zero => exact ⟨w, rfl⟩
    | succ k =>
      obtain ⟨c, e⟩ := ih (k := k) (by simpa using h)
      exact ⟨w * c, by show w * prodI l = w * c * spanN l k; rw [e, Int.mul_assoc]⟩
/-- the rows of two entries lie in no uniform block -/
def ApR (T : Int → Option RMark) (ws : List Int) (lo : Int) (x y : RRow) : Prop := ∀ k < ws.length, (x.s - lo) / spanN ws k = (y.s - lo) / spanN ws k → ¬ Uni T (lo + (x.s - lo) / spanN ws k * spanN ws k) (spanN ws k)
theorem rows_apart {T : Int → Option RMark} : ∀ {ws : List Int} {lo : Int}, (∀ w ∈ ws, 2 ≤ w ∧ w ≤ 8) → (rowsF T ws lo).Pairwise (ApR T ws lo)
  | [], _, _ => List.Pairwise.nil
  | w :: l, lo, h => by
    have h2 : ∀ x ∈ l, 2 ≤ x ∧ x ≤ 8 := fun x hx => h x (List.mem_cons_of_mem _ hx)
    have pp := (prod_pos h2).1
    have te : ∀ i : Nat, Tell T (lo + (i : Int) * prodI l) (lo + (i : Int) * prodI l + prodI l) (entR T (rowsF T l) (prodI l) (lo + (i : Int) * prodI l)) := fun i => Tell.ent (by omega) fun u e => by
      cases l with
      | nil => exact ((one_page (T := T) (lo := lo + (i : Int) * prodI [])).elim u e).elim
      | cons w' l => exact tell_rows (by simp) h2
    have pos : ∀ k < (w :: l).length, 0 < spanN (w :: l) k ∧ ∃ c : Int, prodI l = c * spanN (w :: l) k := fun k hk => by
      cases k with
      | zero => exact ⟨by show 0 < prodI l; omega, 1, by rw [Int.one_mul]; rfl⟩
      | succ k =>
        obtain ⟨c, e⟩ := span_dvd (ws := l) (k := k) (by simpa using hk)
        refine ⟨?_, c, e⟩
        have := (prod_pos (ws := l.drop (k + 1)) fun x hx => h2 x (List.mem_of_mem_drop hx)).1
        show 0 < prodI (l.drop (k + 1))
        omega
    show ((List.range w.toNat).flatMap fun i : Nat => entR T (rowsF T l) (prodI l) (lo + (i : Int) * prodI l)).Pairwise _
    rw [List.pairwise_flatMap]
    refine ⟨fun i _ => ?_, ?_⟩
    · by_cases u : Uni T (lo + (i : Int) * prodI l) (prodI l)
      · obtain ⟨m, e, _⟩ := id u
        rw [entR_uni u e]
        exact List.pairwise_singleton _ _
      · by_cases e : Emp T (lo + (i : Int) * prodI l) (prodI l)
        · rw [entR_emp e (by omega)]
          exact List.Pairwise.nil
        · have te := te i
          rw [entR_sub u e] at te ⊢
          refine (rows_apart (lo := lo + (i : Int) * prodI l) h2).imp_of_mem fun {x y} hx hy ap k hk eq => ?_
          cases k with
          | zero =>
            have b0 := (te.a.mem hx).1
            have b1 := te.e x hx
            have b2 := (te.a.mem hx).2
            have ed : (x.s - lo) / spanN (w :: l) 0 = i := by
              show (x.s - lo) / prodI l = _
              rw [show x.s - lo = (x.s - (lo + (i : Int) * prodI l)) + (i : Int) * prodI l by omega, Int.add_mul_ediv_right _ _ (by omega), Int.ediv_eq_zero_of_lt (by omega) (by omega), Int.zero_add]
            rw [ed]
            exact u
          | succ k =>
            obtain ⟨sp, c, ec⟩ := pos (k + 1) hk
            have ee : ∀ z : Int, (z - lo) / spanN (w :: l) (k + 1) = (z - (lo + (i : Int) * prodI l)) / spanN (w :: l) (k + 1) + (i : Int) * c := fun z => by
              rw [show z - lo = (z - (lo + (i : Int) * prodI l)) + (i : Int) * c * spanN (w :: l) (k + 1) from by
                rw [Int.mul_assoc, ← ec]
                omega]
              exact Int.add_mul_ediv_right _ _ (by omega)
            rw [ee, ee] at eq
            rw [ee x.s, Int.add_mul, Int.mul_assoc, ← ec, show ∀ a b : Int, lo + (a + b) = (lo + b) + a from fun a b => by omega]
            exact ap k (by simpa using hk) (by
              show (x.s - _) / spanN (w :: l) (k + 1) = (y.s - _) / spanN (w :: l) (k + 1)
              omega)
    · refine List.Pairwise.imp_of_mem ?_ (List.pairwise_lt_range (n := w.toNat))
      intro i j _ _ lt x hx y hy k hk eq
      obtain ⟨sp, c, ec⟩ := pos k hk
      have b1 := (te i).e x hx
      have b2 := ((te i).a.mem hx).2
      have b3 := ((te j).a.mem hy).1
      have m1 : (i : Int) * prodI l + prodI l ≤ (j : Int) * prodI l := by
        have := Int.mul_le_mul_of_nonneg_right (show (i : Int) + 1 ≤ j by omega) (show 0 ≤ prodI l by omega)
        rw [Int.add_mul, Int.one_mul] at this
        exact this
      have q1 : (x.s - lo) / spanN (w :: l) k < (j : Int) * c := by
        refine Int.ediv_lt_of_lt_mul sp ?_
        rw [Int.mul_assoc, ← ec]
        omega
      have q2 : (j : Int) * c ≤ (y.s - lo) / spanN (w :: l) k := by
        refine (Int.le_ediv_iff_mul_le sp).mpr ?_
        rw [Int.mul_assoc, ← ec]
        omega
      omega
/-! ### where the tables stand -/
open Classical in
noncomputable def entT (T : Int → Option RMark) (sub : Int → List (Int × Int)) (n lv lo : Int) : List (Int × Int) := if Uni T lo n then [] else if Emp T lo n then [] else (lv + 1, lo) :: sub lo
noncomputable def treeT (T : Int → Option RMark) : List Int → Int → Int → List (Int × Int)
  | [], _, _ => []
  | w :: l, lv, lo => (List.range w.toNat).flatMap fun i : Nat => entT T (treeT T l (lv + 1)) (prodI l) lv (lo + (i : Int) * prodI l)
theorem tabs_ent {T : Int → Option RMark} {sub : Int → List (Int × Int)} {subD : Int → List PyData} {n lv lo : Int} (h : ¬ Uni T lo n → ¬ Emp T lo n → tabss (subD lo) = ((sub lo).length : Int)) : tabs (entD T subD n lo) = ((entT T sub n lv lo).length : Int) := by
  by_cases u : Uni T lo n
  · obtain ⟨m, e, _⟩ := id u
    rw [ent_uni u e]
    unfold entT
    rw [if_pos u]
    rfl
  · by_cases e : Emp T lo n
    · unfold entT entD
      rw [if_neg u, if_pos e, if_neg u, if_pos e]
      rfl
    · rw [ent_sub u e]
      unfold entT
      rw [if_neg u, if_neg e]
      show 1 + tabss (subD lo) = _
      rw [h u e, List.length_cons]
      omega
/-- the tables are as many as their places, and the root -/
theorem tabs_tree {T : Int → Option RMark} : ∀ (ws : List Int) (lv lo : Int), tabss (foldD T ws lo) = ((treeT T ws lv lo).length : Int)
  | [], _, _ => rfl
  | w :: l, lv, lo => by
    have gen : ∀ i : Nat, tabss ((List.range i).map fun k : Nat => entD T (foldD T l) (prodI l) (lo + (k : Int) * prodI l)) = (((List.range i).flatMap fun k : Nat => entT T (treeT T l (lv + 1)) (prodI l) lv (lo + (k : Int) * prodI l)).length : Int) := fun i => by
      induction i with
      | zero => rfl
      | succ i ih =>
        rw [List.range_succ, List.map_append, List.flatMap_append, List.length_append]
        show tabss (_ ++ [_]) = _
        rw [tabss_snoc, ih, tabs_ent (sub := treeT T l (lv + 1)) (lv := lv) fun _ _ => tabs_tree l (lv + 1) _, List.flatMap_cons, List.flatMap_nil, List.append_nil]
        omega
    exact gen w.toNat
theorem uni_part {T : Int → Option RMark} {lo n lo' n' : Int} (h : Uni T lo n) (a : lo ≤ lo') (b : lo' + n' ≤ lo + n) (p : 0 < n') : Uni T lo' n' := by
  obtain ⟨m, e, k⟩ := h
  refine ⟨m.after (lo' - lo), k lo' a (by omega), fun p p0 p1 => ?_⟩
  rw [k p (by omega) (by omega), after_after]
  congr 2
  omega
theorem emp_part {T : Int → Option RMark} {lo n lo' n' : Int} (h : Emp T lo n) (a : lo ≤ lo') (b : lo' + n' ≤ lo + n) : Emp T lo' n' := fun p p0 p1 => h p (by omega) (by omega)
/-- a block of a level within a table, neither uniform nor empty -/
structure Need (T : Int → Option RMark) (ws : List Int) (lv lo a b : Int) : Prop where
  ex : ∃ k < ws.length, a = lv + (k : Int) + 1 ∧ ∃ i : Nat, ((i : Int) + 1) * spanN ws k ≤ prodI ws ∧ b = lo + (i : Int) * spanN ws k ∧ ¬ Uni T b (spanN ws k) ∧ ¬ Emp T b (spanN ws k)
theorem tree_need {T : Int → Option RMark} : ∀ {ws : List Int} {lv lo a b : Int}, (∀ w ∈ ws, 2 ≤ w ∧ w ≤ 8) → (a, b) ∈ treeT T ws lv lo → Need T ws lv lo a b
  | [], _, _, _, _, _, h => by cases h
  | w :: l, lv, lo, a, b, hw, h => by
    have h2 : ∀ x ∈ l, 2 ≤ x ∧ x ≤ 8 := fun x hx => hw x (List.mem_cons_of_mem _ hx)
    have pp := (prod_pos h2).1
    obtain ⟨i, hi, h⟩ := List.mem_flatMap.mp (show (a, b) ∈ (List.range w.toNat).flatMap _ from h)
    have hi := List.mem_range.mp hi
    have m1 : ((i : Int) + 1) * prodI l ≤ w * prodI l := Int.mul_le_mul_of_nonneg_right (by omega) (by omega)
    by_cases u : Uni T (lo + (i : Int) * prodI l) (prodI l)
    · unfold entT at h
      rw [if_pos u] at h
      cases h
    · by_cases e : Emp T (lo + (i : Int) * prodI l) (prodI l)
      · unfold entT at h
        rw [if_neg u, if_pos e] at h
        cases h
      · unfold entT at h
        rw [if_neg u, if_neg e] at h
        rcases List.mem_cons.mp h with z | z
        · cases z
          exact ⟨0, by simp, by simp, i, m1, rfl, u, e⟩
        · obtain ⟨k, hk, ea, i', hi', eb, u', e'⟩ := (tree_need h2 z).ex
          obtain ⟨c, ec⟩ := span_dvd (ws := l) (k := k) hk
          have ec2 : (i : Int) * prodI l = (i : Int) * c * spanN l k := by rw [ec, Int.mul_assoc]
          have c0 : 0 ≤ c := by
            have sp := (prod_pos (ws := l.drop (k + 1)) fun x hx => h2 x (List.mem_of_mem_drop hx)).1
            refine Classical.byContradiction fun z => ?_
            have : c * spanN l k ≤ 0 := Int.mul_nonpos_of_nonpos_of_nonneg (by omega) (by show 0 ≤ prodI _; omega)
            omega
          have ci : 0 ≤ (i : Int) * c := Int.mul_nonneg (by omega) c0
          refine ⟨k + 1, by simpa using hk, by omega, ((i : Int) * c + (i' : Int)).toNat, ?_, ?_, u', e'⟩
          · show ((((i : Int) * c + (i' : Int)).toNat : Int) + 1) * spanN l k ≤ w * prodI l
            rw [show (((i : Int) * c + (i' : Int)).toNat : Int) + 1 = (i : Int) * c + ((i' : Int) + 1) by omega, Int.add_mul, ← ec2]
            rw [Int.add_mul, Int.one_mul] at m1
            omega
          · show b = lo + (((i : Int) * c + (i' : Int)).toNat : Int) * spanN l k
            rw [show (((i : Int) * c + (i' : Int)).toNat : Int) = (i : Int) * c + (i' : Int) by omega, Int.add_mul, ← ec2, eb]
            omega
theorem need_tree {T : Int → Option RMark} : ∀ {ws : List Int} {lv lo a b : Int}, (∀ w ∈ ws, 2 ≤ w ∧ w ≤ 8) → Need T ws lv lo a b → (a, b) ∈ treeT T ws lv lo
  | [], _, _, _, _, _, h => by
    obtain ⟨k, hk, _⟩ := h.ex
    cases hk
  | w :: l, lv, lo, a, b, hw, h => by
    have h2 : ∀ x ∈ l, 2 ≤ x ∧ x ≤ 8 := fun x hx => hw x (List.mem_cons_of_mem _ hx)
    have hw0 := hw w List.mem_cons_self
    have pp := (prod_pos h2).1
    obtain ⟨k, hk, ea, i, hi, eb, u, e⟩ := h.ex
    show (a, b) ∈ (List.range w.toNat).flatMap _
    cases k with
    | zero =>
      have hi : ((i : Int) + 1) * prodI l ≤ w * prodI l := hi
      have iw : (i : Int) + 1 ≤ w := Int.le_of_mul_le_mul_right hi (by omega)
      have eb : b = lo + (i : Int) * prodI l := eb
      have u : ¬ Uni T b (prodI l) := u
      have e : ¬ Emp T b (prodI l) := e
      subst eb
      refine List.mem_flatMap.mpr ⟨i, List.mem_range.mpr (by omega), ?_⟩
      unfold entT
      rw [if_neg u, if_neg e]
      exact List.mem_cons.mpr (.inl (by rw [ea]; simp))
    | succ k =>
      have hkl : k < l.length := by simpa using hk
      obtain ⟨c, ec⟩ := span_dvd (ws := l) (k := k) hkl
      have sp : 1 ≤ spanN l k := (prod_pos (ws := l.drop (k + 1)) fun x hx => h2 x (List.mem_of_mem_drop hx)).1
      have c0 : 1 ≤ c := by
        refine Classical.byContradiction fun z => ?_
        have : c * spanN l k ≤ 0 := Int.mul_nonpos_of_nonpos_of_nonneg (by omega) (by omega)
        omega
      have hi : ((i : Int) + 1) * spanN l k ≤ w * prodI l := hi
      have eb : b = lo + (i : Int) * spanN l k := eb
      have u : ¬ Uni T b (spanN l k) := u
      have e : ¬ Emp T b (spanN l k) := e
      rw [ec, ← Int.mul_assoc] at hi
      have iw : (i : Int) + 1 ≤ w * c := Int.le_of_mul_le_mul_right hi (by omega)
      -- the block of the first level
      have q0 : 0 ≤ (i : Int) / c := Int.ediv_nonneg (by omega) (by omega)
      have q1 : (i : Int) / c < w := Int.ediv_lt_of_lt_mul (by omega) (by omega)
      have r0 := Int.emod_nonneg (i : Int) (show c ≠ 0 by omega)
      have r1 := Int.emod_lt_of_pos (i : Int) (show 0 < c by omega)
      have qr := Int.mul_ediv_add_emod (i : Int) c
      generalize (i : Int) / c = q at *
      generalize (i : Int) % c = r at *
      have eb2 : b = lo + q * prodI l + r * spanN l k := by
        rw [eb, ← qr, Int.add_mul, ec, ← Int.mul_assoc, Int.mul_comm q c]
        omega
      have rs : (r + 1) * spanN l k ≤ prodI l := by
        rw [ec]
        exact Int.mul_le_mul_of_nonneg_right (by omega) (by omega)
      have rz : 0 ≤ r * spanN l k := Int.mul_nonneg r0 (by omega)
      have rs2 := rs
      rw [Int.add_mul, Int.one_mul] at rs2
      have u2 : ¬ Uni T (lo + q * prodI l) (prodI l) := fun z => u (uni_part z (by omega) (by omega) (by omega))
      have e2 : ¬ Emp T (lo + q * prodI l) (prodI l) := fun z => e (emp_part z (by omega) (by omega))
      have eq : ((q.toNat : Nat) : Int) = q := by omega
      have er : ((r.toNat : Nat) : Int) = r := by omega
      refine List.mem_flatMap.mpr ⟨q.toNat, List.mem_range.mpr (by omega), ?_⟩
      rw [eq]
      unfold entT
      rw [if_neg u2, if_neg e2]
      refine List.mem_cons.mpr (.inr (need_tree h2 ⟨k, hkl, by omega, r.toNat, ?_, ?_, u, e⟩))
      · rw [er]
        exact rs
      · rw [er]
        exact eb2
theorem tree_in {T : Int → Option RMark} {ws : List Int} {lv lo a b : Int} (hw : ∀ w ∈ ws, 2 ≤ w ∧ w ≤ 8) (h : (a, b) ∈ treeT T ws lv lo) : lv + 1 ≤ a ∧ lo ≤ b ∧ b < lo + prodI ws := by
  obtain ⟨k, hk, ea, i, hi, eb, _⟩ := (tree_need hw h).ex
  have sp : 1 ≤ spanN ws k := (prod_pos (ws := ws.drop (k + 1)) fun x hx => hw x (List.mem_of_mem_drop hx)).1
  have m0 : 0 ≤ (i : Int) * spanN ws k := Int.mul_nonneg (by omega) (by omega)
  rw [Int.add_mul, Int.one_mul] at hi
  omega
theorem tree_nodup {T : Int → Option RMark} : ∀ {ws : List Int} {lv lo : Int}, (∀ w ∈ ws, 2 ≤ w ∧ w ≤ 8) → (treeT T ws lv lo).Nodup
  | [], _, _, _ => List.nodup_nil
  | w :: l, lv, lo, hw => by
    have h2 : ∀ x ∈ l, 2 ≤ x ∧ x ≤ 8 := fun x hx => hw x (List.mem_cons_of_mem _ hx)
    have pp := (prod_pos h2).1
    have inb : ∀ i : Nat, ∀ z ∈ entT T (treeT T l (lv + 1)) (prodI l) lv (lo + (i : Int) * prodI l), lo + (i : Int) * prodI l ≤ z.2 ∧ z.2 < lo + (i : Int) * prodI l + prodI l := fun i z hz => by
      unfold entT at hz
      split at hz
      · cases hz
      · split at hz
        · cases hz
        · rcases List.mem_cons.mp hz with y | y
          · rw [y]
            exact ⟨Int.le_refl _, by show _ < _; omega⟩
          · exact (tree_in (a := z.1) (b := z.2) h2 y).2
    show ((List.range w.toNat).flatMap fun i : Nat => entT T (treeT T l (lv + 1)) (prodI l) lv (lo + (i : Int) * prodI l)).Pairwise _
    rw [List.pairwise_flatMap]
    refine ⟨fun i _ => ?_, ?_⟩
    · unfold entT
      split
      · exact List.Pairwise.nil
      · split
        · exact List.Pairwise.nil
        · refine List.nodup_cons.mpr ⟨fun z => ?_, tree_nodup h2⟩
          have := (tree_in h2 z).1
          omega
    · refine List.Pairwise.imp_of_mem ?_ (List.pairwise_lt_range (n := w.toNat))
      intro i j _ _ lt x hx y hy eq
      have b1 := inb i x hx
      have b2 := inb j y hy
      have m1 : (i : Int) * prodI l + prodI l ≤ (j : Int) * prodI l := by
        have := Int.mul_le_mul_of_nonneg_right (show (i : Int) + 1 ≤ j by omega) (show 0 ≤ prodI l by omega)
        rw [Int.add_mul, Int.one_mul] at this
        exact this
      rw [eq] at b1
      omega
/-! ### the law's own list -/
open Classical in
noncomputable def needL (T : Int → Option RMark) (ws : List Int) : List (Int × Int) :=
  (List.range (ws.length - 1)).flatMap fun lv : Nat => ((List.range (prodI ws / spanN ws lv).toNat).filter fun i : Nat => decide (¬ Uni T ((i : Int) * spanN ws lv) (spanN ws lv) ∧ ¬ Emp T ((i : Int) * spanN ws lv) (spanN ws lv))).map fun i : Nat => ((lv : Int) + 1, (i : Int) * spanN ws lv)
open Classical in
theorem need_mem {T : Int → Option RMark} {ws : List Int} {a b : Int} (hw : ∀ w ∈ ws, 2 ≤ w ∧ w ≤ 8) : (a, b) ∈ needL T ws ↔ Need T ws 0 0 a b := by
  unfold needL
  constructor
  · intro h
    obtain ⟨k, hk, h⟩ := List.mem_flatMap.mp h
    have hk := List.mem_range.mp hk
    obtain ⟨i, hi, e⟩ := List.mem_map.mp h
    obtain ⟨h1, h2⟩ := List.mem_filter.mp hi
    have h1 := List.mem_range.mp h1
    have h2 := of_decide_eq_true h2
    cases e
    have sp : 1 ≤ spanN ws k := (prod_pos (ws := ws.drop (k + 1)) fun x hx => hw x (List.mem_of_mem_drop hx)).1
    refine ⟨k, by omega, by omega, i, ?_, by omega, h2.1, h2.2⟩
    have : (i : Int) + 1 ≤ prodI ws / spanN ws k := by omega
    exact (Int.le_ediv_iff_mul_le (by omega)).mp this
  · intro h
    obtain ⟨k, hk, ea, i, hi, eb, u, e⟩ := h.ex
    have sp : 1 ≤ spanN ws k := (prod_pos (ws := ws.drop (k + 1)) fun x hx => hw x (List.mem_of_mem_drop hx)).1
    have kl : k + 1 < ws.length := by
      refine Classical.byContradiction fun z => ?_
      have e1 : spanN ws k = 1 := by
        show prodI (ws.drop (k + 1)) = 1
        rw [List.drop_of_length_le (by omega)]
        rfl
      rw [e1] at u e
      exact (one_page (T := T) (lo := b)).elim u e
    rw [Int.zero_add] at eb
    subst eb
    have := (Int.le_ediv_iff_mul_le (show 0 < spanN ws k by omega)).mpr hi
    refine List.mem_flatMap.mpr ⟨k, List.mem_range.mpr (by omega), List.mem_map.mpr ⟨i, List.mem_filter.mpr ⟨List.mem_range.mpr (by omega), decide_eq_true ⟨u, e⟩⟩, ?_⟩⟩
    rw [ea, Int.zero_add]
theorem need_nodup {T : Int → Option RMark} {ws : List Int} (hw : ∀ w ∈ ws, 2 ≤ w ∧ w ≤ 8) : (needL T ws).Nodup := by
  unfold needL
  show List.Pairwise _ _
  rw [List.pairwise_flatMap]
  refine ⟨fun k _ => ?_, ?_⟩
  · have sp : 1 ≤ spanN ws k := (prod_pos (ws := ws.drop (k + 1)) fun x hx => hw x (List.mem_of_mem_drop hx)).1
    rw [List.pairwise_map]
    refine List.Pairwise.imp ?_ (List.Pairwise.filter _ (List.pairwise_lt_range (n := _)))
    intro i j lt e
    have e2 : (i : Int) * spanN ws k = (j : Int) * spanN ws k := congrArg Prod.snd e
    have := Int.eq_of_mul_eq_mul_right (show spanN ws k ≠ 0 by omega) e2
    omega
  · refine List.Pairwise.imp ?_ (List.pairwise_lt_range (n := _))
    intro i j lt x hx y hy e
    obtain ⟨_, _, rfl⟩ := List.mem_map.mp hx
    obtain ⟨_, _, rfl⟩ := List.mem_map.mp hy
    have e1 : (i : Int) + 1 = (j : Int) + 1 := congrArg Prod.fst e
    omega
theorem need_perm {T : Int → Option RMark} {ws : List Int} (hw : ∀ w ∈ ws, 2 ≤ w ∧ w ≤ 8) : (treeT T ws 0 0).Perm (needL T ws) :=
  (List.perm_ext_iff_of_nodup (tree_nodup hw) (need_nodup hw)).mpr fun z => ⟨fun h => (need_mem (a := z.1) (b := z.2) hw).mpr (tree_need hw h), fun h => need_tree (a := z.1) (b := z.2) hw ((need_mem hw).mp h)⟩

/-! ### covers by aligned blocks -/
/-- the first span that fits at lo -/
def big (lo hi : Int) : List Int → Int
  | [] => 1
  | s :: ss => if s ∣ lo ∧ lo + s ≤ hi then s else big lo hi ss
/-- spans: from large to small, each a divisor of those before, the last one 1 -/
inductive Chain : List Int → Prop
  | one : Chain [1]
  | cons {a b : Int} {ss : List Int} : b ∣ a → b < a → Chain (b :: ss) → Chain (a :: b :: ss)
theorem Chain.pos {ss : List Int} (c : Chain ss) : ∀ x ∈ ss, 0 < x := by
  induction c with
  | one =>
    intro x hx
    obtain rfl := List.mem_singleton.mp hx
    decide
  | cons d l c ih =>
    intro x hx
    rcases List.mem_cons.mp hx with rfl | hx
    · have := ih _ List.mem_cons_self
      omega
    · exact ih x hx
theorem Chain.le {ss : List Int} (c : Chain ss) : ∀ {a : Int} {r : List Int}, ss = a :: r → ∀ x ∈ ss, x ≤ a ∧ x ∣ a := by
  induction c with
  | one =>
    intro a r e x hx
    cases e
    obtain rfl := List.mem_singleton.mp hx
    exact ⟨Int.le_refl _, Int.dvd_refl _⟩
  | cons d l c ih =>
    intro a r e x hx
    cases e
    rcases List.mem_cons.mp hx with rfl | hx
    · exact ⟨Int.le_refl _, Int.dvd_refl _⟩
    · have z := ih rfl x hx
      exact ⟨by omega, Int.dvd_trans z.2 d⟩
theorem Chain.dvd {ss : List Int} (c : Chain ss) : ∀ x ∈ ss, ∀ y ∈ ss, x ≤ y → x ∣ y := by
  induction c with
  | one =>
    intro x hx y hy _
    obtain rfl := List.mem_singleton.mp hx
    obtain rfl := List.mem_singleton.mp hy
    exact Int.dvd_refl _
  | cons d l c ih =>
    rename_i a b ss
    intro x hx y hy h
    rcases List.mem_cons.mp hx with e | hx
    · rcases List.mem_cons.mp hy with e2 | hy
      · rw [e, e2]; exact Int.dvd_refl _
      · have := (c.le rfl y hy).1
        omega
    · rcases List.mem_cons.mp hy with e2 | hy
      · rw [e2]
        exact Int.dvd_trans (c.le rfl x hx).2 d
      · exact ih x hx y hy h
theorem big_mem {ss : List Int} (c : Chain ss) (lo hi : Int) : big lo hi ss ∈ ss := by
  induction c with
  | one =>
    show (if _ then (1 : Int) else 1) ∈ _
    split <;> exact List.mem_cons_self
  | cons d l c ih =>
    unfold big
    split
    · exact List.mem_cons_self
    · exact List.mem_cons_of_mem _ ih
theorem big_fits {ss : List Int} (c : Chain ss) {lo hi : Int} (h : lo < hi) : big lo hi ss ∣ lo ∧ lo + big lo hi ss ≤ hi := by
  induction c with
  | one =>
    show (if _ then (1 : Int) else 1) ∣ lo ∧ lo + (if _ then (1 : Int) else 1) ≤ hi
    split <;> exact ⟨Int.one_dvd _, by omega⟩
  | cons d l c ih =>
    unfold big
    split
    · rename_i z
      exact z
    · exact ih
theorem big_max {ss : List Int} (c : Chain ss) {lo hi : Int} : ∀ x ∈ ss, x ∣ lo → lo + x ≤ hi → x ≤ big lo hi ss := by
  induction c with
  | one =>
    intro x hx _ _
    obtain rfl := List.mem_singleton.mp hx
    show (1 : Int) ≤ if _ then (1 : Int) else 1
    split <;> exact Int.le_refl _
  | cons d l c ih =>
    intro x hx h1 h2
    unfold big
    split
    · exact ((Chain.cons d l c).le rfl x hx).1
    · rename_i z
      rcases List.mem_cons.mp hx with e | hx
      · rw [e] at h1 h2
        exact absurd ⟨h1, h2⟩ z
      · exact ih x hx h1 h2
theorem gapC {s a c : Int} (h1 : s ∣ a) (h2 : s ∣ c) (h : a < c) : a + s ≤ c := by
  have := Int.le_of_dvd (show 0 < c - a by omega) (Int.dvd_sub h2 h1)
  omega
/-- the blocks from lo on -/
def covF (ss : List Int) (hi : Int) : Nat → Int → List (Int × Int)
  | 0, _ => []
  | n + 1, lo => if lo < hi then (lo, lo + big lo hi ss) :: covF ss hi n (lo + big lo hi ss) else []
theorem covF_more {ss : List Int} (c : Chain ss) {hi : Int} : ∀ (n m : Nat) (lo : Int), (hi - lo).toNat ≤ n → n ≤ m → covF ss hi m lo = covF ss hi n lo
  | 0, 0, _, _, _ => rfl
  | 0, m + 1, lo, h, _ => by
    unfold covF
    rw [if_neg (by omega)]
  | n + 1, 0, _, _, h => absurd h (by omega)
  | n + 1, m + 1, lo, h, h2 => by
    unfold covF
    split
    · have := c.pos _ (big_mem c lo hi)
      rw [covF_more c n m _ (by omega) (by omega)]
    · rfl
def cov (ss : List Int) (lo hi : Int) : List (Int × Int) := covF ss hi (hi - lo).toNat lo
theorem cov_end {ss : List Int} {lo hi : Int} (h : ¬ lo < hi) : cov ss lo hi = [] := by
  unfold cov
  rw [show (hi - lo).toNat = 0 by omega]
  rfl
theorem cov_step {ss : List Int} (c : Chain ss) {lo hi : Int} (h : lo < hi) : cov ss lo hi = (lo, lo + big lo hi ss) :: cov ss (lo + big lo hi ss) hi := by
  have := c.pos _ (big_mem c lo hi)
  unfold cov
  obtain ⟨k, hk⟩ : ∃ k, (hi - lo).toNat = k + 1 := ⟨(hi - lo).toNat - 1, by omega⟩
  rw [hk, covF, if_pos h, covF_more c (hi - (lo + big lo hi ss)).toNat k _ (Nat.le_refl _) (by omega)]
theorem cov_len {ss : List Int} (c : Chain ss) {hi : Int} : ∀ (n : Nat) (lo : Int), (covF ss hi n lo).length ≤ n
  | 0, _ => Nat.le_refl _
  | n + 1, lo => by
    unfold covF
    split
    · rw [List.length_cons]
      exact Nat.succ_le_succ (cov_len c n _)
    · exact Nat.zero_le _
/-- n aligned blocks from a to b -/
inductive Til (ss : List Int) : Int → Int → Nat → Prop
  | nil {a : Int} : Til ss a a 0
  | snoc {a b s : Int} {n : Nat} : Til ss a b n → s ∈ ss → s ∣ b → Til ss a (b + s) (n + 1)
theorem Til.le {ss : List Int} (c : Chain ss) {a b : Int} {n : Nat} (t : Til ss a b n) : a ≤ b := by
  induction t with
  | nil => exact Int.le_refl _
  | snoc t hs d ih =>
    have := c.pos _ hs
    omega
theorem Til.cons {ss : List Int} {a b s : Int} {n : Nat} (hs : s ∈ ss) (d : s ∣ a) (t : Til ss (a + s) b n) : Til ss a b (n + 1) := by
  generalize e : a + s = a2 at t
  induction t with
  | nil =>
    subst e
    exact .snoc .nil hs d
  | snoc t hs2 d2 ih => exact .snoc ih hs2 d2
theorem Til.first {ss : List Int} {a b : Int} {n : Nat} (t : Til ss a b n) : n = 0 ∧ a = b ∨ ∃ s m, n = m + 1 ∧ s ∈ ss ∧ s ∣ a ∧ Til ss (a + s) b m := by
  induction t with
  | nil => exact .inl ⟨rfl, rfl⟩
  | snoc t hs d ih =>
    refine .inr ?_
    rcases ih with ⟨rfl, e⟩ | ⟨s2, m, rfl, h1, h2, h3⟩
    · subst e
      exact ⟨_, 0, rfl, hs, d, .nil⟩
    · exact ⟨s2, m + 1, rfl, h1, h2, .snoc h3 hs d⟩
theorem Til.cut {ss : List Int} (c : Chain ss) {lo hi : Int} (hl : lo < hi) : ∀ {n : Nat} {a : Int}, Til ss a hi n → lo ≤ a → a < lo + big lo hi ss → ∃ m, m + 1 ≤ n ∧ Til ss (lo + big lo hi ss) hi m
  | n, a, t, h1, h2 => by
    have bm := big_mem c lo hi
    have bf := big_fits c hl
    have bp := c.pos _ bm
    rcases t.first with ⟨rfl, e⟩ | ⟨s, m, rfl, hs, d, t2⟩
    · omega
    have sp := c.pos _ hs
    have l2 := t2.le c
    by_cases sb : s ≤ big lo hi ss
    · have sB := c.dvd s hs _ bm sb
      have g := gapC d (Int.dvd_add (Int.dvd_trans sB bf.1) sB) h2
      by_cases e : a + s = lo + big lo hi ss
      · rw [e] at t2
        exact ⟨m, Nat.le_refl _, t2⟩
      · obtain ⟨m2, l, t3⟩ := Til.cut c hl t2 (by omega) (by omega)
        exact ⟨m2, by omega, t3⟩
    · have Bs := c.dvd _ bm s hs (by omega)
      have Ba := Int.dvd_trans Bs d
      have ea : a = lo := by
        by_cases z : lo < a
        · have := gapC bf.1 Ba z
          omega
        · omega
      rw [ea] at d l2
      have := big_max c s hs d l2
      omega
theorem cov_least {ss : List Int} (c : Chain ss) {hi : Int} : ∀ (n : Nat) (lo : Int), Til ss lo hi n → (cov ss lo hi).length ≤ n
  | n, lo, t => by
    by_cases h : lo < hi
    · have bp := c.pos _ (big_mem c lo hi)
      obtain ⟨m, l, t2⟩ := Til.cut c h t (Int.le_refl _) (by omega)
      rw [cov_step c h, List.length_cons]
      have := cov_least c m _ t2
      omega
    · rw [cov_end h]
      exact Nat.zero_le _
theorem cov_til {ss : List Int} (c : Chain ss) {hi : Int} : ∀ (n : Nat) (lo : Int), (hi - lo).toNat = n → lo ≤ hi → Til ss lo hi (cov ss lo hi).length
  | n, lo, hn, hl => by
    by_cases h : lo < hi
    · have bp := c.pos _ (big_mem c lo hi)
      have bf := big_fits c h
      rw [cov_step c h, List.length_cons]
      exact .cons (big_mem c lo hi) bf.1 (cov_til c (hi - (lo + big lo hi ss)).toNat _ rfl bf.2)
    · rw [cov_end h, show lo = hi by omega]
      exact .nil
termination_by n => n
/-- the k-th number of blocks at least -/
def Least (ss : List Int) (low : Int) (j : Nat) (v : Int) : Prop := 0 ≤ v ∧ Til ss low (low + j) v.toNat ∧ ∀ n, Til ss low (low + j) n → v ≤ n
theorem least_zero (ss : List Int) (low : Int) : Least ss low 0 0 := ⟨Int.le_refl _, by
  show Til ss low (low + 0) 0
  rw [Int.add_zero]
  exact .nil, fun n _ => by omega⟩
theorem least_cov {ss : List Int} (c : Chain ss) {low hi : Int} (h : low ≤ hi) {v : Int} (l : Least ss low (hi - low).toNat v) : v = (cov ss low hi).length := by
  obtain ⟨v0, t, m⟩ := l
  rw [show low + (((hi - low).toNat : Nat) : Int) = hi by omega] at t m
  have h1 := cov_least c _ _ t
  have h2 := m _ (cov_til c _ low rfl h)
  omega
/-- is lo not within a larger block of the range -/
def Free (ss : List Int) (low hi lo : Int) : Prop := ∀ x ∈ ss, lo / x * x < lo → low ≤ lo / x * x → hi < lo / x * x + x
theorem free_start (ss : List Int) (low hi : Int) : Free ss low hi low := fun x _ h1 h2 => by omega
theorem fl_dvd (x lo : Int) : x ∣ lo / x * x := Int.dvd_mul_left _ _
theorem fl_le {x lo : Int} (h : 0 < x) : lo / x * x ≤ lo ∧ lo < lo / x * x + x := by
  have h1 := Int.emod_nonneg lo (show x ≠ 0 by omega)
  have h2 := Int.emod_lt_of_pos lo h
  have h3 := Int.mul_ediv_add_emod lo x
  rw [Int.mul_comm] at h3
  omega
theorem fl_eq {x lo : Int} (h : x ∣ lo) : lo / x * x = lo := Int.ediv_mul_cancel h
theorem fl_uniq {x lo m : Int} (h : 0 < x) (d : x ∣ m) (h1 : m ≤ lo) (h2 : lo < m + x) : lo / x * x = m := by
  have f := fl_le (lo := lo) h
  by_cases z : lo / x * x < m
  · have := gapC (fl_dvd x lo) d z
    omega
  · by_cases z2 : m < lo / x * x
    · have := gapC d (fl_dvd x lo) z2
      omega
    · omega
theorem free_step {ss : List Int} (c : Chain ss) {low hi lo : Int} (h : lo < hi) (hl : low ≤ lo) (f : Free ss low hi lo) : Free ss low hi (lo + big lo hi ss) := fun x hx h1 h2 => by
  have bm := big_mem c lo hi
  have bf := big_fits c h
  have bp := c.pos _ bm
  have xp := c.pos _ hx
  have fl := fl_le (lo := lo + big lo hi ss) xp
  have fd := fl_dvd x (lo + big lo hi ss)
  generalize em : (lo + big lo hi ss) / x * x = m at *
  refine Int.not_le.mp fun z => ?_
  rcases Int.lt_trichotomy m lo with e | e | e
  · have u := fl_uniq xp fd (show m ≤ lo by omega) (by omega)
    have := f x hx (by omega) (by omega)
    rw [u] at this
    omega
  · rw [e] at fd
    have := big_max c (hi := hi) x hx fd (by omega)
    omega
  · by_cases sx : big lo hi ss ≤ x
    · have := gapC bf.1 (Int.dvd_trans (c.dvd _ bm x hx sx) fd) e
      omega
    · have xs := c.dvd x hx _ bm (by omega)
      have u := fl_eq (Int.dvd_add (Int.dvd_trans xs bf.1) xs)
      rw [em] at u
      omega
theorem free_max {ss : List Int} (c : Chain ss) {low hi lo : Int} (h : lo < hi) (f : Free ss low hi lo) {x : Int} (hx : x ∈ ss) (h1 : big lo hi ss < x) (h2 : low ≤ lo / x * x) (h3 : lo / x * x + x ≤ hi) : False := by
  have xp := c.pos _ hx
  have fl := fl_le (lo := lo) xp
  have fd := fl_dvd x lo
  by_cases e : lo / x * x < lo
  · have := f x hx e h2
    omega
  · have el : lo / x * x = lo := by omega
    rw [el] at fd h3
    have := big_max c x hx fd h3
    omega
theorem chain_spans : ∀ {ws : List Int}, ws ≠ [] → (∀ w ∈ ws, 2 ≤ w ∧ w ≤ 8) → Chain (spansOf ws)
  | [], h, _ => absurd rfl h
  | [w], _, _ => .one
  | w :: v :: ws, _, h => by
    have ih := chain_spans (ws := v :: ws) (by simp) fun x hx => h x (List.mem_cons_of_mem _ hx)
    have hv := h v (List.mem_cons_of_mem _ List.mem_cons_self)
    have pp := prod_pos (ws := ws) fun x hx => h x (List.mem_cons_of_mem _ (List.mem_cons_of_mem _ hx))
    show Chain (prodI (v :: ws) :: prodI ws :: spansOf ws)
    refine .cons (Int.dvd_mul_left _ _) ?_ ih
    show prodI ws < v * prodI ws
    have := Int.mul_le_mul_of_nonneg_right (show (2 : Int) ≤ v by omega) (show 0 ≤ prodI ws by omega)
    omega

section

-- a condition of an operator
local macro_rules | `(tactic| walk_at "cond") => `(tactic| first
  | (show (0 : Int) < _; omega)
  | (show CDiv _ _; constructor <;> (first | decide | omega))
  | (show CMul _ _; first | (refine cmul_l ?_; constructor <;> (first | decide | omega)) | (refine cmul_r ?_; constructor <;> (first | decide | omega)))
  | (show CPow _ _; exact (by refine ⟨by decide, by decide, by decide⟩))
  | (show CDivW _ _; exact ⟨by decide, by decide +kernel⟩))
local macro_rules | `(tactic| walk_at "sq") => `(tactic| first | assumption | exact Dh.mono (same_upd (by assumption)) _ _ (by assumption) | exact .inl (.inl (.inl (by assumption))) | exact .inr (.inl (.inl (by assumption))) | exact SqL.of (by assumption) | exact .inl (by assumption) | exact .inl (SqL.of (by assumption)) | exact SqT.of (by assumption) | exact .inr (SqT.of (by assumption)))
local macro_rules | `(tactic| walk_at "st") => `(tactic| first
  | refine ⟨_, rfl, ?_⟩
  | refine ⟨_, _, rfl, rfl, ?_⟩
  | refine .inl ⟨_, rfl, ?_⟩
  | refine ⟨rfl, ?_⟩
  | refine ⟨_, _, rfl, by walk_at "sq", ?_⟩
  | refine ⟨.inl ⟨rfl, _, SqL.of (by assumption)⟩, ?_⟩
  | refine ⟨by walk_at "cond", ?_⟩
  | (refine' ifBT ?hh ?_; (case hh => first | rfl | assumption))
  | (refine' ifBF ?hh ?_; (case hh => first | rfl | assumption)))
local macro_rules | `(tactic| walk_at "go") => `(tactic| repeat walk_at "st")
local macro_rules | `(tactic| walk_at "yes") => `(tactic| (refine' ifT ?hh ?_; (case hh => first | rfl | decide +kernel)))
local macro_rules | `(tactic| walk_at "no") => `(tactic| (refine' ifF ?hh ?_; (case hh => first | decide +kernel | (intro z; cases z; done))))

/-! ### _largest_block, cover -/
abbrev s_largest_block : Stmt := topS 24
theorem sc_largest_block : FnScope ["shape", "start", "end", "level", "block"] ["shape", "start", "end"] (C8.fnScope s_largest_block) := C8.fnScope_by (by decide +kernel)
abbrev s_cover : Stmt := topS 23
theorem sc_cover : FnScope ["shape", "start", "end", "blocks", "block"] ["shape", "start", "end"] (C8.fnScope s_cover) := C8.fnScope_by (by decide +kernel)
def pD (z : Int × Int) : PyData := .tuple [.int z.1, .int z.2]
def spLarge (C : Addr) : Sp := fun vs H Q _ => ∃ (p wt st dx : Addr) (ws : List Int) (lo hi : Int), vs = [.ref p, .int lo, .int hi] ∧ ShapeAt C H p wt st dx ws ∧ 0 ≤ lo ∧ lo < hi ∧ hi ≤ prodI ws ∧
  ∀ (r : Addr) (H' : Hp), Same H H' → H' r = some (.tup [.int lo, .int (lo + big lo hi (spansOf ws))]) → Q (.ref r) H'
def spCover (C D : Addr) : Sp := fun vs H Q E => ∃ (p wt st dx : Addr) (ws : List Int) (lo hi : Int), vs = [.ref p, .int lo, .int hi] ∧ ShapeAt C H p wt st dx ws ∧ -(10 ^ 9) ≤ lo ∧ lo ≤ 10 ^ 9 ∧ -(10 ^ 9) ≤ hi ∧ hi ≤ 10 ^ 9 ∧
  ((0 ≤ lo ∧ lo < hi ∧ hi ≤ prodI ws) → ∀ (L : Addr) (bs : List V) (H' : Hp), Same H H' → H L = none → H' L = some (.lst bs) → DhAll H' ((cov (spansOf ws) lo hi).map pD) bs → Q (.ref L) H') ∧
  (¬ (0 ≤ lo ∧ lo < hi ∧ hi ≤ prodI ws) → ∀ d, H d = none → E (.ref D) (some d) (upd H d (.xd (brF lo hi))))
theorem spans_drop2 {ws : List Int} {k : Nat} (h : k < ws.length) : (spansOf ws).drop k = spanN ws k :: (spansOf ws).drop (k + 1) := by
  have hl : k < (spansOf ws).length := by rw [spans_len]; exact h
  rw [List.drop_eq_getElem_cons hl]
  have e := spans_get h
  rw [List.getElem?_eq_getElem hl] at e
  rw [Option.some.inj e]
theorem span_last {ws : List Int} {k : Nat} (h : k + 1 = ws.length) : spanN ws k = 1 := by
  unfold spanN
  rw [List.drop_of_length_le (by omega)]
  rfl
theorem prod_b {ws : List Int} (sm : Small ws) : 1 ≤ prodI ws ∧ prodI ws ≤ 262144 := by
  have pp := prod_pos sm.2.2
  refine ⟨pp.1, Int.le_trans pp.2 (Int.le_trans (b := ((8 ^ 6 : Nat) : Int)) ?_ (by decide))⟩
  have : (8 : Nat) ^ ws.length ≤ 8 ^ 6 := Nat.pow_le_pow_right (by decide) sm.2.1
  exact_mod_cast this
/-- data of pairs of ints stand wherever their tuples do -/
theorem pairs_put {H : Hp} {L : Addr} {xs ys : List V} (g : H L = some (.lst xs)) : ∀ {zs : List (Int × Int)} {vs : List V}, DhAll H (zs.map pD) vs → DhAll (upd H L (.lst ys)) (zs.map pD) vs
  | [], vs, h => h
  | z :: zs, vs, h => by
    obtain ⟨v, ws, rfl, ⟨a, us, rfl, ga, h1⟩, h2⟩ := h
    have ne : a ≠ L := fun e => by
      rw [e, g] at ga
      cases ga
    refine ⟨_, ws, rfl, ⟨a, us, rfl, by rw [upd_ne ne]; exact ga, ?_⟩, pairs_put g h2⟩
    obtain ⟨v1, us1, rfl, e1, v2, us2, rfl, e2, e3⟩ := h1
    exact ⟨v1, _, rfl, e1, v2, _, rfl, e2, e3⟩
section
variable {P : Program} {w : World} {K : PySem.W.Frag} {mg : Str → Option Value} {base : Heap} {C D : Addr}
theorem ok_largest {f : Addr} {fd : FuncData} (Df : Def K mg "_largest_block" s_largest_block f fd) (b : Binds K fd ["shape", "start", "end"] []) (e_block : MetE P w K mg base 4 C "block_at" (spBlock C D)) : Cal P w K mg base 5 "_largest_block" (spLarge C) [] := by
  refine cal0 Df b .nil sc_largest_block (fun vs H Q E h => ?_) (fun cdv A outer s H vs Q E hr h => ?_)
  · obtain ⟨p, wt, st, dx, ws, lo, hi, rfl, _⟩ := h
    rfl
  obtain ⟨p, wt, st, dx, ws, lo, hi, rfl, hs, l0, l1, l2, q⟩ := h
  refine ⟨_, (pss_cons (ps_set (i := 3) sc_largest_block.nd rfl (.inl rfl) pe_int)
      (pss_cons (ps_set (i := 4) sc_largest_block.nd rfl (.inl rfl) (pe_mE e_block takes0 hr (by omega) (pv 0) (pa_cons (pv 3) (pa_cons (pv 1) pa_nil))))
      (pss_cons (ps_mk (ps_while PassesOwn.never (PW.pt (pw_or (pt_cmpR op_lt (pe_ix (ixT K rfl) (pv 4) pe_int (fun _ _ => rfl)) (pv 1) (nomark _)) (pw_or1 (pt_cmpR op_gt (pe_ix (ixT K rfl) (pv 4) pe_int (fun _ _ => rfl)) (pv 2) (nomark _)))))
      (pss_cons (ps_aug (i := 3) sc_largest_block.nd rfl (.inl rfl) pe_int ip_add)
      (pss_one (ps_set (i := 4) sc_largest_block.nd rfl (.inl rfl) (pe_mE e_block takes0 hr (by omega) (pv 0) (pa_cons (pv 3) (pa_cons (pv 1) pa_nil))))))))
      (pss_one (ps_ret (pv 4)))))), ?_⟩
  have pb := prod_b hs.sm
  have l3 : 0 < ws.length := List.length_pos_iff.mpr hs.sm.1
  walk_at "go"
  refine ⟨p, dx, _, rfl, hs.g, sh_no (by decide +kernel) (by decide +kernel) (by decide +kernel) (by decide +kernel), ?_⟩
  walk_at "go"
  refine ⟨p, wt, st, dx, ws, 0, lo, rfl, hs, l3, by omega, by omega, fun _ r H1 s1 gr => ?_, fun z => absurd ⟨l0, by omega⟩ z⟩
  refine jnS (M := fun σ H' => Same H H' ∧ ∃ (r : Addr) (y3 : Option V), H' r = some (.tup [.int lo, .int (lo + big lo hi (spansOf ws))]) ∧ σ = [sR p, sI lo, sI hi, y3, sR r]) ?_ (fun N kk => ?_)
  · rintro σ H2 ⟨s2, r, y3, g2, rfl⟩
    walk_at "go"
    exact q r _ s2 g2
  refine ⟨fun m σ H' => Ob (Same H H' ∧ ∃ (k : Nat) (r : Addr), m = ws.length - k ∧ k < ws.length ∧ big lo hi (spansOf ws) = big lo hi ((spansOf ws).drop k) ∧ H' r = some (.tup [.int (lo / spanN ws k * spanN ws k), .int (lo / spanN ws k * spanN ws k + spanN ws k)]) ∧ σ = [sR p, sI lo, sI hi, sI (k : Nat), sR r]), ⟨ws.length, ob ⟨s1, 0, r, by omega, l3, rfl, gr, rfl⟩⟩, ?_⟩
  intro m σ H2 h
  obtain ⟨s2, k, r, rfl, hk, eb, gr, rfl⟩ := unob h
  clear s1 h
  have sb := span_b hs.sm k
  have fl := fl_le (x := spanN ws k) (lo := lo) sb.1
  rw [spans_drop2 hk] at eb
  -- the way on
  have on : ¬ (spanN ws k ∣ lo ∧ lo + spanN ws k ≤ hi) → k + 1 < ws.length ∧ big lo hi (spansOf ws) = big lo hi ((spansOf ws).drop (k + 1)) := fun z => by
    constructor
    · refine Nat.lt_of_le_of_ne hk fun e => z ?_
      rw [span_last e]
      exact ⟨Int.one_dvd _, by omega⟩
    · rw [eb]
      show (if _ then _ else _) = _
      rw [if_neg z]
  walk_at "go"
  refine ⟨r, _, _, _, rfl, rfl, SqT.of gr, atI_nat (j := 0) rfl, ?_⟩
  walk_at "go"
  refine ifD (fun c => ?_) (fun c => ?_)
  rotate_left
  walk_at "go"
  refine ⟨r, _, _, _, rfl, rfl, SqT.of gr, atI_nat (j := 1) rfl, ?_⟩
  walk_at "go"
  refine ifD (fun c2 => ?_) (fun c2 => ?_)
  rotate_left
  · have el : lo / spanN ws k * spanN ws k = lo := by omega
    have ez : spanN ws k ∣ lo ∧ lo + spanN ws k ≤ hi := ⟨by rw [← el]; exact fl_dvd _ _, by omega⟩
    refine kk _ _ ⟨s2, r, _, ?_, rfl⟩
    rw [eb, gr, el]
    show _ = some (HO.tup [V.int lo, V.int (lo + if _ then _ else _)])
    rw [if_pos ez]
  all_goals
    have z : ¬ (spanN ws k ∣ lo ∧ lo + spanN ws k ≤ hi) := fun z => by
      have := fl_eq z.1
      omega
    obtain ⟨k1, eb2⟩ := on z
    refine ⟨_, fun _ _ z => z, ?_⟩
    walk_at "go"
    refine ⟨p, dx, _, rfl, (hs.same s2).g, sh_no (by decide +kernel) (by decide +kernel) (by decide +kernel) (by decide +kernel), ?_⟩
    walk_at "go"
    refine ⟨p, wt, st, dx, ws, k + 1, lo, by rw [Int.natCast_succ], hs.same s2, k1, by omega, by omega, fun _ r3 H3 s3 gr3 => ?_, fun z => absurd ⟨l0, by omega⟩ z⟩
    exact ⟨ws.length - (k + 1), by omega, ob ⟨s2.trans s3, k + 1, r3, rfl, k1, eb2, gr3, by rw [Int.natCast_succ]; rfl⟩⟩
theorem ok_cover {f : Addr} {fd : FuncData} (Df : Def K mg "cover" s_cover f fd) (b : Binds K fd ["shape", "start", "end"] []) (S : ShTxt K mg C) (e_check : CalE P w K mg base 3 "check_range" (spCheck D)) (c_largest : Cal P w K mg base 5 "_largest_block" (spLarge C) []) : CalE P w K mg base 6 "cover" (spCover C D) := by
  refine calE Df b sc_cover (fun vs H Q E h => ?_) (fun cdv A outer s H vs Q E hr h => ?_)
  · obtain ⟨p, wt, st, dx, ws, lo, hi, rfl, _⟩ := h
    rfl
  obtain ⟨p, wt, st, dx, ws, lo, hi, rfl, hs, l0, l1, h0, h1, q1, q2⟩ := h
  refine ⟨_, (pss_cons (ps_expr (pe_cE e_check (takes_of rfl rfl rfl rfl) hr (by omega) (by rfl) (pa_cons (pv 1) (pa_cons (pv 2) (pa_cons (pe_fld (pv 0) rfl) pa_nil)))))
      (pss_cons (ps_set (i := 3) sc_cover.nd rfl (.inl rfl) (pe_lst pa_nil))
      (pss_cons (ps_mk (ps_while (passes_of rfl) (pt_cmpR op_lt (pv 1) (pv 2) (nomark _))
      (pss_cons (ps_set (i := 4) sc_cover.nd rfl (.inl rfl) (C8.pe_c c_largest hr (by omega) (by rfl) (pa_cons (pv 0) (pa_cons (pv 1) (pa_cons (pv 2) pa_nil)))))
      (pss_cons (ps_expr (pe_bm PySem.F.plainAttrs_list PySem.F.slot_list_append PySem.F.type_list_append mt_append (pv 3) (pa_cons (pv 4) pa_nil)))
      (pss_one (ps_set (i := 1) sc_cover.nd rfl (.inl rfl) (pe_ix (ixT K rfl) (pv 4) pe_int (fun _ _ => rfl))))))))
      (pss_one (ps_ret (pv 3)))))), ?_⟩
  have pb := prod_b hs.sm
  have ch := chain_spans hs.sm.1 hs.sm.2.2
  have g := hs.g
  walk_at "go"
  refine ⟨_, _, _, _, _, rfl, g, S.cl, S.nP, shp, ?_⟩
  walk_at "go"
  refine ⟨lo, hi, prodI ws, rfl, log_small (by omega) (by omega), log_small (by omega) (by omega), fun z => ?_, fun z d nd => q2 z d nd⟩
  have q := q1 z
  clear q1 q2
  walk_at "go"
  refine ⟨sz, fun L nL => ?_⟩
  have s1 := same_upd (o := HO.lst []) nL
  have gL := upd_same (H := H) (a := L) (o := HO.lst [])
  generalize upd H L (HO.lst []) = H1 at *
  refine jnS (M := fun σ H' => Same H H' ∧ ∃ (bs : List V) (y1 y4 : Option V), H' L = some (.lst bs) ∧ DhAll H' ((cov (spansOf ws) lo hi).map pD) bs ∧ σ = [sR p, y1, sI hi, sR L, y4]) ?_ (fun N kk => ?_)
  · rintro σ H2 ⟨s2, bs, y1, y4, g2, d2, rfl⟩
    walk_at "go"
    exact q L bs _ s2 nL g2 d2
  refine ⟨fun m σ H' => Ob (Same H H' ∧ ∃ (cur : Int) (done : List (Int × Int)) (bs : List V) (y4 : Option V), m = (hi - cur).toNat ∧ lo ≤ cur ∧ cur ≤ hi ∧ cov (spansOf ws) lo hi = done ++ cov (spansOf ws) cur hi ∧ H' L = some (.lst bs) ∧ DhAll H' (done.map pD) bs ∧ σ = [sR p, sI cur, sI hi, sR L, y4]), ⟨(hi - lo).toNat, ob ⟨s1, lo, [], [], none, rfl, Int.le_refl _, by omega, rfl, gL, rfl, rfl⟩⟩, ?_⟩
  intro m σ H2 h
  obtain ⟨s2, cur, done, bs, y4, rfl, c0, c1, ec, gL2, db, rfl⟩ := unob h
  clear s1 h gL
  have lb := db.len
  have ln := cov_len ch (hi := hi) (hi - lo).toNat lo
  have el := congrArg List.length ec
  rw [List.length_append] at el
  rw [List.length_map] at lb
  have ln2 : (cov (spansOf ws) lo hi).length ≤ (hi - lo).toNat := ln
  walk_at "go"
  refine ifD (fun c => ?_) (fun c => ?_)
  · rw [cov_step ch c] at ec
    have bp := ch.pos _ (big_mem ch cur hi)
    have bf := big_fits ch c
    refine ⟨_, fun _ _ z => z, ?_⟩
    walk_at "go"
    refine ⟨p, wt, st, dx, ws, cur, hi, rfl, hs.same s2, by omega, c, z.2.2, fun r H3 s3 gr => ?_⟩
    have gL3 := s3 _ _ gL2
    have db3 := DhAll.mono s3 _ _ db
    generalize big cur hi (spansOf ws) = bg at *
    walk_at "go"
    refine ⟨L, _, _, rfl, rfl, gL3, sz5 (by omega), ?_⟩
    have hLr : r ≠ L := fun e => by
      rw [e, gL3] at gr
      cases gr
    have gr4 : (upd H3 L (HO.lst (bs ++ [V.ref r]))) r = some (.tup [.int cur, .int (cur + bg)]) := by
      rw [upd_ne hLr]
      exact gr
    have db4 := pairs_put (ys := bs ++ [V.ref r]) gL3 db3
    have s4 := same_put (o := HO.lst (bs ++ [V.ref r])) (s2.trans s3) nL
    have gL4 := upd_same (H := H3) (a := L) (o := HO.lst (bs ++ [V.ref r]))
    show _
    generalize upd H3 L (HO.lst (bs ++ [V.ref r])) = H4 at *
    walk_at "go"
    refine ⟨r, _, _, _, rfl, rfl, SqT.of gr4, atI_nat (j := 1) rfl, ?_⟩
    refine ⟨(hi - (cur + bg)).toNat, by omega, ob ⟨s4, cur + bg, done ++ [(cur, cur + bg)], bs ++ [V.ref r], sR r, rfl, by omega, by omega, by rw [ec, List.append_assoc]; rfl, gL4, ?_, rfl⟩⟩
    rw [List.map_append]
    exact DhAll.snoc db4 ⟨r, _, rfl, gr4, _, _, rfl, rfl, _, _, rfl, rfl, rfl⟩
  · rw [cov_end c, List.append_nil] at ec
    exact kk _ _ ⟨s2, bs, _, _, gL2, by rw [ec]; exact db, rfl⟩
end

end

section

-- a condition of an operator
local macro_rules | `(tactic| walk_at "cond") => `(tactic| first
  | (show (0 : Int) < _; omega)
  | (show CDiv _ _; constructor <;> (first | decide | omega))
  | (show CMul _ _; first | (refine cmul_l ?_; constructor <;> (first | decide | omega)) | (refine cmul_r ?_; constructor <;> (first | decide | omega)))
  | (show CPow _ _; exact (by refine ⟨by decide, by decide, by decide⟩))
  | (show CDivW _ _; exact ⟨by decide, by decide +kernel⟩))
local macro_rules | `(tactic| walk_at "sq") => `(tactic| first | assumption | exact Dh.mono (same_upd (by assumption)) _ _ (by assumption) | exact .inl (.inl (.inl (by assumption))) | exact .inr (.inl (.inl (by assumption))) | exact SqL.of (by assumption) | exact .inl (by assumption) | exact .inl (SqL.of (by assumption)) | exact SqT.of (by assumption) | exact .inr (SqT.of (by assumption)))
local macro_rules | `(tactic| walk_at "st") => `(tactic| first
  | refine ⟨_, rfl, ?_⟩
  | refine ⟨_, _, rfl, rfl, ?_⟩
  | refine .inl ⟨_, rfl, ?_⟩
  | refine ⟨rfl, ?_⟩
  | refine ⟨_, _, rfl, by walk_at "sq", ?_⟩
  | refine ⟨.inl ⟨rfl, _, SqL.of (by assumption)⟩, ?_⟩
  | refine ⟨by walk_at "cond", ?_⟩
  | (refine' ifBT ?hh ?_; (case hh => first | rfl | assumption))
  | (refine' ifBF ?hh ?_; (case hh => first | rfl | assumption)))
local macro_rules | `(tactic| walk_at "go") => `(tactic| repeat walk_at "st")
local macro_rules | `(tactic| walk_at "yes") => `(tactic| (refine' ifT ?hh ?_; (case hh => first | rfl | decide +kernel)))
local macro_rules | `(tactic| walk_at "no") => `(tactic| (refine' ifF ?hh ?_; (case hh => first | decide +kernel | (intro z; cases z; done))))

-- facts carried to the heap at hand, from the facts of the context
local macro_rules | `(tactic| walk_at "lnk") => `(tactic| first | assumption | exact same_upd (by assumption))
local macro_rules | `(tactic| walk_at "sm") => `(tactic| first | walk_at "lnk" | exact same_rfl | (refine Same.trans ?_ (by walk_at "lnk"); walk_at "sm"))
local macro_rules | `(tactic| walk_at "at") => `(tactic| first | assumption | exact upd_same | (refine Same.get (by walk_at "lnk") ?_; walk_at "at"))
local macro_rules | `(tactic| walk_at "ix") => `(tactic| first
  | exact atI_nat (j := 0) rfl | exact atI_nat (j := 1) rfl | exact atI_nat (j := 2) rfl | exact atI_nat (j := 3) rfl
  | exact atI_nat (j := 4) rfl | exact atI_nat (j := 5) rfl | exact atI_nat (j := 6) rfl | assumption)
local macro_rules | `(tactic| walk_at "sT") => `(tactic| first | exact SqT.of (by walk_at "at") | exact SqL.of (by walk_at "at"))
local macro_rules | `(tactic| walk_at "st") => `(tactic| refine ⟨_, _, _, _, rfl, rfl, by walk_at "sT", by walk_at "ix", ?_⟩)
local macro_rules | `(tactic| walk_at "side") => `(tactic| first | rfl | assumption | walk_at "at" | walk_at "sm" | omega | decide)
-- a call: the promise's letters from its arguments, then what is asked from the context
local macro_rules | `(tactic| walk_at "call") => `(tactic| ((repeat (apply Exists.intro)); refine And.intro rfl ?_; repeat (refine And.intro (by walk_at "side") ?_)))

/-! ### _law_is_block -/
abbrev s_is_block : Stmt := topS 45
theorem sc_is_block : FnScope ["_law_fan_here", "_law_low", "_law_high", "_law_span"] ["_law_fan_here", "_law_low", "_law_high"] (C8.fnScope s_is_block) := C8.fnScope_by (by decide +kernel)
def spIsB : Sp := fun vs H Q _ => ∃ (fa : Addr) (lo hi : Int) (ws : List Int) (k : Nat), vs = [.ref fa, .int lo, .int hi] ∧ H fa = some (.lst (ws.map V.int)) ∧ Small ws ∧ k < ws.length ∧ hi - lo = spanN ws k ∧ spanN ws k ∣ lo ∧ ∀ H', Same H H' → Q (.bl true) H'
section
variable {P : Program} {w : World} {K : PySem.W.Frag} {mg : Str → Option Value} {base : Heap}
theorem ok_isb {f : Addr} {fd : FuncData} (Df : Def K mg "_law_is_block" s_is_block f fd) (b : Binds K fd ["_law_fan_here", "_law_low", "_law_high"] []) (T : Txt mg) (c_fan_spans : Cal P w K mg base 1 "_law_fan_spans" (spFanSpans K) []) : Cal P w K mg base 2 "_law_is_block" spIsB [] := by
  refine cal0 Df b .nil sc_is_block (fun vs H Q E h => ?_) (fun cdv A outer s H vs Q E hr h => ?_)
  · obtain ⟨fa, lo, hi, ws, k, rfl, _⟩ := h
    rfl
  obtain ⟨fa, lo, hi, ws, k, rfl, gf, sm, hk, eh, dv, q⟩ := h
  refine ⟨_, (pss_one (ps_ret (pe_cmpR op_gt (pe_callB (lenQ K rfl) (by rfl) T.len PySem.boot_len (pa_cons (pe_lc (own := [("_law_span", 3)]) (g := gName 3) rfl sc_is_block.nd (pi_list (C8.pe_c c_fan_spans hr (by omega) (by rfl) (pa_cons (pv 0) pa_nil))) (blkOk_by (own := [("_law_span", 3)]) (N := ["_law_fan_here", "_law_low", "_law_high", "_law_span"]) (sc := C8.fnScope s_is_block) (by decide +kernel)) (fun _ _ _ _ _ => (pg_name (i := 3) sc_is_block.nd rfl (.inl rfl))) (fun _ _ _ _ _ => (pts_one (PW.pt (pw_and (pt_cmpR op_eq (pe_op op_sub (pv 2) (pv 1)) (pv 3) (nomark _)) (pw_and1 (pt_cmpR op_eq (pe_op op_mod (pe_callTy call_int1 (by rfl) T.int (by decide +kernel) (pa_cons (pv 1) pa_nil)) (pv 3)) pe_int (nomark _))))))) (fun _ _ _ _ _ => (pv 3))) pa_nil)) pe_int (nomark _)))), ?_⟩
  walk_at "go"
  refine ⟨sm, fun sa H1 s1 nsa gs => ?_⟩
  have sl := spans_len ws
  have sg := spans_get hk
  have h6 := sm.2.1
  walk_at "go"
  refine ⟨⟨_, SqL.of gs⟩, fun D nD => lc_list (K := K) (a := sa) (xs := (spansOf ws).map V.int) (fun i H' => Ob (Same H1 H' ∧ ∃ vs : List V, H' D = some (.lst vs) ∧ vs.length ≤ i ∧ (k < i → 0 < vs.length))) (ob ⟨same_upd nD, [], upd_same, Nat.le_refl _, fun z => absurd z (Nat.not_lt_zero _)⟩) (fun i H' _ h => SqL.of ((unob h).1 _ _ gs)) ?_ ?_⟩
  · intro i v H2 hi h
    obtain ⟨s2, vs, gD, vl, vk⟩ := unob h
    clear h
    have hil : i < ws.length := by
      have := (List.getElem?_eq_some_iff.mp hi).1
      rw [List.length_map] at this
      omega
    rw [List.getElem?_map, spans_get hil] at hi
    obtain rfl := Option.some.inj hi
    have sp := span_b sm i
    have put : ∀ v, Ob (Same H1 (upd H2 D (.lst (vs ++ [v]))) ∧ ∃ us : List V, (upd H2 D (.lst (vs ++ [v]))) D = some (.lst us) ∧ us.length ≤ i + 1 ∧ (k < i + 1 → 0 < us.length)) := fun v => ob ⟨same_put s2 nD, _, upd_same, by rw [List.length_append]; exact Nat.add_le_add_right vl 1, fun _ => by rw [List.length_append]; exact Nat.succ_pos _⟩
    have keep : i ≠ k → Ob (Same H1 H2 ∧ ∃ us : List V, H2 D = some (.lst us) ∧ us.length ≤ i + 1 ∧ (k < i + 1 → 0 < us.length)) := fun z => ob ⟨s2, vs, gD, by omega, fun y => vk (by omega)⟩
    refine ⟨rfl, ?_⟩
    walk_at "go"
    refine ifEq (fun c => ?_) (fun c => ?_)
    · walk_at "go"
      refine ifEq (fun c2 => ?_) (fun c2 => ?_)
      · walk_at "go"
        exact ⟨vs, gD, sz5 (by omega), put _⟩
      · refine keep fun z => c2 ?_
        rw [z]
        exact Int.emod_eq_zero_of_dvd dv
    · exact keep fun z => c (by rw [z]; exact eh)
  · intro H2 h
    obtain ⟨s2, vs, gD, vl, vk⟩ := unob h
    rw [List.length_map, sl] at vk
    walk_at "go"
    have e : decide ((0 : Int) < ((vs.length : Nat) : Int)) = true := decide_eq_true (by have := vk hk; omega)
    dsimp only
    rw [e]
    exact q H2 (s1.trans s2)
end

end

section

-- a condition of an operator
local macro_rules | `(tactic| walk_at "cond") => `(tactic| first
  | (show (0 : Int) < _; omega)
  | (show CDiv _ _; constructor <;> (first | decide | omega))
  | (show CMul _ _; first | (refine cmul_l ?_; constructor <;> (first | decide | omega)) | (refine cmul_r ?_; constructor <;> (first | decide | omega)))
  | (show CPow _ _; exact (by refine ⟨by decide, by decide, by decide⟩))
  | (show CDivW _ _; exact ⟨by decide, by decide +kernel⟩))
local macro_rules | `(tactic| walk_at "sq") => `(tactic| first | assumption | exact Dh.mono (same_upd (by assumption)) _ _ (by assumption) | exact .inl (.inl (.inl (by assumption))) | exact .inr (.inl (.inl (by assumption))) | exact SqL.of (by assumption) | exact .inl (by assumption) | exact .inl (SqL.of (by assumption)) | exact SqT.of (by assumption) | exact .inr (SqT.of (by assumption)))
local macro_rules | `(tactic| walk_at "st") => `(tactic| first
  | refine ⟨_, rfl, ?_⟩
  | refine ⟨_, _, rfl, rfl, ?_⟩
  | refine .inl ⟨_, rfl, ?_⟩
  | refine ⟨rfl, ?_⟩
  | refine ⟨_, _, rfl, by walk_at "sq", ?_⟩
  | refine ⟨.inl ⟨rfl, _, SqL.of (by assumption)⟩, ?_⟩
  | refine ⟨by walk_at "cond", ?_⟩
  | (refine' ifBT ?hh ?_; (case hh => first | rfl | assumption))
  | (refine' ifBF ?hh ?_; (case hh => first | rfl | assumption)))
local macro_rules | `(tactic| walk_at "go") => `(tactic| repeat walk_at "st")
local macro_rules | `(tactic| walk_at "yes") => `(tactic| (refine' ifT ?hh ?_; (case hh => first | rfl | decide +kernel)))
local macro_rules | `(tactic| walk_at "no") => `(tactic| (refine' ifF ?hh ?_; (case hh => first | decide +kernel | (intro z; cases z; done))))

-- facts carried to the heap at hand, from the facts of the context
local macro_rules | `(tactic| walk_at "lnk") => `(tactic| first | assumption | exact same_upd (by assumption))
local macro_rules | `(tactic| walk_at "sm") => `(tactic| first | walk_at "lnk" | exact same_rfl | (refine Same.trans ?_ (by walk_at "lnk"); walk_at "sm"))
local macro_rules | `(tactic| walk_at "at") => `(tactic| first | assumption | exact upd_same | (refine Same.get (by walk_at "lnk") ?_; walk_at "at"))
local macro_rules | `(tactic| walk_at "ix") => `(tactic| first
  | exact atI_nat (j := 0) rfl | exact atI_nat (j := 1) rfl | exact atI_nat (j := 2) rfl | exact atI_nat (j := 3) rfl
  | exact atI_nat (j := 4) rfl | exact atI_nat (j := 5) rfl | exact atI_nat (j := 6) rfl | assumption)
local macro_rules | `(tactic| walk_at "sT") => `(tactic| first | exact SqT.of (by walk_at "at") | exact SqL.of (by walk_at "at"))
local macro_rules | `(tactic| walk_at "st") => `(tactic| refine ⟨_, _, _, _, rfl, rfl, by walk_at "sT", by walk_at "ix", ?_⟩)
local macro_rules | `(tactic| walk_at "side") => `(tactic| first | rfl | assumption | walk_at "at" | walk_at "sm" | omega | decide)
-- a call: the promise's letters from its arguments, then what is asked from the context
local macro_rules | `(tactic| walk_at "call") => `(tactic| ((repeat (apply Exists.intro)); refine And.intro rfl ?_; repeat (refine And.intro (by walk_at "side") ?_)))

/-! ### _law_apart -/
abbrev s_apart : Stmt := topS 46
theorem sc_apart : FnScope ["_law_marks", "_law_fan_here", "_law_page", "_law_later", "_law_span", "_law_low"] ["_law_marks", "_law_fan_here", "_law_page", "_law_later"] (C8.fnScope s_apart) := C8.fnScope_by (by decide +kernel)
structure TxtA (mg : Str → Option Value) : Prop extends Txt mg where
  sorted : mg "sorted" = none
theorem srtI {X : Cx} (K : PySem.W.Frag) (h : X.K = K) : CallR X (.builtin "sorted") (rSortedI K) := by
  subst h
  exact cr_sortedI
@[irreducible] def spApart : Sp := fun vs H Q _ => ∃ (da fa : Addr) (pg la : Int) (ws : List Int) (T : Int → Option RMark) (n : Nat), vs = [.ref da, .ref fa, .int pg, .int la] ∧ DTab H da T n ∧ H fa = some (.lst (ws.map V.int)) ∧ Small ws ∧ prodI ws ≤ 5000 ∧ 0 ≤ pg ∧ pg ≤ 5000 ∧ (∀ p m, T p = some m → MOk m) ∧
  (∀ k < ws.length, pg / spanN ws k = la / spanN ws k → ¬ Uni T (pg / spanN ws k * spanN ws k) (spanN ws k)) ∧ ∀ H', Same H H' → Q (.bl true) H'
section
variable {P : Program} {w : World} {K : PySem.W.Frag} {mg : Str → Option Value} {base : Heap}
theorem spans_mem {ws : List Int} {x : Int} (h : x ∈ spansOf ws) : ∃ k < ws.length, x = spanN ws k := by
  obtain ⟨k, hk, e⟩ := List.mem_iff_getElem.mp h
  have hk' : k < ws.length := by rw [← spans_len]; exact hk
  have := spans_get hk'
  rw [List.getElem?_eq_getElem hk, e] at this
  exact ⟨k, hk', Option.some.inj this⟩
theorem ok_apart {f : Addr} {fd : FuncData} (Df : Def K mg "_law_apart" s_apart f fd) (b : Binds K fd ["_law_marks", "_law_fan_here", "_law_page", "_law_later"] []) (T : TxtA mg) (c_fan_spans : Cal P w K mg base 1 "_law_fan_spans" (spFanSpans K) []) (c_uniform : Cal P w K mg base 2 "_law_uniform" spUni []) : Cal P w K mg base 3 "_law_apart" spApart [] := by
  refine cal0 Df b .nil sc_apart (fun vs H Q E h => ?_) (fun cdv A outer s H vs Q E hr h => ?_)
  · unfold spApart at h
    obtain ⟨da, fa, pg, la, ws, Tb, n, rfl, _⟩ := h
    rfl
  unfold spApart at h
  obtain ⟨da, fa, pg, la, ws, Tb, n, rfl, dt, gf, sm, pl, g0, g1, mo, ap, q⟩ := h
  refine ⟨_, (pss_cons (ps_mk (ps_for PassesOwn.never rfl (pi_list (pe_callB (srtI K rfl) (by rfl) T.sorted (by decide +kernel) (pa_cons (C8.pe_c c_fan_spans hr (by omega) (by rfl) (pa_cons (pv 1) pa_nil)) pa_nil))) (pg_name (i := 4) sc_apart.nd rfl (.inl rfl))
      (pss_cons (ps_set (i := 5) sc_apart.nd rfl (.inl rfl) (pe_op op_mul (pe_op op_fdiv (pv 2) (pv 4)) (pv 4)))
      (pss_one (ps_mk (ps_if (pt_chain op_le op_lt (pv 5) (pv 3) (pe_op op_add (pv 5) (pv 4)))
      (pss_one (ps_ret (pe_not (C8.pe_c c_uniform hr (by omega) (by rfl) (pa_cons (pv 0) (pa_cons (pv 5) (pa_cons (pe_op op_add (pv 5) (pv 4)) pa_nil)))))))
      pss_nil))))))
      (pss_one (ps_ret pe_bl))), ?_⟩
  refine jnS (M := fun σ H' => Same H H') (fun σ H1 h => ?_) (fun N kk => ?_)
  · walk_at "go"
    exact q H1 h
  walk_at "go"
  refine ⟨sm, fun sa H1 s1 nsa gs => ?_⟩
  walk_at "go"
  intro ss p pm _ np
  have s2 := s1.trans (same_upd (o := HO.lst (ss.map V.int)) np)
  have gp := upd_same (H := H1) (a := p) (o := HO.lst (ss.map V.int))
  generalize upd H1 p (HO.lst (ss.map V.int)) = H2 at *
  show _
  refine ⟨p, rfl, ⟨_, SqL.of gp⟩, for_list (K := K) (a := p) (xs := ss.map V.int) (fun i σ H' => Ob (Same H2 H' ∧ ∃ y4 y5, σ = [sR da, sR fa, sI pg, sI la, y4, y5])) (ob ⟨same_rfl, _, _, rfl⟩) (fun i σ H' _ h => SqL.of ((unob h).1 _ _ gp)) ?_ (fun σ H' h => kk _ _ (s2.trans (unob h).1))⟩
  intro i v σ H3 hi h
  obtain ⟨s3, y4, y5, rfl⟩ := unob h
  clear h
  obtain ⟨x, hx, rfl⟩ : ∃ x ∈ ss, v = V.int x := by
    obtain ⟨q', k1, k2⟩ := List.mem_map.mp (List.mem_of_getElem? hi)
    exact ⟨q', k1, k2.symm⟩
  obtain ⟨k, hk, rfl⟩ := spans_mem (pm.mem_iff.mp hx)
  have sp := span_b sm k
  have ap := ap k hk
  have sl := span_le sm k
  generalize spanN ws k = s at *
  have fl := fl_le (x := s) (lo := pg) sp.1
  have f0 : 0 ≤ pg / s * s := Int.mul_nonneg (Int.ediv_nonneg g0 (by omega)) (by omega)
  walk_at "go"
  dsimp only
  have fd := fl_dvd s pg
  have uq : ∀ z : Int, pg / s * s ≤ z → z < pg / s * s + s → pg / s = z / s := fun z c c2 => Int.eq_of_mul_eq_mul_right (show s ≠ 0 by omega) (fl_uniq sp.1 fd c c2).symm
  generalize pg / s * s = lw at *
  refine un ?_
  walk_at "go"
  refine ifD (fun c => ?_) (fun c => ?_)
  rotate_left
  · walk_at "go"
    exact ob ⟨s3, _, _, rfl⟩
  walk_at "go"
  refine ifD (fun c2 => ?_) (fun c2 => ?_)
  rotate_left
  · walk_at "go"
    exact ob ⟨s3, _, _, rfl⟩
  have nu := ap (uq la c c2)
  walk_at "go"
  unfold spUni
  refine ⟨da, lw, s, Tb, n, rfl, dt.same (s2.trans s3), sp.1, by omega, by omega, by omega, mo, fun z => absurd z nu, fun _ H4 s4 => ?_⟩
  walk_at "go"
  exact q H4 ((s2.trans s3).trans s4)
end

end

section

-- a condition of an operator
local macro_rules | `(tactic| walk_at "cond") => `(tactic| first
  | (show (0 : Int) < _; omega)
  | (show CDiv _ _; constructor <;> (first | decide | omega))
  | (show CMul _ _; first | (refine cmul_l ?_; constructor <;> (first | decide | omega)) | (refine cmul_r ?_; constructor <;> (first | decide | omega)))
  | (show CPow _ _; exact (by refine ⟨by decide, by decide, by decide⟩))
  | (show CDivW _ _; exact ⟨by decide, by decide +kernel⟩))
local macro_rules | `(tactic| walk_at "sq") => `(tactic| first | assumption | exact Dh.mono (same_upd (by assumption)) _ _ (by assumption) | exact .inl (.inl (.inl (by assumption))) | exact .inr (.inl (.inl (by assumption))) | exact SqL.of (by assumption) | exact .inl (by assumption) | exact .inl (SqL.of (by assumption)) | exact SqT.of (by assumption) | exact .inr (SqT.of (by assumption)))
local macro_rules | `(tactic| walk_at "st") => `(tactic| first
  | refine ⟨_, rfl, ?_⟩
  | refine ⟨_, _, rfl, rfl, ?_⟩
  | refine .inl ⟨_, rfl, ?_⟩
  | refine ⟨rfl, ?_⟩
  | refine ⟨_, _, rfl, by walk_at "sq", ?_⟩
  | refine ⟨.inl ⟨rfl, _, SqL.of (by assumption)⟩, ?_⟩
  | refine ⟨by walk_at "cond", ?_⟩
  | (refine' ifBT ?hh ?_; (case hh => first | rfl | assumption))
  | (refine' ifBF ?hh ?_; (case hh => first | rfl | assumption)))
local macro_rules | `(tactic| walk_at "go") => `(tactic| repeat walk_at "st")
local macro_rules | `(tactic| walk_at "yes") => `(tactic| (refine' ifT ?hh ?_; (case hh => first | rfl | decide +kernel)))
local macro_rules | `(tactic| walk_at "no") => `(tactic| (refine' ifF ?hh ?_; (case hh => first | decide +kernel | (intro z; cases z; done))))

/-! ### _law_describes -/
abbrev s_describes : Stmt := topS 44
theorem sc_describes : FnScope ["_law_rows", "_law_marks", "_law_limit", "_law_found", "_law_edge", "_law_row", "_law_mark", "_law_page"] ["_law_rows", "_law_marks", "_law_limit"] (C8.fnScope s_describes) := C8.fnScope_by (by decide +kernel)
structure TxtD (mg : Str → Option Value) : Prop extends Txt mg where
  min : mg "min" = none
def spDesc : Sp := fun vs H Q _ => ∃ (l da : Addr) (lim : Int) (us : List V) (xs : List RRow) (T : Int → Option RMark) (n : Nat), vs = [.ref l, .ref da, .int lim] ∧ H l = some (.lst us) ∧ DhAll H (xs.map rD) us ∧ Asc 0 xs ∧ (∀ x ∈ xs, x.e ≤ lim) ∧ (∀ x ∈ xs, MOk x.m) ∧ TbIs xs T ∧ DTab H da T n ∧ n ≤ 900000 ∧ lim ≤ 5000 ∧
  ∀ H', Same H H' → Q (.bl true) H'
section
variable {P : Program} {w : World} {K : PySem.W.Frag} {mg : Str → Option Value} {base : Heap} {C : Addr}
theorem dle_mark (m : RMark) : Dle 4 (mD m) := ⟨by show 3 ≤ 100000; decide, fun d hd => by
    simp only [List.mem_cons, List.not_mem_nil, or_false] at hd
    rcases hd with rfl | rfl | rfl <;> trivial⟩
theorem ok_describes {f : Addr} {fd : FuncData} (Df : Def K mg "_law_describes" s_describes f fd) (b : Binds K fd ["_law_rows", "_law_marks", "_law_limit"] []) (T : TxtD mg) (c_is_whole : Cal P w K mg base 1 "_law_is_whole" spWhole []) (c_same : Cal P w K mg base 5 "_law_same" (spSame 4) []) (c_after : Cal P w K mg base 1 "_law_after" spNext []) : Cal P w K mg base 6 "_law_describes" spDesc [] := by
  refine cal0 Df b .nil sc_describes (fun vs H Q E h => ?_) (fun cdv A outer s H vs Q E hr h => ?_)
  · obtain ⟨l, da, lim, us, xs, Tb, n, rfl, _⟩ := h
    rfl
  obtain ⟨l, da, lim, us, xs, Tb, n, rfl, gl, dl, asc, el, ok, tt, dt, n0, l1, q⟩ := h
  refine ⟨_, (pss_cons (ps_mk (ps_if (pt_not (pt_val (pe_callB is_list (by rfl) T.isinstance (by decide +kernel) (pa_cons (pv 0) (pa_cons (pe_bltn (v := .ty "list") (by rfl) T.list (by decide +kernel) rfl) pa_nil)))))
      (pss_one (ps_ret pe_bl))
      pss_nil))
      (pss_cons (ps_set (i := 3) sc_describes.nd rfl (.inl rfl) pe_int)
      (pss_cons (ps_set (i := 4) sc_describes.nd rfl (.inl rfl) pe_int)
      (pss_cons (ps_mk (ps_for PassesOwn.never rfl (pi_list (pv 0)) (pg_name (i := 5) sc_describes.nd rfl (.inl rfl))
      (pss_cons (ps_mk (ps_if (PW.pt (pw_or (pt_not (pt_val (pe_callB is_tuple (by rfl) T.isinstance (by decide +kernel) (pa_cons (pv 5) (pa_cons (pe_bltn (v := .ty "tuple") (by rfl) T.tuple (by decide +kernel) rfl) pa_nil))))) (pw_or1 (pt_cmpR op_ne (pe_callB (lenQ K rfl) (by rfl) T.len PySem.boot_len (pa_cons (pv 5) pa_nil)) pe_int (nomark _)))))
      (pss_one (ps_ret pe_bl))
      pss_nil))
      (pss_cons (ps_mk (ps_if (PW.pt (pw_or (pt_not (pt_val (C8.pe_c c_is_whole hr (by omega) (by rfl) (pa_cons (pe_ix (ixT K rfl) (pv 5) pe_int (fun _ _ => rfl)) pa_nil)))) (pw_or (pt_not (pt_val (C8.pe_c c_is_whole hr (by omega) (by rfl) (pa_cons (pe_ix (ixT K rfl) (pv 5) pe_int (fun _ _ => rfl)) pa_nil)))) (pw_or1 (pt_not (pt_chain3 op_le op_lt op_le (pv 4) (pe_ix (ixT K rfl) (pv 5) pe_int (fun _ _ => rfl)) (pe_ix (ixT K rfl) (pv 5) pe_int (fun _ _ => rfl)) (pv 2)))))))
      (pss_one (ps_ret pe_bl))
      pss_nil))
      (pss_cons (ps_set (i := 4) sc_describes.nd rfl (.inl rfl) (pe_ix (ixT K rfl) (pv 5) pe_int (fun _ _ => rfl)))
      (pss_cons (ps_set (i := 3) sc_describes.nd rfl (.inl rfl) (pe_op op_sub (pe_op op_add (pv 3) (pe_ix (ixT K rfl) (pv 5) pe_int (fun _ _ => rfl))) (pe_ix (ixT K rfl) (pv 5) pe_int (fun _ _ => rfl))))
      (pss_cons (ps_set (i := 6) sc_describes.nd rfl (.inl rfl) (pe_tup (pa_cons (pe_ix (ixT K rfl) (pv 5) pe_int (fun _ _ => rfl)) (pa_cons (pe_ix (ixT K rfl) (pv 5) pe_int (fun _ _ => rfl)) (pa_cons (pe_ix (ixT K rfl) (pv 5) pe_int (fun _ _ => rfl)) pa_nil)))))
      (pss_cons (ps_mk (ps_if (PW.pt (pw_or (pt_cmp (pc_dnotin (hu_of hr) (pe_ix (ixT K rfl) (pv 5) pe_int (fun _ _ => rfl)) (pv 1))) (pw_or1 (pt_not (pt_val (C8.pe_c c_same hr (by omega) (by rfl) (pa_cons (pv 6) (pa_cons (pe_dget (hu_of hr) (pv 1) (pe_ix (ixT K rfl) (pv 5) pe_int (fun _ _ => rfl)) (fun _ _ => rfl)) pa_nil))))))))
      (pss_one (ps_ret pe_bl))
      pss_nil))
      (pss_one (ps_mk (ps_for PassesOwn.never rfl (pi_range2 (by rfl) T.range (pa_cons (pe_ix (ixT K rfl) (pv 5) pe_int (fun _ _ => rfl)) (pa_cons (pe_callB (call_min2 rfl) (by rfl) T.min (by decide +kernel) (pa_cons (pe_ix (ixT K rfl) (pv 5) pe_int (fun _ _ => rfl)) (pa_cons (pe_op op_add (pe_op op_add (pe_ix (ixT K rfl) (pv 5) pe_int (fun _ _ => rfl)) (pe_callB call_lenD (by rfl) T.len PySem.boot_len (pa_cons (pv 1) pa_nil))) pe_int) pa_nil))) pa_nil))) (pg_name (i := 7) sc_describes.nd rfl (.inl rfl))
      (pss_cons (ps_mk (ps_if (PW.pt (pw_or (pt_cmp (pc_dnotin (hu_of hr) (pv 7) (pv 1))) (pw_or1 (pt_cmpR (neQ K rfl hr.units) (pv 6) (pe_dget (hu_of hr) (pv 1) (pv 7) (fun _ _ => rfl)) (nomark _)))))
      (pss_one (ps_ret pe_bl))
      pss_nil))
      (pss_one (ps_set (i := 6) sc_describes.nd rfl (.inl rfl) (C8.pe_c c_after hr (by omega) (by rfl) (pa_cons (pv 6) pa_nil))))))))))))))))
      (pss_one (ps_ret (pe_cmpR op_eq (pv 3) (pe_callB call_lenD (by rfl) T.len PySem.boot_len (pa_cons (pv 1) pa_nil)) (nomark _)))))))), ?_⟩
  have o := asc.ord
  have ul := rows_len dl
  obtain ⟨kvs, gd, kl, tk⟩ := dt.ex
  have kl0 := kl.len
  have ksum := keys_sum o kl (fun p => by rw [tab_some tk, tt p])
  refine jnS (M := fun σ H' => H' = H ∧ σ = [sR l, sR da, sI lim, none, none, none, none, none]) ?_ (fun N kk => ?_)
  rotate_left
  · walk_at "go"
    refine ⟨.ref l, .list (xs.map rD), rfl, ⟨l, us, rfl, gl, dl⟩, ?_⟩
    walk_at "go"
    exact kk _ _ ⟨rfl, rfl⟩
  rintro σ H1 ⟨e1, rfl⟩
  subst e1
  walk_at "go"
  refine jnS (M := fun σ H' => Same H1 H' ∧ ∃ y4 y5 y6 y7, σ = [sR l, sR da, sI lim, sI (sumR xs), y4, y5, y6, y7]) ?_ (fun N kk => ?_)
  · rintro σ H2 ⟨s2, y4, y5, y6, y7, rfl⟩
    walk_at "go"
    refine ⟨da, kvs, rfl, s2 _ _ gd, ?_⟩
    walk_at "go"
    have e : decide (V.int (sumR xs) = V.int ((kvs.length : Nat) : Int)) = true := decide_eq_true (by rw [ksum])
    rw [e]
    exact q _ s2
  walk_at "go"
  refine ⟨⟨_, SqL.of gl⟩, for_list (K := K) (a := l) (xs := us) (fun i σ H' => Ob (Same H1 H' ∧ ∃ (ed : Int) (y5 y6 y7 : Option V), (∀ x ∈ xs.drop i, ed ≤ x.s) ∧ σ = [sR l, sR da, sI lim, sI (sumR (xs.take i)), sI ed, y5, y6, y7])) (ob ⟨same_rfl, 0, none, none, none, fun x hx => (asc.mem hx).1, rfl⟩) (fun i σ H' _ h => SqL.of ((unob h).1 _ _ gl)) ?_ ?_⟩
  rotate_left
  · intro σ H2 h
    obtain ⟨s2, ed, y5, y6, y7, _, rfl⟩ := unob h
    rw [show List.take us.length xs = xs by rw [ul, List.take_length]]
    exact kk _ _ ⟨s2, _, _, _, _, rfl⟩
  intro i v σ H2 hi h
  obtain ⟨s2, ed, y5, y6, y7, hed, rfl⟩ := unob h
  clear h kk
  have hil : i < xs.length := by
    rw [← ul]
    exact (List.getElem?_eq_some_iff.mp hi).1
  obtain ⟨a, ea, ga⟩ := rows_get dl (List.getElem?_eq_getElem hil)
  rw [hi] at ea
  obtain rfl := Option.some.inj ea
  have et : sumR (xs.take (i + 1)) = sumR (xs.take i) + (xs[i].e - xs[i].s) := by
    rw [List.take_add_one, List.getElem?_eq_getElem hil]
    exact sum_snoc _ _
  have hd0 : ed ≤ xs[i].s := hed _ (by rw [List.drop_eq_getElem_cons hil]; exact List.mem_cons_self)
  have hd1 : ∀ x ∈ xs.drop (i + 1), xs[i].e ≤ x.s := fun x hx => by
    have od : Ord (xs.drop i) := ⟨fun z hz => o.1 z (List.mem_of_mem_drop hz), o.2.sublist (List.drop_sublist _ _)⟩
    rw [List.drop_eq_getElem_cons hil] at od
    exact (List.pairwise_cons.mp od.2).1 x hx
  have xm : xs[i] ∈ xs := List.getElem_mem hil
  rw [et]
  generalize xs[i] = x at *
  have x0 := o.1 x xm
  have x1 := el x xm
  have xk := ok x xm
  have ga2 := s2 _ _ ga
  walk_at "go"
  refine jnS (M := fun σ H' => H' = H2 ∧ σ = [sR l, sR da, sI lim, sI (sumR (xs.take i)), sI ed, sR a, y6, y7]) ?_ (fun N kk => ?_)
  rotate_left
  · walk_at "go"
    refine ⟨.ref a, rD x, rfl, dh_row ga2, ?_⟩
    walk_at "go"
    exact kk _ _ ⟨rfl, rfl⟩
  rintro σ H3 ⟨e3, rfl⟩
  subst e3
  refine jnS (M := fun σ H' => H' = H3 ∧ σ = [sR l, sR da, sI lim, sI (sumR (xs.take i)), sI ed, sR a, y6, y7]) ?_ (fun N kk => ?_)
  rotate_left
  · walk_at "go"
    refine ⟨a, _, _, .int x.s, rfl, rfl, SqT.of ga2, atI_nat (j := 0) rfl, ?_⟩
    walk_at "go"
    refine ⟨.int x.s, .int x.s, rfl, rfl, ?_⟩
    walk_at "go"
    refine ⟨a, _, _, .int x.e, rfl, rfl, SqT.of ga2, atI_nat (j := 1) rfl, ?_⟩
    walk_at "go"
    refine ⟨.int x.e, .int x.e, rfl, rfl, ?_⟩
    walk_at "go"
    refine ⟨a, _, _, .int x.s, rfl, rfl, SqT.of ga2, atI_nat (j := 0) rfl, ?_⟩
    walk_at "go"
    refine ifT hd0 ?_
    walk_at "go"
    refine ⟨a, _, _, .int x.e, rfl, rfl, SqT.of ga2, atI_nat (j := 1) rfl, ?_⟩
    walk_at "go"
    refine ifT x0 ?_
    walk_at "go"
    refine ifN ?_
    refine ifT x1 ?_
    exact kk _ _ ⟨rfl, rfl⟩
  rintro σ H4 ⟨e4, rfl⟩
  subst e4
  walk_at "go"
  refine ⟨a, _, _, .int x.e, rfl, rfl, SqT.of ga2, atI_nat (j := 1) rfl, ?_⟩
  walk_at "go"
  refine ⟨a, _, _, .int x.e, rfl, rfl, SqT.of ga2, atI_nat (j := 1) rfl, ?_⟩
  walk_at "go"
  refine ⟨a, _, _, .int x.s, rfl, rfl, SqT.of ga2, atI_nat (j := 0) rfl, ?_⟩
  walk_at "go"
  refine ⟨a, _, _, .str x.m.r, rfl, rfl, SqT.of ga2, atI_nat (j := 2) rfl, ?_⟩
  walk_at "go"
  refine ⟨a, _, _, .str x.m.f, rfl, rfl, SqT.of ga2, atI_nat (j := 3) rfl, ?_⟩
  walk_at "go"
  refine ⟨a, _, _, .int x.m.i, rfl, rfl, SqT.of ga2, atI_nat (j := 4) rfl, ?_⟩
  walk_at "go"
  refine ⟨sz, fun t nt => ?_⟩
  have s5 := s2.trans (same_upd (o := HO.tup (mV x.m)) nt)
  have gt := upd_same (H := H4) (a := t) (o := HO.tup (mV x.m))
  have ga5 := same_upd (o := HO.tup (mV x.m)) nt _ _ ga2
  show _
  unfold mV at s5 gt ga5
  generalize upd H4 t (HO.tup [V.str x.m.r, V.str x.m.f, V.int x.m.i]) = H5 at *
  have gd5 := s5 _ _ gd
  have tk5 := tab_mono s5 tk
  clear s2 ga2
  have mem : ∀ p : Int, x.s ≤ p → p < x.e → Tb p = some (x.at' p) := fun p p0 p1 => by
    rw [← tt p]
    exact tb_mem o xm p0 p1
  walk_at "go"
  refine jnS (M := fun σ H' => Same H5 H' ∧ σ = [sR l, sR da, sI lim, sI (sumR (xs.take i) + x.e - x.s), sI x.e, sR a, sR t, y7]) ?_ (fun N kk => ?_)
  rotate_left
  · obtain ⟨ma, e1, g1⟩ := (tk5 x.s).2 _ (mem x.s (Int.le_refl _) x0)
    rw [at_start] at g1
    have dg : DGet H5 da (V.int x.s) (some (V.ref ma)) := by
      rw [← e1]
      exact DGet.k (k := .inl x.s) gd5
    walk_at "go"
    refine ⟨a, _, _, .int x.s, rfl, rfl, SqT.of ga5, atI_nat (j := 0) rfl, ?_⟩
    walk_at "go"
    refine ⟨a, _, _, .int x.s, rfl, rfl, SqT.of ga5, atI_nat (j := 0) rfl, ?_⟩
    refine ⟨da, _, rfl, dg, ?_⟩
    walk_at "go"
    refine ⟨.ref t, .ref ma, mD x.m, mD x.m, rfl, dh_mark gt, dh_mark g1, dle_mark _, fun b6 H6 hb6 s6 => ?_⟩
    obtain rfl := hb6.mpr rfl
    walk_at "go"
    exact kk _ _ ⟨s6, rfl⟩
  rintro σ H6 ⟨s6, rfl⟩
  have s6' := s5.trans s6
  have gt6 := s6 _ _ gt
  have ga6 := s6 _ _ ga5
  have gd6 := s6' _ _ gd
  have en : sumR (xs.take i) + x.e - x.s = sumR (xs.take i) + (x.e - x.s) := by omega
  rw [en]
  generalize sumR (xs.take i) + (x.e - x.s) = fo at *
  clear s5 gt ga5 gd5 tk5
  walk_at "go"
  refine un ?_
  walk_at "go"
  refine ⟨a, _, _, .int x.s, rfl, rfl, SqT.of ga6, atI_nat (j := 0) rfl, ?_⟩
  walk_at "go"
  refine ⟨a, _, _, .int x.e, rfl, rfl, SqT.of ga6, atI_nat (j := 1) rfl, ?_⟩
  walk_at "go"
  refine ⟨a, _, _, .int x.s, rfl, rfl, SqT.of ga6, atI_nat (j := 0) rfl, ?_⟩
  repeat (first | refine ⟨_, _, rfl, ?_⟩ | walk_at "st")
  obtain ⟨hb, ehb, hb0, hb1⟩ : ∃ hb : Int, (if x.s + (kvs.length : Int) + 1 < x.e then x.s + (kvs.length : Int) + 1 else x.e) = hb ∧ x.s ≤ hb ∧ hb ≤ x.e := ⟨_, rfl, by split <;> omega, by split <;> omega⟩
  rw [ehb]
  have b0 := (asc.mem xm).1
  refine ⟨⟨by omega, by omega, by omega, by omega⟩, for_range (lo := x.s) (n := (hb - x.s).toNat) (fun j σ H' => Ob (Same H1 H' ∧ ∃ (ta : Addr) (y7 : Option V), H' ta = some (.tup (mV (x.at' (x.s + j)))) ∧ σ = [sR l, sR da, sI lim, sI fo, sI x.e, sR a, sR ta, y7])) (ob ⟨s6', t, y7, ?_, rfl⟩) ?_ ?_⟩
  · have e : x.at' (x.s + ((0 : Nat) : Int)) = x.m := by
      rw [show x.s + ((0 : Nat) : Int) = x.s by omega]
      exact at_start x
    rw [e]
    exact gt6
  · intro j σ H7 hj h
    obtain ⟨s7, ta, y7', gta, rfl⟩ := unob h
    have tk7 := tab_mono s7 tk
    have gd7 := s7 _ _ gd
    obtain ⟨ma, e1, g1⟩ := (tk7 (x.s + (j : Int))).2 _ (mem (x.s + (j : Int)) (by omega) (by omega))
    have dg : DGet H7 da (V.int (x.s + (j : Int))) (some (V.ref ma)) := by
      rw [← e1]
      exact DGet.k (k := .inl (x.s + (j : Int))) gd7
    have mk : MOk (x.at' (x.s + (j : Int))) := xk.after _
    have sh := at_sum x (x.s + (j : Int)) (x.s + ((j + 1 : Nat) : Int))
    rw [show x.s + ((j + 1 : Nat) : Int) - (x.s + (j : Int)) = 1 by omega] at sh
    rw [← sh]
    generalize x.at' (x.s + (j : Int)) = mm at *
    walk_at "go"
    refine jnS (M := fun σ H' => H' = H7 ∧ σ = [sR l, sR da, sI lim, sI fo, sI x.e, sR a, sR ta, sI (x.s + (j : Int))]) ?_ (fun N2 k2 => ?_)
    rotate_left
    · walk_at "go"
      refine ⟨mD mm, mD mm, Dh.dp _ _ (dh_mark gta), Dh.dp _ _ (dh_mark g1), shaped_mark mk, shaped_mark mk, ?_⟩
      walk_at "go"
      refine ifN ?_
      refine ifBT (by rw [eqv_mark]; exact decide_eq_true rfl) ?_
      exact k2 _ _ ⟨rfl, rfl⟩
    rintro σ H8 ⟨e8, rfl⟩
    subst e8
    walk_at "go"
    refine fun tb' H9 s9 g9 => ?_
    exact ob ⟨s7.trans s9, tb', _, g9, rfl⟩
  · intro σ H7 h
    obtain ⟨s7, ta, y7', _, rfl⟩ := unob h
    exact ob ⟨s7, x.e, _, _, _, hd1, rfl⟩
end

end

section

-- a condition of an operator
local macro_rules | `(tactic| walk_at "cond") => `(tactic| first
  | (show (0 : Int) < _; omega)
  | (show CDiv _ _; constructor <;> (first | decide | omega))
  | (show CMul _ _; first | (refine cmul_l ?_; constructor <;> (first | decide | omega)) | (refine cmul_r ?_; constructor <;> (first | decide | omega)))
  | (show CPow _ _; exact (by refine ⟨by decide, by decide, by decide⟩))
  | (show CDivW _ _; exact ⟨by decide, by decide +kernel⟩))
local macro_rules | `(tactic| walk_at "sq") => `(tactic| first | assumption | exact Dh.mono (same_upd (by assumption)) _ _ (by assumption) | exact .inl (.inl (.inl (by assumption))) | exact .inr (.inl (.inl (by assumption))) | exact SqL.of (by assumption) | exact .inl (by assumption) | exact .inl (SqL.of (by assumption)) | exact SqT.of (by assumption) | exact .inr (SqT.of (by assumption)))
local macro_rules | `(tactic| walk_at "st") => `(tactic| first
  | refine ⟨_, rfl, ?_⟩
  | refine ⟨_, _, rfl, rfl, ?_⟩
  | refine .inl ⟨_, rfl, ?_⟩
  | refine ⟨rfl, ?_⟩
  | refine ⟨_, _, rfl, by walk_at "sq", ?_⟩
  | refine ⟨.inl ⟨rfl, _, SqL.of (by assumption)⟩, ?_⟩
  | refine ⟨by walk_at "cond", ?_⟩
  | (refine' ifBT ?hh ?_; (case hh => first | rfl | assumption))
  | (refine' ifBF ?hh ?_; (case hh => first | rfl | assumption)))
local macro_rules | `(tactic| walk_at "go") => `(tactic| repeat walk_at "st")
local macro_rules | `(tactic| walk_at "yes") => `(tactic| (refine' ifT ?hh ?_; (case hh => first | rfl | decide +kernel)))
local macro_rules | `(tactic| walk_at "no") => `(tactic| (refine' ifF ?hh ?_; (case hh => first | decide +kernel | (intro z; cases z; done))))

-- facts carried to the heap at hand, from the facts of the context
local macro_rules | `(tactic| walk_at "lnk") => `(tactic| first | assumption | exact same_upd (by assumption))
local macro_rules | `(tactic| walk_at "sm") => `(tactic| first | walk_at "lnk" | exact same_rfl | (refine Same.trans ?_ (by walk_at "lnk"); walk_at "sm"))
local macro_rules | `(tactic| walk_at "at") => `(tactic| first | assumption | exact upd_same | (refine Same.get (by walk_at "lnk") ?_; walk_at "at"))
local macro_rules | `(tactic| walk_at "ix") => `(tactic| first
  | exact atI_nat (j := 0) rfl | exact atI_nat (j := 1) rfl | exact atI_nat (j := 2) rfl | exact atI_nat (j := 3) rfl
  | exact atI_nat (j := 4) rfl | exact atI_nat (j := 5) rfl | exact atI_nat (j := 6) rfl | assumption)
local macro_rules | `(tactic| walk_at "sT") => `(tactic| first | exact SqT.of (by walk_at "at") | exact SqL.of (by walk_at "at"))
local macro_rules | `(tactic| walk_at "st") => `(tactic| refine ⟨_, _, _, _, rfl, rfl, by walk_at "sT", by walk_at "ix", ?_⟩)
local macro_rules | `(tactic| walk_at "side") => `(tactic| first | rfl | assumption | walk_at "at" | walk_at "sm" | omega | decide)
-- a call: the promise's letters from its arguments, then what is asked from the context
local macro_rules | `(tactic| walk_at "call") => `(tactic| ((repeat (apply Exists.intro)); refine And.intro rfl ?_; repeat (refine And.intro (by walk_at "side") ?_)))

/-! ### _law_entries_least -/
abbrev s_entries_least : Stmt := topS 47
theorem sc_entries_least : FnScope ["_law_told", "_law_marks", "_law_fan_here", "_law_total", "_law_row", "_law_k"] ["_law_told", "_law_marks", "_law_fan_here"] (C8.fnScope s_entries_least) := C8.fnScope_by (by decide +kernel)
@[irreducible] def spEL : Sp := fun vs H Q _ => ∃ (ra da fa : Addr) (us : List V) (ws : List Int) (T : Int → Option RMark) (n : Nat), vs = [.ref ra, .ref da, .ref fa] ∧ DTab H da T n ∧ n ≤ 900000 ∧ H fa = some (.lst (ws.map V.int)) ∧ Small ws ∧ prodI ws ≤ 4096 ∧ (∀ p m, T p = some m → MOk m) ∧ (∀ p, ¬ (0 ≤ p ∧ p < prodI ws) → T p = none) ∧ H ra = some (.lst us) ∧ DhAll H ((rowsF T ws 0).map rD) us ∧ ∀ H', Same H H' → Q (.bl true) H'
/-- each row is a block -/
theorem rows_blk {T : Int → Option RMark} : ∀ {ws : List Int} {lo : Int} {x : RRow}, (∀ w ∈ ws, 2 ≤ w ∧ w ≤ 8) → prodI ws ∣ lo → x ∈ rowsF T ws lo → ∃ k < ws.length, x.e - x.s = spanN ws k ∧ spanN ws k ∣ x.s
  | [], _, _, _, _, h => by cases h
  | w :: l, lo, x, hw, hd, h => by
    have h2 : ∀ x ∈ l, 2 ≤ x ∧ x ≤ 8 := fun x hx => hw x (List.mem_cons_of_mem _ hx)
    have pp := (prod_pos h2).1
    obtain ⟨i, hi, h⟩ := List.mem_flatMap.mp (show x ∈ (List.range w.toNat).flatMap _ from h)
    have d1 : prodI l ∣ lo := Int.dvd_trans (Int.dvd_mul_left _ _) hd
    have d2 : prodI l ∣ lo + (i : Int) * prodI l := Int.dvd_add d1 (Int.dvd_mul_left _ _)
    generalize lo + (i : Int) * prodI l = lw at *
    by_cases u : Uni T lw (prodI l)
    · obtain ⟨m, em, _⟩ := id u
      rw [entR_uni u em] at h
      obtain rfl := List.mem_singleton.mp h
      exact ⟨0, Nat.succ_pos _, by show lw + prodI l - lw = prodI l; omega, d2⟩
    · by_cases e : Emp T lw (prodI l)
      · rw [entR_emp e (by omega)] at h
        cases h
      · rw [entR_sub u e] at h
        obtain ⟨k, hk, e1, e2⟩ := rows_blk h2 d2 h
        exact ⟨k + 1, Nat.succ_lt_succ hk, e1, e2⟩
section
variable {P : Program} {w : World} {K : PySem.W.Frag} {mg : Str → Option Value} {base : Heap}
theorem ok_entl {f : Addr} {fd : FuncData} (Df : Def K mg "_law_entries_least" s_entries_least f fd) (b : Binds K fd ["_law_told", "_law_marks", "_law_fan_here"] []) (T : Txt mg) (c_fan_spans : Cal P w K mg base 1 "_law_fan_spans" (spFanSpans K) []) (c_describes : Cal P w K mg base 6 "_law_describes" spDesc []) (c_is_block : Cal P w K mg base 2 "_law_is_block" spIsB []) (c_apart : Cal P w K mg base 3 "_law_apart" spApart []) : Cal P w K mg base 7 "_law_entries_least" spEL [] := by
  refine cal0 Df b .nil sc_entries_least (fun vs H Q E h => ?_) (fun cdv A outer s H vs Q E hr h => ?_)
  · unfold spEL at h
    obtain ⟨ra, da, fa, us, ws, Tb, n, rfl, _⟩ := h
    rfl
  unfold spEL at h
  obtain ⟨ra, da, fa, us, ws, Tb, n, rfl, dt, n0, gf, sm, pl, mo, no, gr, dr, q⟩ := h
  refine ⟨_, (pss_cons (ps_set (i := 3) sc_entries_least.nd rfl (.inl rfl) (pe_op op_mul (pe_ix (ixL K rfl) (C8.pe_c c_fan_spans hr (by omega) (by rfl) (pa_cons (pv 2) pa_nil)) pe_int (fun _ _ => rfl)) (pe_ix (ixL K rfl) (pv 2) pe_int (fun _ _ => rfl))))
      (pss_cons (ps_mk (ps_if (pt_not (pt_val (C8.pe_c c_describes hr (by omega) (by rfl) (pa_cons (pv 0) (pa_cons (pv 1) (pa_cons (pv 3) pa_nil))))))
      (pss_one (ps_ret pe_bl))
      pss_nil))
      (pss_cons (ps_mk (ps_if (pt_cmpR op_gt (pe_callB (lenQ K rfl) (by rfl) T.len PySem.boot_len (pa_cons (pe_lc (own := [("_law_row", 4)]) (g := gName 4) rfl sc_entries_least.nd (pi_list (pv 0)) (blkOk_by (own := [("_law_row", 4)]) (N := ["_law_told", "_law_marks", "_law_fan_here", "_law_total", "_law_row", "_law_k"]) (sc := C8.fnScope s_entries_least) (by decide +kernel)) (fun _ _ _ _ _ => (pg_name (i := 4) sc_entries_least.nd rfl (.inl rfl))) (fun _ _ _ _ _ => (pts_one (pt_not (pt_val (C8.pe_c c_is_block hr (by omega) (by rfl) (pa_cons (pv 2) (pa_cons (pe_ix (ixT K rfl) (pv 4) pe_int (fun _ _ => rfl)) (pa_cons (pe_ix (ixT K rfl) (pv 4) pe_int (fun _ _ => rfl)) pa_nil)))))))) (fun _ _ _ _ _ => (pv 4))) pa_nil)) pe_int (nomark _))
      (pss_one (ps_ret pe_bl))
      pss_nil))
      (pss_one (ps_ret (pe_cmpR op_eq (pe_callB (lenQ K rfl) (by rfl) T.len PySem.boot_len (pa_cons (pe_lc (own := [("_law_k", 5)]) (g := gName 5) rfl sc_entries_least.nd (pi_range2 (by rfl) T.range (pa_cons pe_int (pa_cons (pe_callB (lenQ K rfl) (by rfl) T.len PySem.boot_len (pa_cons (pv 0) pa_nil)) pa_nil))) (blkOk_by (own := [("_law_k", 5)]) (N := ["_law_told", "_law_marks", "_law_fan_here", "_law_total", "_law_row", "_law_k"]) (sc := C8.fnScope s_entries_least) (by decide +kernel)) (fun _ _ _ _ _ => (pg_name (i := 5) sc_entries_least.nd rfl (.inl rfl))) (fun _ _ _ _ _ => (pts_one (pt_not (pt_val (C8.pe_c c_apart hr (by omega) (by rfl) (pa_cons (pv 1) (pa_cons (pv 2) (pa_cons (pe_ix (ixT K rfl) (pe_ix (ixL K rfl) (pv 0) (pe_op op_sub (pv 5) pe_int) (fun _ _ => rfl)) pe_int (fun _ _ => rfl)) (pa_cons (pe_ix (ixT K rfl) (pe_ix (ixL K rfl) (pv 0) (pv 5) (fun _ _ => rfl)) pe_int (fun _ _ => rfl)) pa_nil))))))))) (fun _ _ _ _ _ => (pv 5))) pa_nil)) pe_int (nomark _))))))), ?_⟩
  have h0 : 0 < ws.length := List.length_pos_iff.mpr sm.1
  have rl : (rowsF Tb ws 0).length ≤ 4096 := by
    have := rowsF_len (T := Tb) (lo := 0) sm.2.2
    have pp := (prod_pos sm.2.2).1
    omega
  have te := tell_rows (T := Tb) (lo := 0) sm.1 sm.2.2
  rw [Int.zero_add] at te
  have tis := te.is no
  have rm : ∀ x ∈ rowsF Tb ws 0, Tb x.s = some x.m := fun x hx => by
    have := te.a.mem hx
    rw [← te.t x.s this.1 (by have := te.e x hx; omega), tb_mem te.a.ord hx (Int.le_refl _) this.2, at_start]
  have rok : ∀ x ∈ rowsF Tb ws 0, MOk x.m := fun x hx => mo _ _ (rm x hx)
  have rb : ∀ x ∈ rowsF Tb ws 0, ∃ k < ws.length, x.e - x.s = spanN ws k ∧ spanN ws k ∣ x.s := fun x hx => rows_blk sm.2.2 (Int.dvd_zero _) hx
  have rp : (rowsF Tb ws 0).Pairwise (ApR Tb ws 0) := rows_apart sm.2.2
  have rin : ∀ x ∈ rowsF Tb ws 0, 0 ≤ x.s ∧ x.s < 4096 := fun x hx => by
    have := te.a.mem hx
    have := te.e x hx
    omega
  have ul := rows_len dr
  have ea := te.a
  have ee := te.e
  generalize rowsF Tb ws 0 = rw at *
  walk_at "go"
  refine ⟨sm, fun sa H1 s1 nsa gs => ?_⟩
  walk_at "go"
  refine ⟨sa, _, _, .int (spanN ws 0), rfl, rfl, SqL.of gs, atI_nat (j := 0) (by rw [List.getElem?_map, spans_get h0]; rfl), ?_⟩
  walk_at "go"
  refine ⟨fa, _, _, .int (ws.headD 0), rfl, rfl, SqL.of (s1 _ _ gf), atI_nat (j := 0) (by
    cases ws with
    | nil => exact absurd rfl sm.1
    | cons w0 l => rfl), ?_⟩
  have p0 := span_pos sm 0
  have p1 := span_le sm 0
  walk_at "go"
  dsimp only
  rw [span_zero sm]
  refine un ?_
  walk_at "go"
  refine ⟨ra, da, prodI ws, us, rw, Tb, n, rfl, s1 _ _ gr, DhAll.mono s1 _ _ dr, ea, ee, rok, tis, dt.same s1, n0, by omega, fun H2 s2 => ?_⟩
  have s02 := s1.trans s2
  clear s1 s2 gs nsa
  walk_at "go"
  refine un ?_
  walk_at "go"
  have gr2 := s02 _ _ gr
  have gf2 := s02 _ _ gf
  have dr2 := DhAll.mono s02 _ _ dr
  have dt2 := dt.same s02
  have rowAt : ∀ i, i < rw.length → ∃ a x, rw[i]? = some x ∧ us[i]? = some (.ref a) ∧ H2 a = some (.tup (rV x)) ∧ x ∈ rw := fun i hi => by
    obtain ⟨a, e1, g1⟩ := rows_get dr2 (List.getElem?_eq_getElem hi)
    exact ⟨a, _, List.getElem?_eq_getElem hi, e1, g1, List.getElem_mem hi⟩
  refine ⟨⟨_, SqL.of gr2⟩, fun D nD => lc_list (K := K) (a := ra) (xs := us) (fun i H' => Ob (Same H2 H' ∧ H' D = some (.lst []))) (ob ⟨same_upd nD, upd_same⟩) (fun i H' _ h => SqL.of ((unob h).1 _ _ gr2)) ?_ ?_⟩
  · intro i v H3 hi h
    obtain ⟨s3, gD⟩ := unob h
    clear h
    have hil : i < rw.length := by
      have := (List.getElem?_eq_some_iff.mp hi).1
      omega
    obtain ⟨a, x, _, ev, ga, xm⟩ := rowAt i hil
    rw [hi] at ev
    obtain rfl := Option.some.inj ev
    obtain ⟨k, hk, e1, e2⟩ := rb x xm
    refine ⟨rfl, ?_⟩
    walk_at "go"
    refine ⟨fa, x.s, x.e, ws, k, rfl, s3 _ _ gf2, sm, hk, e1, e2, fun H4 s4 => ?_⟩
    walk_at "go"
    exact ob ⟨s3.trans s4, s4 _ _ gD⟩
  · intro H3 h
    obtain ⟨s3, gD⟩ := unob h
    clear h
    have s03 := s02.trans s3
    have gr3 := s3 _ _ gr2
    have gf3 := s3 _ _ gf2
    have dt3 := dt2.same s3
    have rowAt : ∀ i, i < rw.length → ∃ a x, rw[i]? = some x ∧ us[i]? = some (.ref a) ∧ H3 a = some (.tup (rV x)) ∧ x ∈ rw := fun i hi => by
      obtain ⟨a, x, k1, k2, k3, k4⟩ := rowAt i hi
      exact ⟨a, x, k1, k2, s3 _ _ k3, k4⟩
    clear gr2 gf2 dt2 s3 s02 dr2
    walk_at "go"
    refine ⟨1, _, rfl, ⟨by omega, by omega, by omega, by omega⟩, fun D2 nD2 => lc_range (lo := 1) (n := (((us.length : Nat) : Int) - 1).toNat) (fun i H' => Ob (Same H3 H' ∧ H' D2 = some (.lst []))) (ob ⟨same_upd nD2, upd_same⟩) ?_ ?_⟩
    · intro i H4 hi h
      obtain ⟨s4, gD2⟩ := unob h
      clear h
      have hil : i + 1 < rw.length := by omega
      obtain ⟨a, x, ex, ev, ga, xm⟩ := rowAt i (by omega)
      obtain ⟨a2, y, ey, ev2, ga2, ym⟩ := rowAt (i + 1) hil
      have at1 : atI us (1 + (i : Int) - 1) = some (.ref a) := by
        rw [show 1 + (i : Int) - 1 = ((i : Nat) : Int) by omega]
        exact atI_nat ev
      have at2 : atI us (1 + (i : Int)) = some (.ref a2) := by
        rw [show 1 + (i : Int) = ((i + 1 : Nat) : Int) by omega]
        exact atI_nat ev2
      have ap : ApR Tb ws 0 x y := by
        obtain ⟨l1, rfl⟩ := List.getElem?_eq_some_iff.mp ex
        obtain ⟨l2, rfl⟩ := List.getElem?_eq_some_iff.mp ey
        exact List.pairwise_iff_getElem.mp rp i (i + 1) l1 l2 (Nat.lt_succ_self i)
      have ap2 : ∀ k < ws.length, x.s / spanN ws k = y.s / spanN ws k → ¬ Uni Tb (x.s / spanN ws k * spanN ws k) (spanN ws k) := fun k hk e => by
        have := ap k hk (by rw [Int.sub_zero, Int.sub_zero]; exact e)
        rw [Int.sub_zero, Int.zero_add] at this
        exact this
      have rx := rin x xm
      walk_at "go"
      unfold spApart
      refine ⟨da, fa, x.s, y.s, ws, Tb, n, rfl, dt3.same s4, s4 _ _ gf3, sm, by omega, rx.1, by omega, mo, ap2, fun H5 s5 => ?_⟩
      walk_at "go"
      exact ob ⟨s4.trans s5, s5 _ _ gD2⟩
    · intro H4 h
      obtain ⟨s4, gD2⟩ := unob h
      walk_at "go"
      exact q H4 (s03.trans s4)
end

end

section

-- a condition of an operator
local macro_rules | `(tactic| walk_at "cond") => `(tactic| first
  | (show (0 : Int) < _; omega)
  | (show CDiv _ _; constructor <;> (first | decide | omega))
  | (show CMul _ _; first | (refine cmul_l ?_; constructor <;> (first | decide | omega)) | (refine cmul_r ?_; constructor <;> (first | decide | omega)))
  | (show CPow _ _; exact (by refine ⟨by decide, by decide, by decide⟩))
  | (show CDivW _ _; exact ⟨by decide, by decide +kernel⟩))
local macro_rules | `(tactic| walk_at "sq") => `(tactic| first | assumption | exact Dh.mono (same_upd (by assumption)) _ _ (by assumption) | exact .inl (.inl (.inl (by assumption))) | exact .inr (.inl (.inl (by assumption))) | exact SqL.of (by assumption) | exact .inl (by assumption) | exact .inl (SqL.of (by assumption)) | exact SqT.of (by assumption) | exact .inr (SqT.of (by assumption)))
local macro_rules | `(tactic| walk_at "st") => `(tactic| first
  | refine ⟨_, rfl, ?_⟩
  | refine ⟨_, _, rfl, rfl, ?_⟩
  | refine .inl ⟨_, rfl, ?_⟩
  | refine ⟨rfl, ?_⟩
  | refine ⟨_, _, rfl, by walk_at "sq", ?_⟩
  | refine ⟨.inl ⟨rfl, _, SqL.of (by assumption)⟩, ?_⟩
  | refine ⟨by walk_at "cond", ?_⟩
  | (refine' ifBT ?hh ?_; (case hh => first | rfl | assumption))
  | (refine' ifBF ?hh ?_; (case hh => first | rfl | assumption)))
local macro_rules | `(tactic| walk_at "go") => `(tactic| repeat walk_at "st")
local macro_rules | `(tactic| walk_at "yes") => `(tactic| (refine' ifT ?hh ?_; (case hh => first | rfl | decide +kernel)))
local macro_rules | `(tactic| walk_at "no") => `(tactic| (refine' ifF ?hh ?_; (case hh => first | decide +kernel | (intro z; cases z; done))))

-- facts carried to the heap at hand, from the facts of the context
local macro_rules | `(tactic| walk_at "lnk") => `(tactic| first | assumption | exact same_upd (by assumption))
local macro_rules | `(tactic| walk_at "sm") => `(tactic| first | walk_at "lnk" | exact same_rfl | (refine Same.trans ?_ (by walk_at "lnk"); walk_at "sm"))
local macro_rules | `(tactic| walk_at "at") => `(tactic| first | assumption | exact upd_same | (refine Same.get (by walk_at "lnk") ?_; walk_at "at"))
local macro_rules | `(tactic| walk_at "ix") => `(tactic| first
  | exact atI_nat (j := 0) rfl | exact atI_nat (j := 1) rfl | exact atI_nat (j := 2) rfl | exact atI_nat (j := 3) rfl
  | exact atI_nat (j := 4) rfl | exact atI_nat (j := 5) rfl | exact atI_nat (j := 6) rfl | assumption)
local macro_rules | `(tactic| walk_at "sT") => `(tactic| first | exact SqT.of (by walk_at "at") | exact SqL.of (by walk_at "at"))
local macro_rules | `(tactic| walk_at "st") => `(tactic| refine ⟨_, _, _, _, rfl, rfl, by walk_at "sT", by walk_at "ix", ?_⟩)
local macro_rules | `(tactic| walk_at "side") => `(tactic| first | rfl | assumption | walk_at "at" | walk_at "sm" | omega | decide)
-- a call: the promise's letters from its arguments, then what is asked from the context
local macro_rules | `(tactic| walk_at "call") => `(tactic| ((repeat (apply Exists.intro)); refine And.intro rfl ?_; repeat (refine And.intro (by walk_at "side") ?_)))

/-! ### _law_tables_at -/
abbrev s_tables_at : Stmt := topS 48
theorem sc_tables_at : FnScope ["_law_told", "_law_fan_here", "_law_level", "_law_first", "_law_span", "_law_found", "_law_k", "_law_inner"] ["_law_told", "_law_fan_here", "_law_level", "_law_first"] (C8.fnScope s_tables_at) := C8.fnScope_by (by decide +kernel)
def spTat (k : Nat) : Sp := fun vs H Q _ => ∃ (a fa : Addr) (ws : List Int) (lv : Nat) (lo : Int) (T : Int → Option RMark), vs = [.ref a, .ref fa, .int lv, .int lo] ∧ Dh H (.list (foldD T (ws.drop lv) lo)) (.ref a) ∧ H fa = some (.lst (ws.map V.int)) ∧ Small ws ∧ lv < ws.length ∧ ws.length - lv ≤ k ∧
  ∀ r us H', Same H H' → H r = none → H' r = some (.lst us) → DhAll H' ((treeT T (ws.drop lv) lv lo).map pD) us → Q (.ref r) H'
theorem flatG_len {α : Type} {f : Nat → List α} {n : Nat} (h : ∀ k, (f k).length ≤ n) : ∀ i, ((List.range i).flatMap f).length ≤ i * n
  | 0 => Nat.zero_le _
  | i + 1 => by
    rw [List.range_succ, List.flatMap_append, List.length_append, Nat.add_mul, Nat.one_mul]
    have := flatG_len h i
    have h2 := h i
    rw [List.flatMap_cons, List.flatMap_nil, List.append_nil]
    omega
theorem entT_len {T : Int → Option RMark} {sub : Int → List (Int × Int)} {n lv lo : Int} {m : Nat} (h : ∀ lo, (sub lo).length ≤ m) : (entT T sub n lv lo).length ≤ m + 1 := by
  unfold entT
  split
  · exact Nat.zero_le _
  · split
    · exact Nat.zero_le _
    · rw [List.length_cons]
      exact Nat.add_le_add_right (h lo) 1
theorem tree_len {T : Int → Option RMark} : ∀ {ws : List Int} {lv lo : Int}, (∀ w ∈ ws, 2 ≤ w ∧ w ≤ 8) → (treeT T ws lv lo).length + 2 ≤ 2 * (prodI ws).toNat
  | [], _, _, _ => Nat.le_refl _
  | w :: l, lv, lo, h => by
    have h2 : ∀ x ∈ l, 2 ≤ x ∧ x ≤ 8 := fun x hx => h x (List.mem_cons_of_mem _ hx)
    have hw := h w List.mem_cons_self
    have pp := (prod_pos h2).1
    have e : (prodI (w :: l)).toNat = w.toNat * (prodI l).toNat := by
      show (w * prodI l).toNat = _
      exact Int.toNat_mul (by omega) (by omega)
    have := flatG_len (f := fun i : Nat => entT T (treeT T l (lv + 1)) (prodI l) lv (lo + (i : Int) * prodI l)) (n := 2 * (prodI l).toNat - 1) (fun k => by
      have := entT_len (T := T) (sub := treeT T l (lv + 1)) (n := prodI l) (lv := lv) (lo := lo + (k : Int) * prodI l) (m := 2 * (prodI l).toNat - 2) fun lo' => by
        have := tree_len (T := T) (lv := lv + 1) (lo := lo') h2
        omega
      omega) w.toNat
    show ((List.range w.toNat).flatMap _).length + 2 ≤ _
    rw [e]
    have e2 : w.toNat * (2 * (prodI l).toNat - 1) + w.toNat = 2 * (w.toNat * (prodI l).toNat) := by
      obtain ⟨p, hp⟩ : ∃ p, (prodI l).toNat = p + 1 := ⟨(prodI l).toNat - 1, by omega⟩
      rw [hp, show 2 * (p + 1) - 1 = 2 * p + 1 by omega, ← Nat.mul_succ, ← Nat.mul_assoc, Nat.mul_comm 2 w.toNat, Nat.mul_assoc]
      congr 1
    omega
section
variable {P : Program} {w : World} {K : PySem.W.Frag} {mg : Str → Option Value} {base : Heap}
theorem ok_tat_step {f : Addr} {fd : FuncData} (Df : Def K mg "_law_tables_at" s_tables_at f fd) (b : Binds K fd ["_law_told", "_law_fan_here", "_law_level", "_law_first"] []) (T : Txt mg) (c_fan_spans : Cal P w K mg base 1 "_law_fan_spans" (spFanSpans K) []) {k : Nat} (c_tables_at : Cal P w K mg base (k + 2) "_law_tables_at" (spTat k) []) : Cal P w K mg base (k + 3) "_law_tables_at" (spTat (k + 1)) [] := by
  refine cal0 Df b .nil sc_tables_at (fun vs H Q E h => ?_) (fun cdv A outer s H vs Q E hr h => ?_)
  · obtain ⟨a, fa, ws, lv, lo, Tb, rfl, _⟩ := h
    rfl
  obtain ⟨a, fa, ws, lv, lo, Tb, rfl, ⟨a', xs, ea, ga, dr⟩, gf, sm, hl, hk, q⟩ := h
  cases ea
  refine ⟨_, (pss_cons (ps_mk (ps_if (PW.pt (pw_or (pt_not (pt_val (pe_callB is_list (by rfl) T.isinstance (by decide +kernel) (pa_cons (pv 0) (pa_cons (pe_bltn (v := .ty "list") (by rfl) T.list (by decide +kernel) rfl) pa_nil))))) (pw_or1 (pt_cmpR op_ne (pe_callB (lenQ K rfl) (by rfl) T.len PySem.boot_len (pa_cons (pv 0) pa_nil)) (pe_ix (ixL K rfl) (pv 1) (pv 2) (fun _ _ => rfl)) (nomark _)))))
      (pss_one (ps_ret pe_non))
      pss_nil))
      (pss_cons (ps_set (i := 4) sc_tables_at.nd rfl (.inl rfl) (pe_ix (ixL K rfl) (C8.pe_c c_fan_spans hr (by omega) (by rfl) (pa_cons (pv 1) pa_nil)) (pv 2) (fun _ _ => rfl)))
      (pss_cons (ps_set (i := 5) sc_tables_at.nd rfl (.inl rfl) (pe_lst pa_nil))
      (pss_cons (ps_mk (ps_for PassesOwn.never rfl (pi_range1 (by rfl) T.range (pa_cons (pe_callB (lenQ K rfl) (by rfl) T.len PySem.boot_len (pa_cons (pv 0) pa_nil)) pa_nil)) (pg_name (i := 6) sc_tables_at.nd rfl (.inl rfl))
      (pss_one (ps_mk (ps_if (pt_val (pe_callB is_list (by rfl) T.isinstance (by decide +kernel) (pa_cons (pe_ix (ixL K rfl) (pv 0) (pv 6) (fun _ _ => rfl)) (pa_cons (pe_bltn (v := .ty "list") (by rfl) T.list (by decide +kernel) rfl) pa_nil))))
      (pss_cons (ps_mk (ps_if (pt_cmpR op_eq (pe_op op_add (pv 2) pe_int) (pe_callB (lenQ K rfl) (by rfl) T.len PySem.boot_len (pa_cons (pv 1) pa_nil)) (nomark _))
      (pss_one (ps_ret pe_non))
      pss_nil))
      (pss_cons (ps_set (i := 7) sc_tables_at.nd rfl (.inl rfl) (C8.pe_c c_tables_at hr (by omega) (by rfl) (pa_cons (pe_ix (ixL K rfl) (pv 0) (pv 6) (fun _ _ => rfl)) (pa_cons (pv 1) (pa_cons (pe_op op_add (pv 2) pe_int) (pa_cons (pe_op op_add (pv 3) (pe_op op_mul (pv 6) (pv 4))) pa_nil))))))
      (pss_cons (ps_mk (ps_if (pt_cmpR op_isN (pv 7) pe_non (nomark _))
      (pss_one (ps_ret pe_non))
      pss_nil))
      (pss_cons (ps_expr (pe_bm PySem.F.plainAttrs_list PySem.F.slot_list_append PySem.F.type_list_append mt_append (pv 5) (pa_cons (pe_tup (pa_cons (pe_op op_add (pv 2) pe_int) (pa_cons (pe_op op_add (pv 3) (pe_op op_mul (pv 6) (pv 4))) pa_nil))) pa_nil)))
      (pss_one (ps_expr (pe_bm PySem.F.plainAttrs_list PySem.F.slot_list_extend PySem.F.type_list_extend mt_extend (pv 5) (pa_cons (pv 7) pa_nil))))))))
      pss_nil)))))
      (pss_one (ps_ret (pv 5))))))), ?_⟩
  have sp := span_b sm lv
  have hw := sm.2.2 _ (List.getElem_mem hl)
  have h6 := sm.2.1
  have h2 : ∀ x ∈ ws.drop (lv + 1), 2 ≤ x ∧ x ≤ 8 := fun x hx => sm.2.2 x (List.mem_of_mem_drop hx)
  have dl : Dh H (.list (foldD Tb (ws.drop lv) lo)) (.ref a) := ⟨a, xs, rfl, ga, dr⟩
  have ed := List.drop_eq_getElem_cons hl
  have gw : atI (ws.map V.int) ((lv : Nat) : Int) = some (.int ws[lv]) := atI_nat (by rw [List.getElem?_map, List.getElem?_eq_getElem hl]; rfl)
  have gsp : atI ((spansOf ws).map V.int) ((lv : Nat) : Int) = some (.int (spanN ws lv)) := atI_nat (by rw [List.getElem?_map, spans_get hl]; rfl)
  rw [ed] at dr q
  have dr : DhAll H ((List.range ws[lv].toNat).map fun k : Nat => entD Tb (foldD Tb (ws.drop (lv + 1))) (spanN ws lv) (lo + (k : Int) * spanN ws lv)) xs := dr
  have q : ∀ r us H', Same H H' → H r = none → H' r = some (.lst us) → DhAll H' (((List.range ws[lv].toNat).flatMap fun k : Nat => entT Tb (treeT Tb (ws.drop (lv + 1)) ((lv : Int) + 1)) (spanN ws lv) lv (lo + (k : Int) * spanN ws lv)).map pD) us → Q (.ref r) H' := q
  have tl : ∀ lo', (treeT Tb (ws.drop (lv + 1)) ((lv : Int) + 1) lo').length ≤ 2 * 8 ^ 6 := fun lo' => by
    have := tree_len (T := Tb) (lv := (lv : Int) + 1) (lo := lo') h2
    have e : prodI (ws.drop (lv + 1)) = spanN ws lv := rfl
    rw [e] at this
    omega
  have fl : ∀ i, ((List.range i).flatMap fun k : Nat => entT Tb (treeT Tb (ws.drop (lv + 1)) ((lv : Int) + 1)) (spanN ws lv) lv (lo + (k : Int) * spanN ws lv)).length ≤ i * (2 * 8 ^ 6 + 1) := flatG_len fun k => entT_len tl
  generalize ws[lv] = wd at *
  have xl := dr.len
  rw [List.length_map, List.length_range] at xl
  refine jnS (M := fun σ H' => H' = H ∧ σ = [sR a, sR fa, sI lv, sI lo, none, none, none, none]) ?_ (fun N kk => ?_)
  rotate_left
  · walk_at "go"
    refine ifN (ifBT (decide_eq_true (by rw [xl]; congr 1; omega)) ?_)
    exact kk _ _ ⟨rfl, rfl⟩
  rintro σ H0 ⟨e1, rfl⟩
  subst e1
  walk_at "go"
  refine ⟨sm, fun sa H1 s1 nsa gs => ?_⟩
  walk_at "go"
  refine ⟨sz, fun L nL => ?_⟩
  have s2 := s1.trans (same_upd (o := HO.lst []) nL)
  have gL := upd_same (H := H1) (a := L) (o := HO.lst [])
  have nL := s1.free nL
  show _
  generalize upd H1 L (HO.lst []) = H2 at *
  clear gs nsa s1
  have ga2 := s2 _ _ ga
  refine jnS (M := fun σ H' => Same H0 H' ∧ ∃ (us : List V) (y6 y7 : Option V), H' L = some (.lst us) ∧ DhAll H' (((List.range wd.toNat).flatMap fun k : Nat => entT Tb (treeT Tb (ws.drop (lv + 1)) ((lv : Int) + 1)) (spanN ws lv) lv (lo + (k : Int) * spanN ws lv)).map pD) us ∧ σ = [sR a, sR fa, sI lv, sI lo, sI (spanN ws lv), sR L, y6, y7]) ?_ (fun N kk => ?_)
  · rintro σ H3 ⟨s3, us, y6, y7, g3, d3, rfl⟩
    walk_at "go"
    exact q L us H3 s3 nL g3 d3
  walk_at "go"
  refine ⟨by omega, by omega, for_range (lo := 0) (n := xs.length) (fun i σ H' => Ob (Same H0 H' ∧ ∃ (us : List V) (y6 y7 : Option V), H' L = some (.lst us) ∧ DhAll H' (((List.range i).flatMap fun k : Nat => entT Tb (treeT Tb (ws.drop (lv + 1)) ((lv : Int) + 1)) (spanN ws lv) lv (lo + (k : Int) * spanN ws lv)).map pD) us ∧ σ = [sR a, sR fa, sI lv, sI lo, sI (spanN ws lv), sR L, y6, y7])) (ob ⟨s2, [], none, none, gL, rfl, rfl⟩) ?_ ?_⟩
  rotate_left
  · intro σ H3 h
    obtain ⟨s3, us, y6, y7, g3, d3, rfl⟩ := unob h
    rw [xl] at d3
    exact kk _ _ ⟨s3, us, _, _, g3, d3, rfl⟩
  intro i σ H3 hi h
  obtain ⟨s3, us, y6, y7, g3, d3, rfl⟩ := unob h
  clear h kk
  rw [Int.zero_add]
  have s23 := s3
  obtain ⟨v, ev, dv⟩ := dr.get (i := i) (d := entD Tb (foldD Tb (ws.drop (lv + 1))) (spanN ws lv) (lo + (i : Int) * spanN ws lv)) (by rw [List.getElem?_map, List.getElem?_range (by omega)]; rfl)
  have dv := Dh.mono s23 _ _ dv
  have ga3 := s3 _ _ ga
  have hi8 : i < 8 := by omega
  have uz : us.length ≤ 8 * (2 * 8 ^ 6 + 1) := by
    have z1 := fl i
    have z2 := d3.len
    rw [List.length_map] at z2
    have z3 : i * (2 * 8 ^ 6 + 1) ≤ 8 * (2 * 8 ^ 6 + 1) := Nat.mul_le_mul (by omega) (Nat.le_refl _)
    omega
  have atv : atI xs ((i : Nat) : Int) = some v := atI_nat ev
  have eR : ((List.range (i + 1)).flatMap fun k : Nat => entT Tb (treeT Tb (ws.drop (lv + 1)) ((lv : Int) + 1)) (spanN ws lv) lv (lo + (k : Int) * spanN ws lv)) = ((List.range i).flatMap fun k : Nat => entT Tb (treeT Tb (ws.drop (lv + 1)) ((lv : Int) + 1)) (spanN ws lv) lv (lo + (k : Int) * spanN ws lv)) ++ entT Tb (treeT Tb (ws.drop (lv + 1)) ((lv : Int) + 1)) (spanN ws lv) lv (lo + (i : Int) * spanN ws lv) := by
    rw [List.range_succ, List.flatMap_append, List.flatMap_cons, List.flatMap_nil, List.append_nil]
  rw [eR]
  generalize ((List.range i).flatMap fun k : Nat => entT Tb (treeT Tb (ws.drop (lv + 1)) ((lv : Int) + 1)) (spanN ws lv) lv (lo + (k : Int) * spanN ws lv)) = done at *
  have mul1 : -(2 ^ 64) < ((i : Nat) : Int) ∧ ((i : Nat) : Int) < 2 ^ 64 := by omega
  generalize hlw : lo + (i : Int) * spanN ws lv = lw at *
  walk_at "go"
  refine un ?_
  by_cases u : Uni Tb lw (spanN ws lv)
  · obtain ⟨m, em, _⟩ := id u
    rw [ent_uni u em] at dv
    have e0 : entT Tb (treeT Tb (ws.drop (lv + 1)) ((lv : Int) + 1)) (spanN ws lv) lv lw = [] := by
      unfold entT
      rw [if_pos u]
    rw [e0, List.append_nil]
    walk_at "go"
    exact ob ⟨s3, us, _, _, g3, d3, rfl⟩
  · by_cases e : Emp Tb lw (spanN ws lv)
    · rw [ent_emp e (by omega)] at dv
      have e0 : entT Tb (treeT Tb (ws.drop (lv + 1)) ((lv : Int) + 1)) (spanN ws lv) lv lw = [] := by
        unfold entT
        rw [if_neg u, if_pos e]
      rw [e0, List.append_nil]
      walk_at "go"
      exact ob ⟨s3, us, _, _, g3, d3, rfl⟩
    · rw [ent_sub u e] at dv
      have e0 : entT Tb (treeT Tb (ws.drop (lv + 1)) ((lv : Int) + 1)) (spanN ws lv) lv lw = ((lv : Int) + 1, lw) :: treeT Tb (ws.drop (lv + 1)) ((lv : Int) + 1) lw := by
        unfold entT
        rw [if_neg u, if_neg e]
      rw [e0]
      have l2 : lv + 1 < ws.length := by
        refine Classical.byContradiction fun z => ?_
        have e1 : spanN ws lv = 1 := by
          show prodI (ws.drop (lv + 1)) = 1
          rw [List.drop_of_length_le (by omega)]
          rfl
        rw [e1] at u e
        exact (one_page (T := Tb) (lo := lw)).elim u e
      obtain ⟨a2, xs2, rfl, ga2', dr2⟩ := id dv
      have gf3 := s23 _ _ gf
      walk_at "go"
      refine un ?_
      walk_at "go"
      refine ifEqF (by rw [List.length_map]; omega) ?_
      walk_at "go"
      refine ⟨a2, fa, ws, lv + 1, lw, Tb, ?_, dv, gf3, sm, l2, by omega, fun r vs H4 s4 nr gr4 dr4 => ?_⟩
      · dsimp only
        rw [hlw]
        rfl
      have dr4 : DhAll H4 ((treeT Tb (ws.drop (lv + 1)) ((lv : Int) + 1) lw).map pD) vs := dr4
      have g4 := s4 _ _ g3
      have vl := dr4.len
      rw [List.length_map] at vl
      have tlw := tl lw
      walk_at "go"
      refine un ?_
      walk_at "go"
      dsimp only
      rw [hlw]
      refine ⟨sz, fun t nt => ?_⟩
      have s5 := same_upd (o := HO.tup [V.int ((lv : Int) + 1), V.int lw]) nt
      have gt := upd_same (H := H4) (a := t) (o := HO.tup [V.int ((lv : Int) + 1), V.int lw])
      show _
      generalize upd H4 t (HO.tup [V.int ((lv : Int) + 1), V.int lw]) = H5 at *
      have g5 := s5 _ _ g4
      walk_at "go"
      refine ⟨L, us, _, rfl, rfl, g5, szB (by omega), ?_⟩
      have g6 := upd_same (H := H5) (a := L) (o := HO.lst (us ++ [V.ref t]))
      have rL : r ≠ L := (ne_of_none g3 nr).symm
      have gr6 : (upd H5 L (HO.lst (us ++ [V.ref t]))) r = some (.lst vs) := by
        rw [upd_ne rL]
        exact s5 _ _ gr4
      have d6 := pairs_put (ys := us ++ [V.ref t]) g5 (DhAll.mono (s4.trans s5) _ _ d3)
      have d6t := pairs_put (zs := [((lv : Int) + 1, lw)]) (ys := us ++ [V.ref t]) g5 (vs := [.ref t]) ⟨_, [], rfl, ⟨t, _, rfl, gt, _, _, rfl, rfl, _, _, rfl, rfl, rfl⟩, rfl⟩
      have d6r := pairs_put (ys := us ++ [V.ref t]) g5 (DhAll.mono s5 _ _ dr4)
      have s6 : Same H0 (upd H5 L (HO.lst (us ++ [V.ref t]))) := same_put (s23.trans (s4.trans s5)) nL
      generalize upd H5 L (HO.lst (us ++ [V.ref t])) = H6 at *
      walk_at "go"
      refine ⟨L, r, _, _, rfl, rfl, g6, gr6, Nat.le_of_lt (szB (by rw [List.length_append]; show us.length + 1 + _ ≤ _; omega)), ?_⟩
      refine ob ⟨same_put s6 nL, _, _, _, upd_same, ?_, rfl⟩
      rw [List.map_append]
      have e7 := pairs_put (ys := us ++ [V.ref t] ++ vs) g6 d6
      have e8 := pairs_put (ys := us ++ [V.ref t] ++ vs) g6 d6t
      have e9 := pairs_put (ys := us ++ [V.ref t] ++ vs) g6 d6r
      have := DhAll.app (DhAll.app e7 e8) e9
      rw [List.append_assoc (List.map pD done)] at this
      exact this
theorem ok_tat {f : Addr} {fd : FuncData} (Df : Def K mg "_law_tables_at" s_tables_at f fd) (b : Binds K fd ["_law_told", "_law_fan_here", "_law_level", "_law_first"] []) (T : Txt mg) (c_fan_spans : Cal P w K mg base 1 "_law_fan_spans" (spFanSpans K) []) : ∀ k, Cal P w K mg base (k + 2) "_law_tables_at" (spTat k) []
  | 0 => by
    have no : ∀ vs H Q E, ¬ spTat 0 vs H Q E := fun vs H Q E h => by
      obtain ⟨a, fa, ws, lv, lo, Tb, _, _, _, _, h1, h2, _⟩ := h
      omega
    exact ⟨f, fd, _, _, ⟨fun vs H Q E h => absurd h (no vs H Q E), fun A outer s H args us vs Q E _ _ _ _ h => absurd h (no vs H Q E)⟩, Df.mgf, Df.kp, b, .nil⟩
  | k + 1 => ok_tat_step Df b T c_fan_spans (ok_tat Df b T c_fan_spans k)
end

end

/-! ### sorted of data, of any length -/
theorem pz_each {α : Type} {R : α → Value → Prop} : ∀ {xs : List α} {us : List Value} {ds : List PyData}, Paired R xs us → xs.length = ds.length → PySem.W.EachIs (fun v (b : α × PyData) => R b.1 v) us (xs.zip ds)
  | _, _, ds, .nil, h => by
    cases ds
    · exact .nil
    · cases h
  | _, _, ds, .cons r t, h => by
    cases ds with
    | nil => cases h
    | cons d ds => exact .cons r (pz_each t (by simpa using h))
theorem vals_each : ∀ {out : List Value} {ms : List (V × PyData)}, PySem.W.EachIs (fun v (b : V × PyData) => RelV b.1 v) out ms → Vals (ms.map (·.1)) out
  | _, _, .nil => .nil
  | _, _, .cons r t => .cons r (vals_each t)
theorem dhAll_of {α : Type} {H : Hp} {f : α → PyData} {g : α → V} : ∀ {ms : List α}, (∀ b ∈ ms, Dh H (f b) (g b)) → DhAll H (ms.map f) (ms.map g)
  | [], _ => rfl
  | b :: ms, h => ⟨_, _, rfl, h b List.mem_cons_self, dhAll_of fun c hc => h c (List.mem_cons_of_mem _ hc)⟩
theorem DhAll.zipped {H : Hp} : ∀ {ds : List PyData} {xs : List V}, DhAll H ds xs → ∀ b ∈ xs.zip ds, Dh H b.2 b.1
  | [], xs, h, b, hb => by
    rw [List.zip_nil_right] at hb
    cases hb
  | d :: ds, xs, h, b, hb => by
    obtain ⟨v, vs, rfl, h1, h2⟩ := h
    rw [List.zip_cons_cons] at hb
    rcases List.mem_cons.mp hb with rfl | hb
    · exact h1
    · exact DhAll.zipped h2 b hb
def srt (ds : List PyData) : List PyData := ds.mergeSort (PySem.W.dataLe false fun d => d)
theorem srt_zip {α : Type} (ms : List (α × PyData)) : (ms.mergeSort (PySem.W.dataLe false fun b => b.2)).map (·.2) = srt (ms.map (·.2)) := by
  unfold srt
  exact List.map_mergeSort fun a _ b _ => rfl
def rSortD (K : PySem.W.Frag) : List V → Hp → VK → Prop := fun vs H Q => ∃ (a : Addr) (xs : List V) (ds : List PyData), vs = [V.ref a] ∧ SqL K H a xs ∧ DhAll H ds xs ∧ PySem.W.AllAlike ds ∧ PySem.W.Sortable ds ∧ (∀ d ∈ ds, d.depth ≤ 60) ∧
  ∀ ys p, DhAll H (srt ds) ys → H p = none → Q (.ref p) (upd H p (.lst ys))
section
variable {X : Cx} {pins : List (Addr × Obj)} {σ : L2.St} {H : Hp} {s : Shared}
theorem each_dh (I : Inv X pins σ H s) : ∀ {ds : List PyData} {xs : List V} {us : List Value}, DhAll H ds xs → Vals xs us → PySem.W.EachIs (fun v (b : V × PyData) => ∃ as, Reads s.heap v b.2 as) us (xs.zip ds)
  | [], xs, us, h, r => by
    cases (show xs = [] from h)
    cases r
    exact .nil
  | d :: ds, xs, us, h, r => by
    obtain ⟨v, vs, rfl, h1, h2⟩ := h
    cases r with
    | cons r1 r2 => exact .cons (Dp.reads I d v _ (Dh.dp d v h1) r1) (each_dh I h2 r2)
end
theorem cr_sortedD {X : Cx} (hu : X.A.units + 64 < cLine) : CallR X (.builtin "sorted") (rSortD X.K) := by
  intro pins s σ H vs us Q I r h
  obtain ⟨a, xs, ds, rfl, hs, hd, hal, hk, hdp, q⟩ := h
  obtain ⟨its, rv, hl, hz⟩ := I.list hs
  have lx := hd.len
  have e2 : (xs.zip ds).map (·.2) = ds := List.map_snd_zip (by omega)
  rw [Vals.ref1 r]
  refine PySem.W.sorted_data (R := fun (v : Value) (b : V × PyData) => RelV b.1 v) (enc := fun b => b.2) (bs := xs.zip ds) hl.isList (pz_each rv lx) (each_dh I hd rv) (by rw [e2]; exact hal) (by rw [e2]; exact hk) (by rw [List.length_zip]; omega)
    (fun b hb => ?_) fun out ho eo => ?_
  · have := hdp b.2 (by rw [← e2]; exact List.mem_map.mpr ⟨b, hb, rfl⟩)
    show X.A.units + 2 + b.2.depth < cLine
    omega
  · obtain ⟨ep, he'⟩ := PyProof.Rows.sortedAll_at s.heap its out.toArray
    have ms := vals_each eo
    have dd : DhAll H (srt ds) (((xs.zip ds).mergeSort (PySem.W.dataLe false fun b => b.2)).map (·.1)) := by
      rw [show srt ds = ((xs.zip ds).mergeSort (PySem.W.dataLe false fun b => b.2)).map (·.2) by rw [srt_zip, e2]]
      exact dhAll_of fun b hb => DhAll.zipped hd b ((List.mergeSort_perm _ _).mem_iff.mp hb)
    have hlen : (((xs.zip ds).mergeSort (PySem.W.dataLe false fun b => b.2)).map (·.1)).length ≤ sizeLine := by
      rw [List.length_map, List.length_mergeSort, List.length_zip]
      omega
    exact ⟨.ref _, upd H (s.heap.objs.size + 1) (.lst _), I.laid (t' := s.toks) (fun _ _ => PyProof.Rows.sortedAll_old) (Nat.le_succ _) ⟨hlen, out, ep, ms, he'⟩, rfl, q _ _ dd (I.hok.fresh (Nat.le_succ _))⟩
theorem sortedQ {X : Cx} (K : PySem.W.Frag) (h : X.K = K) (hu : X.A.units + 64 < cLine) : CallR X (.builtin "sorted") (rSortD K) := by
  subst h
  exact cr_sortedD hu

/-! ### sorted pairs -/
def ltP2 (a b : Int × Int) : Bool := decide (a.1 < b.1 ∨ (a.1 = b.1 ∧ a.2 < b.2))
theorem ltP2_data (a b : Int × Int) : PySem.W.dataLt (pD a) (pD b) = ltP2 a b := by
  unfold pD
  rw [PySem.W.dataLt_tuple]
  have e := PySem.W.dataLt_ints [a.1, a.2] [b.1, b.2]
  unfold PySem.W.rowLt at e
  refine Eq.trans e ?_
  unfold ltP2
  simp only [List.cons_lt_cons_iff, List.not_lt_nil, and_false, or_false]
def leP2 (a b : Int × Int) : Bool := !ltP2 b a
theorem leP2_iff (a b : Int × Int) : leP2 a b = true ↔ ¬ (b.1 < a.1 ∨ (b.1 = a.1 ∧ b.2 < a.2)) := by
  unfold leP2 ltP2
  rw [Bool.not_eq_true', decide_eq_false_iff_not]
theorem leP2_trans (a b c : Int × Int) (h1 : leP2 a b = true) (h2 : leP2 b c = true) : leP2 a c = true := by
  rw [leP2_iff] at *
  omega
theorem leP2_total (a b : Int × Int) : (leP2 a b || leP2 b a) = true := by
  rw [Bool.or_eq_true, leP2_iff, leP2_iff]
  omega
theorem leP2_anti (a b : Int × Int) (h1 : leP2 a b = true) (h2 : leP2 b a = true) : a = b := by
  obtain ⟨a1, a2⟩ := a
  obtain ⟨b1, b2⟩ := b
  rw [leP2_iff] at *
  simp only at h1 h2
  have e1 : a1 = b1 := by omega
  have e2 : a2 = b2 := by omega
  rw [e1, e2]
theorem srt_pD (xs : List (Int × Int)) : srt (xs.map pD) = (xs.mergeSort leP2).map pD := by
  unfold srt
  refine (List.map_mergeSort fun a _ b _ => ?_).symm
  rw [PySem.W.dataLe_eq]
  show leP2 a b = !PySem.W.dataLt (pD b) (pD a)
  rw [ltP2_data]
  rfl
theorem sort_permP {xs ys : List (Int × Int)} (h : xs.Perm ys) : xs.mergeSort leP2 = ys.mergeSort leP2 :=
  List.Perm.eq_of_pairwise (fun a b _ _ h1 h2 => leP2_anti a b h1 h2) (List.pairwise_mergeSort leP2_trans leP2_total xs) (List.pairwise_mergeSort leP2_trans leP2_total ys) ((List.mergeSort_perm xs leP2).trans (h.trans (List.mergeSort_perm ys leP2).symm))
theorem srt_permP {xs ys : List (Int × Int)} (h : xs.Perm ys) : srt (xs.map pD) = srt (ys.map pD) := by
  rw [srt_pD, srt_pD, sort_permP h]
theorem eqvA_pD : ∀ (xs : List (Int × Int)), PyData.eqvAll (xs.map pD) (xs.map pD) = true
  | [] => by simp [PyData.eqvAll]
  | x :: xs => by
    simp only [List.map_cons, PyData.eqvAll, pD, PyData.eqv, eqvA_pD xs, beq_self_eq_true, Bool.and_self]
theorem pD_alike {xs : List (Int × Int)} : PySem.W.AllAlike (xs.map pD) := fun d hd e he => by
  obtain ⟨a, _, rfl⟩ := List.mem_map.mp hd
  obtain ⟨b, _, rfl⟩ := List.mem_map.mp he
  simp [pD, PySem.W.alike, PySem.W.alikeAll]
theorem pD_sortable {xs : List (Int × Int)} : PySem.W.Sortable (xs.map pD) := .inl fun d hd => by
  obtain ⟨a, _, rfl⟩ := List.mem_map.mp hd
  exact ⟨_, _, rfl⟩
theorem pD_depth {xs : List (Int × Int)} : ∀ d ∈ xs.map pD, d.depth ≤ 2 := fun d hd => by
  obtain ⟨a, _, rfl⟩ := List.mem_map.mp hd
  simp [pD, PyData.depth, PyData.depthAll]
theorem lay_pD : ∀ (xs : List (Int × Int)), PyData.canLayAll0 (xs.map pD) = true
  | [] => by simp [PyData.canLayAll0]
  | x :: xs => by
    simp only [List.map_cons, PyData.canLayAll0, pD, PyData.canLay0, Bool.and_self, Bool.true_and]
    exact lay_pD xs
theorem depthA_pD : ∀ (xs : List (Int × Int)), PyData.depthAll (xs.map pD) ≤ 3
  | [] => by simp [PyData.depthAll]
  | x :: xs => by
    have := depthA_pD xs
    simp only [List.map_cons, PyData.depthAll, pD, PyData.depth]
    have : PyData.depthAll (List.map pD xs) ≤ 3 := this
    unfold pD at this
    omega
theorem shaped_pD (xs : List (Int × Int)) : SeqAt.shaped (.list (xs.map pD)) = true := by
  have h1 := depthA_pD xs
  have h2 : PyData.depth (.list (xs.map pD)) ≤ 64 := by
    simp only [PyData.depth]
    omega
  show (PyData.canLay0 (.list (xs.map pD)) && decide (PyData.depth (.list (xs.map pD)) ≤ 64)) = true
  rw [Bool.and_eq_true]
  exact ⟨by simp only [PyData.canLay0]; exact lay_pD xs, decide_eq_true h2⟩

section

-- a condition of an operator
local macro_rules | `(tactic| walk_at "cond") => `(tactic| first
  | (show (0 : Int) < _; omega)
  | (show CDiv _ _; constructor <;> (first | decide | omega))
  | (show CMul _ _; first | (refine cmul_l ?_; constructor <;> (first | decide | omega)) | (refine cmul_r ?_; constructor <;> (first | decide | omega)))
  | (show CPow _ _; exact (by refine ⟨by decide, by decide, by decide⟩))
  | (show CDivW _ _; exact ⟨by decide, by decide +kernel⟩))
local macro_rules | `(tactic| walk_at "sq") => `(tactic| first | assumption | exact Dh.mono (same_upd (by assumption)) _ _ (by assumption) | exact .inl (.inl (.inl (by assumption))) | exact .inr (.inl (.inl (by assumption))) | exact SqL.of (by assumption) | exact .inl (by assumption) | exact .inl (SqL.of (by assumption)) | exact SqT.of (by assumption) | exact .inr (SqT.of (by assumption)))
local macro_rules | `(tactic| walk_at "st") => `(tactic| first
  | refine ⟨_, rfl, ?_⟩
  | refine ⟨_, _, rfl, rfl, ?_⟩
  | refine .inl ⟨_, rfl, ?_⟩
  | refine ⟨rfl, ?_⟩
  | refine ⟨_, _, rfl, by walk_at "sq", ?_⟩
  | refine ⟨.inl ⟨rfl, _, SqL.of (by assumption)⟩, ?_⟩
  | refine ⟨by walk_at "cond", ?_⟩
  | (refine' ifBT ?hh ?_; (case hh => first | rfl | assumption))
  | (refine' ifBF ?hh ?_; (case hh => first | rfl | assumption)))
local macro_rules | `(tactic| walk_at "go") => `(tactic| repeat walk_at "st")
local macro_rules | `(tactic| walk_at "yes") => `(tactic| (refine' ifT ?hh ?_; (case hh => first | rfl | decide +kernel)))
local macro_rules | `(tactic| walk_at "no") => `(tactic| (refine' ifF ?hh ?_; (case hh => first | decide +kernel | (intro z; cases z; done))))

-- facts carried to the heap at hand, from the facts of the context
local macro_rules | `(tactic| walk_at "lnk") => `(tactic| first | assumption | exact same_upd (by assumption))
local macro_rules | `(tactic| walk_at "sm") => `(tactic| first | walk_at "lnk" | exact same_rfl | (refine Same.trans ?_ (by walk_at "lnk"); walk_at "sm"))
local macro_rules | `(tactic| walk_at "at") => `(tactic| first | assumption | exact upd_same | (refine Same.get (by walk_at "lnk") ?_; walk_at "at"))
local macro_rules | `(tactic| walk_at "ix") => `(tactic| first
  | exact atI_nat (j := 0) rfl | exact atI_nat (j := 1) rfl | exact atI_nat (j := 2) rfl | exact atI_nat (j := 3) rfl
  | exact atI_nat (j := 4) rfl | exact atI_nat (j := 5) rfl | exact atI_nat (j := 6) rfl | assumption)
local macro_rules | `(tactic| walk_at "sT") => `(tactic| first | exact SqT.of (by walk_at "at") | exact SqL.of (by walk_at "at"))
local macro_rules | `(tactic| walk_at "st") => `(tactic| refine ⟨_, _, _, _, rfl, rfl, by walk_at "sT", by walk_at "ix", ?_⟩)
local macro_rules | `(tactic| walk_at "side") => `(tactic| first | rfl | assumption | walk_at "at" | walk_at "sm" | omega | decide)
-- a call: the promise's letters from its arguments, then what is asked from the context
local macro_rules | `(tactic| walk_at "call") => `(tactic| ((repeat (apply Exists.intro)); refine And.intro rfl ?_; repeat (refine And.intro (by walk_at "side") ?_)))

/-! ### _law_needed_tables -/
abbrev s_needed_tables : Stmt := topS 49
theorem sc_needed_tables : FnScope ["_law_marks", "_law_fan_here", "_law_spans", "_law_total", "_law_found", "_law_level", "_law_k", "_law_low", "_law_mapped", "_law_page"] ["_law_marks", "_law_fan_here"] (C8.fnScope s_needed_tables) := C8.fnScope_by (by decide +kernel)
def spNeed : Sp := fun vs H Q _ => ∃ (da fa : Addr) (ws : List Int) (T : Int → Option RMark) (n : Nat), vs = [.ref da, .ref fa] ∧ DTab H da T n ∧ n ≤ 900000 ∧ H fa = some (.lst (ws.map V.int)) ∧ Small ws ∧ prodI ws ≤ 4096 ∧ (∀ p m, T p = some m → MOk m) ∧
  ∀ r us H', Same H H' → H' r = some (.lst us) → DhAll H' (srt ((needL T ws).map pD)) us → Q (.ref r) H'
open Classical in
noncomputable def needRow (T : Int → Option RMark) (ws : List Int) (lv : Nat) (m : Nat) : List (Int × Int) := ((List.range m).filter fun i : Nat => decide (¬ Uni T ((i : Int) * spanN ws lv) (spanN ws lv) ∧ ¬ Emp T ((i : Int) * spanN ws lv) (spanN ws lv))).map fun i : Nat => ((lv : Int) + 1, (i : Int) * spanN ws lv)
theorem needRow_yes {T : Int → Option RMark} {ws : List Int} {lv m : Nat} (u : ¬ Uni T ((m : Int) * spanN ws lv) (spanN ws lv)) (e : ¬ Emp T ((m : Int) * spanN ws lv) (spanN ws lv)) : needRow T ws lv (m + 1) = needRow T ws lv m ++ [((lv : Int) + 1, (m : Int) * spanN ws lv)] := by
  unfold needRow
  rw [List.range_succ, List.filter_append, List.map_append]
  congr 1
  simp [u, e]
theorem needRow_no {T : Int → Option RMark} {ws : List Int} {lv m : Nat} (h : Uni T ((m : Int) * spanN ws lv) (spanN ws lv) ∨ Emp T ((m : Int) * spanN ws lv) (spanN ws lv)) : needRow T ws lv (m + 1) = needRow T ws lv m := by
  unfold needRow
  rw [List.range_succ, List.filter_append, List.map_append]
  rcases h with h | h <;> simp [h]
theorem needRow_len (T : Int → Option RMark) (ws : List Int) (lv m : Nat) : (needRow T ws lv m).length ≤ m := by
  unfold needRow
  rw [List.length_map]
  refine Nat.le_trans (List.length_filter_le _ _) ?_
  rw [List.length_range]
  exact Nat.le_refl _
noncomputable def needT (T : Int → Option RMark) (ws : List Int) (j : Nat) : List (Int × Int) := (List.range j).flatMap fun lv : Nat => needRow T ws lv (prodI ws / spanN ws lv).toNat
theorem needT_all (T : Int → Option RMark) (ws : List Int) : needT T ws (ws.length - 1) = needL T ws := rfl
theorem needT_succ (T : Int → Option RMark) (ws : List Int) (j : Nat) : needT T ws (j + 1) = needT T ws j ++ needRow T ws j (prodI ws / spanN ws j).toNat := by
  unfold needT
  rw [List.range_succ, List.flatMap_append, List.flatMap_cons, List.flatMap_nil, List.append_nil]
section
variable {P : Program} {w : World} {K : PySem.W.Frag} {mg : Str → Option Value} {base : Heap}
theorem ok_need {f : Addr} {fd : FuncData} (Df : Def K mg "_law_needed_tables" s_needed_tables f fd) (b : Binds K fd ["_law_marks", "_law_fan_here"] []) (T : TxtA mg) (c_fan_spans : Cal P w K mg base 1 "_law_fan_spans" (spFanSpans K) []) (c_uniform : Cal P w K mg base 2 "_law_uniform" spUni []) : Cal P w K mg base 3 "_law_needed_tables" spNeed [] := by
  refine cal0 Df b .nil sc_needed_tables (fun vs H Q E h => ?_) (fun cdv A outer s H vs Q E hr h => ?_)
  · obtain ⟨da, fa, ws, Tb, n, rfl, _⟩ := h
    rfl
  obtain ⟨da, fa, ws, Tb, n, rfl, dt, n0, gf, sm, pl, mo, q⟩ := h
  refine ⟨_, (pss_cons (ps_set (i := 2) sc_needed_tables.nd rfl (.inl rfl) (C8.pe_c c_fan_spans hr (by omega) (by rfl) (pa_cons (pv 1) pa_nil)))
      (pss_cons (ps_set (i := 3) sc_needed_tables.nd rfl (.inl rfl) (pe_op op_mul (pe_ix (ixL K rfl) (pv 2) pe_int (fun _ _ => rfl)) (pe_ix (ixL K rfl) (pv 1) pe_int (fun _ _ => rfl))))
      (pss_cons (ps_set (i := 4) sc_needed_tables.nd rfl (.inl rfl) (pe_lst pa_nil))
      (pss_cons (ps_mk (ps_for PassesOwn.never rfl (pi_range1 (by rfl) T.range (pa_cons (pe_op op_sub (pe_callB (lenQ K rfl) (by rfl) T.len PySem.boot_len (pa_cons (pv 1) pa_nil)) pe_int) pa_nil)) (pg_name (i := 5) sc_needed_tables.nd rfl (.inl rfl))
      (pss_one (ps_mk (ps_for PassesOwn.never rfl (pi_range1 (by rfl) T.range (pa_cons (pe_op op_fdiv (pv 3) (pe_ix (ixL K rfl) (pv 2) (pv 5) (fun _ _ => rfl))) pa_nil)) (pg_name (i := 6) sc_needed_tables.nd rfl (.inl rfl))
      (pss_cons (ps_set (i := 7) sc_needed_tables.nd rfl (.inl rfl) (pe_op op_mul (pv 6) (pe_ix (ixL K rfl) (pv 2) (pv 5) (fun _ _ => rfl))))
      (pss_cons (ps_set (i := 8) sc_needed_tables.nd rfl (.inl rfl) (pe_callB (lenQ K rfl) (by rfl) T.len PySem.boot_len (pa_cons (pe_lc (own := [("_law_page", 9)]) (g := gName 9) rfl sc_needed_tables.nd (pi_range2 (by rfl) T.range (pa_cons (pv 7) (pa_cons (pe_op op_add (pv 7) (pe_ix (ixL K rfl) (pv 2) (pv 5) (fun _ _ => rfl))) pa_nil))) (blkOk_by (own := [("_law_page", 9)]) (N := ["_law_marks", "_law_fan_here", "_law_spans", "_law_total", "_law_found", "_law_level", "_law_k", "_law_low", "_law_mapped", "_law_page"]) (sc := C8.fnScope s_needed_tables) (by decide +kernel)) (fun _ _ _ _ _ => (pg_name (i := 9) sc_needed_tables.nd rfl (.inl rfl))) (fun _ _ _ _ _ => (pts_one (pt_cmp (pc_din (hu_of hr) (pv 9) (pv 0))))) (fun _ _ _ _ _ => (pv 9))) pa_nil)))
      (pss_one (ps_mk (ps_if (PW.pt (pw_and (pt_cmpR op_gt (pv 8) pe_int (nomark _)) (pw_and1 (pt_not (pt_val (C8.pe_c c_uniform hr (by omega) (by rfl) (pa_cons (pv 0) (pa_cons (pv 7) (pa_cons (pe_op op_add (pv 7) (pe_ix (ixL K rfl) (pv 2) (pv 5) (fun _ _ => rfl))) pa_nil)))))))))
      (pss_one (ps_expr (pe_bm PySem.F.plainAttrs_list PySem.F.slot_list_append PySem.F.type_list_append mt_append (pv 4) (pa_cons (pe_tup (pa_cons (pe_op op_add (pv 5) pe_int) (pa_cons (pv 7) pa_nil))) pa_nil))))
      pss_nil))))))))))
      (pss_one (ps_ret (pe_callB (sortedQ K rfl hr.units) (by rfl) T.sorted (by decide +kernel) (pa_cons (pv 4) pa_nil)))))))), ?_⟩
  have h0 : 0 < ws.length := List.length_pos_iff.mpr sm.1
  have h6 := sm.2.1
  walk_at "go"
  refine ⟨sm, fun sa H1 s1 nsa gs => ?_⟩
  walk_at "go"
  refine ⟨sa, _, _, .int (spanN ws 0), rfl, rfl, SqL.of gs, atI_nat (j := 0) (by rw [List.getElem?_map, spans_get h0]; rfl), ?_⟩
  walk_at "go"
  refine ⟨fa, _, _, .int (ws.headD 0), rfl, rfl, SqL.of (s1 _ _ gf), atI_nat (j := 0) (by
    cases ws with
    | nil => exact absurd rfl sm.1
    | cons w0 l => rfl), ?_⟩
  have p0 := span_pos sm 0
  have p1 := span_le sm 0
  walk_at "go"
  dsimp only
  rw [span_zero sm]
  have pp := (prod_pos sm.2.2).1
  refine ⟨sz, fun L nL => ?_⟩
  have s2 := s1.trans (same_upd (o := HO.lst []) nL)
  have gL := upd_same (H := H1) (a := L) (o := HO.lst [])
  have gs2 := same_upd (o := HO.lst []) nL _ _ gs
  have saL := ne_of_none gs nL
  have nL := s1.free nL
  show _
  generalize upd H1 L (HO.lst []) = H2 at *
  have gf2 := s2 _ _ gf
  clear gs nsa s1
  refine jnS (M := fun σ H' => Same H H' ∧ ∃ (us : List V) (y5 y6 y7 y8 : Option V), H' L = some (.lst us) ∧ DhAll H' ((needL Tb ws).map pD) us ∧ σ = [sR da, sR fa, sR sa, sI (prodI ws), sR L, y5, y6, y7, y8, none]) ?_ (fun N kk => ?_)
  · rintro σ H3 ⟨s3, us, y5, y6, y7, y8, g3, d3, rfl⟩
    walk_at "go"
    refine ⟨L, us, _, rfl, SqL.of g3, d3, pD_alike, pD_sortable, fun d hd => Nat.le_trans (pD_depth d hd) (by decide), fun ys p dy np => ?_⟩
    exact q p ys _ (s3.trans (same_upd np)) upd_same (DhAll.mono (same_upd np) _ _ dy)
  walk_at "go"
  have el : (ws.map V.int).length = ws.length := List.length_map _
  have en : ((((ws.map V.int).length : Nat) : Int) - 1).toNat = ws.length - 1 := by omega
  refine ⟨by omega, by omega, for_range (lo := 0) (n := ((((ws.map V.int).length : Nat) : Int) - 1).toNat) (fun j σ H' => Ob (Same H H' ∧ ∃ (us : List V) (y5 y6 y7 y8 : Option V), H' L = some (.lst us) ∧ us.length ≤ j * 4096 ∧ H' sa = some (.lst ((spansOf ws).map V.int)) ∧ DhAll H' ((needT Tb ws j).map pD) us ∧ σ = [sR da, sR fa, sR sa, sI (prodI ws), sR L, y5, y6, y7, y8, none])) (ob ⟨s2, [], none, none, none, none, gL, Nat.zero_le _, gs2, rfl, rfl⟩) ?_ ?_⟩
  rotate_left
  · intro σ H3 h
    obtain ⟨s3, us, y5, y6, y7, y8, g3, _, _, d3, rfl⟩ := unob h
    rw [en, needT_all] at d3
    exact kk _ _ ⟨s3, us, _, _, _, _, g3, d3, rfl⟩
  intro j σ H3 hj h
  obtain ⟨s3, us0, y5, y6, y7, y8, g3, ul0, gs3, d3, rfl⟩ := unob h
  clear h kk gf2 gs2
  rw [en] at hj
  have hjl : j < ws.length := by omega
  have sp := span_b sm j
  have sl := span_le sm j
  have gsp : atI ((spansOf ws).map V.int) (0 + ((j : Nat) : Int)) = some (.int (spanN ws j)) := by
    rw [Int.zero_add]
    exact atI_nat (by rw [List.getElem?_map, spans_get hjl]; rfl)
  obtain ⟨c, ec⟩ := span_dvd (ws := ws) (k := j) hjl
  have q0 : prodI ws / spanN ws j = c := by
    rw [ec]
    exact Int.mul_ediv_cancel _ (by omega)
  have nT := needT_succ Tb ws j
  rw [nT]
  have c0 : 0 ≤ c := by
    rw [← q0]
    exact Int.ediv_nonneg (by omega) (by omega)
  have c1 : c ≤ 4096 := by
    rw [← q0]
    exact Int.le_trans (Int.ediv_le_self _ (by omega)) pl
  have sa_da : sa ≠ da := fun z => by
    obtain ⟨kvs, gd, _⟩ := (dt.same s3).ex
    rw [← z, gs3] at gd
    cases gd
  walk_at "go"
  refine un ?_
  walk_at "go"
  rw [q0]
  have rl := needRow_len Tb ws j
  refine ⟨by omega, by omega, for_range (lo := 0) (n := c.toNat) (fun i σ H' => Ob (Same H H' ∧ ∃ (us : List V) (y6 y7 y8 : Option V), H' L = some (.lst us) ∧ us.length ≤ j * 4096 + i ∧ H' sa = some (.lst ((spansOf ws).map V.int)) ∧ DhAll H' ((needT Tb ws j ++ needRow Tb ws j i).map pD) us ∧ σ = [sR da, sR fa, sR sa, sI (prodI ws), sR L, sI (0 + (j : Int)), y6, y7, y8, none])) (ob ⟨s3, us0, _, _, _, g3, ul0, gs3, by
    have e : needRow Tb ws j 0 = [] := rfl
    rw [e, List.append_nil]
    exact d3, rfl⟩) ?_ ?_⟩
  rotate_left
  · intro σ H4 h
    obtain ⟨s4, us, y6, y7, y8, g4, ul, gs4, d4, rfl⟩ := unob h
    exact ob ⟨s4, us, _, _, _, _, g4, by omega, gs4, d4, rfl⟩
  clear s3 g3 gs3 d3 ul0
  intro i σ H4 hi h
  obtain ⟨s4, us, y6', y7', y8', g4, ul, gs4, d4, rfl⟩ := unob h
  clear h
  have m0 : 0 ≤ (i : Int) * spanN ws j := Int.mul_nonneg (by omega) (by omega)
  have m1 : (i : Int) * spanN ws j + spanN ws j ≤ prodI ws := by
    have := Int.mul_le_mul_of_nonneg_right (show (i : Int) + 1 ≤ c by omega) (show 0 ≤ spanN ws j by omega)
    rw [Int.add_mul, Int.one_mul, ← ec] at this
    exact this
  have yes := needRow_yes (T := Tb) (ws := ws) (lv := j) (m := i)
  have no := needRow_no (T := Tb) (ws := ws) (lv := j) (m := i)
  have ei : (0 : Int) + (i : Int) = (i : Int) := Int.zero_add _
  rw [ei]
  have mul1 : -(2 ^ 64) < ((i : Nat) : Int) ∧ ((i : Nat) : Int) < 2 ^ 64 := by omega
  generalize needRow Tb ws j i = row at *
  generalize hlw : (i : Int) * spanN ws j = lw at *
  generalize spanN ws j = s at *
  walk_at "go"
  dsimp only
  rw [hlw]
  obtain ⟨kvs, gd, kl, tk⟩ := (dt.same s4).ex
  refine ⟨lw, lw + s, rfl, ⟨by omega, by omega, by omega, by omega⟩, fun D nD => lc_range (lo := lw) (n := (lw + s - lw).toNat) (fun i H' => Ob (Same H4 H' ∧ ∃ ms : List V, H' D = some (.lst ms) ∧ ms.length ≤ i ∧ (0 < ms.length ↔ ∃ p, lw ≤ p ∧ p < lw + (i : Int) ∧ (Tb p).isSome = true))) (ob ⟨same_upd nD, [], upd_same, Nat.le_refl _, ⟨fun z => absurd z (Nat.lt_irrefl _), fun ⟨p, k1, k2, _⟩ => by omega⟩⟩) ?_ ?_⟩
  · intro k H5 hk h
    obtain ⟨s5, ms, gD, ml, mk⟩ := unob h
    clear h
    have gd5 := s5 _ _ gd
    have dn : DGet H5 da (V.int (lw + (k : Int))) (valV kvs (.inl (lw + (k : Int)))) := DGet.k (k := .inl (lw + (k : Int))) gd5
    have e1 : ∀ p, (lw ≤ p ∧ p < lw + ((k + 1 : Nat) : Int)) ↔ (lw ≤ p ∧ p < lw + (k : Int)) ∨ p = lw + (k : Int) := fun p => by omega
    have tk := tk (lw + (k : Int))
    generalize hpg : lw + (k : Int) = pg at *
    cases em : Tb pg with
    | none =>
      rw [tk.1 em] at dn
      walk_at "go"
      refine ob ⟨s5, ms, gD, by omega, mk.trans ⟨fun ⟨p, k1, k2, k3⟩ => ⟨p, k1, by omega, k3⟩, fun ⟨p, k1, k2, k3⟩ => ?_⟩⟩
      rcases (e1 p).mp ⟨k1, k2⟩ with z | z
      · exact ⟨p, z.1, z.2, k3⟩
      · rw [z, em] at k3
        cases k3
    | some m =>
      obtain ⟨ma, em1, _⟩ := tk.2 m em
      rw [em1] at dn
      walk_at "go"
      refine ⟨ms, gD, sz5 (by omega), ob ⟨same_put s5 nD, _, upd_same, by rw [List.length_append]; exact Nat.add_le_add_right ml 1, ⟨fun _ => ⟨pg, by omega, by omega, by rw [em]; rfl⟩, fun _ => by rw [List.length_append]; exact Nat.succ_pos _⟩⟩⟩
  intro H5 h
  obtain ⟨s5, ms, gD, ml, mk⟩ := unob h
  clear h
  have es : lw + ((lw + s - lw).toNat : Int) = lw + s := by
    rw [Int.toNat_of_nonneg (a := lw + s - lw) (by clear mk; omega)]
    clear mk
    omega
  rw [es] at mk
  have mk2 : ¬ (0 < ms.length) ↔ Emp Tb lw s := by
    rw [mk]
    constructor
    · intro z p p0 p1
      cases e : Tb p with
      | none => rfl
      | some m => exact absurd ⟨p, p0, p1, by rw [e]; rfl⟩ z
    · rintro z ⟨p, p0, p1, e⟩
      rw [z p p0 p1] at e
      cases e
  have g5 := s5 _ _ g4
  have s45 := s4.trans s5
  have d5 := DhAll.mono s5 _ _ d4
  have gs5 := s5 _ _ gs4
  clear gd tk kl
  walk_at "go"
  refine un ?_
  walk_at "go"
  by_cases hm : 0 < ms.length
  · have ne : ¬ Emp Tb lw s := fun z => mk2.mpr z hm
    refine ifT (by omega) ?_
    walk_at "go"
    unfold spUni
    refine ⟨da, lw, s, Tb, n, rfl, dt.same s45, sp.1, by omega, by omega, by omega, mo, fun u H6 s6 => ?_, fun u H6 s6 => ?_⟩
    · walk_at "go"
      rw [no (.inl u)]
      exact ob ⟨s45.trans s6, us, _, _, _, s6 _ _ g5, by omega, s6 _ _ gs5, DhAll.mono s6 _ _ d5, rfl⟩
    · rw [yes u ne]
      have g6 := s6 _ _ g5
      have s46 := s45.trans s6
      have gs6 := s6 _ _ gs5
      have d6 := DhAll.mono s6 _ _ d5
      clear s5 gD g5 s45 s6 d5 gs5 yes no mk mk2
      walk_at "go"
      refine ⟨sz, fun t nt => ?_⟩
      have s7 := same_upd (o := HO.tup [V.int (0 + (j : Int) + 1), V.int lw]) nt
      have gt := upd_same (H := H6) (a := t) (o := HO.tup [V.int (0 + (j : Int) + 1), V.int lw])
      show _
      generalize upd H6 t (HO.tup [V.int (0 + (j : Int) + 1), V.int lw]) = H7 at *
      have g7 := s7 _ _ g6
      walk_at "go"
      refine ⟨L, us, _, rfl, rfl, g7, sz5 (by omega), ?_⟩
      refine ob ⟨same_put (s46.trans s7) nL, us ++ [.ref t], _, _, _, upd_same, by rw [List.length_append]; exact Nat.add_le_add_right ul 1, by rw [upd_ne saL]; exact s7 _ _ gs6, ?_, rfl⟩
      have e1 := pairs_put (ys := us ++ [V.ref t]) g7 (DhAll.mono s7 _ _ d6)
      have e2 := pairs_put (zs := [((j : Int) + 1, lw)]) (ys := us ++ [V.ref t]) g7 (vs := [.ref t]) ⟨_, [], rfl, ⟨t, _, rfl, by rw [gt, Int.zero_add], _, _, rfl, rfl, _, _, rfl, rfl, rfl⟩, rfl⟩
      have := DhAll.app e1 e2
      rw [← List.append_assoc, List.map_append]
      exact this
  · have e := mk2.mp hm
    refine ifF (by omega) ?_
    walk_at "go"
    rw [no (.inr e)]
    exact ob ⟨s45, us, _, _, _, g5, by omega, gs5, d5, rfl⟩
end

end

/-! ### depths -/
theorem dle_mark2 (m : RMark) : ∀ n, Dle (n + 2) (mD m) := fun n => ⟨by show 3 ≤ 100000; decide, fun d hd => by
  simp only [List.mem_cons, List.not_mem_nil, or_false] at hd
  rcases hd with rfl | rfl | rfl <;> (cases n <;> trivial)⟩
theorem dle_more : ∀ {n : Nat} {d : PyData}, Dle n d → Dle (n + 1) d
  | 0, _, h => h.elim
  | n + 1, .list ds, h => ⟨h.1, fun d hd => dle_more (h.2 d hd)⟩
  | n + 1, .tuple ds, h => ⟨h.1, fun d hd => dle_more (h.2 d hd)⟩
  | n + 1, .dict _, h => h
  | n + 1, .none, _ => trivial
  | n + 1, .bool _, _ => trivial
  | n + 1, .int _, _ => trivial
  | n + 1, .str _, _ => trivial
theorem dle_to {n m : Nat} {d : PyData} (h : Dle n d) (l : n ≤ m) : Dle m d := by
  induction l with
  | refl => exact h
  | step _ ih => exact dle_more ih
theorem dle_fold {T : Int → Option RMark} : ∀ (ws : List Int) (lo : Int), (∀ x ∈ ws, 2 ≤ x ∧ x ≤ 8) → Dle (ws.length + 2) (.list (foldD T ws lo))
  | [], lo, _ => ⟨by show 0 ≤ 100000; decide, fun d hd => by cases hd⟩
  | w :: ws, lo, h => by
    have hw := h w List.mem_cons_self
    refine ⟨by rw [foldD_len]; omega, fun d hd => ?_⟩
    obtain ⟨k, _, rfl⟩ := List.mem_map.mp (show d ∈ (List.range w.toNat).map _ from hd)
    show Dle (ws.length + 2) (entD T (foldD T ws) (prodI ws) (lo + (k : Int) * prodI ws))
    unfold entD
    split
    · cases T (lo + (k : Int) * prodI ws) with
      | none => trivial
      | some m => exact dle_mark2 m _
    · split
      · trivial
      · exact dle_fold ws _ fun x hx => h x (List.mem_cons_of_mem _ hx)

/-! ### the tables that are kept -/
mutual
theorem Dh.mono2 {H H' : Hp} (s1 : ∀ a us, H a = some (.tup us) → H' a = some (.tup us)) (s2 : ∀ a us, H a = some (.lst us) → H' a = some (.lst us)) : ∀ (d : PyData) (x : V), Dh H d x → Dh H' d x
  | .none, x, h => h
  | .bool b, x, h => h
  | .int i, x, h => h
  | .str i, x, h => h
  | .list ds, x, h => by
    obtain ⟨a, xs, e, g, r⟩ := h
    exact ⟨a, xs, e, s2 _ _ g, DhAll.mono2 s1 s2 ds xs r⟩
  | .tuple ds, x, h => by
    obtain ⟨a, xs, e, g, r⟩ := h
    exact ⟨a, xs, e, s1 _ _ g, DhAll.mono2 s1 s2 ds xs r⟩
  | .dict _, x, h => False.elim h
theorem DhAll.mono2 {H H' : Hp} (s1 : ∀ a us, H a = some (.tup us) → H' a = some (.tup us)) (s2 : ∀ a us, H a = some (.lst us) → H' a = some (.lst us)) : ∀ (ds : List PyData) (xs : List V), DhAll H ds xs → DhAll H' ds xs
  | [], xs, h => h
  | d :: ds, xs, h => by
    obtain ⟨v, vs, e, g, r⟩ := h
    exact ⟨v, vs, e, Dh.mono2 s1 s2 d v g, DhAll.mono2 s1 s2 ds vs r⟩
end
theorem tidy_more : ∀ {n : Nat} {d : PyData}, Tidy n d → Tidy (n + 1) d
  | 0, .list _, h => h.elim
  | 0, .tuple ds, h => h.elim
  | 0, .dict _, h => h.elim
  | 0, .none, _ => trivial
  | 0, .bool _, _ => trivial
  | 0, .int _, _ => trivial
  | 0, .str _, _ => trivial
  | n + 1, .list ds, h => fun d hd => tidy_more (h d hd)
  | n + 1, .tuple ds, h => h
  | n + 1, .dict _, h => h
  | n + 1, .none, _ => trivial
  | n + 1, .bool _, _ => trivial
  | n + 1, .int _, _ => trivial
  | n + 1, .str _, _ => trivial
theorem tidy_to {n m : Nat} {d : PyData} (h : Tidy n d) (l : n ≤ m) : Tidy m d := by
  induction l with
  | refl => exact h
  | step _ ih => exact tidy_more ih
theorem tidy_fold {T : Int → Option RMark} : ∀ (ws : List Int) (lo : Int), Tidy (ws.length + 2) (.list (foldD T ws lo))
  | [], lo => fun d hd => by cases hd
  | w :: ws, lo => by
    refine fun d hd => ?_
    obtain ⟨k, _, rfl⟩ := List.mem_map.mp (show d ∈ (List.range w.toNat).map _ from hd)
    show Tidy (ws.length + 2) (entD T (foldD T ws) (prodI ws) (lo + (k : Int) * prodI ws))
    unfold entD
    split
    · cases T (lo + (k : Int) * prodI ws) with
      | none => trivial
      | some m => exact rfl
    · split
      · trivial
      · exact tidy_fold ws _
structure KOne (C CS : Addr) (B H : Hp) (q : Addr) : Prop where
  ex : ∃ (ft du sh rt dx wt st dx' : Addr) (ws : List Int) (ds : List PyData), H q = some (.lst [.ref ft, .ref du]) ∧ B q = none ∧ H ft = some (.ins C dx (ftF sh rt)) ∧ ShapeAt CS H sh wt st dx' ws ∧ Dhf B H (.list ds) (.ref rt) ∧ Dhf B H (.list ds) (.ref du) ∧ Dle 8 (.list ds) ∧ Tidy 8 (.list ds)
section
variable {C CS CR : Addr} {B H H' : Hp} {q : Addr}
theorem KOne.same (h : KOne C CS B H q) (s : Same H H') : KOne C CS B H' q := by
  obtain ⟨ft, du, sh, rt, dx, wt, st, dx', ws, ds, h1, h2, h3, h4, h5, h6, h7⟩ := h.ex
  exact ⟨ft, du, sh, rt, dx, wt, st, dx', ws, ds, s _ _ h1, h2, s _ _ h3, h4.same s, h5.same s, h6.same s, h7⟩
theorem ft_reg {p C CR dx dx2 sh rt ra : Addr} {lim : Int} {H : Hp} (h : H p = some (.ins C dx (ftF sh rt))) (k : H p = some (.ins CR dx2 (rgF lim ra))) : False := by
  rw [h] at k
  cases k
theorem sh_reg {p CS CR dx dx2 wt st ra : Addr} {ws : List Int} {lim : Int} {H : Hp} (h : H p = some (.ins CS dx (shF wt st ws))) (k : H p = some (.ins CR dx2 (rgF lim ra))) : False := by
  rw [h] at k
  cases k
theorem ShapeAt.but {p sh wt st dx dx2 ra : Addr} {ws : List Int} {lim : Int} (h : ShapeAt CS H sh wt st dx ws) (b : But H H' p) (k : H p = some (.ins CR dx2 (rgF lim ra))) : ShapeAt CS H' sh wt st dx ws := by
  have ne : sh ≠ p := fun z => by
    have := h.g
    rw [z] at this
    exact sh_reg this k
  exact ⟨b _ _ ne h.g, b.tup (Mut.ins k) h.w, b.tup (Mut.ins k) h.s, h.sm⟩
theorem KOne.but {p dx2 ra : Addr} {lim : Int} (h : KOne C CS B H q) (b : But H H' p) (k : H p = some (.ins CR dx2 (rgF lim ra))) : KOne C CS B H' q := by
  obtain ⟨ft, du, sh, rt, dx, wt, st, dx', ws, ds, h1, h2, h3, h4, h5, h6, h7⟩ := h.ex
  have m := Mut.ins k
  exact ⟨ft, du, sh, rt, dx, wt, st, dx', ws, ds, b.lst m h1, h2, b _ _ (fun z => by rw [z] at h3; exact ft_reg h3 k) h3, h4.but b k, Dhf.mono (fun a us g => b.tup m g) (fun a us _ g => b.lst m g) (fun _ n => n) _ _ h5, Dhf.mono (fun a us g => b.tup m g) (fun a us _ g => b.lst m g) (fun _ n => n) _ _ h6, h7⟩
theorem ShapeAt.butD {d sh wt st dx : Addr} {ws : List Int} {kvs : List (Key × V)} (h : ShapeAt CS H sh wt st dx ws) (b : But H H' d) (k : H d = some (.dK kvs)) : ShapeAt CS H' sh wt st dx ws := by
  have ne : sh ≠ d := fun z => by
    have := h.g
    rw [z, k] at this
    cases this
  exact ⟨b _ _ ne h.g, b.tup (Mut.dk k) h.w, b.tup (Mut.dk k) h.s, h.sm⟩
theorem KOne.butD {d : Addr} {kvs : List (Key × V)} (h : KOne C CS B H q) (b : But H H' d) (k : H d = some (.dK kvs)) : KOne C CS B H' q := by
  obtain ⟨ft, du, sh, rt, dx, wt, st, dx', ws, ds, h1, h2, h3, h4, h5, h6, h7⟩ := h.ex
  have m := Mut.dk k
  exact ⟨ft, du, sh, rt, dx, wt, st, dx', ws, ds, b.lst m h1, h2, b _ _ (fun z => by rw [z, k] at h3; cases h3) h3, h4.butD b k, Dhf.mono (fun a us g => b.tup m g) (fun a us _ g => b.lst m g) (fun _ n => n) _ _ h5, Dhf.mono (fun a us g => b.tup m g) (fun a us _ g => b.lst m g) (fun _ n => n) _ _ h6, h7⟩
/-- the list of them grows -/
theorem KOne.put {L : Addr} {zs zs' : List V} {o : HO} (h : KOne C CS B H q) (g : H L = some (.lst zs)) (bl : B L = some o) : KOne C CS B (upd H L (.lst zs')) q := by
  obtain ⟨ft, du, sh, rt, dx, wt, st, dx', ws, ds, h1, h2, h3, h4, h5, h6, h7⟩ := h.ex
  have ins : ∀ {a C dx : Addr} {fs : List (Str × V)}, H a = some (.ins C dx fs) → (upd H L (.lst zs')) a = some (.ins C dx fs) := fun {a C dx fs} e => by
    rw [upd_ne (fun z => by rw [z, g] at e; cases e)]
    exact e
  have ne : ∀ a, B a = none → a ≠ L := fun a n z => by
    rw [z, bl] at n
    cases n
  exact ⟨ft, du, sh, rt, dx, wt, st, dx', ws, ds, by rw [upd_ne (ne _ h2)]; exact h1, h2, ins h3, ⟨ins h4.g, tup_put g _ _ h4.w, tup_put g _ _ h4.s, h4.sm⟩, Dhf.mono (tup_put g) (fun a us n e => by rw [upd_ne (ne _ n)]; exact e) (fun _ n => n) _ _ h5, Dhf.mono (tup_put g) (fun a us n e => by rw [upd_ne (ne _ n)]; exact e) (fun _ n => n) _ _ h6, h7⟩
end

section

-- a condition of an operator
local macro_rules | `(tactic| walk_at "cond") => `(tactic| first
  | (show (0 : Int) < _; omega)
  | (show CDiv _ _; constructor <;> (first | decide | omega))
  | (show CMul _ _; first | (refine cmul_l ?_; constructor <;> (first | decide | omega)) | (refine cmul_r ?_; constructor <;> (first | decide | omega)))
  | (show CPow _ _; exact (by refine ⟨by decide, by decide, by decide⟩))
  | (show CDivW _ _; exact ⟨by decide, by decide +kernel⟩))
local macro_rules | `(tactic| walk_at "sq") => `(tactic| first | assumption | exact Dh.mono (same_upd (by assumption)) _ _ (by assumption) | exact .inl (.inl (.inl (by assumption))) | exact .inr (.inl (.inl (by assumption))) | exact SqL.of (by assumption) | exact .inl (by assumption) | exact .inl (SqL.of (by assumption)) | exact SqT.of (by assumption) | exact .inr (SqT.of (by assumption)))
local macro_rules | `(tactic| walk_at "st") => `(tactic| first
  | refine ⟨_, rfl, ?_⟩
  | refine ⟨_, _, rfl, rfl, ?_⟩
  | refine .inl ⟨_, rfl, ?_⟩
  | refine ⟨rfl, ?_⟩
  | refine ⟨_, _, rfl, by walk_at "sq", ?_⟩
  | refine ⟨.inl ⟨rfl, _, SqL.of (by assumption)⟩, ?_⟩
  | refine ⟨by walk_at "cond", ?_⟩
  | (refine' ifBT ?hh ?_; (case hh => first | rfl | assumption))
  | (refine' ifBF ?hh ?_; (case hh => first | rfl | assumption)))
local macro_rules | `(tactic| walk_at "go") => `(tactic| repeat walk_at "st")
local macro_rules | `(tactic| walk_at "yes") => `(tactic| (refine' ifT ?hh ?_; (case hh => first | rfl | decide +kernel)))
local macro_rules | `(tactic| walk_at "no") => `(tactic| (refine' ifF ?hh ?_; (case hh => first | decide +kernel | (intro z; cases z; done))))

-- facts carried to the heap at hand, from the facts of the context
local macro_rules | `(tactic| walk_at "lnk") => `(tactic| first | assumption | exact same_upd (by assumption))
local macro_rules | `(tactic| walk_at "sm") => `(tactic| first | walk_at "lnk" | exact same_rfl | (refine Same.trans ?_ (by walk_at "lnk"); walk_at "sm"))
local macro_rules | `(tactic| walk_at "at") => `(tactic| first | assumption | exact upd_same | (refine Same.get (by walk_at "lnk") ?_; walk_at "at"))
local macro_rules | `(tactic| walk_at "ix") => `(tactic| first
  | exact atI_nat (j := 0) rfl | exact atI_nat (j := 1) rfl | exact atI_nat (j := 2) rfl | exact atI_nat (j := 3) rfl
  | exact atI_nat (j := 4) rfl | exact atI_nat (j := 5) rfl | exact atI_nat (j := 6) rfl | assumption)
local macro_rules | `(tactic| walk_at "sT") => `(tactic| first | exact SqT.of (by walk_at "at") | exact SqL.of (by walk_at "at"))
local macro_rules | `(tactic| walk_at "st") => `(tactic| refine ⟨_, _, _, _, rfl, rfl, by walk_at "sT", by walk_at "ix", ?_⟩)
local macro_rules | `(tactic| walk_at "side") => `(tactic| first | rfl | assumption | walk_at "at" | walk_at "sm" | omega | decide)
-- a call: the promise's letters from its arguments, then what is asked from the context
local macro_rules | `(tactic| walk_at "call") => `(tactic| ((repeat (apply Exists.intro)); refine And.intro rfl ?_; repeat (refine And.intro (by walk_at "side") ?_)))

/-! ### _law_least_good -/
abbrev s_least_good : Stmt := topS 50
theorem sc_least_good : FnScope ["_law_table", "_law_marks", "_law_fan_here", "_law_found"] ["_law_table", "_law_marks", "_law_fan_here"] (C8.fnScope s_least_good) := C8.fnScope_by (by decide +kernel)
@[irreducible] def spLGd (C CS : Addr) : Sp := fun vs H Q _ => ∃ (p sh rt dx da fa : Addr) (ws : List Int) (T : Int → Option RMark) (n : Nat), vs = [.ref p, .ref da, .ref fa] ∧ FtAt C CS H p sh rt dx ws (foldD T ws 0) ∧ DTab H da T n ∧ n ≤ 900000 ∧ H fa = some (.lst (ws.map V.int)) ∧ prodI ws ≤ 4096 ∧ (∀ p m, T p = some m → MOk m) ∧ (∀ p, ¬ (0 ≤ p ∧ p < prodI ws) → T p = none) ∧ ∀ H', Same H H' → Q (.bl true) H'
section
variable {P : Program} {w : World} {K : PySem.W.Frag} {mg : Str → Option Value} {base : Heap} {C CS : Addr}
theorem ft_noe {sh rt : Addr} : (ftF sh rt).lookup ("entries" : Str) = none := by kernel_rfl
theorem ft_noc {sh rt : Addr} : (ftF sh rt).lookup ("table_count" : Str) = none := by kernel_rfl
theorem ok_lgd {f : Addr} {fd : FuncData} (Df : Def K mg "_law_least_good" s_least_good f fd) (b : Binds K fd ["_law_table", "_law_marks", "_law_fan_here"] []) (T : TxtA mg) (m_entries : C8.Met P w K mg base 9 C "entries" (spEnt C CS) []) (m_tree : C8.Met P w K mg base 10 C "tree" (spTree C CS) []) (m_table_count : C8.Met P w K mg base 10 C "table_count" (spTabC C CS) [])
    (c_entries_least : Cal P w K mg base 7 "_law_entries_least" spEL []) (c_tables_at : Cal P w K mg base 8 "_law_tables_at" (spTat 6) []) (c_needed_tables : Cal P w K mg base 3 "_law_needed_tables" spNeed []) (c_same : Cal P w K mg base 9 "_law_same" (spSame 8) []) : Cal P w K mg base 11 "_law_least_good" (spLGd C CS) [] := by
  refine cal0 Df b .nil sc_least_good (fun vs H Q E h => ?_) (fun cdv A outer s H vs Q E hr h => ?_)
  · unfold spLGd at h
    obtain ⟨p, sh, rt, dx, da, fa, ws, Tb, n, rfl, _⟩ := h
    rfl
  unfold spLGd at h
  obtain ⟨p, sh, rt, dx, da, fa, ws, Tb, n, rfl, hf, dt, n0, gf, pl, mo, no, q⟩ := h
  refine ⟨_, (pss_cons (ps_mk (ps_if (pt_not (pt_val (C8.pe_c c_entries_least hr (by omega) (by rfl) (pa_cons (C8.pe_mt0 m_entries hr (by omega) (pv 0) ) (pa_cons (pv 1) (pa_cons (pv 2) pa_nil))))))
      (pss_one (ps_ret pe_bl))
      pss_nil))
      (pss_cons (ps_set (i := 3) sc_least_good.nd rfl (.inl rfl) (C8.pe_c c_tables_at hr (by omega) (by rfl) (pa_cons (C8.pe_mt0 m_tree hr (by omega) (pv 0) ) (pa_cons (pv 2) (pa_cons pe_int (pa_cons pe_int pa_nil))))))
      (pss_cons (ps_mk (ps_if (PW.pt (pw_or (pt_cmpR op_isN (pv 3) pe_non (nomark _)) (pw_or1 (pt_cmpR (neQ K rfl hr.units) (pe_callB (sortedQ K rfl hr.units) (by rfl) T.sorted (by decide +kernel) (pa_cons (pv 3) pa_nil)) (C8.pe_c c_needed_tables hr (by omega) (by rfl) (pa_cons (pv 1) (pa_cons (pv 2) pa_nil))) (nomark _)))))
      (pss_one (ps_ret pe_bl))
      pss_nil))
      (pss_one (ps_ret (C8.pe_c c_same hr (by omega) (by rfl) (pa_cons (C8.pe_mt0 m_table_count hr (by omega) (pv 0) ) (pa_cons (pe_op op_add (pe_callB (lenQ K rfl) (by rfl) T.len PySem.boot_len (pa_cons (pv 3) pa_nil)) pe_int) pa_nil)))))))), ?_⟩
  obtain ⟨wt, st, dx', hs⟩ := hf.s
  have sm := hs.sm
  have h0 : 0 < ws.length := List.length_pos_iff.mpr sm.1
  have dl : Dle 8 (.list (foldD Tb ws 0)) := dle_to (dle_fold (T := Tb) ws 0 sm.2.2) (by have := sm.2.1; omega)
  refine jnS (M := fun σ H' => Same H H' ∧ σ = [sR p, sR da, sR fa, none]) ?_ (fun N kk => ?_)
  rotate_left
  · walk_at "go"
    refine ⟨p, dx, _, rfl, hf.g, ft_noe, ?_⟩
    refine ⟨p, sh, rt, dx, ws, Tb, rfl, hf, fun r us H1 s1 nr g1 d1 => ?_⟩
    walk_at "go"
    unfold spEL
    refine ⟨r, da, fa, us, ws, Tb, n, rfl, dt.same s1, n0, s1 _ _ gf, sm, pl, mo, no, g1, d1, fun H2 s2 => ?_⟩
    walk_at "go"
    exact kk _ _ ⟨s1.trans s2, rfl⟩
  rintro σ H1 ⟨s1, rfl⟩
  have hf1 := hf.same s1
  walk_at "go"
  refine ⟨p, dx, _, rfl, hf1.g, ft_no1, ?_⟩
  have td : Tidy 8 (.list (foldD Tb ws 0)) := tidy_to (tidy_fold (T := Tb) ws 0) (by have := sm.2.1; omega)
  refine ⟨p, sh, rt, dx, ws, _, rfl, hf1, dl, td, fun r as H2 s2 tr _ _ => ?_⟩
  have dr := TrA.dh _ _ _ tr
  have s12 := s1.trans s2
  walk_at "go"
  refine ⟨r, fa, ws, 0, 0, Tb, rfl, dr, s12 _ _ gf, sm, h0, sm.2.1, fun r3 us3 H3 s3 nr3 g3 d3 => ?_⟩
  have d3 : DhAll H3 ((treeT Tb ws 0 0).map pD) us3 := d3
  have s13 := s12.trans s3
  have len3 := d3.len
  rw [List.length_map] at len3
  clear s12 dr tr s2 s1 nr3
  have tt := tabs_tree (T := Tb) ws 0 0
  walk_at "go"
  refine jnS (M := fun σ H' => Same H3 H' ∧ σ = [sR p, sR da, sR fa, sR r3]) ?_ (fun N kk => ?_)
  rotate_left
  · walk_at "go"
    refine ⟨r3, us3, _, rfl, SqL.of g3, d3, pD_alike, pD_sortable, fun d hd => Nat.le_trans (pD_depth d hd) (by decide), fun ys p5 dy np => ?_⟩
    have s4 := same_upd (o := HO.lst ys) np
    have g5 := upd_same (H := H3) (a := p5) (o := HO.lst ys)
    have dy := DhAll.mono s4 _ _ dy
    show _
    generalize upd H3 p5 (HO.lst ys) = H4 at *
    walk_at "go"
    refine ⟨da, fa, ws, Tb, n, rfl, dt.same (s13.trans s4), n0, (s13.trans s4) _ _ gf, sm, pl, mo, fun r6 us6 H5 s5 g6 d6 => ?_⟩
    have e := srt_permP (need_perm (T := Tb) sm.2.2)
    rw [← e] at d6
    rw [srt_pD] at d6 dy
    generalize (treeT Tb ws 0 0).mergeSort leP2 = zs at *
    have k1 : Dh H5 (.list (zs.map pD)) (.ref p5) := ⟨p5, _, rfl, s5 _ _ g5, DhAll.mono s5 _ _ dy⟩
    have k2 : Dh H5 (.list (zs.map pD)) (.ref r6) := ⟨r6, _, rfl, g6, d6⟩
    refine ⟨_, _, Dh.dp _ _ k1, Dh.dp _ _ k2, shaped_pD _, shaped_pD _, ?_⟩
    refine ⟨_, rfl, ?_⟩
    refine ifN (ifBT (by rw [PyData.eqv]; exact eqvA_pD _) ?_)
    exact kk _ _ ⟨s4.trans s5, rfl⟩
  rintro σ H4 ⟨s4, rfl⟩
  have s14 := s13.trans s4
  have hf4 := hf.same s14
  walk_at "go"
  refine ⟨p, dx, _, rfl, hf4.g, ft_noc, ?_⟩
  refine ⟨p, sh, rt, dx, ws, _, rfl, hf4, dl, fun H5 s5 => ?_⟩
  have g5 := s5 _ _ (s4 _ _ g3)
  walk_at "go"
  refine ⟨.int (tabs (.list (foldD Tb ws 0))), .int (tabs (.list (foldD Tb ws 0))), .int (tabs (.list (foldD Tb ws 0))), .int (tabs (.list (foldD Tb ws 0))), ?_, rfl, rfl, trivial, fun b H6 hb s6 => ?_⟩
  · dsimp only
    have e : ((us3.length : Nat) : Int) + 1 = tabs (.list (foldD Tb ws 0)) := by
      show _ = 1 + tabss (foldD Tb ws 0)
      rw [tt, len3]
      omega
    rw [e]
    rfl
  obtain rfl := hb.mpr rfl
  exact q H6 ((s14.trans s5).trans s6)
end

end

section

-- a condition of an operator
local macro_rules | `(tactic| walk_at "cond") => `(tactic| first
  | (show (0 : Int) < _; omega)
  | (show CDiv _ _; constructor <;> (first | decide | omega))
  | (show CMul _ _; first | (refine cmul_l ?_; constructor <;> (first | decide | omega)) | (refine cmul_r ?_; constructor <;> (first | decide | omega)))
  | (show CPow _ _; exact (by refine ⟨by decide, by decide, by decide⟩))
  | (show CDivW _ _; exact ⟨by decide, by decide +kernel⟩))
local macro_rules | `(tactic| walk_at "sq") => `(tactic| first | assumption | exact Dh.mono (same_upd (by assumption)) _ _ (by assumption) | exact .inl (.inl (.inl (by assumption))) | exact .inr (.inl (.inl (by assumption))) | exact SqL.of (by assumption) | exact .inl (by assumption) | exact .inl (SqL.of (by assumption)) | exact SqT.of (by assumption) | exact .inr (SqT.of (by assumption)))
local macro_rules | `(tactic| walk_at "st") => `(tactic| first
  | refine ⟨_, rfl, ?_⟩
  | refine ⟨_, _, rfl, rfl, ?_⟩
  | refine .inl ⟨_, rfl, ?_⟩
  | refine ⟨rfl, ?_⟩
  | refine ⟨_, _, rfl, by walk_at "sq", ?_⟩
  | refine ⟨.inl ⟨rfl, _, SqL.of (by assumption)⟩, ?_⟩
  | refine ⟨by walk_at "cond", ?_⟩
  | (refine' ifBT ?hh ?_; (case hh => first | rfl | assumption))
  | (refine' ifBF ?hh ?_; (case hh => first | rfl | assumption)))
local macro_rules | `(tactic| walk_at "go") => `(tactic| repeat walk_at "st")
local macro_rules | `(tactic| walk_at "yes") => `(tactic| (refine' ifT ?hh ?_; (case hh => first | rfl | decide +kernel)))
local macro_rules | `(tactic| walk_at "no") => `(tactic| (refine' ifF ?hh ?_; (case hh => first | decide +kernel | (intro z; cases z; done))))

-- facts carried to the heap at hand, from the facts of the context
local macro_rules | `(tactic| walk_at "lnk") => `(tactic| first | assumption | exact same_upd (by assumption))
local macro_rules | `(tactic| walk_at "sm") => `(tactic| first | walk_at "lnk" | exact same_rfl | (refine Same.trans ?_ (by walk_at "lnk"); walk_at "sm"))
local macro_rules | `(tactic| walk_at "at") => `(tactic| first | assumption | exact upd_same | (refine Same.get (by walk_at "lnk") ?_; walk_at "at"))
local macro_rules | `(tactic| walk_at "ix") => `(tactic| first
  | exact atI_nat (j := 0) rfl | exact atI_nat (j := 1) rfl | exact atI_nat (j := 2) rfl | exact atI_nat (j := 3) rfl
  | exact atI_nat (j := 4) rfl | exact atI_nat (j := 5) rfl | exact atI_nat (j := 6) rfl | assumption)
local macro_rules | `(tactic| walk_at "sT") => `(tactic| first | exact SqT.of (by walk_at "at") | exact SqL.of (by walk_at "at"))
local macro_rules | `(tactic| walk_at "st") => `(tactic| refine ⟨_, _, _, _, rfl, rfl, by walk_at "sT", by walk_at "ix", ?_⟩)
local macro_rules | `(tactic| walk_at "side") => `(tactic| first | rfl | assumption | walk_at "at" | walk_at "sm" | omega | decide)
-- a call: the promise's letters from its arguments, then what is asked from the context
local macro_rules | `(tactic| walk_at "call") => `(tactic| ((repeat (apply Exists.intro)); refine And.intro rfl ?_; repeat (refine And.intro (by walk_at "side") ?_)))

/-! ### _law_fold_tell -/
abbrev s_fold_tell : Stmt := topS 41
theorem sc_fold_tell : FnScope ["_law_regions", "_law_shape", "_law_deed", "_law_blockwise", "_law_block", "_law_number_here"] ["_law_regions", "_law_shape", "_law_deed", "_law_blockwise"] (C8.fnScope s_fold_tell) := C8.fnScope_by (by decide +kernel)
/-- blocks that follow one another -/
def Row : Int → Int → List (Int × Int) → Prop
  | a, b, [] => a = b
  | a, b, z :: zs => z.1 = a ∧ a < z.2 ∧ Row z.2 b zs
theorem row_cov {ss : List Int} (c : Chain ss) {hi : Int} : ∀ (n : Nat) (lo : Int), (hi - lo).toNat = n → lo ≤ hi → Row lo hi (cov ss lo hi)
  | n, lo, hn, hl => by
    by_cases h : lo < hi
    · have bp := c.pos _ (big_mem c lo hi)
      have bf := big_fits c h
      rw [cov_step c h]
      exact ⟨rfl, by show lo < lo + big lo hi ss; omega, row_cov c (hi - (lo + big lo hi ss)).toNat _ rfl bf.2⟩
    · rw [cov_end h]
      show lo = hi
      omega
termination_by n => n
theorem Row.le : ∀ {zs : List (Int × Int)} {a b : Int}, Row a b zs → a ≤ b
  | [], a, b, h => Int.le_of_eq h
  | z :: zs, a, b, h => by
    have := Row.le h.2.2
    have := h.2.1
    omega
theorem ask_two {C : Addr} {H : Hp} {lim : Int} {E : XK} {Q : VK} {p rp dx ra : Addr} {d : Deed} {us : List V} {xs : List RRow} {T : Int → Option RMark} (hc : RegB C H p rp dx lim us xs) (tt : TbIs xs T) (g : H ra = some (.tup d.t)) (ok : d.ok)
    (q : ∀ v e T' rp' us' xs' H', RegB C H' p rp' dx lim us' xs' → TbIs xs' T' → (Can xs → Can xs') → But H H' p → IsDue d T lim e T' → Dh H' e v → Q v H') : spAsk C [.ref p, .ref ra] H Q E :=
  ⟨p, rp, dx, ra, d, lim, us, xs, T, rfl, hc, tt, g, ok, fun z v H' s h => q v _ T rp us xs H' (hc.same s) tt (fun k => k) (Same.one s) (.inl ⟨z, rfl, rfl⟩) h,
    fun z pr g g0 g1 g2 g3 v H' s h => q v _ T rp us xs H' (hc.same s) tt (fun k => k) (Same.one s) (.inr (.inl ⟨z, pr, g, g0, g1, g2, g3, rfl, rfl⟩)) h,
    fun z al v rp' us' xs' H' h1 h2 h3 h4 b h => q v _ _ rp' us' xs' H' h1 h2 h3 b (.inr (.inr ⟨z, al, rfl, rfl⟩)) h⟩
def spFTell (C CS : Addr) : Sp := fun vs H Q _ => ∃ (p rp dx ra sh wt st dxs : Addr) (d : Deed) (lim : Int) (us : List V) (xs : List RRow) (T : Int → Option RMark) (bw : Bool) (ws : List Int), vs = [.ref p, .ref sh, .ref ra, .bl bw] ∧ RegB C H p rp dx lim us xs ∧ ShapeAt CS H sh wt st dxs ws ∧ prodI ws = lim ∧ TbIs xs T ∧ H ra = some (.tup d.t) ∧ d.ok ∧ d.fine lim ∧
  ∀ v e T' rp' us' xs' H', RegB C H' p rp' dx lim us' xs' → TbIs xs' T' → (Can xs → Can xs') → But H H' p → IsDue d T lim e T' → Dh H' e v → Q v H'
section
variable {P : Program} {w : World} {K : PySem.W.Frag} {mg : Str → Option Value} {base : Heap} {C CS D : Addr}
theorem tset_join {T : Int → Option RMark} {lo mid hi : Int} {v v2 : Int → Option RMark} (h : lo ≤ mid) (h2 : mid ≤ hi) (e : ∀ p, mid ≤ p → p < hi → v2 p = v p) : tSetR (tSetR T lo mid v) mid hi v2 = tSetR T lo hi v := by
  funext p
  unfold tSetR
  by_cases c : mid ≤ p ∧ p < hi
  · rw [if_pos c, if_pos ⟨by omega, c.2⟩, e p c.1 c.2]
  · rw [if_neg c]
    by_cases c2 : lo ≤ p ∧ p < mid
    · rw [if_pos c2, if_pos ⟨c2.1, by omega⟩]
    · rw [if_neg c2, if_neg (by omega)]
theorem ok_ftell {f : Addr} {fd : FuncData} (Df : Def K mg "_law_fold_tell" s_fold_tell f fd) (b : Binds K fd ["_law_regions", "_law_shape", "_law_deed", "_law_blockwise"] []) (T : Txt mg) (c_marks_ask : Cal P w K mg base 7 "_law_marks_ask" (spAsk C) []) (e_cover : CalE P w K mg base 6 "cover" (spCover CS D)) (am : AsgM P w K mg base C D) : Cal P w K mg base 8 "_law_fold_tell" (spFTell C CS) [] := by
  refine cal0 Df b .nil sc_fold_tell (fun vs H Q E h => ?_) (fun cdv A outer s H vs Q E hr h => ?_)
  · obtain ⟨p, rp, dx, ra, sh, wt, st, dxs, d, lim, us, xs, Tb, bw, ws, rfl, _⟩ := h
    rfl
  obtain ⟨p, rp, dx, ra, sh, wt, st, dxs, d, lim, us, xs, Tb, bw, ws, rfl, hc, hs, el, tt, gr, dok, dfi, q⟩ := h
  refine ⟨_, (pss_cons (ps_mk (ps_if (PW.pt (pw_or (pt_cmpR op_ne (pe_ix (ixT K rfl) (pv 2) pe_int (fun _ _ => rfl)) pe_str (nomark _)) (pw_or1 (pt_not (pt_val (pv 3))))))
      (pss_one (ps_ret (C8.pe_c c_marks_ask hr (by omega) (by rfl) (pa_cons (pv 0) (pa_cons (pv 2) pa_nil)))))
      pss_nil))
      (pss_cons (ps_mk (ps_for PassesOwn.never rfl (pi_list (pe_cE e_cover takes0 hr (by omega) (by rfl) (pa_cons (pv 1) (pa_cons (pe_ix (ixT K rfl) (pv 2) pe_int (fun _ _ => rfl)) (pa_cons (pe_ix (ixT K rfl) (pv 2) pe_int (fun _ _ => rfl)) pa_nil))))) (pg_name (i := 4) sc_fold_tell.nd rfl (.inl rfl))
      (pss_cons (ps_set (i := 5) sc_fold_tell.nd rfl (.inl rfl) (pe_ix (ixT K rfl) (pv 2) pe_int (fun _ _ => rfl)))
      (pss_cons (ps_mk (ps_if (pt_cmpR op_ne (pe_ix (ixT K rfl) (pv 2) pe_int (fun _ _ => rfl)) pe_str (nomark _))
      (pss_one (ps_set (i := 5) sc_fold_tell.nd rfl (.inl rfl) (pe_op op_sub (pe_op op_add (pe_ix (ixT K rfl) (pv 2) pe_int (fun _ _ => rfl)) (pe_ix (ixT K rfl) (pv 4) pe_int (fun _ _ => rfl))) (pe_ix (ixT K rfl) (pv 2) pe_int (fun _ _ => rfl)))))
      pss_nil))
      (pss_one (ps_expr (pe_mN am.both takes0 hr (by omega) (pv 0) (pa_cons (pe_ix (ixT K rfl) (pv 4) pe_int (fun _ _ => rfl)) (pa_cons (pe_ix (ixT K rfl) (pv 4) pe_int (fun _ _ => rfl)) (pa_cons (pe_ix (ixT K rfl) (pv 2) pe_int (fun _ _ => rfl)) pa_nil))) (pk_cons (pe_ix (ixT K rfl) (pv 2) pe_int (fun _ _ => rfl)) (pk_cons (pv 5) pk_nil)))))))))
      (pss_one (ps_ret (pe_tup (pa_cons pe_str (pa_cons pe_non pa_nil))))))), ?_⟩
  have ask : spAsk C [.ref p, .ref ra] H Q C8.E0 := ask_two hc tt gr dok q
  have fin : (¬ (bw = true ∧ ∃ lo hi r f i w, d = .asg lo hi r f i w)) ∨ (bw = true ∧ ∃ lo hi r f i w, d = .asg lo hi r f i w) := (Classical.em _).symm
  rcases fin with nb | ⟨hb, lo, hi, r, fl, ix, wf, hd⟩
  · refine jnS (M := fun σ H' => False) (fun σ H1 h => h.elim) (fun N kk => ?_)
    clear kk
    cases d with
    | un lo hi =>
      walk_at "go"
      exact ask
    | pr lo hi r =>
      walk_at "go"
      exact ask
    | asg lo hi r f i w =>
      have : bw = false := by
        cases bw with
        | false => rfl
        | true => exact absurd ⟨rfl, _, _, _, _, _, _, rfl⟩ nb
      subst this
      walk_at "go"
      exact ask
  subst hb
  subst hd
  clear ask
  have gr : H ra = some (.tup [.str "assign", .int lo, .int hi, .str r, .str fl, .int ix, .int wf]) := gr
  obtain ⟨f0, f1, nr, nf, _⟩ := dok
  obtain ⟨d0, d1, d2⟩ := dfi
  have d0 : 0 ≤ lo := d0
  have d1 : lo < hi := d1
  have d2 : hi ≤ lim := d2
  refine jnS (M := fun σ H' => H' = H ∧ σ = [sR p, sR sh, sR ra, sB true, none, none]) ?_ (fun N kk => ?_)
  rotate_left
  · walk_at "go"
    exact kk _ _ ⟨rfl, rfl⟩
  rintro σ H0 ⟨e0, rfl⟩
  subst e0
  obtain ⟨vv, ev⟩ : ∃ vv : Int → Option RMark, vv = fun p => some (if fl = "" then (⟨r, "", 0⟩ : RMark) else ⟨r, fl, ix + (p - lo)⟩) := ⟨_, rfl⟩
  refine jnS (M := fun σ H' => ∃ rp' us' xs' y4 y5, RegB C H' p rp' dx lim us' xs' ∧ TbIs xs' (tSetR Tb lo hi vv) ∧ (Can xs → Can xs') ∧ But H0 H' p ∧ σ = [sR p, sR sh, sR ra, sB true, y4, y5]) ?_ (fun N kk => ?_)
  · rintro σ H1 ⟨rp', us', xs', y4, y5, hc1, tt1, cn1, b1, rfl⟩
    walk_at "go"
    refine ⟨sz, fun t nt => ?_⟩
    have s2 := same_upd (o := HO.tup [V.str "gives", V.non]) nt
    refine q (.ref t) giveD _ rp' us' xs' _ (hc1.same s2) tt1 cn1 (b1.trans (Same.one s2)) (.inr (.inr ⟨⟨d0, d1, d2⟩, fun z => (by cases z), rfl, ?_⟩)) ⟨t, _, rfl, upd_same, _, _, rfl, rfl, _, _, rfl, rfl, rfl⟩
    rw [ev]
    rfl
  walk_at "go"
  obtain ⟨h0l, h0h⟩ := f0
  obtain ⟨h1l, h1h⟩ := f1
  refine ⟨sh, wt, st, dxs, ws, lo, hi, rfl, hs, h0l, h0h, h1l, h1h, fun _ L bs H1 s1 nL gL db => ?_, fun z => absurd ⟨d0, d1, by rw [el]; exact d2⟩ z⟩
  have ch := chain_spans hs.sm.1 hs.sm.2.2
  have rw0 := row_cov ch (hi := hi) _ lo rfl (Int.le_of_lt d1)
  have zl := db.len
  rw [List.length_map] at zl
  generalize cov (spansOf ws) lo hi = zs at *
  have hc1 := hc.same s1
  have pL : Mut H1 p := hc1.mut
  refine ⟨L, rfl, ⟨_, SqL.of gL⟩, for_list (K := K) (a := L) (xs := bs) (fun i σ H' => Ob (∃ cur rp' us' xs' y4 y5, lo ≤ cur ∧ cur ≤ hi ∧ Row cur hi (zs.drop i) ∧ RegB C H' p rp' dx lim us' xs' ∧ TbIs xs' (tSetR Tb lo cur vv) ∧ (Can xs → Can xs') ∧ But H1 H' p ∧ σ = [sR p, sR sh, sR ra, sB true, y4, y5])) (ob ⟨lo, rp, us, xs, none, none, Int.le_refl _, Int.le_of_lt d1, rw0, hc1, ?_, fun c => c, fun _ _ _ e => e, rfl⟩) (fun i σ H' _ h => ?_) ?_ ?_⟩
  · have : tSetR Tb lo lo vv = Tb := by
      funext p
      unfold tSetR
      rw [if_neg (by omega)]
    rw [this]
    exact tt
  · obtain ⟨_, _, _, _, _, _, _, _, _, _, _, _, b1, _⟩ := unob h
    exact SqL.of (b1.lst pL gL)
  · intro i v σ H2 hi' h
    obtain ⟨cur, rp', us', xs', y4, y5, c0, c1, rwc, hc2, tt2, cn2, b2, rfl⟩ := unob h
    clear h
    have hil : i < zs.length := by
      have := (List.getElem?_eq_some_iff.mp hi').1
      omega
    obtain ⟨v', ev', dv⟩ := db.get (i := i) (d := pD zs[i]) (by rw [List.getElem?_map, List.getElem?_eq_getElem hil]; rfl)
    rw [hi'] at ev'
    obtain rfl := Option.some.inj ev'
    rw [List.drop_eq_getElem_cons hil] at rwc
    obtain ⟨e1, e2, rwc⟩ := rwc
    have le2 := rwc.le
    generalize zs[i] = z at *
    obtain ⟨z1, z2⟩ := z
    have e1 : z1 = cur := e1
    have e2 : cur < z2 := e2
    subst e1
    obtain ⟨t, ts, rfl, gt, _, _, rfl, k1, _, _, rfl, k2, k3⟩ := dv
    cases k1
    cases k2
    cases (show _ = [] from k3)
    have gt2 := b2.tup pL gt
    have gr2 := b2.tup pL (s1 _ _ gr)
    walk_at "go"
    refine jnS (M := fun σ H' => H' = H2 ∧ ∃ jx : Int, (fl ≠ "" → jx = ix + z1 - lo) ∧ σ = [sR p, sR sh, sR ra, sB true, sR t, sI jx]) ?_ (fun N2 k2 => ?_)
    rotate_left
    · by_cases ef : fl = ""
      · subst ef
        walk_at "go"
        exact k2 _ _ ⟨rfl, ix, fun z => absurd rfl z, rfl⟩
      · walk_at "go"
        refine ifN (ifF (fun z => ef (V.str.inj z)) ?_)
        walk_at "go"
        exact k2 _ _ ⟨rfl, _, fun _ => rfl, rfl⟩
    rintro σ H3 ⟨e3, jx, hjx, rfl⟩
    subst e3
    walk_at "go"
    refine ⟨p, dx, _, rfl, hc2.at_.g, rg_no5, ?_⟩
    walk_at "go"
    have l5 := hc.l1
    refine ⟨p, rp', dx, lim, z1, z2, us', xs', r, fl, jx, rfl, hc2, ⟨by omega, by omega⟩, ⟨by omega, by omega⟩, ⟨nr.1, nf.1⟩, nf.2, fun zz rb us2 H4 h4 nb b4 => ?_, fun zz => absurd ⟨by omega, e2, by omega⟩ zz⟩
    have o2 := hc2.at_.a
    have t4 := tb_assign (r := r) (f := fl) (i := jx) zz.1 zz.2.1 zz.2.2 o2 hc2.el tt2
    have c4 := splice_can zz.1 zz.2.1 zz.2.2 o2 hc2.el (show Asc z1 [(⟨z1, z2, asgM r fl jx⟩ : RRow)] from ⟨Int.le_refl _, zz.2.1, trivial⟩) (fun x hx => (by rw [List.mem_singleton.mp hx]; exact Int.le_refl _))
    rw [tset_join c0 (by omega) fun q0 q1 q2 => by
      rw [ev]
      by_cases ef : fl = ""
      · rw [if_pos ef]
        show _ = some (if fl = "" then _ else _)
        rw [if_pos ef]
      · rw [if_neg ef, hjx ef]
        show _ = some (if fl = "" then _ else _)
        rw [if_neg ef]
        congr 2
        omega] at t4
    exact ob ⟨z2, rb, us2, _, _, _, by omega, le2, rwc, h4, t4, fun c => c4 (cn2 c), b2.trans b4, rfl⟩
  · intro σ H2 h
    obtain ⟨cur, rp', us', xs', y4, y5, c0, c1, rwc, hc2, tt2, cn2, b2, rfl⟩ := unob h
    rw [List.drop_of_length_le (by omega)] at rwc
    have ec : cur = hi := rwc
    subst ec
    exact kk _ _ ⟨rp', us', xs', _, _, hc2, tt2, cn2, (Same.one s1).trans b2, rfl⟩
end

end

section

-- a condition of an operator
local macro_rules | `(tactic| walk_at "cond") => `(tactic| first
  | (show (0 : Int) < _; omega)
  | (show CDiv _ _; constructor <;> (first | decide | omega))
  | (show CMul _ _; first | (refine cmul_l ?_; constructor <;> (first | decide | omega)) | (refine cmul_r ?_; constructor <;> (first | decide | omega)))
  | (show CPow _ _; exact (by refine ⟨by decide, by decide, by decide⟩))
  | (show CDivW _ _; exact ⟨by decide, by decide +kernel⟩))
local macro_rules | `(tactic| walk_at "sq") => `(tactic| first | assumption | exact Dh.mono (same_upd (by assumption)) _ _ (by assumption) | exact .inl (.inl (.inl (by assumption))) | exact .inr (.inl (.inl (by assumption))) | exact SqL.of (by assumption) | exact .inl (by assumption) | exact .inl (SqL.of (by assumption)) | exact SqT.of (by assumption) | exact .inr (SqT.of (by assumption)))
local macro_rules | `(tactic| walk_at "st") => `(tactic| first
  | refine ⟨_, rfl, ?_⟩
  | refine ⟨_, _, rfl, rfl, ?_⟩
  | refine .inl ⟨_, rfl, ?_⟩
  | refine ⟨rfl, ?_⟩
  | refine ⟨_, _, rfl, by walk_at "sq", ?_⟩
  | refine ⟨.inl ⟨rfl, _, SqL.of (by assumption)⟩, ?_⟩
  | refine ⟨by walk_at "cond", ?_⟩
  | (refine' ifBT ?hh ?_; (case hh => first | rfl | assumption))
  | (refine' ifBF ?hh ?_; (case hh => first | rfl | assumption)))
local macro_rules | `(tactic| walk_at "go") => `(tactic| repeat walk_at "st")
local macro_rules | `(tactic| walk_at "yes") => `(tactic| (refine' ifT ?hh ?_; (case hh => first | rfl | decide +kernel)))
local macro_rules | `(tactic| walk_at "no") => `(tactic| (refine' ifF ?hh ?_; (case hh => first | decide +kernel | (intro z; cases z; done))))

local macro_rules | `(tactic| walk_at "st") => `(tactic| refine ⟨_, _, _, _, _, rfl, by assumption, by assumption, by omega, by omega, by omega, by omega, by omega, ?_⟩)
local macro_rules | `(tactic| walk_at "st") => `(tactic| refine ⟨_, _, _, _, _, rfl, Same.seq (by assumption) (by assumption), by assumption, by omega, by omega, by omega, by omega, by omega, ?_⟩)

/-! ### law (k52) -/
abbrev s_law : Stmt := topS 51
theorem sc_law : FnScope ["_law_script", "_law_fan_here", "_law_total", "_law_names", "_law_shape", "_law_regions", "_law_marks", "_law_at", "_law_deed", "_law_due"] ["_law_script"] (C8.fnScope s_law) := C8.fnScope_by (by decide +kernel)
def spLaw (K : PySem.W.Frag) : Sp := fun vs H Q _ => ∃ (a : Addr) (ns : List Int), vs = [.ref a] ∧ SqL K H a (ns.map V.int) ∧ ns.length ≤ 63 ∧ ∀ H', Q (.bl true) H'
theorem tab_mok {CR : Addr} {H : Hp} {p rp dx : Addr} {lim : Int} {us : List V} {xs : List RRow} {T : Int → Option RMark} (h : RegB CR H p rp dx lim us xs) (t : TbIs xs T) : ∀ p m, T p = some m → MOk m := fun p m e => by
  obtain ⟨x, hx, _, _, e'⟩ := tb_some (show tb xs p = some m by rw [t]; exact e)
  rw [← e']
  exact (h.at_.ok x hx).after _
theorem tab_out {CR : Addr} {H : Hp} {p rp dx : Addr} {lim : Int} {us : List V} {xs : List RRow} {T : Int → Option RMark} (h : RegB CR H p rp dx lim us xs) (t : TbIs xs T) : ∀ p, ¬ (0 ≤ p ∧ p < lim) → T p = none := fun p c => by
  rw [← t p]
  refine tb_none fun x hx z => c ⟨?_, ?_⟩
  · have := (h.at_.a.mem hx).1
    omega
  · have := h.el x hx
    omega
structure InvX (CR p d : Addr) (H : Hp) (lim : Int) (n : Nat) : Prop where
  ex : ∃ (rp dx : Addr) (us : List V) (xs : List RRow) (T : Int → Option RMark), RegB CR H p rp dx lim us xs ∧ Can xs ∧ TbIs xs T ∧ DTab H d T n
section
variable {P : Program} {w : World} {K : PySem.W.Frag} {mg : Str → Option Value} {base : Heap} {C CS CR D U : Addr}
theorem ok_law {f : Addr} {fd : FuncData} (Df : Def K mg "law" s_law f fd) (T : TxtF mg) (c_number : Cal P w K mg base 1 "_law_number" (spNum K) []) (c_fold_fan : Cal P w K mg base 3 "_law_fold_fan" (spFFan K) []) (c_fan_spans : Cal P w K mg base 1 "_law_fan_spans" (spFanSpans K) []) (c_file_names : Cal P w K mg base 2 "_law_file_names" (spFn K) [])
    (c_Shape : C8.Mak P w K mg base 2 "Shape" CS (spShI CS K) []) (c_Regions : C8.Mak P w K mg base 1 "Regions" CR (spRgI CR) []) (c_fold_many : Cal P w K mg base 2 "_law_fold_many" (spFMany K) []) (c_fold_deed : Cal P w K mg base 2 "_law_fold_deed" (spFDeed K) []) (c_marks_do : Cal P w K mg base 1 "_law_marks_do" spDo []) (c_fold_tell : Cal P w K mg base 8 "_law_fold_tell" (spFTell CR CS) []) (c_same : Cal P w K mg base 9 "_law_same" (spSame 8) [])
    (c_FoldedTable : C8.Mak P w K mg base 17 "FoldedTable" C (spFtI C CS CR) []) (c_least_good : Cal P w K mg base 11 "_law_least_good" (spLGd C CS) []) :
    FnOk P w K mg base C8.CX0 19 f fd ["_law_script"] (spLaw K) := by
  refine C8.fn0 Df.fn sc_law (fun vs H Q E h => ?_) (fun cdv A0 outer s H vs Q E hr h => ?_)
  · obtain ⟨a, ns, rfl, _⟩ := h
    rfl
  obtain ⟨a, ns, rfl, hS, hl, q0⟩ := h
  refine ⟨_, (pss_cons (ps_set (i := 1) sc_law.nd rfl (.inl rfl) (C8.pe_c c_fold_fan hr (by omega) (by rfl) (pa_cons (pv 0) pa_nil)))
      (pss_cons (ps_set (i := 2) sc_law.nd rfl (.inl rfl) (pe_op op_mul (pe_ix (ixL K rfl) (C8.pe_c c_fan_spans hr (by omega) (by rfl) (pa_cons (pv 1) pa_nil)) pe_int (fun _ _ => rfl)) (pe_ix (ixL K rfl) (pv 1) pe_int (fun _ _ => rfl))))
      (pss_cons (ps_set (i := 3) sc_law.nd rfl (.inl rfl) (C8.pe_c c_file_names hr (by omega) (by rfl) (pa_cons (pv 0) pa_nil)))
      (pss_cons (ps_set (i := 4) sc_law.nd rfl (.inl rfl) (C8.pe_mk c_Shape hr (by omega) (by rfl) (pa_cons (pe_callTy (listQ K rfl) (by rfl) T.list (by decide +kernel) (pa_cons (pv 1) pa_nil)) pa_nil)))
      (pss_cons (ps_set (i := 5) sc_law.nd rfl (.inl rfl) (C8.pe_mk c_Regions hr (by omega) (by rfl) (pa_cons (pv 2) pa_nil)))
      (pss_cons (ps_set (i := 6) sc_law.nd rfl (.inl rfl) pe_dnewK)
      (pss_cons (ps_mk (ps_if (pt_not (pt_val (C8.pe_c c_least_good hr (by omega) (by rfl) (pa_cons (C8.pe_mk c_FoldedTable hr (by omega) (by rfl) (pa_cons (pv 4) (pa_cons (pv 5) pa_nil))) (pa_cons (pv 6) (pa_cons (pv 1) pa_nil))))))
      (pss_one (ps_ret pe_bl))
      pss_nil))
      (pss_cons (ps_mk (ps_for PassesOwn.never rfl (pi_range2 (by rfl) T.range (pa_cons pe_int (pa_cons (pe_op op_add pe_int (C8.pe_c c_fold_many hr (by omega) (by rfl) (pa_cons (pv 0) (pa_cons (pv 2) pa_nil)))) pa_nil))) (pg_name (i := 7) sc_law.nd rfl (.inl rfl))
      (pss_cons (ps_set (i := 8) sc_law.nd rfl (.inl rfl) (C8.pe_c c_fold_deed hr (by omega) (by rfl) (pa_cons (pv 0) (pa_cons (pv 7) (pa_cons (pv 1) (pa_cons (pv 3) pa_nil))))))
      (pss_cons (ps_set (i := 9) sc_law.nd rfl (.inl rfl) (C8.pe_c c_marks_do hr (by omega) (by rfl) (pa_cons (pv 6) (pa_cons (pv 8) (pa_cons (pv 2) pa_nil)))))
      (pss_cons (ps_mk (ps_if (pt_not (pt_val (C8.pe_c c_same hr (by omega) (by rfl) (pa_cons (C8.pe_c c_fold_tell hr (by omega) (by rfl) (pa_cons (pv 5) (pa_cons (pv 4) (pa_cons (pv 8) (pa_cons (pe_cmpR op_eq (C8.pe_c c_number hr (by omega) (by rfl) (pa_cons (pv 0) (pa_cons (pv 7) (pa_cons pe_int (pa_cons pe_int pa_nil))))) pe_int (nomark _)) pa_nil))))) (pa_cons (pv 9) pa_nil)))))
      (pss_one (ps_ret pe_bl))
      pss_nil))
      (pss_one (ps_mk (ps_if (pt_not (pt_val (C8.pe_c c_least_good hr (by omega) (by rfl) (pa_cons (C8.pe_mk c_FoldedTable hr (by omega) (by rfl) (pa_cons (pv 4) (pa_cons (pv 5) pa_nil))) (pa_cons (pv 6) (pa_cons (pv 1) pa_nil))))))
      (pss_one (ps_ret pe_bl))
      pss_nil))))))))
      (pss_one (ps_ret pe_bl)))))))))), ?_⟩
  walk_at "go"
  refine ⟨hl, fun fa ws H1 s1 nfa sm pl gf => ?_⟩
  have hS := s1.seq hS
  have h0 : 0 < ws.length := List.length_pos_iff.mpr sm.1
  have h6 := sm.2.1
  clear nfa s1
  walk_at "go"
  refine ⟨sm, fun sa H3 s3 nsa gs => ?_⟩
  have gf := s3 _ _ gf
  have hS := s3.seq hS
  walk_at "go"
  refine ⟨sa, _, _, .int (spanN ws 0), rfl, rfl, SqL.of gs, atI_nat (j := 0) (by rw [List.getElem?_map, spans_get h0]; rfl), ?_⟩
  walk_at "go"
  refine ⟨fa, _, _, .int (ws.headD 0), rfl, rfl, SqL.of gf, atI_nat (j := 0) (by
    cases ws with
    | nil => exact absurd rfl sm.1
    | cons w0 l => rfl), ?_⟩
  have p0 := span_pos sm 0
  have p1 := span_le sm 0
  walk_at "go"
  dsimp only
  rw [span_zero sm]
  refine ⟨hl, fun na nm H4 s4 nl nok gn => ?_⟩
  have gf := s4 _ _ gf
  have hS := s4.seq hS
  clear gs nsa s3 s4
  walk_at "go"
  intro l1 nl1
  have s5 := same_upd (o := HO.lst (ws.map V.int)) nl1
  have g5 := upd_same (H := H4) (a := l1) (o := HO.lst (ws.map V.int))
  have gf := s5 _ _ gf
  have gn := s5 _ _ gn
  have hS := s5.seq hS
  show _
  generalize upd H4 l1 (HO.lst (ws.map V.int)) = H5 at *
  clear s5 nl1
  walk_at "go"
  intro sh shx nsh nshx nshh
  have a5 := same_upd (o := HO.own sh) nshx
  have b5 : Same H5 (upd (upd H5 shx (HO.own sh)) sh (HO.ins CS shx [])) := a5.trans (same_upd (by rw [upd_ne nshh.symm]; exact nsh))
  refine ⟨sh, shx, l1, ws, rfl, upd_same, .inl (b5 _ _ g5), sm, fun wt st H6 hs b6 => ⟨rfl, ?_⟩⟩
  have s6 : Same H5 H6 := same_one b5 nsh b6
  have gf := s6 _ _ gf
  have gn := s6 _ _ gn
  have hS := s6.seq hS
  clear a5 b5 b6 s6 g5 nsh nshx nshh
  walk_at "go"
  have pp : 1 ≤ prodI ws := (prod_pos (ws := ws) sm.2.2).1
  intro p x np nx npx
  refine ⟨p, x, prodI ws, rfl, upd_same, fun ra H9 hc0 nr0 b0 => ⟨rfl, ?_⟩⟩
  have s9 : Same H6 H9 := same_one ((same_upd nx).trans (same_upd (by rw [upd_ne npx.symm]; exact np))) np b0
  have r0 : RegB CR H9 p ra x (prodI ws) [] [] := ⟨hc0, by simp, by omega, by omega⟩
  clear hc0 nr0 b0 nx npx
  walk_at "go"
  intro d nd
  have s10 := same_upd (o := HO.dK []) nd
  have gd := upd_same (H := H9) (a := d) (o := HO.dK [])
  show _
  generalize upd H9 d (HO.dK []) = H10 at *
  have r0 := r0.same s10
  have nd := s9.free nd
  have s10 := s9.trans s10
  clear s9
  have t0 : DTab H10 d (fun _ => none) 0 := ⟨[], gd, KOk.nil, fun p => ⟨fun _ => rfl, fun m z => (by cases z)⟩⟩
  walk_at "go"
  obtain ⟨Tb, eT⟩ : ∃ Tb : Int → Option RMark, Tb = fun _ => none := ⟨_, rfl⟩
  obtain ⟨rp, dx, us, xs, hc, cn, tt⟩ : ∃ rp dx us xs, RegB CR H10 p rp dx (prodI ws) us xs ∧ Can xs ∧ TbIs xs Tb := ⟨ra, x, [], [], r0, List.Pairwise.nil, fun _ => by rw [eT]; rfl⟩
  have dt : DTab H10 d Tb 0 := by rw [eT]; exact t0
  have S := s10
  clear eT t0 r0 s10 gd
  walk_at "go"
  refine jnS (M := fun σ H' => Same H6 H' ∧ InvX CR p d H' (prodI ws) 0 ∧ σ = [sR a, sR fa, sI (prodI ws), sR na, sR sh, sR p, sR d, none, none, none]) ?_ (fun N kk => ?_)
  rotate_left
  · walk_at "go"
    intro ft fx nft nfx nftx
    have e1 : Same H10 (upd (upd H10 fx (HO.own ft)) ft (HO.ins C fx [])) := (same_upd nfx).trans (same_upd (by rw [upd_ne nftx.symm]; exact nft))
    have hsA := (hs.same S).same e1
    unfold spFtI
    refine ⟨ft, fx, sh, _, _, shx, p, rp, dx, ws, prodI ws, us, xs, Tb, rfl, upd_same, hsA, rfl, hc.same e1, cn, tt, fun rt Ja fAt _ bf => ⟨rfl, ?_⟩⟩
    have eb : Same H10 Ja := same_one e1 nft bf
    have hc := hc.same eb
    have dt := dt.same eb
    have S := S.trans eb
    clear e1 hsA bf nft nfx nftx eb
    walk_at "go"
    unfold spLGd
    refine ⟨ft, sh, rt, fx, d, fa, ws, Tb, _, rfl, fAt, dt, by omega, S _ _ gf, pl, tab_mok hc tt, tab_out hc tt, fun Jb sb => ?_⟩
    have hc := hc.same sb
    have dt := dt.same sb
    have S := S.trans sb
    clear sb fAt
    have W : InvX CR p d Jb (prodI ws) 0 := ⟨rp, dx, us, xs, Tb, hc, cn, tt, dt⟩
    walk_at "go"
    exact kk _ _ ⟨S, W, rfl⟩
  clear hc dt S cn tt
  rintro σ H11 ⟨S, W, rfl⟩
  refine jnS (M := fun σ H' => True) (fun σ H' _ => ?_) (fun N kk => ?_)
  · walk_at "go"
    exact q0 _
  walk_at "go"
  refine ⟨a, ns, prodI ws, rfl, S.seq hS, hl, fun many m0 m1 => ?_⟩
  walk_at "go"
  refine ⟨_, _, rfl, ⟨by omega, by omega, by omega, by omega⟩, for_range (lo := 1) (n := (1 + many - 1).toNat) (fun j σ H' => Ob (Same H6 H' ∧ InvX CR p d H' (prodI ws) (5000 * j) ∧ ∃ y7 y8 y9, σ = [sR a, sR fa, sI (prodI ws), sR na, sR sh, sR p, sR d, y7, y8, y9])) (ob ⟨S, W, _, _, _, rfl⟩) ?_ ?_⟩
  rotate_left
  · intro σ H' h
    exact kk _ _ trivial
  clear W S
  intro j σ Hj hj h
  obtain ⟨S, W, y7, y8, y9, rfl⟩ := unob h
  clear h kk
  obtain ⟨rp, dx, us, xs, Tb, hc, cn, tt, dt⟩ := W.ex
  clear W
  walk_at "go"
  unfold spFDeed
  refine ⟨a, fa, na, ns, 1 + (j : Int), ws, nm, rfl, S.seq hS, hl, by omega, by omega, S _ _ gf, sm, pl, S _ _ gn, nl, (fun x hx => (nok x hx).1), fun rd dd H12 s12 dok dfi grd => ?_⟩
  have hc := hc.same s12
  have dt := dt.same s12
  have S := S.trans s12
  clear s12
  walk_at "go"
  refine do_one (E := C8.E0) dt (by omega) (by omega) grd dok fun v e T1 H13 b13 dt1 due dv => ?_
  have S := same_one S nd b13
  have pd := reg_tab hc dt
  have grd := b13.tup dt.mut grd
  have hc1 := hc.but b13 dt.mut pd
  clear hc dt b13
  walk_at "go"
  refine un ?_
  walk_at "go"
  refine ⟨p, rp, dx, rd, sh, _, _, shx, dd, prodI ws, us, xs, Tb, _, ws, rfl, hc1, hs.same S, rfl, tt, grd, dok, dfi, fun v2 e2 T2 rp2 us2 xs2 H14 hc2 tt2 cn2 b14 due2 dv2 => ?_⟩
  obtain ⟨rfl, rfl⟩ := due.uniq due2
  have dv := Dh.tups (fun a us g => b14.tup hc1.mut g) _ _ (due_noL due) dv
  have dt2 := dt1.but b14 hc1.mut pd.symm
  have S := same_one S np b14
  have cn2 := cn2 cn
  clear b14 hc1 dt1 tt cn grd
  walk_at "go"
  refine ⟨v2, v, e, e, rfl, dv2, dv, dle_to (dle_due due) (by omega), fun b15 H15 hb s15 => ?_⟩
  obtain rfl := hb.mpr rfl
  have hc := hc2.same s15
  have dt := (dt2.same s15).le (m := 5000 * (j + 1)) (by omega)
  have S := S.trans s15
  clear s15 dv dv2 hc2 dt2 due due2 hb
  walk_at "go"
  refine un ?_
  walk_at "go"
  intro ft fx nft nfx nftx
  have e1 : Same H15 (upd (upd H15 fx (HO.own ft)) ft (HO.ins C fx [])) := (same_upd nfx).trans (same_upd (by rw [upd_ne nftx.symm]; exact nft))
  have hsA := (hs.same S).same e1
  unfold spFtI
  refine ⟨ft, fx, sh, _, _, shx, p, rp2, dx, ws, prodI ws, us2, xs2, T1, rfl, upd_same, hsA, rfl, hc.same e1, cn2, tt2, fun rt Ja fAt _ bf => ⟨rfl, ?_⟩⟩
  have eb : Same H15 Ja := same_one e1 nft bf
  have hc := hc.same eb
  have dt := dt.same eb
  have S := S.trans eb
  clear e1 hsA bf nft nfx nftx eb
  walk_at "go"
  unfold spLGd
  refine ⟨ft, sh, rt, fx, d, fa, ws, T1, _, rfl, fAt, dt, by omega, S _ _ gf, pl, tab_mok hc tt2, tab_out hc tt2, fun Jb sb => ?_⟩
  walk_at "go"
  exact ob ⟨S.trans sb, ⟨rp2, dx, us2, xs2, T1, hc.same sb, cn2, tt2, dt.same sb⟩, _, _, _, rfl⟩
end

end

/-- what the written part says, asked one by one -/
theorem own_mk {P : Program} {K : PySem.W.Frag} {h : Heap} {mg : Str → Option Value} (X : K.In h) (G : h.Ns mainGlobals mg) {st : Stmt} {qn : Str} {D f cc c N : Addr} {oc ccl cl dV kV doc pm ctv : Value} {od an cdd cld dd : Option Addr} {osl ccs csl : Array (Option Value)} {vs : Array Value} {file : Str} {tf : Tok}
    {nm q : Str} {bs bm : List Value} {sn : List Str} {sub : List Value} {ab : Bool} {col : Option Bool} {k0 k1 k2 k3 k5 : Option Value} {ar : Arg}
    (iC : PySem.W.findIn K (.ref D) "__init__" = some (some (.ref f))) (tI : PySem.W.typeIn K (.ref f) = some (.type "function"))
    (lF : K.lookup f = some ⟨oc, od, .func (PySem.W.fnX "__init__" qn (C8.fnArgs st) (C8.fnBody st) (C8.fnScope st) [("__class__", cc)] dV kV doc pm an (.ref c) ctv), osl⟩)
    (cF : PySem.W.codeIn K (.ref c) qn = true) (lc : K.lookup c = some ⟨ccl, cdd, .fields vs, ccs⟩) (hv : vs[2]? = some (.str file tf)) (hf : ((P.main.file : Str) == file) = true) (tp : (P.main.scope.names.lookup ("super" : Str)).isSome = false)
    (lcc : K.lookup cc = some ⟨cl, cld, .cell (some (.ref D)), csl⟩) (zs : PySem.W.nsIn K mainGlobals "super" = some none) (hp : ((C8.fnArgs st).posonlyargs ++ (C8.fnArgs st).args).head? = some ar) (ha : ar.arg = "self")
    (sk : (C8.fnScope st).names.lookup ("super" : Str) = some .globalImplicit)
    (lD : K.lookup D = some (excClassObj nm q D N bs bm true sn sub ab col dd k0 k1 k2 k3 k5 "ValueError.__new__")) (rb : PySem.HandSPX.refsVE bm = true)
    (sa : PySem.W.findIn K (.ref D) "__setattr__" = some (some (.builtin "object.__setattr__"))) (ex : PySem.W.subIn K (.ref D) (.type "BaseException") = some true) (ty : PySem.W.typeIn K (.ref D) = some (.type "type")) (kC : PySem.W.keepIn K (.ref D) = true)
    (mr : PySem.W.mroIn K D (.ref D) = some true) (ini : PySem.W.ks_superIn K D D "__init__" = some (some (.builtin "ValueError.__init__"))) (ve : PySem.W.subIn K (.ref D) (.type "ValueError") = some true) (any : PySem.W.nsIn K cStatics "thirdparty.any" = some none) :
    SupAt P K mg (NF.of st "__init__" qn [("__class__", cc)] c) f D cc "self" dV kV doc pm ctv an ∧ OexC K D := by
  have O : OexC K D := ⟨⟨nm, q, N, bs, bm, sn, sub, ab, col, dd, k0, k1, k2, k3, k5, lD, rb⟩, sa, ex, ty, kC⟩
  exact ⟨⟨⟨_, _, _, lF⟩, rfl, cF, ⟨_, _, _, _, _, _, lc, hv, hf⟩, tp, ⟨_, _, _, lcc⟩, PySem.W.mg_none_of X G zs, ⟨ar, hp, ha⟩, sk, O, mr, ini, ve, any⟩, O⟩

section

-- a condition of an operator
local macro_rules | `(tactic| walk_at "cond") => `(tactic| first
  | (show (0 : Int) < _; omega)
  | (show CDiv _ _; constructor <;> (first | decide | omega))
  | (show CMul _ _; first | (refine cmul_l ?_; constructor <;> (first | decide | omega)) | (refine cmul_r ?_; constructor <;> (first | decide | omega)))
  | (show CPow _ _; exact (by refine ⟨by decide, by decide, by decide⟩))
  | (show CDivW _ _; exact ⟨by decide, by decide +kernel⟩))
local macro_rules | `(tactic| walk_at "sq") => `(tactic| first | assumption | exact Dh.mono (same_upd (by assumption)) _ _ (by assumption) | exact .inl (.inl (.inl (by assumption))) | exact .inr (.inl (.inl (by assumption))) | exact SqL.of (by assumption) | exact .inl (by assumption) | exact .inl (SqL.of (by assumption)) | exact SqT.of (by assumption) | exact .inr (SqT.of (by assumption)))
local macro_rules | `(tactic| walk_at "st") => `(tactic| first
  | refine ⟨_, rfl, ?_⟩
  | refine ⟨_, _, rfl, rfl, ?_⟩
  | refine .inl ⟨_, rfl, ?_⟩
  | refine ⟨rfl, ?_⟩
  | refine ⟨_, _, rfl, by walk_at "sq", ?_⟩
  | refine ⟨.inl ⟨rfl, _, SqL.of (by assumption)⟩, ?_⟩
  | refine ⟨by walk_at "cond", ?_⟩
  | (refine' ifBT ?hh ?_; (case hh => first | rfl | assumption))
  | (refine' ifBF ?hh ?_; (case hh => first | rfl | assumption)))
local macro_rules | `(tactic| walk_at "go") => `(tactic| repeat walk_at "st")
local macro_rules | `(tactic| walk_at "yes") => `(tactic| (refine' ifT ?hh ?_; (case hh => first | rfl | decide +kernel)))
local macro_rules | `(tactic| walk_at "no") => `(tactic| (refine' ifF ?hh ?_; (case hh => first | decide +kernel | (intro z; cases z; done))))

theorem all_mk {l : PySem.W.OpenLaw} {w : World} {K : PySem.W.Frag} {h : Heap} {mg : Str → Option Value} {fa : Addr} (X : K.In h) (G : h.Ns mainGlobals mg) (hfa : mg "law" = some (.ref fa))
    {CR : Addr} (aCR : PySem.W.nsIn K mainGlobals "Regions" = some (some (.ref CR)))
    {od_m_init an_m_init : Option Addr} {sl_m_init : Array (Option Value)} {f_m_init : Addr} {oc_m_init kV_m_init dc_m_init pm_m_init cd_m_init ct_m_init : Value}
    (a_m_init : PySem.W.findIn K (.ref CR) "__init__" = some (some (.ref f_m_init))) (i_m_init : PySem.W.isFn K (.ref f_m_init) = true)
    (l_m_init : K.lookup f_m_init = some ⟨oc_m_init, od_m_init, .func (PySem.W.fnOf "__init__" "Regions.__init__" (C8.fnArgs s_Regions___init__) (C8.fnBody s_Regions___init__) (C8.fnScope s_Regions___init__) .none kV_m_init dc_m_init pm_m_init an_m_init cd_m_init ct_m_init), sl_m_init⟩)
    (c_m_init : PySem.W.codeIn K cd_m_init "Regions.__init__" = true) (k_m_init : PySem.W.keepIn K (.ref f_m_init) = true)
    {od_m_unassign an_m_unassign : Option Addr} {sl_m_unassign : Array (Option Value)} {f_m_unassign : Addr} {oc_m_unassign kV_m_unassign dc_m_unassign pm_m_unassign cd_m_unassign ct_m_unassign : Value}
    (a_m_unassign : PySem.W.findIn K (.ref CR) "unassign" = some (some (.ref f_m_unassign))) (i_m_unassign : PySem.W.isFn K (.ref f_m_unassign) = true)
    (l_m_unassign : K.lookup f_m_unassign = some ⟨oc_m_unassign, od_m_unassign, .func (PySem.W.fnOf "unassign" "Regions.unassign" (C8.fnArgs s_Regions_unassign) (C8.fnBody s_Regions_unassign) (C8.fnScope s_Regions_unassign) .none kV_m_unassign dc_m_unassign pm_m_unassign an_m_unassign cd_m_unassign ct_m_unassign), sl_m_unassign⟩)
    (c_m_unassign : PySem.W.codeIn K cd_m_unassign "Regions.unassign" = true) (k_m_unassign : PySem.W.keepIn K (.ref f_m_unassign) = true)
    {od_m_protect an_m_protect : Option Addr} {sl_m_protect : Array (Option Value)} {f_m_protect : Addr} {oc_m_protect kV_m_protect dc_m_protect pm_m_protect cd_m_protect ct_m_protect : Value}
    (a_m_protect : PySem.W.findIn K (.ref CR) "protect" = some (some (.ref f_m_protect))) (i_m_protect : PySem.W.isFn K (.ref f_m_protect) = true)
    (l_m_protect : K.lookup f_m_protect = some ⟨oc_m_protect, od_m_protect, .func (PySem.W.fnOf "protect" "Regions.protect" (C8.fnArgs s_Regions_protect) (C8.fnBody s_Regions_protect) (C8.fnScope s_Regions_protect) .none kV_m_protect dc_m_protect pm_m_protect an_m_protect cd_m_protect ct_m_protect), sl_m_protect⟩)
    (c_m_protect : PySem.W.codeIn K cd_m_protect "Regions.protect" = true) (k_m_protect : PySem.W.keepIn K (.ref f_m_protect) = true)
    {od_m_splice an_m_splice : Option Addr} {sl_m_splice : Array (Option Value)} {f_m_splice : Addr} {oc_m_splice kV_m_splice dc_m_splice pm_m_splice cd_m_splice ct_m_splice : Value}
    (a_m_splice : PySem.W.findIn K (.ref CR) "_splice" = some (some (.ref f_m_splice))) (i_m_splice : PySem.W.isFn K (.ref f_m_splice) = true)
    (l_m_splice : K.lookup f_m_splice = some ⟨oc_m_splice, od_m_splice, .func (PySem.W.fnOf "_splice" "Regions._splice" (C8.fnArgs s_Regions__splice) (C8.fnBody s_Regions__splice) (C8.fnScope s_Regions__splice) .none kV_m_splice dc_m_splice pm_m_splice an_m_splice cd_m_splice ct_m_splice), sl_m_splice⟩)
    (c_m_splice : PySem.W.codeIn K cd_m_splice "Regions._splice" = true) (k_m_splice : PySem.W.keepIn K (.ref f_m_splice) = true)
    {od_m_parts_in an_m_parts_in : Option Addr} {sl_m_parts_in : Array (Option Value)} {f_m_parts_in : Addr} {oc_m_parts_in kV_m_parts_in dc_m_parts_in pm_m_parts_in cd_m_parts_in ct_m_parts_in : Value}
    (a_m_parts_in : PySem.W.findIn K (.ref CR) "_parts_in" = some (some (.ref f_m_parts_in))) (i_m_parts_in : PySem.W.isFn K (.ref f_m_parts_in) = true)
    (l_m_parts_in : K.lookup f_m_parts_in = some ⟨oc_m_parts_in, od_m_parts_in, .func (PySem.W.fnOf "_parts_in" "Regions._parts_in" (C8.fnArgs s_Regions__parts_in) (C8.fnBody s_Regions__parts_in) (C8.fnScope s_Regions__parts_in) .none kV_m_parts_in dc_m_parts_in pm_m_parts_in an_m_parts_in cd_m_parts_in ct_m_parts_in), sl_m_parts_in⟩)
    (c_m_parts_in : PySem.W.codeIn K cd_m_parts_in "Regions._parts_in" = true) (k_m_parts_in : PySem.W.keepIn K (.ref f_m_parts_in) = true)
    {od_m_count_up_to an_m_count_up_to : Option Addr} {sl_m_count_up_to : Array (Option Value)} {f_m_count_up_to : Addr} {oc_m_count_up_to kV_m_count_up_to dc_m_count_up_to pm_m_count_up_to cd_m_count_up_to ct_m_count_up_to : Value}
    (a_m_count_up_to : PySem.W.findIn K (.ref CR) "_count_up_to" = some (some (.ref f_m_count_up_to))) (i_m_count_up_to : PySem.W.isFn K (.ref f_m_count_up_to) = true)
    (l_m_count_up_to : K.lookup f_m_count_up_to = some ⟨oc_m_count_up_to, od_m_count_up_to, .func (PySem.W.fnOf "_count_up_to" "Regions._count_up_to" (C8.fnArgs s_Regions__count_up_to) (C8.fnBody s_Regions__count_up_to) (C8.fnScope s_Regions__count_up_to) .none kV_m_count_up_to dc_m_count_up_to pm_m_count_up_to an_m_count_up_to cd_m_count_up_to ct_m_count_up_to), sl_m_count_up_to⟩)
    (c_m_count_up_to : PySem.W.codeIn K cd_m_count_up_to "Regions._count_up_to" = true) (k_m_count_up_to : PySem.W.keepIn K (.ref f_m_count_up_to) = true)
    {od_m_as_list an_m_as_list : Option Addr} {sl_m_as_list : Array (Option Value)} {f_m_as_list : Addr} {oc_m_as_list kV_m_as_list dc_m_as_list pm_m_as_list cd_m_as_list ct_m_as_list : Value}
    (a_m_as_list : PySem.W.findIn K (.ref CR) "as_list" = some (some (.ref f_m_as_list))) (i_m_as_list : PySem.W.isFn K (.ref f_m_as_list) = true)
    (l_m_as_list : K.lookup f_m_as_list = some ⟨oc_m_as_list, od_m_as_list, .func (PySem.W.fnOf "as_list" "Regions.as_list" (C8.fnArgs s_Regions_as_list) (C8.fnBody s_Regions_as_list) (C8.fnScope s_Regions_as_list) .none kV_m_as_list dc_m_as_list pm_m_as_list an_m_as_list cd_m_as_list ct_m_as_list), sl_m_as_list⟩)
    (c_m_as_list : PySem.W.codeIn K cd_m_as_list "Regions.as_list" = true) (k_m_as_list : PySem.W.keepIn K (.ref f_m_as_list) = true)
    (pgCR : PySem.W.plainGet K CR Str.empty = true) (hdCR : PySem.W.hasDictIn K CR = true) (poCR : PySem.W.plainOver K CR = true) (saCR : PySem.W.findIn K (.ref CR) "__setattr__" = some (some (.builtin "object.__setattr__"))) (mkCR : PySem.W.makesIn K CR = true) (kcCR : PySem.W.keepIn K (.ref CR) = true)
    (nLR : PySem.W.findIn K (.ref CR) "limit" = some none)
    (nRR : PySem.W.findIn K (.ref CR) "_rows" = some none)
    {od_kw_assign an_kw_assign : Option Addr} {sl_kw_assign : Array (Option Value)} {f_kw_assign dk_kw_assign : Addr} {oc_kw_assign dc_kw_assign pm_kw_assign cd_kw_assign ct_kw_assign : Value} {tk_kw_assign_file tk_kw_assign_index : Tok}
    (a_kw_assign : PySem.W.findIn K (.ref CR) "assign" = some (some (.ref f_kw_assign))) (i_kw_assign : PySem.W.isFn K (.ref f_kw_assign) = true)
    (l_kw_assign : K.lookup f_kw_assign = some ⟨oc_kw_assign, od_kw_assign, .func (PySem.W.fnOf "assign" "Regions.assign" (C8.fnArgs s_Regions_assign) (C8.fnBody s_Regions_assign) (C8.fnScope s_Regions_assign) .none (.ref dk_kw_assign) dc_kw_assign pm_kw_assign an_kw_assign cd_kw_assign ct_kw_assign), sl_kw_assign⟩)
    (c_kw_assign : PySem.W.codeIn K cd_kw_assign "Regions.assign" = true) (k_kw_assign : PySem.W.keepIn K (.ref f_kw_assign) = true)
    (d_kw_assign_file : PySem.W.nsIn K dk_kw_assign "file" = some (some (.str "" tk_kw_assign_file)))
    (d_kw_assign_index : PySem.W.nsIn K dk_kw_assign "index" = some (some (.int 0 tk_kw_assign_index)))
    (hgs : PySem.W.specialIn K (.builtin "object.__class__") "__get__" = some (some (.builtin "getset_descriptor.__get__"))) (htk : PySem.W.takesIn K (.builtin "object.__class__") = some true)
    {D fD ccD cD ND : Addr} {ocD cclD clD kVD docD pmD ctvD : Value} {odD anD cddD cldD ddD : Option Addr} {oslD ccsD cslD : Array (Option Value)} {vsD : Array Value} {fileD : Str} {tfD : Tok}
    {nmD qD : Str} {bsD bmD : List Value} {snD : List Str} {subD : List Value} {abD : Bool} {colD : Option Bool} {k0D k1D k2D k3D k5D : Option Value}
    (aD : PySem.W.nsIn K mainGlobals "BadRange" = some (some (.ref D)))
    (iCD : PySem.W.findIn K (.ref D) "__init__" = some (some (.ref fD))) (tID : PySem.W.typeIn K (.ref fD) = some (.type "function"))
    (lFD : K.lookup fD = some ⟨ocD, odD, .func (PySem.W.fnX "__init__" "BadRange.__init__" (C8.fnArgs s_BadRange_init) (C8.fnBody s_BadRange_init) (C8.fnScope s_BadRange_init) [("__class__", ccD)] .none kVD docD pmD anD (.ref cD) ctvD), oslD⟩)
    (cFD : PySem.W.codeIn K (.ref cD) "BadRange.__init__" = true) (lcD : K.lookup cD = some ⟨cclD, cddD, .fields vsD, ccsD⟩) (x_hvD : vsD[2]? = some (.str fileD tfD)) (x_hfD : ((l.prog.main.file : Str) == fileD) = true) (x_tpD : (l.prog.main.scope.names.lookup ("super" : Str)).isSome = false)
    (lccD : K.lookup ccD = some ⟨clD, cldD, .cell (some (.ref D)), cslD⟩) (zsuperD : PySem.W.nsIn K mainGlobals "super" = some none)
    (lDD : K.lookup D = some (excClassObj nmD qD D ND bsD bmD true snD subD abD colD ddD k0D k1D k2D k3D k5D "ValueError.__new__")) (x_rbD : PySem.HandSPX.refsVE bmD = true)
    (saD : PySem.W.findIn K (.ref D) "__setattr__" = some (some (.builtin "object.__setattr__"))) (exD : PySem.W.subIn K (.ref D) (.type "BaseException") = some true) (tyD : PySem.W.typeIn K (.ref D) = some (.type "type")) (kCD : PySem.W.keepIn K (.ref D) = true)
    (mrD : PySem.W.mroIn K D (.ref D) = some true) (x_iniD : PySem.W.ks_superIn K D D "__init__" = some (some (.builtin "ValueError.__init__"))) (veD : PySem.W.subIn K (.ref D) (.type "ValueError") = some true) (anyD : PySem.W.nsIn K cStatics "thirdparty.any" = some none)
    (nD_start : PySem.W.findIn K (.ref D) "start" = some none)
    (nD_end : PySem.W.findIn K (.ref D) "end" = some none)
    (hgaD : PySem.W.findIn K (.ref D) "__getattribute__" = some (some (.builtin "BaseException.__getattribute__")))
    (hgtD : PySem.W.findIn K (.ref D) "__getattr__" = some none)
    (hclD : PySem.W.findIn K (.ref D) "__class__" = some (some (.builtin "object.__class__")))
    (hhdD : PySem.W.hasDictIn K D = true) (hobD : PySem.W.mroIn K D (.type "object") = some true)
    {U fU ccU cU NU : Addr} {ocU cclU clU kVU docU pmU ctvU : Value} {odU anU cddU cldU ddU : Option Addr} {oslU ccsU cslU : Array (Option Value)} {vsU : Array Value} {fileU : Str} {tfU : Tok}
    {nmU qU : Str} {bsU bmU : List Value} {snU : List Str} {subU : List Value} {abU : Bool} {colU : Option Bool} {k0U k1U k2U k3U k5U : Option Value}
    (aU : PySem.W.nsIn K mainGlobals "Unmapped" = some (some (.ref U)))
    (iCU : PySem.W.findIn K (.ref U) "__init__" = some (some (.ref fU))) (tIU : PySem.W.typeIn K (.ref fU) = some (.type "function"))
    (lFU : K.lookup fU = some ⟨ocU, odU, .func (PySem.W.fnX "__init__" "Unmapped.__init__" (C8.fnArgs s_Unmapped_init) (C8.fnBody s_Unmapped_init) (C8.fnScope s_Unmapped_init) [("__class__", ccU)] .none kVU docU pmU anU (.ref cU) ctvU), oslU⟩)
    (cFU : PySem.W.codeIn K (.ref cU) "Unmapped.__init__" = true) (lcU : K.lookup cU = some ⟨cclU, cddU, .fields vsU, ccsU⟩) (x_hvU : vsU[2]? = some (.str fileU tfU)) (x_hfU : ((l.prog.main.file : Str) == fileU) = true) (x_tpU : (l.prog.main.scope.names.lookup ("super" : Str)).isSome = false)
    (lccU : K.lookup ccU = some ⟨clU, cldU, .cell (some (.ref U)), cslU⟩) (zsuperU : PySem.W.nsIn K mainGlobals "super" = some none)
    (lDU : K.lookup U = some (excClassObj nmU qU U NU bsU bmU true snU subU abU colU ddU k0U k1U k2U k3U k5U "ValueError.__new__")) (x_rbU : PySem.HandSPX.refsVE bmU = true)
    (saU : PySem.W.findIn K (.ref U) "__setattr__" = some (some (.builtin "object.__setattr__"))) (exU : PySem.W.subIn K (.ref U) (.type "BaseException") = some true) (tyU : PySem.W.typeIn K (.ref U) = some (.type "type")) (kCU : PySem.W.keepIn K (.ref U) = true)
    (mrU : PySem.W.mroIn K U (.ref U) = some true) (x_iniU : PySem.W.ks_superIn K U U "__init__" = some (some (.builtin "ValueError.__init__"))) (veU : PySem.W.subIn K (.ref U) (.type "ValueError") = some true) (anyU : PySem.W.nsIn K cStatics "thirdparty.any" = some none)
    (nU_page : PySem.W.findIn K (.ref U) "page" = some none)
    (hgaU : PySem.W.findIn K (.ref U) "__getattribute__" = some (some (.builtin "BaseException.__getattribute__")))
    (hgtU : PySem.W.findIn K (.ref U) "__getattr__" = some none)
    (hclU : PySem.W.findIn K (.ref U) "__class__" = some (some (.builtin "object.__class__")))
    (hhdU : PySem.W.hasDictIn K U = true) (hobU : PySem.W.mroIn K U (.type "object") = some true)
    (x_eDD : PySem.W.exmOne K (.ref D) (.ref D) = some true)
    (x_eUD : PySem.W.exmOne K (.ref U) (.ref D) = some false)
    (x_eUU : PySem.W.exmOne K (.ref U) (.ref U) = some true)
    {CS : Addr} (aCS : PySem.W.nsIn K mainGlobals "Shape" = some (some (.ref CS)))
    {od_sh_init an_sh_init : Option Addr} {sl_sh_init : Array (Option Value)} {f_sh_init : Addr} {oc_sh_init kV_sh_init dc_sh_init pm_sh_init cd_sh_init ct_sh_init : Value}
    (a_sh_init : PySem.W.findIn K (.ref CS) "__init__" = some (some (.ref f_sh_init))) (i_sh_init : PySem.W.isFn K (.ref f_sh_init) = true)
    (l_sh_init : K.lookup f_sh_init = some ⟨oc_sh_init, od_sh_init, .func (PySem.W.fnOf "__init__" "Shape.__init__" (C8.fnArgs s_Shape___init__) (C8.fnBody s_Shape___init__) (C8.fnScope s_Shape___init__) .none kV_sh_init dc_sh_init pm_sh_init an_sh_init cd_sh_init ct_sh_init), sl_sh_init⟩)
    (c_sh_init : PySem.W.codeIn K cd_sh_init "Shape.__init__" = true) (k_sh_init : PySem.W.keepIn K (.ref f_sh_init) = true)
    {od_sh_span an_sh_span : Option Addr} {sl_sh_span : Array (Option Value)} {f_sh_span : Addr} {oc_sh_span kV_sh_span dc_sh_span pm_sh_span cd_sh_span ct_sh_span : Value}
    (a_sh_span : PySem.W.findIn K (.ref CS) "span" = some (some (.ref f_sh_span))) (i_sh_span : PySem.W.isFn K (.ref f_sh_span) = true)
    (l_sh_span : K.lookup f_sh_span = some ⟨oc_sh_span, od_sh_span, .func (PySem.W.fnOf "span" "Shape.span" (C8.fnArgs s_Shape_span) (C8.fnBody s_Shape_span) (C8.fnScope s_Shape_span) .none kV_sh_span dc_sh_span pm_sh_span an_sh_span cd_sh_span ct_sh_span), sl_sh_span⟩)
    (c_sh_span : PySem.W.codeIn K cd_sh_span "Shape.span" = true) (k_sh_span : PySem.W.keepIn K (.ref f_sh_span) = true)
    {od_sh_block_at an_sh_block_at : Option Addr} {sl_sh_block_at : Array (Option Value)} {f_sh_block_at : Addr} {oc_sh_block_at kV_sh_block_at dc_sh_block_at pm_sh_block_at cd_sh_block_at ct_sh_block_at : Value}
    (a_sh_block_at : PySem.W.findIn K (.ref CS) "block_at" = some (some (.ref f_sh_block_at))) (i_sh_block_at : PySem.W.isFn K (.ref f_sh_block_at) = true)
    (l_sh_block_at : K.lookup f_sh_block_at = some ⟨oc_sh_block_at, od_sh_block_at, .func (PySem.W.fnOf "block_at" "Shape.block_at" (C8.fnArgs s_Shape_block_at) (C8.fnBody s_Shape_block_at) (C8.fnScope s_Shape_block_at) .none kV_sh_block_at dc_sh_block_at pm_sh_block_at an_sh_block_at cd_sh_block_at ct_sh_block_at), sl_sh_block_at⟩)
    (c_sh_block_at : PySem.W.codeIn K cd_sh_block_at "Shape.block_at" = true) (k_sh_block_at : PySem.W.keepIn K (.ref f_sh_block_at) = true)
    (pgCS : PySem.W.plainGet K CS Str.empty = true) (hdCS : PySem.W.hasDictIn K CS = true) (poCS : PySem.W.plainOver K CS = true) (saCS : PySem.W.findIn K (.ref CS) "__setattr__" = some (some (.builtin "object.__setattr__"))) (mkCS : PySem.W.makesIn K CS = true) (kcCS : PySem.W.keepIn K (.ref CS) = true)
    (nWS : PySem.W.findIn K (.ref CS) "widths" = some none)
    (nLS : PySem.W.findIn K (.ref CS) "levels" = some none)
    (nSS : PySem.W.findIn K (.ref CS) "_spans" = some none)
    (nPS : PySem.W.findIn K (.ref CS) "page_count" = some none)
    {CF : Addr} (aCF : PySem.W.nsIn K mainGlobals "FoldedTable" = some (some (.ref CF)))
    {od_ft_init an_ft_init : Option Addr} {sl_ft_init : Array (Option Value)} {f_ft_init : Addr} {oc_ft_init kV_ft_init dc_ft_init pm_ft_init cd_ft_init ct_ft_init : Value}
    (a_ft_init : PySem.W.findIn K (.ref CF) "__init__" = some (some (.ref f_ft_init))) (i_ft_init : PySem.W.isFn K (.ref f_ft_init) = true)
    (l_ft_init : K.lookup f_ft_init = some ⟨oc_ft_init, od_ft_init, .func (PySem.W.fnOf "__init__" "FoldedTable.__init__" (C8.fnArgs s_FoldedTable___init__) (C8.fnBody s_FoldedTable___init__) (C8.fnScope s_FoldedTable___init__) .none kV_ft_init dc_ft_init pm_ft_init an_ft_init cd_ft_init ct_ft_init), sl_ft_init⟩)
    (c_ft_init : PySem.W.codeIn K cd_ft_init "FoldedTable.__init__" = true) (k_ft_init : PySem.W.keepIn K (.ref f_ft_init) = true)
    {od_ft_entries an_ft_entries : Option Addr} {sl_ft_entries : Array (Option Value)} {f_ft_entries : Addr} {oc_ft_entries kV_ft_entries dc_ft_entries pm_ft_entries cd_ft_entries ct_ft_entries : Value}
    (a_ft_entries : PySem.W.findIn K (.ref CF) "entries" = some (some (.ref f_ft_entries))) (i_ft_entries : PySem.W.isFn K (.ref f_ft_entries) = true)
    (l_ft_entries : K.lookup f_ft_entries = some ⟨oc_ft_entries, od_ft_entries, .func (PySem.W.fnOf "entries" "FoldedTable.entries" (C8.fnArgs s_FoldedTable_entries) (C8.fnBody s_FoldedTable_entries) (C8.fnScope s_FoldedTable_entries) .none kV_ft_entries dc_ft_entries pm_ft_entries an_ft_entries cd_ft_entries ct_ft_entries), sl_ft_entries⟩)
    (c_ft_entries : PySem.W.codeIn K cd_ft_entries "FoldedTable.entries" = true) (k_ft_entries : PySem.W.keepIn K (.ref f_ft_entries) = true)
    {od_ft_table_count an_ft_table_count : Option Addr} {sl_ft_table_count : Array (Option Value)} {f_ft_table_count : Addr} {oc_ft_table_count kV_ft_table_count dc_ft_table_count pm_ft_table_count cd_ft_table_count ct_ft_table_count : Value}
    (a_ft_table_count : PySem.W.findIn K (.ref CF) "table_count" = some (some (.ref f_ft_table_count))) (i_ft_table_count : PySem.W.isFn K (.ref f_ft_table_count) = true)
    (l_ft_table_count : K.lookup f_ft_table_count = some ⟨oc_ft_table_count, od_ft_table_count, .func (PySem.W.fnOf "table_count" "FoldedTable.table_count" (C8.fnArgs s_FoldedTable_table_count) (C8.fnBody s_FoldedTable_table_count) (C8.fnScope s_FoldedTable_table_count) .none kV_ft_table_count dc_ft_table_count pm_ft_table_count an_ft_table_count cd_ft_table_count ct_ft_table_count), sl_ft_table_count⟩)
    (c_ft_table_count : PySem.W.codeIn K cd_ft_table_count "FoldedTable.table_count" = true) (k_ft_table_count : PySem.W.keepIn K (.ref f_ft_table_count) = true)
    {od_ft_tree an_ft_tree : Option Addr} {sl_ft_tree : Array (Option Value)} {f_ft_tree : Addr} {oc_ft_tree kV_ft_tree dc_ft_tree pm_ft_tree cd_ft_tree ct_ft_tree : Value}
    (a_ft_tree : PySem.W.findIn K (.ref CF) "tree" = some (some (.ref f_ft_tree))) (i_ft_tree : PySem.W.isFn K (.ref f_ft_tree) = true)
    (l_ft_tree : K.lookup f_ft_tree = some ⟨oc_ft_tree, od_ft_tree, .func (PySem.W.fnOf "tree" "FoldedTable.tree" (C8.fnArgs s_FoldedTable_tree) (C8.fnBody s_FoldedTable_tree) (C8.fnScope s_FoldedTable_tree) .none kV_ft_tree dc_ft_tree pm_ft_tree an_ft_tree cd_ft_tree ct_ft_tree), sl_ft_tree⟩)
    (c_ft_tree : PySem.W.codeIn K cd_ft_tree "FoldedTable.tree" = true) (k_ft_tree : PySem.W.keepIn K (.ref f_ft_tree) = true)
    (pgCF : PySem.W.plainGet K CF Str.empty = true) (hdCF : PySem.W.hasDictIn K CF = true) (poCF : PySem.W.plainOver K CF = true) (saCF : PySem.W.findIn K (.ref CF) "__setattr__" = some (some (.builtin "object.__setattr__"))) (mkCF : PySem.W.makesIn K CF = true) (kcCF : PySem.W.keepIn K (.ref CF) = true)
    (nSF : PySem.W.findIn K (.ref CF) "_shape" = some none)
    (nRF : PySem.W.findIn K (.ref CF) "_root" = some none)
    {od_mark_after an_mark_after : Option Addr} {sl_mark_after : Array (Option Value)} {f_mark_after : Addr} {oc_mark_after kV_mark_after dc_mark_after pm_mark_after cd_mark_after ct_mark_after : Value}
    (a_mark_after : PySem.W.nsIn K mainGlobals "mark_after" = some (some (.ref f_mark_after)))
    (l_mark_after : K.lookup f_mark_after = some ⟨oc_mark_after, od_mark_after, .func (PySem.W.fnOf "mark_after" "mark_after" (C8.fnArgs s_mark_after) (C8.fnBody s_mark_after) (C8.fnScope s_mark_after) .none kV_mark_after dc_mark_after pm_mark_after an_mark_after cd_mark_after ct_mark_after), sl_mark_after⟩)
    (c_mark_after : PySem.W.codeIn K cd_mark_after "mark_after" = true) (k_mark_after : PySem.W.keepIn K (.ref f_mark_after) = true)
    {od_mark_in an_mark_in : Option Addr} {sl_mark_in : Array (Option Value)} {f_mark_in : Addr} {oc_mark_in kV_mark_in dc_mark_in pm_mark_in cd_mark_in ct_mark_in : Value}
    (a_mark_in : PySem.W.nsIn K mainGlobals "mark_in" = some (some (.ref f_mark_in)))
    (l_mark_in : K.lookup f_mark_in = some ⟨oc_mark_in, od_mark_in, .func (PySem.W.fnOf "mark_in" "mark_in" (C8.fnArgs s_mark_in) (C8.fnBody s_mark_in) (C8.fnScope s_mark_in) .none kV_mark_in dc_mark_in pm_mark_in an_mark_in cd_mark_in ct_mark_in), sl_mark_in⟩)
    (c_mark_in : PySem.W.codeIn K cd_mark_in "mark_in" = true) (k_mark_in : PySem.W.keepIn K (.ref f_mark_in) = true)
    {od_clip an_clip : Option Addr} {sl_clip : Array (Option Value)} {f_clip : Addr} {oc_clip kV_clip dc_clip pm_clip cd_clip ct_clip : Value}
    (a_clip : PySem.W.nsIn K mainGlobals "clip" = some (some (.ref f_clip)))
    (l_clip : K.lookup f_clip = some ⟨oc_clip, od_clip, .func (PySem.W.fnOf "clip" "clip" (C8.fnArgs s_clip) (C8.fnBody s_clip) (C8.fnScope s_clip) .none kV_clip dc_clip pm_clip an_clip cd_clip ct_clip), sl_clip⟩)
    (c_clip : PySem.W.codeIn K cd_clip "clip" = true) (k_clip : PySem.W.keepIn K (.ref f_clip) = true)
    {od_merge an_merge : Option Addr} {sl_merge : Array (Option Value)} {f_merge : Addr} {oc_merge kV_merge dc_merge pm_merge cd_merge ct_merge : Value}
    (a_merge : PySem.W.nsIn K mainGlobals "merge" = some (some (.ref f_merge)))
    (l_merge : K.lookup f_merge = some ⟨oc_merge, od_merge, .func (PySem.W.fnOf "merge" "merge" (C8.fnArgs s_merge) (C8.fnBody s_merge) (C8.fnScope s_merge) .none kV_merge dc_merge pm_merge an_merge cd_merge ct_merge), sl_merge⟩)
    (c_merge : PySem.W.codeIn K cd_merge "merge" = true) (k_merge : PySem.W.keepIn K (.ref f_merge) = true)
    {od_continues an_continues : Option Addr} {sl_continues : Array (Option Value)} {f_continues : Addr} {oc_continues kV_continues dc_continues pm_continues cd_continues ct_continues : Value}
    (a_continues : PySem.W.nsIn K mainGlobals "_continues" = some (some (.ref f_continues)))
    (l_continues : K.lookup f_continues = some ⟨oc_continues, od_continues, .func (PySem.W.fnOf "_continues" "_continues" (C8.fnArgs s_continues) (C8.fnBody s_continues) (C8.fnScope s_continues) .none kV_continues dc_continues pm_continues an_continues cd_continues ct_continues), sl_continues⟩)
    (c_continues : PySem.W.codeIn K cd_continues "_continues" = true) (k_continues : PySem.W.keepIn K (.ref f_continues) = true)
    {od_check_range an_check_range : Option Addr} {sl_check_range : Array (Option Value)} {f_check_range : Addr} {oc_check_range kV_check_range dc_check_range pm_check_range cd_check_range ct_check_range : Value}
    (a_check_range : PySem.W.nsIn K mainGlobals "check_range" = some (some (.ref f_check_range)))
    (l_check_range : K.lookup f_check_range = some ⟨oc_check_range, od_check_range, .func (PySem.W.fnOf "check_range" "check_range" (C8.fnArgs s_check_range) (C8.fnBody s_check_range) (C8.fnScope s_check_range) .none kV_check_range dc_check_range pm_check_range an_check_range cd_check_range ct_check_range), sl_check_range⟩)
    (c_check_range : PySem.W.codeIn K cd_check_range "check_range" = true) (k_check_range : PySem.W.keepIn K (.ref f_check_range) = true)
    {od_check_mapped an_check_mapped : Option Addr} {sl_check_mapped : Array (Option Value)} {f_check_mapped : Addr} {oc_check_mapped kV_check_mapped dc_check_mapped pm_check_mapped cd_check_mapped ct_check_mapped : Value}
    (a_check_mapped : PySem.W.nsIn K mainGlobals "_check_mapped" = some (some (.ref f_check_mapped)))
    (l_check_mapped : K.lookup f_check_mapped = some ⟨oc_check_mapped, od_check_mapped, .func (PySem.W.fnOf "_check_mapped" "_check_mapped" (C8.fnArgs s_check_mapped) (C8.fnBody s_check_mapped) (C8.fnScope s_check_mapped) .none kV_check_mapped dc_check_mapped pm_check_mapped an_check_mapped cd_check_mapped ct_check_mapped), sl_check_mapped⟩)
    (c_check_mapped : PySem.W.codeIn K cd_check_mapped "_check_mapped" = true) (k_check_mapped : PySem.W.keepIn K (.ref f_check_mapped) = true)
    {od_spans_of an_spans_of : Option Addr} {sl_spans_of : Array (Option Value)} {f_spans_of : Addr} {oc_spans_of kV_spans_of dc_spans_of pm_spans_of cd_spans_of ct_spans_of : Value}
    (a_spans_of : PySem.W.nsIn K mainGlobals "_spans_of" = some (some (.ref f_spans_of)))
    (l_spans_of : K.lookup f_spans_of = some ⟨oc_spans_of, od_spans_of, .func (PySem.W.fnOf "_spans_of" "_spans_of" (C8.fnArgs s_spans_of) (C8.fnBody s_spans_of) (C8.fnScope s_spans_of) .none kV_spans_of dc_spans_of pm_spans_of an_spans_of cd_spans_of ct_spans_of), sl_spans_of⟩)
    (c_spans_of : PySem.W.codeIn K cd_spans_of "_spans_of" = true) (k_spans_of : PySem.W.keepIn K (.ref f_spans_of) = true)
    {od_fold an_fold : Option Addr} {sl_fold : Array (Option Value)} {f_fold : Addr} {oc_fold kV_fold dc_fold pm_fold cd_fold ct_fold : Value}
    (a_fold : PySem.W.nsIn K mainGlobals "_fold" = some (some (.ref f_fold)))
    (l_fold : K.lookup f_fold = some ⟨oc_fold, od_fold, .func (PySem.W.fnOf "_fold" "_fold" (C8.fnArgs s_fold) (C8.fnBody s_fold) (C8.fnScope s_fold) .none kV_fold dc_fold pm_fold an_fold cd_fold ct_fold), sl_fold⟩)
    (c_fold : PySem.W.codeIn K cd_fold "_fold" = true) (k_fold : PySem.W.keepIn K (.ref f_fold) = true)
    {od_fold_block an_fold_block : Option Addr} {sl_fold_block : Array (Option Value)} {f_fold_block : Addr} {oc_fold_block kV_fold_block dc_fold_block pm_fold_block cd_fold_block ct_fold_block : Value}
    (a_fold_block : PySem.W.nsIn K mainGlobals "_fold_block" = some (some (.ref f_fold_block)))
    (l_fold_block : K.lookup f_fold_block = some ⟨oc_fold_block, od_fold_block, .func (PySem.W.fnOf "_fold_block" "_fold_block" (C8.fnArgs s_fold_block) (C8.fnBody s_fold_block) (C8.fnScope s_fold_block) .none kV_fold_block dc_fold_block pm_fold_block an_fold_block cd_fold_block ct_fold_block), sl_fold_block⟩)
    (c_fold_block : PySem.W.codeIn K cd_fold_block "_fold_block" = true) (k_fold_block : PySem.W.keepIn K (.ref f_fold_block) = true)
    {od_copy_table an_copy_table : Option Addr} {sl_copy_table : Array (Option Value)} {f_copy_table : Addr} {oc_copy_table kV_copy_table dc_copy_table pm_copy_table cd_copy_table ct_copy_table : Value}
    (a_copy_table : PySem.W.nsIn K mainGlobals "_copy_table" = some (some (.ref f_copy_table)))
    (l_copy_table : K.lookup f_copy_table = some ⟨oc_copy_table, od_copy_table, .func (PySem.W.fnOf "_copy_table" "_copy_table" (C8.fnArgs s_copy_table) (C8.fnBody s_copy_table) (C8.fnScope s_copy_table) .none kV_copy_table dc_copy_table pm_copy_table an_copy_table cd_copy_table ct_copy_table), sl_copy_table⟩)
    (c_copy_table : PySem.W.codeIn K cd_copy_table "_copy_table" = true) (k_copy_table : PySem.W.keepIn K (.ref f_copy_table) = true)
    {od_marks_in an_marks_in : Option Addr} {sl_marks_in : Array (Option Value)} {f_marks_in : Addr} {oc_marks_in kV_marks_in dc_marks_in pm_marks_in cd_marks_in ct_marks_in : Value}
    (a_marks_in : PySem.W.nsIn K mainGlobals "_marks_in" = some (some (.ref f_marks_in)))
    (l_marks_in : K.lookup f_marks_in = some ⟨oc_marks_in, od_marks_in, .func (PySem.W.fnOf "_marks_in" "_marks_in" (C8.fnArgs s_marks_in) (C8.fnBody s_marks_in) (C8.fnScope s_marks_in) .none kV_marks_in dc_marks_in pm_marks_in an_marks_in cd_marks_in ct_marks_in), sl_marks_in⟩)
    (c_marks_in : PySem.W.codeIn K cd_marks_in "_marks_in" = true) (k_marks_in : PySem.W.keepIn K (.ref f_marks_in) = true)
    {od_count_tables an_count_tables : Option Addr} {sl_count_tables : Array (Option Value)} {f_count_tables : Addr} {oc_count_tables kV_count_tables dc_count_tables pm_count_tables cd_count_tables ct_count_tables : Value}
    (a_count_tables : PySem.W.nsIn K mainGlobals "_count_tables" = some (some (.ref f_count_tables)))
    (l_count_tables : K.lookup f_count_tables = some ⟨oc_count_tables, od_count_tables, .func (PySem.W.fnOf "_count_tables" "_count_tables" (C8.fnArgs s_count_tables) (C8.fnBody s_count_tables) (C8.fnScope s_count_tables) .none kV_count_tables dc_count_tables pm_count_tables an_count_tables cd_count_tables ct_count_tables), sl_count_tables⟩)
    (c_count_tables : PySem.W.codeIn K cd_count_tables "_count_tables" = true) (k_count_tables : PySem.W.keepIn K (.ref f_count_tables) = true)
    {od_cover an_cover : Option Addr} {sl_cover : Array (Option Value)} {f_cover : Addr} {oc_cover kV_cover dc_cover pm_cover cd_cover ct_cover : Value}
    (a_cover : PySem.W.nsIn K mainGlobals "cover" = some (some (.ref f_cover)))
    (l_cover : K.lookup f_cover = some ⟨oc_cover, od_cover, .func (PySem.W.fnOf "cover" "cover" (C8.fnArgs s_cover) (C8.fnBody s_cover) (C8.fnScope s_cover) .none kV_cover dc_cover pm_cover an_cover cd_cover ct_cover), sl_cover⟩)
    (c_cover : PySem.W.codeIn K cd_cover "cover" = true) (k_cover : PySem.W.keepIn K (.ref f_cover) = true)
    {od_largest_block an_largest_block : Option Addr} {sl_largest_block : Array (Option Value)} {f_largest_block : Addr} {oc_largest_block kV_largest_block dc_largest_block pm_largest_block cd_largest_block ct_largest_block : Value}
    (a_largest_block : PySem.W.nsIn K mainGlobals "_largest_block" = some (some (.ref f_largest_block)))
    (l_largest_block : K.lookup f_largest_block = some ⟨oc_largest_block, od_largest_block, .func (PySem.W.fnOf "_largest_block" "_largest_block" (C8.fnArgs s_largest_block) (C8.fnBody s_largest_block) (C8.fnScope s_largest_block) .none kV_largest_block dc_largest_block pm_largest_block an_largest_block cd_largest_block ct_largest_block), sl_largest_block⟩)
    (c_largest_block : PySem.W.codeIn K cd_largest_block "_largest_block" = true) (k_largest_block : PySem.W.keepIn K (.ref f_largest_block) = true)
    {od_number an_number : Option Addr} {sl_number : Array (Option Value)} {f_number : Addr} {oc_number kV_number dc_number pm_number cd_number ct_number : Value}
    (a_number : PySem.W.nsIn K mainGlobals "_law_number" = some (some (.ref f_number)))
    (l_number : K.lookup f_number = some ⟨oc_number, od_number, .func (PySem.W.fnOf "_law_number" "_law_number" (C8.fnArgs s_number) (C8.fnBody s_number) (C8.fnScope s_number) .none kV_number dc_number pm_number an_number cd_number ct_number), sl_number⟩)
    (c_number : PySem.W.codeIn K cd_number "_law_number" = true) (k_number : PySem.W.keepIn K (.ref f_number) = true)
    {od_is_whole an_is_whole : Option Addr} {sl_is_whole : Array (Option Value)} {f_is_whole : Addr} {oc_is_whole kV_is_whole dc_is_whole pm_is_whole cd_is_whole ct_is_whole : Value}
    (a_is_whole : PySem.W.nsIn K mainGlobals "_law_is_whole" = some (some (.ref f_is_whole)))
    (l_is_whole : K.lookup f_is_whole = some ⟨oc_is_whole, od_is_whole, .func (PySem.W.fnOf "_law_is_whole" "_law_is_whole" (C8.fnArgs s_is_whole) (C8.fnBody s_is_whole) (C8.fnScope s_is_whole) .none kV_is_whole dc_is_whole pm_is_whole an_is_whole cd_is_whole ct_is_whole), sl_is_whole⟩)
    (c_is_whole : PySem.W.codeIn K cd_is_whole "_law_is_whole" = true) (k_is_whole : PySem.W.keepIn K (.ref f_is_whole) = true)
    {od_same an_same : Option Addr} {sl_same : Array (Option Value)} {f_same : Addr} {oc_same kV_same dc_same pm_same cd_same ct_same : Value}
    (a_same : PySem.W.nsIn K mainGlobals "_law_same" = some (some (.ref f_same)))
    (l_same : K.lookup f_same = some ⟨oc_same, od_same, .func (PySem.W.fnOf "_law_same" "_law_same" (C8.fnArgs s_same) (C8.fnBody s_same) (C8.fnScope s_same) .none kV_same dc_same pm_same an_same cd_same ct_same), sl_same⟩)
    (c_same : PySem.W.codeIn K cd_same "_law_same" = true) (k_same : PySem.W.keepIn K (.ref f_same) = true)
    {od_fan_spans an_fan_spans : Option Addr} {sl_fan_spans : Array (Option Value)} {f_fan_spans : Addr} {oc_fan_spans kV_fan_spans dc_fan_spans pm_fan_spans cd_fan_spans ct_fan_spans : Value}
    (a_fan_spans : PySem.W.nsIn K mainGlobals "_law_fan_spans" = some (some (.ref f_fan_spans)))
    (l_fan_spans : K.lookup f_fan_spans = some ⟨oc_fan_spans, od_fan_spans, .func (PySem.W.fnOf "_law_fan_spans" "_law_fan_spans" (C8.fnArgs s_fan_spans) (C8.fnBody s_fan_spans) (C8.fnScope s_fan_spans) .none kV_fan_spans dc_fan_spans pm_fan_spans an_fan_spans cd_fan_spans ct_fan_spans), sl_fan_spans⟩)
    (c_fan_spans : PySem.W.codeIn K cd_fan_spans "_law_fan_spans" = true) (k_fan_spans : PySem.W.keepIn K (.ref f_fan_spans) = true)
    {od_fan an_fan : Option Addr} {sl_fan : Array (Option Value)} {f_fan : Addr} {oc_fan kV_fan dc_fan pm_fan cd_fan ct_fan : Value}
    (a_fan : PySem.W.nsIn K mainGlobals "_law_fan" = some (some (.ref f_fan)))
    (l_fan : K.lookup f_fan = some ⟨oc_fan, od_fan, .func (PySem.W.fnOf "_law_fan" "_law_fan" (C8.fnArgs s_fan) (C8.fnBody s_fan) (C8.fnScope s_fan) .none kV_fan dc_fan pm_fan an_fan cd_fan ct_fan), sl_fan⟩)
    (c_fan : PySem.W.codeIn K cd_fan "_law_fan" = true) (k_fan : PySem.W.keepIn K (.ref f_fan) = true)
    {od_fold_fan an_fold_fan : Option Addr} {sl_fold_fan : Array (Option Value)} {f_fold_fan : Addr} {oc_fold_fan kV_fold_fan dc_fold_fan pm_fold_fan cd_fold_fan ct_fold_fan : Value}
    (a_fold_fan : PySem.W.nsIn K mainGlobals "_law_fold_fan" = some (some (.ref f_fold_fan)))
    (l_fold_fan : K.lookup f_fold_fan = some ⟨oc_fold_fan, od_fold_fan, .func (PySem.W.fnOf "_law_fold_fan" "_law_fold_fan" (C8.fnArgs s_fold_fan) (C8.fnBody s_fold_fan) (C8.fnScope s_fold_fan) .none kV_fold_fan dc_fold_fan pm_fold_fan an_fold_fan cd_fold_fan ct_fold_fan), sl_fold_fan⟩)
    (c_fold_fan : PySem.W.codeIn K cd_fold_fan "_law_fold_fan" = true) (k_fold_fan : PySem.W.keepIn K (.ref f_fold_fan) = true)
    {od_fold_many an_fold_many : Option Addr} {sl_fold_many : Array (Option Value)} {f_fold_many : Addr} {oc_fold_many kV_fold_many dc_fold_many pm_fold_many cd_fold_many ct_fold_many : Value}
    (a_fold_many : PySem.W.nsIn K mainGlobals "_law_fold_many" = some (some (.ref f_fold_many)))
    (l_fold_many : K.lookup f_fold_many = some ⟨oc_fold_many, od_fold_many, .func (PySem.W.fnOf "_law_fold_many" "_law_fold_many" (C8.fnArgs s_fold_many) (C8.fnBody s_fold_many) (C8.fnScope s_fold_many) .none kV_fold_many dc_fold_many pm_fold_many an_fold_many cd_fold_many ct_fold_many), sl_fold_many⟩)
    (c_fold_many : PySem.W.codeIn K cd_fold_many "_law_fold_many" = true) (k_fold_many : PySem.W.keepIn K (.ref f_fold_many) = true)
    {od_file_names an_file_names : Option Addr} {sl_file_names : Array (Option Value)} {f_file_names : Addr} {oc_file_names kV_file_names dc_file_names pm_file_names cd_file_names ct_file_names : Value}
    (a_file_names : PySem.W.nsIn K mainGlobals "_law_file_names" = some (some (.ref f_file_names)))
    (l_file_names : K.lookup f_file_names = some ⟨oc_file_names, od_file_names, .func (PySem.W.fnOf "_law_file_names" "_law_file_names" (C8.fnArgs s_file_names) (C8.fnBody s_file_names) (C8.fnScope s_file_names) .none kV_file_names dc_file_names pm_file_names an_file_names cd_file_names ct_file_names), sl_file_names⟩)
    (c_file_names : PySem.W.codeIn K cd_file_names "_law_file_names" = true) (k_file_names : PySem.W.keepIn K (.ref f_file_names) = true)
    {od_fold_deed an_fold_deed : Option Addr} {sl_fold_deed : Array (Option Value)} {f_fold_deed : Addr} {oc_fold_deed kV_fold_deed dc_fold_deed pm_fold_deed cd_fold_deed ct_fold_deed : Value}
    (a_fold_deed : PySem.W.nsIn K mainGlobals "_law_fold_deed" = some (some (.ref f_fold_deed)))
    (l_fold_deed : K.lookup f_fold_deed = some ⟨oc_fold_deed, od_fold_deed, .func (PySem.W.fnOf "_law_fold_deed" "_law_fold_deed" (C8.fnArgs s_fold_deed) (C8.fnBody s_fold_deed) (C8.fnScope s_fold_deed) .none kV_fold_deed dc_fold_deed pm_fold_deed an_fold_deed cd_fold_deed ct_fold_deed), sl_fold_deed⟩)
    (c_fold_deed : PySem.W.codeIn K cd_fold_deed "_law_fold_deed" = true) (k_fold_deed : PySem.W.keepIn K (.ref f_fold_deed) = true)
    {od_marks_do an_marks_do : Option Addr} {sl_marks_do : Array (Option Value)} {f_marks_do : Addr} {oc_marks_do kV_marks_do dc_marks_do pm_marks_do cd_marks_do ct_marks_do : Value}
    (a_marks_do : PySem.W.nsIn K mainGlobals "_law_marks_do" = some (some (.ref f_marks_do)))
    (l_marks_do : K.lookup f_marks_do = some ⟨oc_marks_do, od_marks_do, .func (PySem.W.fnOf "_law_marks_do" "_law_marks_do" (C8.fnArgs s_marks_do) (C8.fnBody s_marks_do) (C8.fnScope s_marks_do) .none kV_marks_do dc_marks_do pm_marks_do an_marks_do cd_marks_do ct_marks_do), sl_marks_do⟩)
    (c_marks_do : PySem.W.codeIn K cd_marks_do "_law_marks_do" = true) (k_marks_do : PySem.W.keepIn K (.ref f_marks_do) = true)
    {od_marks_ask an_marks_ask : Option Addr} {sl_marks_ask : Array (Option Value)} {f_marks_ask : Addr} {oc_marks_ask kV_marks_ask dc_marks_ask pm_marks_ask cd_marks_ask ct_marks_ask : Value}
    (a_marks_ask : PySem.W.nsIn K mainGlobals "_law_marks_ask" = some (some (.ref f_marks_ask)))
    (l_marks_ask : K.lookup f_marks_ask = some ⟨oc_marks_ask, od_marks_ask, .func (PySem.W.fnOf "_law_marks_ask" "_law_marks_ask" (C8.fnArgs s_marks_ask) (C8.fnBody s_marks_ask) (C8.fnScope s_marks_ask) .none kV_marks_ask dc_marks_ask pm_marks_ask an_marks_ask cd_marks_ask ct_marks_ask), sl_marks_ask⟩)
    (c_marks_ask : PySem.W.codeIn K cd_marks_ask "_law_marks_ask" = true) (k_marks_ask : PySem.W.keepIn K (.ref f_marks_ask) = true)
    {od_after an_after : Option Addr} {sl_after : Array (Option Value)} {f_after : Addr} {oc_after kV_after dc_after pm_after cd_after ct_after : Value}
    (a_after : PySem.W.nsIn K mainGlobals "_law_after" = some (some (.ref f_after)))
    (l_after : K.lookup f_after = some ⟨oc_after, od_after, .func (PySem.W.fnOf "_law_after" "_law_after" (C8.fnArgs s_after) (C8.fnBody s_after) (C8.fnScope s_after) .none kV_after dc_after pm_after an_after cd_after ct_after), sl_after⟩)
    (c_after : PySem.W.codeIn K cd_after "_law_after" = true) (k_after : PySem.W.keepIn K (.ref f_after) = true)
    {od_uniform an_uniform : Option Addr} {sl_uniform : Array (Option Value)} {f_uniform : Addr} {oc_uniform kV_uniform dc_uniform pm_uniform cd_uniform ct_uniform : Value}
    (a_uniform : PySem.W.nsIn K mainGlobals "_law_uniform" = some (some (.ref f_uniform)))
    (l_uniform : K.lookup f_uniform = some ⟨oc_uniform, od_uniform, .func (PySem.W.fnOf "_law_uniform" "_law_uniform" (C8.fnArgs s_uniform) (C8.fnBody s_uniform) (C8.fnScope s_uniform) .none kV_uniform dc_uniform pm_uniform an_uniform cd_uniform ct_uniform), sl_uniform⟩)
    (c_uniform : PySem.W.codeIn K cd_uniform "_law_uniform" = true) (k_uniform : PySem.W.keepIn K (.ref f_uniform) = true)
    {od_fold_tell an_fold_tell : Option Addr} {sl_fold_tell : Array (Option Value)} {f_fold_tell : Addr} {oc_fold_tell kV_fold_tell dc_fold_tell pm_fold_tell cd_fold_tell ct_fold_tell : Value}
    (a_fold_tell : PySem.W.nsIn K mainGlobals "_law_fold_tell" = some (some (.ref f_fold_tell)))
    (l_fold_tell : K.lookup f_fold_tell = some ⟨oc_fold_tell, od_fold_tell, .func (PySem.W.fnOf "_law_fold_tell" "_law_fold_tell" (C8.fnArgs s_fold_tell) (C8.fnBody s_fold_tell) (C8.fnScope s_fold_tell) .none kV_fold_tell dc_fold_tell pm_fold_tell an_fold_tell cd_fold_tell ct_fold_tell), sl_fold_tell⟩)
    (c_fold_tell : PySem.W.codeIn K cd_fold_tell "_law_fold_tell" = true) (k_fold_tell : PySem.W.keepIn K (.ref f_fold_tell) = true)
    {od_describes an_describes : Option Addr} {sl_describes : Array (Option Value)} {f_describes : Addr} {oc_describes kV_describes dc_describes pm_describes cd_describes ct_describes : Value}
    (a_describes : PySem.W.nsIn K mainGlobals "_law_describes" = some (some (.ref f_describes)))
    (l_describes : K.lookup f_describes = some ⟨oc_describes, od_describes, .func (PySem.W.fnOf "_law_describes" "_law_describes" (C8.fnArgs s_describes) (C8.fnBody s_describes) (C8.fnScope s_describes) .none kV_describes dc_describes pm_describes an_describes cd_describes ct_describes), sl_describes⟩)
    (c_describes : PySem.W.codeIn K cd_describes "_law_describes" = true) (k_describes : PySem.W.keepIn K (.ref f_describes) = true)
    {od_is_block an_is_block : Option Addr} {sl_is_block : Array (Option Value)} {f_is_block : Addr} {oc_is_block kV_is_block dc_is_block pm_is_block cd_is_block ct_is_block : Value}
    (a_is_block : PySem.W.nsIn K mainGlobals "_law_is_block" = some (some (.ref f_is_block)))
    (l_is_block : K.lookup f_is_block = some ⟨oc_is_block, od_is_block, .func (PySem.W.fnOf "_law_is_block" "_law_is_block" (C8.fnArgs s_is_block) (C8.fnBody s_is_block) (C8.fnScope s_is_block) .none kV_is_block dc_is_block pm_is_block an_is_block cd_is_block ct_is_block), sl_is_block⟩)
    (c_is_block : PySem.W.codeIn K cd_is_block "_law_is_block" = true) (k_is_block : PySem.W.keepIn K (.ref f_is_block) = true)
    {od_apart an_apart : Option Addr} {sl_apart : Array (Option Value)} {f_apart : Addr} {oc_apart kV_apart dc_apart pm_apart cd_apart ct_apart : Value}
    (a_apart : PySem.W.nsIn K mainGlobals "_law_apart" = some (some (.ref f_apart)))
    (l_apart : K.lookup f_apart = some ⟨oc_apart, od_apart, .func (PySem.W.fnOf "_law_apart" "_law_apart" (C8.fnArgs s_apart) (C8.fnBody s_apart) (C8.fnScope s_apart) .none kV_apart dc_apart pm_apart an_apart cd_apart ct_apart), sl_apart⟩)
    (c_apart : PySem.W.codeIn K cd_apart "_law_apart" = true) (k_apart : PySem.W.keepIn K (.ref f_apart) = true)
    {od_entries_least an_entries_least : Option Addr} {sl_entries_least : Array (Option Value)} {f_entries_least : Addr} {oc_entries_least kV_entries_least dc_entries_least pm_entries_least cd_entries_least ct_entries_least : Value}
    (a_entries_least : PySem.W.nsIn K mainGlobals "_law_entries_least" = some (some (.ref f_entries_least)))
    (l_entries_least : K.lookup f_entries_least = some ⟨oc_entries_least, od_entries_least, .func (PySem.W.fnOf "_law_entries_least" "_law_entries_least" (C8.fnArgs s_entries_least) (C8.fnBody s_entries_least) (C8.fnScope s_entries_least) .none kV_entries_least dc_entries_least pm_entries_least an_entries_least cd_entries_least ct_entries_least), sl_entries_least⟩)
    (c_entries_least : PySem.W.codeIn K cd_entries_least "_law_entries_least" = true) (k_entries_least : PySem.W.keepIn K (.ref f_entries_least) = true)
    {od_tables_at an_tables_at : Option Addr} {sl_tables_at : Array (Option Value)} {f_tables_at : Addr} {oc_tables_at kV_tables_at dc_tables_at pm_tables_at cd_tables_at ct_tables_at : Value}
    (a_tables_at : PySem.W.nsIn K mainGlobals "_law_tables_at" = some (some (.ref f_tables_at)))
    (l_tables_at : K.lookup f_tables_at = some ⟨oc_tables_at, od_tables_at, .func (PySem.W.fnOf "_law_tables_at" "_law_tables_at" (C8.fnArgs s_tables_at) (C8.fnBody s_tables_at) (C8.fnScope s_tables_at) .none kV_tables_at dc_tables_at pm_tables_at an_tables_at cd_tables_at ct_tables_at), sl_tables_at⟩)
    (c_tables_at : PySem.W.codeIn K cd_tables_at "_law_tables_at" = true) (k_tables_at : PySem.W.keepIn K (.ref f_tables_at) = true)
    {od_needed_tables an_needed_tables : Option Addr} {sl_needed_tables : Array (Option Value)} {f_needed_tables : Addr} {oc_needed_tables kV_needed_tables dc_needed_tables pm_needed_tables cd_needed_tables ct_needed_tables : Value}
    (a_needed_tables : PySem.W.nsIn K mainGlobals "_law_needed_tables" = some (some (.ref f_needed_tables)))
    (l_needed_tables : K.lookup f_needed_tables = some ⟨oc_needed_tables, od_needed_tables, .func (PySem.W.fnOf "_law_needed_tables" "_law_needed_tables" (C8.fnArgs s_needed_tables) (C8.fnBody s_needed_tables) (C8.fnScope s_needed_tables) .none kV_needed_tables dc_needed_tables pm_needed_tables an_needed_tables cd_needed_tables ct_needed_tables), sl_needed_tables⟩)
    (c_needed_tables : PySem.W.codeIn K cd_needed_tables "_law_needed_tables" = true) (k_needed_tables : PySem.W.keepIn K (.ref f_needed_tables) = true)
    {od_least_good an_least_good : Option Addr} {sl_least_good : Array (Option Value)} {f_least_good : Addr} {oc_least_good kV_least_good dc_least_good pm_least_good cd_least_good ct_least_good : Value}
    (a_least_good : PySem.W.nsIn K mainGlobals "_law_least_good" = some (some (.ref f_least_good)))
    (l_least_good : K.lookup f_least_good = some ⟨oc_least_good, od_least_good, .func (PySem.W.fnOf "_law_least_good" "_law_least_good" (C8.fnArgs s_least_good) (C8.fnBody s_least_good) (C8.fnScope s_least_good) .none kV_least_good dc_least_good pm_least_good an_least_good cd_least_good ct_least_good), sl_least_good⟩)
    (c_least_good : PySem.W.codeIn K cd_least_good "_law_least_good" = true) (k_least_good : PySem.W.keepIn K (.ref f_least_good) = true)
    {od_law an_law : Option Addr} {sl_law : Array (Option Value)} {f_law : Addr} {oc_law kV_law dc_law pm_law cd_law ct_law : Value}
    (a_law : PySem.W.nsIn K mainGlobals "law" = some (some (.ref f_law)))
    (l_law : K.lookup f_law = some ⟨oc_law, od_law, .func (PySem.W.fnOf "law" "law" (C8.fnArgs s_law) (C8.fnBody s_law) (C8.fnScope s_law) .none kV_law dc_law pm_law an_law cd_law ct_law), sl_law⟩)
    (c_law : PySem.W.codeIn K cd_law "law" = true) (k_law : PySem.W.keepIn K (.ref f_law) = true)
    (z_len : PySem.W.nsIn K mainGlobals "len" = some none)
    (z_abs : PySem.W.nsIn K mainGlobals "abs" = some none)
    (z_int : PySem.W.nsIn K mainGlobals "int" = some none)
    (z_range : PySem.W.nsIn K mainGlobals "range" = some none)
    (z_isinstance : PySem.W.nsIn K mainGlobals "isinstance" = some none)
    (z_bool : PySem.W.nsIn K mainGlobals "bool" = some none)
    (z_str : PySem.W.nsIn K mainGlobals "str" = some none)
    (z_list : PySem.W.nsIn K mainGlobals "list" = some none)
    (z_tuple : PySem.W.nsIn K mainGlobals "tuple" = some none)
    (z_min : PySem.W.nsIn K mainGlobals "min" = some none)
    (z_max : PySem.W.nsIn K mainGlobals "max" = some none)
    (z_reversed : PySem.W.nsIn K mainGlobals "reversed" = some none)
    (z_zip : PySem.W.nsIn K mainGlobals "zip" = some none)
    (z_sum : PySem.W.nsIn K mainGlobals "sum" = some none)
    (z_enumerate : PySem.W.nsIn K mainGlobals "enumerate" = some none)
    (z_sorted : PySem.W.nsIn K mainGlobals "sorted" = some none) :
    ∃ fd : FuncData, (∀ (s : Shared) (v : Value), BindsTo s fd ⟨[v], []⟩ [("_law_script", v)]) ∧ ∀ base : Heap, K.In base → base.Ns mainGlobals mg → FnOk l.prog w K mg base C8.CX0 19 fa fd ["_law_script"] (spLaw K) := by
  have e := hfa.symm.trans (PySem.W.mg_of X G a_law)
  cases e
  have T : Txt mg := ⟨PySem.W.mg_none_of X G z_len, PySem.W.mg_none_of X G z_abs, PySem.W.mg_none_of X G z_int, PySem.W.mg_none_of X G z_range, PySem.W.mg_none_of X G z_isinstance, PySem.W.mg_none_of X G z_bool, PySem.W.mg_none_of X G z_str, PySem.W.mg_none_of X G z_list, PySem.W.mg_none_of X G z_tuple⟩
  have T9 : Txt mg := ⟨PySem.W.mg_none_of X G z_len, PySem.W.mg_none_of X G z_abs, PySem.W.mg_none_of X G z_int, PySem.W.mg_none_of X G z_range, PySem.W.mg_none_of X G z_isinstance, PySem.W.mg_none_of X G z_bool, PySem.W.mg_none_of X G z_str, PySem.W.mg_none_of X G z_list, PySem.W.mg_none_of X G z_tuple⟩
  have F_m_init : C8.Fun K "__init__" "Regions.__init__" s_Regions___init__ f_m_init _ := ⟨oc_m_init, od_m_init, .none, kV_m_init, dc_m_init, pm_m_init, an_m_init, cd_m_init, ct_m_init, sl_m_init, rfl, l_m_init, c_m_init⟩
  have b_m_init := F_m_init.binds (ps := ["self", "limit"]) rfl fun _ _ _ _ _ _ us hl => match us, hl with | [_, _], _ => rfl
  have F_m_unassign : C8.Fun K "unassign" "Regions.unassign" s_Regions_unassign f_m_unassign _ := ⟨oc_m_unassign, od_m_unassign, .none, kV_m_unassign, dc_m_unassign, pm_m_unassign, an_m_unassign, cd_m_unassign, ct_m_unassign, sl_m_unassign, rfl, l_m_unassign, c_m_unassign⟩
  have b_m_unassign := F_m_unassign.binds (ps := ["self", "start", "end"]) rfl fun _ _ _ _ _ _ us hl => match us, hl with | [_, _, _], _ => rfl
  have F_m_protect : C8.Fun K "protect" "Regions.protect" s_Regions_protect f_m_protect _ := ⟨oc_m_protect, od_m_protect, .none, kV_m_protect, dc_m_protect, pm_m_protect, an_m_protect, cd_m_protect, ct_m_protect, sl_m_protect, rfl, l_m_protect, c_m_protect⟩
  have b_m_protect := F_m_protect.binds (ps := ["self", "start", "end", "rights"]) rfl fun _ _ _ _ _ _ us hl => match us, hl with | [_, _, _, _], _ => rfl
  have F_m_splice : C8.Fun K "_splice" "Regions._splice" s_Regions__splice f_m_splice _ := ⟨oc_m_splice, od_m_splice, .none, kV_m_splice, dc_m_splice, pm_m_splice, an_m_splice, cd_m_splice, ct_m_splice, sl_m_splice, rfl, l_m_splice, c_m_splice⟩
  have b_m_splice := F_m_splice.binds (ps := ["self", "start", "end", "parts"]) rfl fun _ _ _ _ _ _ us hl => match us, hl with | [_, _, _, _], _ => rfl
  have F_m_parts_in : C8.Fun K "_parts_in" "Regions._parts_in" s_Regions__parts_in f_m_parts_in _ := ⟨oc_m_parts_in, od_m_parts_in, .none, kV_m_parts_in, dc_m_parts_in, pm_m_parts_in, an_m_parts_in, cd_m_parts_in, ct_m_parts_in, sl_m_parts_in, rfl, l_m_parts_in, c_m_parts_in⟩
  have b_m_parts_in := F_m_parts_in.binds (ps := ["self", "start", "end"]) rfl fun _ _ _ _ _ _ us hl => match us, hl with | [_, _, _], _ => rfl
  have F_m_count_up_to : C8.Fun K "_count_up_to" "Regions._count_up_to" s_Regions__count_up_to f_m_count_up_to _ := ⟨oc_m_count_up_to, od_m_count_up_to, .none, kV_m_count_up_to, dc_m_count_up_to, pm_m_count_up_to, an_m_count_up_to, cd_m_count_up_to, ct_m_count_up_to, sl_m_count_up_to, rfl, l_m_count_up_to, c_m_count_up_to⟩
  have b_m_count_up_to := F_m_count_up_to.binds (ps := ["self", "page"]) rfl fun _ _ _ _ _ _ us hl => match us, hl with | [_, _], _ => rfl
  have F_m_as_list : C8.Fun K "as_list" "Regions.as_list" s_Regions_as_list f_m_as_list _ := ⟨oc_m_as_list, od_m_as_list, .none, kV_m_as_list, dc_m_as_list, pm_m_as_list, an_m_as_list, cd_m_as_list, ct_m_as_list, sl_m_as_list, rfl, l_m_as_list, c_m_as_list⟩
  have b_m_as_list := F_m_as_list.binds (ps := ["self"]) rfl fun _ _ _ _ _ _ us hl => match us, hl with | [_], _ => rfl
  have S : STxt K mg CR := ⟨⟨pgCR, hdCR, poCR, saCR⟩, nLR, nRR, PySem.W.mg_of X G aCR⟩
  have F_kw_assign : FunD K "assign" "Regions.assign" (C8.fnArgs s_Regions_assign) (C8.fnBody s_Regions_assign) (C8.fnScope s_Regions_assign) [] [("file", .str ""), ("index", .int 0)] f_kw_assign _ := ⟨⟨oc_kw_assign, od_kw_assign, .none, .ref dk_kw_assign, dc_kw_assign, pm_kw_assign, an_kw_assign, cd_kw_assign, ct_kw_assign, sl_kw_assign, rfl, l_kw_assign, c_kw_assign, .inl ⟨rfl, rfl⟩, .inr ⟨dk_kw_assign, rfl, fun q hq => by
      simp only [List.mem_cons, List.not_mem_nil, or_false] at hq
      rcases hq with rfl | rfl
      · exact ⟨_, d_kw_assign_file, ⟨_, rfl⟩⟩
      · exact ⟨_, d_kw_assign_index, ⟨_, rfl⟩⟩⟩⟩, k_kw_assign⟩
  obtain ⟨U_D, O_D⟩ := own_mk (P := l.prog) X G iCD tID lFD cFD lcD x_hvD x_hfD x_tpD lccD zsuperD rfl rfl rfl lDD x_rbD saD exD tyD kCD mrD x_iniD veD anyD
  have b_D : Binds K (PySem.W.fnX "__init__" "BadRange.__init__" (C8.fnArgs s_BadRange_init) (C8.fnBody s_BadRange_init) (C8.fnScope s_BadRange_init) [("__class__", ccD)] .none kVD docD pmD anD (.ref cD) ctvD) ["self", "start", "end"] [] := .all fun us hl => match us, hl with | [_, _, _], _ => rfl
  have xc_D : ExcC K D := ⟨hgaD, hgtD, exD, hhdD, hclD, hgs, htk, hobD⟩
  have xf_D : XfC K D := ⟨hgaD, hgtD, exD, hhdD⟩
  obtain ⟨U_U, O_U⟩ := own_mk (P := l.prog) X G iCU tIU lFU cFU lcU x_hvU x_hfU x_tpU lccU zsuperU rfl rfl rfl lDU x_rbU saU exU tyU kCU mrU x_iniU veU anyU
  have b_U : Binds K (PySem.W.fnX "__init__" "Unmapped.__init__" (C8.fnArgs s_Unmapped_init) (C8.fnBody s_Unmapped_init) (C8.fnScope s_Unmapped_init) [("__class__", ccU)] .none kVU docU pmU anU (.ref cU) ctvU) ["self", "page"] [] := .all fun us hl => match us, hl with | [_, _], _ => rfl
  have xc_U : ExcC K U := ⟨hgaU, hgtU, exU, hhdU, hclU, hgs, htk, hobU⟩
  have xf_U : XfC K U := ⟨hgaU, hgtU, exU, hhdU⟩
  have F_sh_init : C8.Fun K "__init__" "Shape.__init__" s_Shape___init__ f_sh_init _ := ⟨oc_sh_init, od_sh_init, .none, kV_sh_init, dc_sh_init, pm_sh_init, an_sh_init, cd_sh_init, ct_sh_init, sl_sh_init, rfl, l_sh_init, c_sh_init⟩
  have b_sh_init := F_sh_init.binds (ps := ["self", "widths"]) rfl fun _ _ _ _ _ _ us hl => match us, hl with | [_, _], _ => rfl
  have F_sh_span : C8.Fun K "span" "Shape.span" s_Shape_span f_sh_span _ := ⟨oc_sh_span, od_sh_span, .none, kV_sh_span, dc_sh_span, pm_sh_span, an_sh_span, cd_sh_span, ct_sh_span, sl_sh_span, rfl, l_sh_span, c_sh_span⟩
  have b_sh_span := F_sh_span.binds (ps := ["self", "level"]) rfl fun _ _ _ _ _ _ us hl => match us, hl with | [_, _], _ => rfl
  have F_sh_block_at : C8.Fun K "block_at" "Shape.block_at" s_Shape_block_at f_sh_block_at _ := ⟨oc_sh_block_at, od_sh_block_at, .none, kV_sh_block_at, dc_sh_block_at, pm_sh_block_at, an_sh_block_at, cd_sh_block_at, ct_sh_block_at, sl_sh_block_at, rfl, l_sh_block_at, c_sh_block_at⟩
  have b_sh_block_at := F_sh_block_at.binds (ps := ["self", "level", "page"]) rfl fun _ _ _ _ _ _ us hl => match us, hl with | [_, _, _], _ => rfl
  have TS : ShTxt K mg CS := ⟨⟨pgCS, hdCS, poCS, saCS⟩, nWS, nLS, nSS, nPS, PySem.W.mg_of X G aCS⟩
  have F_ft_init : C8.Fun K "__init__" "FoldedTable.__init__" s_FoldedTable___init__ f_ft_init _ := ⟨oc_ft_init, od_ft_init, .none, kV_ft_init, dc_ft_init, pm_ft_init, an_ft_init, cd_ft_init, ct_ft_init, sl_ft_init, rfl, l_ft_init, c_ft_init⟩
  have b_ft_init := F_ft_init.binds (ps := ["self", "shape", "regions"]) rfl fun _ _ _ _ _ _ us hl => match us, hl with | [_, _, _], _ => rfl
  have F_ft_entries : C8.Fun K "entries" "FoldedTable.entries" s_FoldedTable_entries f_ft_entries _ := ⟨oc_ft_entries, od_ft_entries, .none, kV_ft_entries, dc_ft_entries, pm_ft_entries, an_ft_entries, cd_ft_entries, ct_ft_entries, sl_ft_entries, rfl, l_ft_entries, c_ft_entries⟩
  have b_ft_entries := F_ft_entries.binds (ps := ["self"]) rfl fun _ _ _ _ _ _ us hl => match us, hl with | [_], _ => rfl
  have F_ft_table_count : C8.Fun K "table_count" "FoldedTable.table_count" s_FoldedTable_table_count f_ft_table_count _ := ⟨oc_ft_table_count, od_ft_table_count, .none, kV_ft_table_count, dc_ft_table_count, pm_ft_table_count, an_ft_table_count, cd_ft_table_count, ct_ft_table_count, sl_ft_table_count, rfl, l_ft_table_count, c_ft_table_count⟩
  have b_ft_table_count := F_ft_table_count.binds (ps := ["self"]) rfl fun _ _ _ _ _ _ us hl => match us, hl with | [_], _ => rfl
  have F_ft_tree : C8.Fun K "tree" "FoldedTable.tree" s_FoldedTable_tree f_ft_tree _ := ⟨oc_ft_tree, od_ft_tree, .none, kV_ft_tree, dc_ft_tree, pm_ft_tree, an_ft_tree, cd_ft_tree, ct_ft_tree, sl_ft_tree, rfl, l_ft_tree, c_ft_tree⟩
  have b_ft_tree := F_ft_tree.binds (ps := ["self"]) rfl fun _ _ _ _ _ _ us hl => match us, hl with | [_], _ => rfl
  have TF : FTxt K mg CF := ⟨⟨pgCF, hdCF, poCF, saCF⟩, nSF, nRF, PySem.W.mg_of X G aCF⟩
  have EA : EAsk K mg D U := ⟨PySem.W.mg_of X G aD, PySem.W.mg_of X G aU, xf_D, nD_start, nD_end, xf_U, nU_page, x_eDD, x_eUD, x_eUU⟩
  have TM : TMm mg := ⟨PySem.W.mg_none_of X G z_max, PySem.W.mg_none_of X G z_min, PySem.W.mg_none_of X G z_len, PySem.W.mg_none_of X G z_list⟩
  have T1 : Txt1 mg := ⟨PySem.W.mg_none_of X G z_len, PySem.W.mg_none_of X G z_reversed, PySem.W.mg_none_of X G z_tuple, PySem.W.mg_none_of X G z_zip, PySem.W.mg_none_of X G z_sum⟩
  have TXF : TxtF mg := ⟨T9, PySem.W.mg_none_of X G z_min⟩
  have TXS : TxtS mg := ⟨T9, PySem.W.mg_none_of X G z_sum⟩
  have TXE : TxtE mg := ⟨T9, PySem.W.mg_none_of X G z_enumerate⟩
  have TXA : TxtA mg := ⟨T9, PySem.W.mg_none_of X G z_sorted⟩
  have TXD : TxtD mg := ⟨T9, PySem.W.mg_none_of X G z_min⟩
  have D_mark_after : Def K mg "mark_after" s_mark_after f_mark_after _ := ⟨⟨oc_mark_after, od_mark_after, .none, kV_mark_after, dc_mark_after, pm_mark_after, an_mark_after, cd_mark_after, ct_mark_after, sl_mark_after, rfl, l_mark_after, c_mark_after⟩, PySem.W.mg_of X G a_mark_after, k_mark_after⟩
  have b_mark_after := D_mark_after.fn.binds (ps := ["mark", "steps"]) rfl fun _ _ _ _ _ _ us hl => match us, hl with | [_, _], _ => rfl
  have D_mark_in : Def K mg "mark_in" s_mark_in f_mark_in _ := ⟨⟨oc_mark_in, od_mark_in, .none, kV_mark_in, dc_mark_in, pm_mark_in, an_mark_in, cd_mark_in, ct_mark_in, sl_mark_in, rfl, l_mark_in, c_mark_in⟩, PySem.W.mg_of X G a_mark_in, k_mark_in⟩
  have b_mark_in := D_mark_in.fn.binds (ps := ["region", "page"]) rfl fun _ _ _ _ _ _ us hl => match us, hl with | [_, _], _ => rfl
  have D_clip : Def K mg "clip" s_clip f_clip _ := ⟨⟨oc_clip, od_clip, .none, kV_clip, dc_clip, pm_clip, an_clip, cd_clip, ct_clip, sl_clip, rfl, l_clip, c_clip⟩, PySem.W.mg_of X G a_clip, k_clip⟩
  have b_clip := D_clip.fn.binds (ps := ["regions", "start", "end"]) rfl fun _ _ _ _ _ _ us hl => match us, hl with | [_, _, _], _ => rfl
  have D_merge : Def K mg "merge" s_merge f_merge _ := ⟨⟨oc_merge, od_merge, .none, kV_merge, dc_merge, pm_merge, an_merge, cd_merge, ct_merge, sl_merge, rfl, l_merge, c_merge⟩, PySem.W.mg_of X G a_merge, k_merge⟩
  have b_merge := D_merge.fn.binds (ps := ["regions"]) rfl fun _ _ _ _ _ _ us hl => match us, hl with | [_], _ => rfl
  have D_continues : Def K mg "_continues" s_continues f_continues _ := ⟨⟨oc_continues, od_continues, .none, kV_continues, dc_continues, pm_continues, an_continues, cd_continues, ct_continues, sl_continues, rfl, l_continues, c_continues⟩, PySem.W.mg_of X G a_continues, k_continues⟩
  have b_continues := D_continues.fn.binds (ps := ["region", "later"]) rfl fun _ _ _ _ _ _ us hl => match us, hl with | [_, _], _ => rfl
  have D_check_range : Def K mg "check_range" s_check_range f_check_range _ := ⟨⟨oc_check_range, od_check_range, .none, kV_check_range, dc_check_range, pm_check_range, an_check_range, cd_check_range, ct_check_range, sl_check_range, rfl, l_check_range, c_check_range⟩, PySem.W.mg_of X G a_check_range, k_check_range⟩
  have b_check_range := D_check_range.fn.binds (ps := ["start", "end", "limit"]) rfl fun _ _ _ _ _ _ us hl => match us, hl with | [_, _, _], _ => rfl
  have D_check_mapped : Def K mg "_check_mapped" s_check_mapped f_check_mapped _ := ⟨⟨oc_check_mapped, od_check_mapped, .none, kV_check_mapped, dc_check_mapped, pm_check_mapped, an_check_mapped, cd_check_mapped, ct_check_mapped, sl_check_mapped, rfl, l_check_mapped, c_check_mapped⟩, PySem.W.mg_of X G a_check_mapped, k_check_mapped⟩
  have b_check_mapped := D_check_mapped.fn.binds (ps := ["parts", "start", "end"]) rfl fun _ _ _ _ _ _ us hl => match us, hl with | [_, _, _], _ => rfl
  have D_spans_of : Def K mg "_spans_of" s_spans_of f_spans_of _ := ⟨⟨oc_spans_of, od_spans_of, .none, kV_spans_of, dc_spans_of, pm_spans_of, an_spans_of, cd_spans_of, ct_spans_of, sl_spans_of, rfl, l_spans_of, c_spans_of⟩, PySem.W.mg_of X G a_spans_of, k_spans_of⟩
  have b_spans_of := D_spans_of.fn.binds (ps := ["widths"]) rfl fun _ _ _ _ _ _ us hl => match us, hl with | [_], _ => rfl
  have D_fold : Def K mg "_fold" s_fold f_fold _ := ⟨⟨oc_fold, od_fold, .none, kV_fold, dc_fold, pm_fold, an_fold, cd_fold, ct_fold, sl_fold, rfl, l_fold, c_fold⟩, PySem.W.mg_of X G a_fold, k_fold⟩
  have b_fold := D_fold.fn.binds (ps := ["shape", "level", "start", "regions"]) rfl fun _ _ _ _ _ _ us hl => match us, hl with | [_, _, _, _], _ => rfl
  have D_fold_block : Def K mg "_fold_block" s_fold_block f_fold_block _ := ⟨⟨oc_fold_block, od_fold_block, .none, kV_fold_block, dc_fold_block, pm_fold_block, an_fold_block, cd_fold_block, ct_fold_block, sl_fold_block, rfl, l_fold_block, c_fold_block⟩, PySem.W.mg_of X G a_fold_block, k_fold_block⟩
  have b_fold_block := D_fold_block.fn.binds (ps := ["shape", "level", "start", "regions"]) rfl fun _ _ _ _ _ _ us hl => match us, hl with | [_, _, _, _], _ => rfl
  have D_copy_table : Def K mg "_copy_table" s_copy_table f_copy_table _ := ⟨⟨oc_copy_table, od_copy_table, .none, kV_copy_table, dc_copy_table, pm_copy_table, an_copy_table, cd_copy_table, ct_copy_table, sl_copy_table, rfl, l_copy_table, c_copy_table⟩, PySem.W.mg_of X G a_copy_table, k_copy_table⟩
  have b_copy_table := D_copy_table.fn.binds (ps := ["table"]) rfl fun _ _ _ _ _ _ us hl => match us, hl with | [_], _ => rfl
  have D_marks_in : Def K mg "_marks_in" s_marks_in f_marks_in _ := ⟨⟨oc_marks_in, od_marks_in, .none, kV_marks_in, dc_marks_in, pm_marks_in, an_marks_in, cd_marks_in, ct_marks_in, sl_marks_in, rfl, l_marks_in, c_marks_in⟩, PySem.W.mg_of X G a_marks_in, k_marks_in⟩
  have b_marks_in := D_marks_in.fn.binds (ps := ["shape", "table", "level", "start"]) rfl fun _ _ _ _ _ _ us hl => match us, hl with | [_, _, _, _], _ => rfl
  have D_count_tables : Def K mg "_count_tables" s_count_tables f_count_tables _ := ⟨⟨oc_count_tables, od_count_tables, .none, kV_count_tables, dc_count_tables, pm_count_tables, an_count_tables, cd_count_tables, ct_count_tables, sl_count_tables, rfl, l_count_tables, c_count_tables⟩, PySem.W.mg_of X G a_count_tables, k_count_tables⟩
  have b_count_tables := D_count_tables.fn.binds (ps := ["table"]) rfl fun _ _ _ _ _ _ us hl => match us, hl with | [_], _ => rfl
  have D_cover : Def K mg "cover" s_cover f_cover _ := ⟨⟨oc_cover, od_cover, .none, kV_cover, dc_cover, pm_cover, an_cover, cd_cover, ct_cover, sl_cover, rfl, l_cover, c_cover⟩, PySem.W.mg_of X G a_cover, k_cover⟩
  have b_cover := D_cover.fn.binds (ps := ["shape", "start", "end"]) rfl fun _ _ _ _ _ _ us hl => match us, hl with | [_, _, _], _ => rfl
  have D_largest_block : Def K mg "_largest_block" s_largest_block f_largest_block _ := ⟨⟨oc_largest_block, od_largest_block, .none, kV_largest_block, dc_largest_block, pm_largest_block, an_largest_block, cd_largest_block, ct_largest_block, sl_largest_block, rfl, l_largest_block, c_largest_block⟩, PySem.W.mg_of X G a_largest_block, k_largest_block⟩
  have b_largest_block := D_largest_block.fn.binds (ps := ["shape", "start", "end"]) rfl fun _ _ _ _ _ _ us hl => match us, hl with | [_, _, _], _ => rfl
  have D_number : Def K mg "_law_number" s_number f_number _ := ⟨⟨oc_number, od_number, .none, kV_number, dc_number, pm_number, an_number, cd_number, ct_number, sl_number, rfl, l_number, c_number⟩, PySem.W.mg_of X G a_number, k_number⟩
  have b_number := D_number.fn.binds (ps := ["_law_script", "_law_at", "_law_k", "_law_size"]) rfl fun _ _ _ _ _ _ us hl => match us, hl with | [_, _, _, _], _ => rfl
  have D_is_whole : Def K mg "_law_is_whole" s_is_whole f_is_whole _ := ⟨⟨oc_is_whole, od_is_whole, .none, kV_is_whole, dc_is_whole, pm_is_whole, an_is_whole, cd_is_whole, ct_is_whole, sl_is_whole, rfl, l_is_whole, c_is_whole⟩, PySem.W.mg_of X G a_is_whole, k_is_whole⟩
  have b_is_whole := D_is_whole.fn.binds (ps := ["_law_told"]) rfl fun _ _ _ _ _ _ us hl => match us, hl with | [_], _ => rfl
  have D_same : Def K mg "_law_same" s_same f_same _ := ⟨⟨oc_same, od_same, .none, kV_same, dc_same, pm_same, an_same, cd_same, ct_same, sl_same, rfl, l_same, c_same⟩, PySem.W.mg_of X G a_same, k_same⟩
  have b_same := D_same.fn.binds (ps := ["_law_told", "_law_due"]) rfl fun _ _ _ _ _ _ us hl => match us, hl with | [_, _], _ => rfl
  have D_fan_spans : Def K mg "_law_fan_spans" s_fan_spans f_fan_spans _ := ⟨⟨oc_fan_spans, od_fan_spans, .none, kV_fan_spans, dc_fan_spans, pm_fan_spans, an_fan_spans, cd_fan_spans, ct_fan_spans, sl_fan_spans, rfl, l_fan_spans, c_fan_spans⟩, PySem.W.mg_of X G a_fan_spans, k_fan_spans⟩
  have b_fan_spans := D_fan_spans.fn.binds (ps := ["_law_fan_here"]) rfl fun _ _ _ _ _ _ us hl => match us, hl with | [_], _ => rfl
  have D_fan : Def K mg "_law_fan" s_fan f_fan _ := ⟨⟨oc_fan, od_fan, .none, kV_fan, dc_fan, pm_fan, an_fan, cd_fan, ct_fan, sl_fan, rfl, l_fan, c_fan⟩, PySem.W.mg_of X G a_fan, k_fan⟩
  have b_fan := D_fan.fn.binds (ps := ["_law_script", "_law_at", "_law_most"]) rfl fun _ _ _ _ _ _ us hl => match us, hl with | [_, _, _], _ => rfl
  have D_fold_fan : Def K mg "_law_fold_fan" s_fold_fan f_fold_fan _ := ⟨⟨oc_fold_fan, od_fold_fan, .none, kV_fold_fan, dc_fold_fan, pm_fold_fan, an_fold_fan, cd_fold_fan, ct_fold_fan, sl_fold_fan, rfl, l_fold_fan, c_fold_fan⟩, PySem.W.mg_of X G a_fold_fan, k_fold_fan⟩
  have b_fold_fan := D_fold_fan.fn.binds (ps := ["_law_script"]) rfl fun _ _ _ _ _ _ us hl => match us, hl with | [_], _ => rfl
  have D_fold_many : Def K mg "_law_fold_many" s_fold_many f_fold_many _ := ⟨⟨oc_fold_many, od_fold_many, .none, kV_fold_many, dc_fold_many, pm_fold_many, an_fold_many, cd_fold_many, ct_fold_many, sl_fold_many, rfl, l_fold_many, c_fold_many⟩, PySem.W.mg_of X G a_fold_many, k_fold_many⟩
  have b_fold_many := D_fold_many.fn.binds (ps := ["_law_script", "_law_total"]) rfl fun _ _ _ _ _ _ us hl => match us, hl with | [_, _], _ => rfl
  have D_file_names : Def K mg "_law_file_names" s_file_names f_file_names _ := ⟨⟨oc_file_names, od_file_names, .none, kV_file_names, dc_file_names, pm_file_names, an_file_names, cd_file_names, ct_file_names, sl_file_names, rfl, l_file_names, c_file_names⟩, PySem.W.mg_of X G a_file_names, k_file_names⟩
  have b_file_names := D_file_names.fn.binds (ps := ["_law_script"]) rfl fun _ _ _ _ _ _ us hl => match us, hl with | [_], _ => rfl
  have D_fold_deed : Def K mg "_law_fold_deed" s_fold_deed f_fold_deed _ := ⟨⟨oc_fold_deed, od_fold_deed, .none, kV_fold_deed, dc_fold_deed, pm_fold_deed, an_fold_deed, cd_fold_deed, ct_fold_deed, sl_fold_deed, rfl, l_fold_deed, c_fold_deed⟩, PySem.W.mg_of X G a_fold_deed, k_fold_deed⟩
  have b_fold_deed := D_fold_deed.fn.binds (ps := ["_law_script", "_law_at", "_law_fan_here", "_law_names"]) rfl fun _ _ _ _ _ _ us hl => match us, hl with | [_, _, _, _], _ => rfl
  have D_marks_do : Def K mg "_law_marks_do" s_marks_do f_marks_do _ := ⟨⟨oc_marks_do, od_marks_do, .none, kV_marks_do, dc_marks_do, pm_marks_do, an_marks_do, cd_marks_do, ct_marks_do, sl_marks_do, rfl, l_marks_do, c_marks_do⟩, PySem.W.mg_of X G a_marks_do, k_marks_do⟩
  have b_marks_do := D_marks_do.fn.binds (ps := ["_law_marks", "_law_deed", "_law_limit"]) rfl fun _ _ _ _ _ _ us hl => match us, hl with | [_, _, _], _ => rfl
  have D_marks_ask : Def K mg "_law_marks_ask" s_marks_ask f_marks_ask _ := ⟨⟨oc_marks_ask, od_marks_ask, .none, kV_marks_ask, dc_marks_ask, pm_marks_ask, an_marks_ask, cd_marks_ask, ct_marks_ask, sl_marks_ask, rfl, l_marks_ask, c_marks_ask⟩, PySem.W.mg_of X G a_marks_ask, k_marks_ask⟩
  have b_marks_ask := D_marks_ask.fn.binds (ps := ["_law_regions", "_law_deed"]) rfl fun _ _ _ _ _ _ us hl => match us, hl with | [_, _], _ => rfl
  have D_after : Def K mg "_law_after" s_after f_after _ := ⟨⟨oc_after, od_after, .none, kV_after, dc_after, pm_after, an_after, cd_after, ct_after, sl_after, rfl, l_after, c_after⟩, PySem.W.mg_of X G a_after, k_after⟩
  have b_after := D_after.fn.binds (ps := ["_law_mark"]) rfl fun _ _ _ _ _ _ us hl => match us, hl with | [_], _ => rfl
  have D_uniform : Def K mg "_law_uniform" s_uniform f_uniform _ := ⟨⟨oc_uniform, od_uniform, .none, kV_uniform, dc_uniform, pm_uniform, an_uniform, cd_uniform, ct_uniform, sl_uniform, rfl, l_uniform, c_uniform⟩, PySem.W.mg_of X G a_uniform, k_uniform⟩
  have b_uniform := D_uniform.fn.binds (ps := ["_law_marks", "_law_low", "_law_high"]) rfl fun _ _ _ _ _ _ us hl => match us, hl with | [_, _, _], _ => rfl
  have D_fold_tell : Def K mg "_law_fold_tell" s_fold_tell f_fold_tell _ := ⟨⟨oc_fold_tell, od_fold_tell, .none, kV_fold_tell, dc_fold_tell, pm_fold_tell, an_fold_tell, cd_fold_tell, ct_fold_tell, sl_fold_tell, rfl, l_fold_tell, c_fold_tell⟩, PySem.W.mg_of X G a_fold_tell, k_fold_tell⟩
  have b_fold_tell := D_fold_tell.fn.binds (ps := ["_law_regions", "_law_shape", "_law_deed", "_law_blockwise"]) rfl fun _ _ _ _ _ _ us hl => match us, hl with | [_, _, _, _], _ => rfl
  have D_describes : Def K mg "_law_describes" s_describes f_describes _ := ⟨⟨oc_describes, od_describes, .none, kV_describes, dc_describes, pm_describes, an_describes, cd_describes, ct_describes, sl_describes, rfl, l_describes, c_describes⟩, PySem.W.mg_of X G a_describes, k_describes⟩
  have b_describes := D_describes.fn.binds (ps := ["_law_rows", "_law_marks", "_law_limit"]) rfl fun _ _ _ _ _ _ us hl => match us, hl with | [_, _, _], _ => rfl
  have D_is_block : Def K mg "_law_is_block" s_is_block f_is_block _ := ⟨⟨oc_is_block, od_is_block, .none, kV_is_block, dc_is_block, pm_is_block, an_is_block, cd_is_block, ct_is_block, sl_is_block, rfl, l_is_block, c_is_block⟩, PySem.W.mg_of X G a_is_block, k_is_block⟩
  have b_is_block := D_is_block.fn.binds (ps := ["_law_fan_here", "_law_low", "_law_high"]) rfl fun _ _ _ _ _ _ us hl => match us, hl with | [_, _, _], _ => rfl
  have D_apart : Def K mg "_law_apart" s_apart f_apart _ := ⟨⟨oc_apart, od_apart, .none, kV_apart, dc_apart, pm_apart, an_apart, cd_apart, ct_apart, sl_apart, rfl, l_apart, c_apart⟩, PySem.W.mg_of X G a_apart, k_apart⟩
  have b_apart := D_apart.fn.binds (ps := ["_law_marks", "_law_fan_here", "_law_page", "_law_later"]) rfl fun _ _ _ _ _ _ us hl => match us, hl with | [_, _, _, _], _ => rfl
  have D_entries_least : Def K mg "_law_entries_least" s_entries_least f_entries_least _ := ⟨⟨oc_entries_least, od_entries_least, .none, kV_entries_least, dc_entries_least, pm_entries_least, an_entries_least, cd_entries_least, ct_entries_least, sl_entries_least, rfl, l_entries_least, c_entries_least⟩, PySem.W.mg_of X G a_entries_least, k_entries_least⟩
  have b_entries_least := D_entries_least.fn.binds (ps := ["_law_told", "_law_marks", "_law_fan_here"]) rfl fun _ _ _ _ _ _ us hl => match us, hl with | [_, _, _], _ => rfl
  have D_tables_at : Def K mg "_law_tables_at" s_tables_at f_tables_at _ := ⟨⟨oc_tables_at, od_tables_at, .none, kV_tables_at, dc_tables_at, pm_tables_at, an_tables_at, cd_tables_at, ct_tables_at, sl_tables_at, rfl, l_tables_at, c_tables_at⟩, PySem.W.mg_of X G a_tables_at, k_tables_at⟩
  have b_tables_at := D_tables_at.fn.binds (ps := ["_law_told", "_law_fan_here", "_law_level", "_law_first"]) rfl fun _ _ _ _ _ _ us hl => match us, hl with | [_, _, _, _], _ => rfl
  have D_needed_tables : Def K mg "_law_needed_tables" s_needed_tables f_needed_tables _ := ⟨⟨oc_needed_tables, od_needed_tables, .none, kV_needed_tables, dc_needed_tables, pm_needed_tables, an_needed_tables, cd_needed_tables, ct_needed_tables, sl_needed_tables, rfl, l_needed_tables, c_needed_tables⟩, PySem.W.mg_of X G a_needed_tables, k_needed_tables⟩
  have b_needed_tables := D_needed_tables.fn.binds (ps := ["_law_marks", "_law_fan_here"]) rfl fun _ _ _ _ _ _ us hl => match us, hl with | [_, _], _ => rfl
  have D_least_good : Def K mg "_law_least_good" s_least_good f_least_good _ := ⟨⟨oc_least_good, od_least_good, .none, kV_least_good, dc_least_good, pm_least_good, an_least_good, cd_least_good, ct_least_good, sl_least_good, rfl, l_least_good, c_least_good⟩, PySem.W.mg_of X G a_least_good, k_least_good⟩
  have b_least_good := D_least_good.fn.binds (ps := ["_law_table", "_law_marks", "_law_fan_here"]) rfl fun _ _ _ _ _ _ us hl => match us, hl with | [_, _, _], _ => rfl
  have D_law : Def K mg "law" s_law fa _ := ⟨⟨oc_law, od_law, .none, kV_law, dc_law, pm_law, an_law, cd_law, ct_law, sl_law, rfl, l_law, c_law⟩, PySem.W.mg_of X G a_law, k_law⟩
  refine ⟨PySem.W.fnOf "law" "law" (C8.fnArgs s_law) (C8.fnBody s_law) (C8.fnScope s_law) .none kV_law dc_law pm_law an_law cd_law ct_law, fun s v => .of_eq rfl, fun base _ _ => ?_⟩
  have F_BR := ok_BadRange (w := w) (base := base) (F := NF.of s_BadRange_init "__init__" "BadRange.__init__" [("__class__", ccD)] cD) U_D nD_start nD_end
  have F_UM := ok_Unmapped (w := w) (base := base) (F := NF.of s_Unmapped_init "__init__" "Unmapped.__init__" [("__class__", ccU)] cU) U_U nU_page
  have e_check := ok_check F_BR O_D iCD tID b_D (PySem.W.mg_of X G aD) D_check_range b_check_range
  have e_mapped := ok_check_mapped F_UM O_U iCU tIU b_U (PySem.W.mg_of X G aU) D_check_mapped b_check_mapped
  have c_after := ok_mark_after (P := l.prog) (w := w) (base := base) D_mark_after b_mark_after
  have c_in := ok_mark_in D_mark_in b_mark_in c_after
  have c_clip := ok_clip D_clip b_clip TM c_in
  have c_cont := ok_continues D_continues b_continues c_in
  have c_merge := ok_merge D_merge b_merge c_cont
  have c_Reg := ok_init (P := l.prog) (w := w) (base := base) F_m_init ⟨mkCR, a_m_init, i_m_init, kcCR⟩ b_m_init S
  have m_count := ok_count (P := l.prog) (w := w) (base := base) F_m_count_up_to ⟨a_m_count_up_to, i_m_count_up_to, k_m_count_up_to⟩ b_m_count_up_to S TM
  have m_parts := ok_parts_in F_m_parts_in ⟨a_m_parts_in, i_m_parts_in, k_m_parts_in⟩ b_m_parts_in S m_count c_clip
  have m_splice := ok_splice F_m_splice ⟨a_m_splice, i_m_splice, k_m_splice⟩ b_m_splice S m_count c_clip c_merge
  have e_un := ok_unassign F_m_unassign ⟨a_m_unassign, i_m_unassign, k_m_unassign⟩ b_m_unassign S e_check m_splice
  have e_pr := ok_protect F_m_protect ⟨a_m_protect, i_m_protect, k_m_protect⟩ b_m_protect S e_check e_mapped m_parts m_splice
  have am := ok_asgm F_kw_assign ⟨a_kw_assign, i_kw_assign, k_kw_assign⟩ S e_check m_splice
  have c_number := ok_number (P := l.prog) (w := w) (base := base) D_number b_number T9
  have c_whole := ok_whole (P := l.prog) (w := w) (base := base) D_is_whole b_is_whole T9
  have c_same := ok_same D_same b_same T9 c_whole 8
  have c_names := ok_file_names D_file_names b_file_names T9 c_number
  have c_do := ok_marks_do (P := l.prog) (w := w) (base := base) D_marks_do b_marks_do T9
  have c_ask := ok_marks_ask D_marks_ask b_marks_ask EA e_un e_pr am
  have m_asl := ok_as_list (P := l.prog) (w := w) (base := base) F_m_as_list ⟨a_m_as_list, i_m_as_list, k_m_as_list⟩ b_m_as_list S TM
  have c_spans := ok_spans (P := l.prog) (w := w) (base := base) D_spans_of b_spans_of T1
  have m_span := ok_span (P := l.prog) (w := w) (base := base) F_sh_span ⟨a_sh_span, i_sh_span, k_sh_span⟩ b_sh_span TS
  have c_Shape := ok_shI F_sh_init ⟨mkCS, a_sh_init, i_sh_init, kcCS⟩ b_sh_init TS T1 c_spans
  have c_fold := ok_fold D_fold b_fold D_fold_block b_fold_block T9 TS m_span c_clip 6
  have c_ft := ok_ftI F_ft_init ⟨mkCF, a_ft_init, i_ft_init, kcCF⟩ b_ft_init TF m_asl c_fold
  have c_copy := ok_copy (P := l.prog) (w := w) (base := base) D_copy_table b_copy_table T9 8
  have m_tree := ok_tree (CS := CS) F_ft_tree ⟨a_ft_tree, i_ft_tree, k_ft_tree⟩ b_ft_tree TF c_copy
  have c_fs := ok_fan_spans (P := l.prog) (w := w) (base := base) D_fan_spans b_fan_spans T9
  have c_fan := ok_fan D_fan b_fan T9 c_number
  have c_ffan := ok_fold_fan D_fold_fan b_fold_fan T9 c_number c_fan
  have c_fmany := ok_fold_many D_fold_many b_fold_many TXF c_number
  have c_fdeed := ok_fold_deed D_fold_deed b_fold_deed TXF c_number c_fs
  have c_lafter := ok_next (P := l.prog) (w := w) (base := base) D_after b_after
  have c_uni := ok_uniform D_uniform b_uniform T9 c_lafter
  have e_block := ok_block F_sh_block_at ⟨a_sh_block_at, i_sh_block_at, k_sh_block_at⟩ b_sh_block_at TS e_check m_span
  have c_cntt := ok_cntt (P := l.prog) (w := w) (base := base) D_count_tables b_count_tables TXS 8
  have m_tabc := ok_tabc (CS := CS) F_ft_table_count ⟨a_ft_table_count, i_ft_table_count, k_ft_table_count⟩ b_ft_table_count TF c_cntt
  have c_mrk := ok_mrk D_marks_in b_marks_in TXE m_span 6
  have m_ent := ok_ent F_ft_entries ⟨a_ft_entries, i_ft_entries, k_ft_entries⟩ b_ft_entries TF c_mrk
  have c_large := ok_largest D_largest_block b_largest_block e_block
  have e_cover := ok_cover D_cover b_cover TS e_check c_large
  have c_isb := ok_isb D_is_block b_is_block T9 c_fs
  have c_apart := ok_apart D_apart b_apart TXA c_fs c_uni
  have c_same4 := ok_same D_same b_same T9 c_whole 4
  have c_desc := ok_describes D_describes b_describes TXD c_whole c_same4 c_lafter
  have c_entl := ok_entl D_entries_least b_entries_least T9 c_fs c_desc c_isb c_apart
  have c_tat := ok_tat D_tables_at b_tables_at T9 c_fs 6
  have c_need := ok_need D_needed_tables b_needed_tables TXA c_fs c_uni
  have c_lgd := ok_lgd D_least_good b_least_good TXA m_ent m_tree m_tabc c_entl c_tat c_need c_same
  have c_ftell := ok_ftell D_fold_tell b_fold_tell T9 c_ask e_cover am
  exact ok_law D_law TXF c_number c_ffan c_fs c_names c_Shape c_Reg c_fmany c_fdeed c_do c_ftell c_same c_ft c_lgd

end

end Lw
open PySem PySem.W PyProof.Rows
set_option maxRecDepth 100000 in
set_option maxHeartbeats 0 in
theorem PySem.Challenge.cw_lentpages_k52_whole_fold_least_holds : PySem.Challenge.rw_lentpages_k52_whole_fold_least.Holds := by
  w_on; o_law; k_head; (case hw => w_witness2)
  k_fill
  refine L2.walk_of (l := PySem.Challenge.rw_lentpages_k52_whole_fold_least) (n := 63) (k := 19) (x := "_law_script") (CX := fun _ => C8.CX0) (sp := fun w => Lw.spLaw _) rfl (by decide) rfl ⟨rfl, by decide, by decide⟩ (fun w h Y => by first | exact PySem.W.kIn_of Y | exact PySem.W.km_in_of Y) ?F (fun _ _ a ns hl _ hS => ⟨a, ns, rfl, hS, hl, fun _ => rfl⟩) (fun _ _ _ _ _ h => h)
  case F =>
    intro w mg fa h KX G hmg
    refine' Lw.all_mk KX G hmg ?aCR ?a_m_init ?i_m_init ?l_m_init ?c_m_init ?k_m_init ?a_m_unassign ?i_m_unassign ?l_m_unassign ?c_m_unassign ?k_m_unassign ?a_m_protect ?i_m_protect ?l_m_protect ?c_m_protect ?k_m_protect ?a_m_splice ?i_m_splice ?l_m_splice ?c_m_splice ?k_m_splice ?a_m_parts_in ?i_m_parts_in ?l_m_parts_in ?c_m_parts_in ?k_m_parts_in ?a_m_count_up_to ?i_m_count_up_to ?l_m_count_up_to ?c_m_count_up_to ?k_m_count_up_to ?a_m_as_list ?i_m_as_list ?l_m_as_list ?c_m_as_list ?k_m_as_list ?pgCR ?hdCR ?poCR ?saCR ?mkCR ?kcCR ?nLR ?nRR ?a_kw_assign ?i_kw_assign ?l_kw_assign ?c_kw_assign ?k_kw_assign ?d_kw_assign_file ?d_kw_assign_index ?hgs ?htk ?aD ?iCD ?tID ?lFD ?cFD ?lcD ?x_hvD ?x_hfD ?x_tpD ?lccD ?zsuperD ?lDD ?x_rbD ?saD ?exD ?tyD ?kCD ?mrD ?x_iniD ?veD ?anyD ?nD_start ?nD_end ?hgaD ?hgtD ?hclD ?hhdD ?hobD ?aU ?iCU ?tIU ?lFU ?cFU ?lcU ?x_hvU ?x_hfU ?x_tpU ?lccU ?zsuperU ?lDU ?x_rbU ?saU ?exU ?tyU ?kCU ?mrU ?x_iniU ?veU ?anyU ?nU_page ?hgaU ?hgtU ?hclU ?hhdU ?hobU ?x_eDD ?x_eUD ?x_eUU ?aCS ?a_sh_init ?i_sh_init ?l_sh_init ?c_sh_init ?k_sh_init ?a_sh_span ?i_sh_span ?l_sh_span ?c_sh_span ?k_sh_span ?a_sh_block_at ?i_sh_block_at ?l_sh_block_at ?c_sh_block_at ?k_sh_block_at ?pgCS ?hdCS ?poCS ?saCS ?mkCS ?kcCS ?nWS ?nLS ?nSS ?nPS ?aCF ?a_ft_init ?i_ft_init ?l_ft_init ?c_ft_init ?k_ft_init ?a_ft_entries ?i_ft_entries ?l_ft_entries ?c_ft_entries ?k_ft_entries ?a_ft_table_count ?i_ft_table_count ?l_ft_table_count ?c_ft_table_count ?k_ft_table_count ?a_ft_tree ?i_ft_tree ?l_ft_tree ?c_ft_tree ?k_ft_tree ?pgCF ?hdCF ?poCF ?saCF ?mkCF ?kcCF ?nSF ?nRF ?a_mark_after ?l_mark_after ?c_mark_after ?k_mark_after ?a_mark_in ?l_mark_in ?c_mark_in ?k_mark_in ?a_clip ?l_clip ?c_clip ?k_clip ?a_merge ?l_merge ?c_merge ?k_merge ?a_continues ?l_continues ?c_continues ?k_continues ?a_check_range ?l_check_range ?c_check_range ?k_check_range ?a_check_mapped ?l_check_mapped ?c_check_mapped ?k_check_mapped ?a_spans_of ?l_spans_of ?c_spans_of ?k_spans_of ?a_fold ?l_fold ?c_fold ?k_fold ?a_fold_block ?l_fold_block ?c_fold_block ?k_fold_block ?a_copy_table ?l_copy_table ?c_copy_table ?k_copy_table ?a_marks_in ?l_marks_in ?c_marks_in ?k_marks_in ?a_count_tables ?l_count_tables ?c_count_tables ?k_count_tables ?a_cover ?l_cover ?c_cover ?k_cover ?a_largest_block ?l_largest_block ?c_largest_block ?k_largest_block ?a_number ?l_number ?c_number ?k_number ?a_is_whole ?l_is_whole ?c_is_whole ?k_is_whole ?a_same ?l_same ?c_same ?k_same ?a_fan_spans ?l_fan_spans ?c_fan_spans ?k_fan_spans ?a_fan ?l_fan ?c_fan ?k_fan ?a_fold_fan ?l_fold_fan ?c_fold_fan ?k_fold_fan ?a_fold_many ?l_fold_many ?c_fold_many ?k_fold_many ?a_file_names ?l_file_names ?c_file_names ?k_file_names ?a_fold_deed ?l_fold_deed ?c_fold_deed ?k_fold_deed ?a_marks_do ?l_marks_do ?c_marks_do ?k_marks_do ?a_marks_ask ?l_marks_ask ?c_marks_ask ?k_marks_ask ?a_after ?l_after ?c_after ?k_after ?a_uniform ?l_uniform ?c_uniform ?k_uniform ?a_fold_tell ?l_fold_tell ?c_fold_tell ?k_fold_tell ?a_describes ?l_describes ?c_describes ?k_describes ?a_is_block ?l_is_block ?c_is_block ?k_is_block ?a_apart ?l_apart ?c_apart ?k_apart ?a_entries_least ?l_entries_least ?c_entries_least ?k_entries_least ?a_tables_at ?l_tables_at ?c_tables_at ?k_tables_at ?a_needed_tables ?l_needed_tables ?c_needed_tables ?k_needed_tables ?a_least_good ?l_least_good ?c_least_good ?k_least_good ?a_law ?l_law ?c_law ?k_law ?z_len ?z_abs ?z_int ?z_range ?z_isinstance ?z_bool ?z_str ?z_list ?z_tuple ?z_min ?z_max ?z_reversed ?z_zip ?z_sum ?z_enumerate ?z_sorted
    (case aCR => k_is)
    (case a_m_init => k_is)
    (case i_m_init => k_is)
    (case l_m_init => k_is)
    (case c_m_init => k_is)
    (case k_m_init => k_is)
    (case a_m_unassign => k_is)
    (case i_m_unassign => k_is)
    (case l_m_unassign => k_is)
    (case c_m_unassign => k_is)
    (case k_m_unassign => k_is)
    (case a_m_protect => k_is)
    (case i_m_protect => k_is)
    (case l_m_protect => k_is)
    (case c_m_protect => k_is)
    (case k_m_protect => k_is)
    (case a_m_splice => k_is)
    (case i_m_splice => k_is)
    (case l_m_splice => k_is)
    (case c_m_splice => k_is)
    (case k_m_splice => k_is)
    (case a_m_parts_in => k_is)
    (case i_m_parts_in => k_is)
    (case l_m_parts_in => k_is)
    (case c_m_parts_in => k_is)
    (case k_m_parts_in => k_is)
    (case a_m_count_up_to => k_is)
    (case i_m_count_up_to => k_is)
    (case l_m_count_up_to => k_is)
    (case c_m_count_up_to => k_is)
    (case k_m_count_up_to => k_is)
    (case a_m_as_list => k_is)
    (case i_m_as_list => k_is)
    (case l_m_as_list => k_is)
    (case c_m_as_list => k_is)
    (case k_m_as_list => k_is)
    (case pgCR => k_is)
    (case hdCR => k_is)
    (case poCR => k_is)
    (case saCR => k_is)
    (case mkCR => k_is)
    (case kcCR => k_is)
    (case nLR => k_is)
    (case nRR => k_is)
    (case a_kw_assign => k_is)
    (case i_kw_assign => k_is)
    (case l_kw_assign => k_is)
    (case c_kw_assign => k_is)
    (case k_kw_assign => k_is)
    (case d_kw_assign_file => k_is)
    (case d_kw_assign_index => k_is)
    (case hgs => k_is)
    (case htk => k_is)
    (case aD => k_is)
    (case iCD => k_is)
    (case tID => k_is)
    (case lFD => k_is)
    (case cFD => k_is)
    (case lcD => k_is)
    (case x_hvD => first | k_is | rfl | decide +kernel)
    (case x_hfD => first | k_is | rfl | decide +kernel)
    (case x_tpD => first | k_is | rfl | decide +kernel)
    (case lccD => k_is)
    (case zsuperD => k_is)
    (case lDD => k_is)
    (case x_rbD => first | k_is | rfl | decide +kernel)
    (case saD => k_is)
    (case exD => k_is)
    (case tyD => k_is)
    (case kCD => k_is)
    (case mrD => k_is)
    (case x_iniD => first | k_is | rfl | decide +kernel)
    (case veD => k_is)
    (case anyD => k_is)
    (case nD_start => k_is)
    (case nD_end => k_is)
    (case hgaD => k_is)
    (case hgtD => k_is)
    (case hclD => k_is)
    (case hhdD => k_is)
    (case hobD => k_is)
    (case aU => k_is)
    (case iCU => k_is)
    (case tIU => k_is)
    (case lFU => k_is)
    (case cFU => k_is)
    (case lcU => k_is)
    (case x_hvU => first | k_is | rfl | decide +kernel)
    (case x_hfU => first | k_is | rfl | decide +kernel)
    (case x_tpU => first | k_is | rfl | decide +kernel)
    (case lccU => k_is)
    (case zsuperU => k_is)
    (case lDU => k_is)
    (case x_rbU => first | k_is | rfl | decide +kernel)
    (case saU => k_is)
    (case exU => k_is)
    (case tyU => k_is)
    (case kCU => k_is)
    (case mrU => k_is)
    (case x_iniU => first | k_is | rfl | decide +kernel)
    (case veU => k_is)
    (case anyU => k_is)
    (case nU_page => k_is)
    (case hgaU => k_is)
    (case hgtU => k_is)
    (case hclU => k_is)
    (case hhdU => k_is)
    (case hobU => k_is)
    (case x_eDD => first | k_is | rfl | decide +kernel)
    (case x_eUD => first | k_is | rfl | decide +kernel)
    (case x_eUU => first | k_is | rfl | decide +kernel)
    (case aCS => k_is)
    (case a_sh_init => k_is)
    (case i_sh_init => k_is)
    (case l_sh_init => k_is)
    (case c_sh_init => k_is)
    (case k_sh_init => k_is)
    (case a_sh_span => k_is)
    (case i_sh_span => k_is)
    (case l_sh_span => k_is)
    (case c_sh_span => k_is)
    (case k_sh_span => k_is)
    (case a_sh_block_at => k_is)
    (case i_sh_block_at => k_is)
    (case l_sh_block_at => k_is)
    (case c_sh_block_at => k_is)
    (case k_sh_block_at => k_is)
    (case pgCS => k_is)
    (case hdCS => k_is)
    (case poCS => k_is)
    (case saCS => k_is)
    (case mkCS => k_is)
    (case kcCS => k_is)
    (case nWS => k_is)
    (case nLS => k_is)
    (case nSS => k_is)
    (case nPS => k_is)
    (case aCF => k_is)
    (case a_ft_init => k_is)
    (case i_ft_init => k_is)
    (case l_ft_init => k_is)
    (case c_ft_init => k_is)
    (case k_ft_init => k_is)
    (case a_ft_entries => k_is)
    (case i_ft_entries => k_is)
    (case l_ft_entries => k_is)
    (case c_ft_entries => k_is)
    (case k_ft_entries => k_is)
    (case a_ft_table_count => k_is)
    (case i_ft_table_count => k_is)
    (case l_ft_table_count => k_is)
    (case c_ft_table_count => k_is)
    (case k_ft_table_count => k_is)
    (case a_ft_tree => k_is)
    (case i_ft_tree => k_is)
    (case l_ft_tree => k_is)
    (case c_ft_tree => k_is)
    (case k_ft_tree => k_is)
    (case pgCF => k_is)
    (case hdCF => k_is)
    (case poCF => k_is)
    (case saCF => k_is)
    (case mkCF => k_is)
    (case kcCF => k_is)
    (case nSF => k_is)
    (case nRF => k_is)
    (case a_mark_after => k_is)
    (case l_mark_after => k_is)
    (case c_mark_after => k_is)
    (case k_mark_after => k_is)
    (case a_mark_in => k_is)
    (case l_mark_in => k_is)
    (case c_mark_in => k_is)
    (case k_mark_in => k_is)
    (case a_clip => k_is)
    (case l_clip => k_is)
    (case c_clip => k_is)
    (case k_clip => k_is)
    (case a_merge => k_is)
    (case l_merge => k_is)
    (case c_merge => k_is)
    (case k_merge => k_is)
    (case a_continues => k_is)
    (case l_continues => k_is)
    (case c_continues => k_is)
    (case k_continues => k_is)
    (case a_check_range => k_is)
    (case l_check_range => k_is)
    (case c_check_range => k_is)
    (case k_check_range => k_is)
    (case a_check_mapped => k_is)
    (case l_check_mapped => k_is)
    (case c_check_mapped => k_is)
    (case k_check_mapped => k_is)
    (case a_spans_of => k_is)
    (case l_spans_of => k_is)
    (case c_spans_of => k_is)
    (case k_spans_of => k_is)
    (case a_fold => k_is)
    (case l_fold => k_is)
    (case c_fold => k_is)
    (case k_fold => k_is)
    (case a_fold_block => k_is)
    (case l_fold_block => k_is)
    (case c_fold_block => k_is)
    (case k_fold_block => k_is)
    (case a_copy_table => k_is)
    (case l_copy_table => k_is)
    (case c_copy_table => k_is)
    (case k_copy_table => k_is)
    (case a_marks_in => k_is)
    (case l_marks_in => k_is)
    (case c_marks_in => k_is)
    (case k_marks_in => k_is)
    (case a_count_tables => k_is)
    (case l_count_tables => k_is)
    (case c_count_tables => k_is)
    (case k_count_tables => k_is)
    (case a_cover => k_is)
    (case l_cover => k_is)
    (case c_cover => k_is)
    (case k_cover => k_is)
    (case a_largest_block => k_is)
    (case l_largest_block => k_is)
    (case c_largest_block => k_is)
    (case k_largest_block => k_is)
    (case a_number => k_is)
    (case l_number => k_is)
    (case c_number => k_is)
    (case k_number => k_is)
    (case a_is_whole => k_is)
    (case l_is_whole => k_is)
    (case c_is_whole => k_is)
    (case k_is_whole => k_is)
    (case a_same => k_is)
    (case l_same => k_is)
    (case c_same => k_is)
    (case k_same => k_is)
    (case a_fan_spans => k_is)
    (case l_fan_spans => k_is)
    (case c_fan_spans => k_is)
    (case k_fan_spans => k_is)
    (case a_fan => k_is)
    (case l_fan => k_is)
    (case c_fan => k_is)
    (case k_fan => k_is)
    (case a_fold_fan => k_is)
    (case l_fold_fan => k_is)
    (case c_fold_fan => k_is)
    (case k_fold_fan => k_is)
    (case a_fold_many => k_is)
    (case l_fold_many => k_is)
    (case c_fold_many => k_is)
    (case k_fold_many => k_is)
    (case a_file_names => k_is)
    (case l_file_names => k_is)
    (case c_file_names => k_is)
    (case k_file_names => k_is)
    (case a_fold_deed => k_is)
    (case l_fold_deed => k_is)
    (case c_fold_deed => k_is)
    (case k_fold_deed => k_is)
    (case a_marks_do => k_is)
    (case l_marks_do => k_is)
    (case c_marks_do => k_is)
    (case k_marks_do => k_is)
    (case a_marks_ask => k_is)
    (case l_marks_ask => k_is)
    (case c_marks_ask => k_is)
    (case k_marks_ask => k_is)
    (case a_after => k_is)
    (case l_after => k_is)
    (case c_after => k_is)
    (case k_after => k_is)
    (case a_uniform => k_is)
    (case l_uniform => k_is)
    (case c_uniform => k_is)
    (case k_uniform => k_is)
    (case a_fold_tell => k_is)
    (case l_fold_tell => k_is)
    (case c_fold_tell => k_is)
    (case k_fold_tell => k_is)
    (case a_describes => k_is)
    (case l_describes => k_is)
    (case c_describes => k_is)
    (case k_describes => k_is)
    (case a_is_block => k_is)
    (case l_is_block => k_is)
    (case c_is_block => k_is)
    (case k_is_block => k_is)
    (case a_apart => k_is)
    (case l_apart => k_is)
    (case c_apart => k_is)
    (case k_apart => k_is)
    (case a_entries_least => k_is)
    (case l_entries_least => k_is)
    (case c_entries_least => k_is)
    (case k_entries_least => k_is)
    (case a_tables_at => k_is)
    (case l_tables_at => k_is)
    (case c_tables_at => k_is)
    (case k_tables_at => k_is)
    (case a_needed_tables => k_is)
    (case l_needed_tables => k_is)
    (case c_needed_tables => k_is)
    (case k_needed_tables => k_is)
    (case a_least_good => k_is)
    (case l_least_good => k_is)
    (case c_least_good => k_is)
    (case k_least_good => k_is)
    (case a_law => k_is)
    (case l_law => k_is)
    (case c_law => k_is)
    (case k_law => k_is)
    (case z_len => k_is)
    (case z_abs => k_is)
    (case z_int => k_is)
    (case z_range => k_is)
    (case z_isinstance => k_is)
    (case z_bool => k_is)
    (case z_str => k_is)
    (case z_list => k_is)
    (case z_tuple => k_is)
    (case z_min => k_is)
    (case z_max => k_is)
    (case z_reversed => k_is)
    (case z_zip => k_is)
    (case z_sum => k_is)
    (case z_enumerate => k_is)
    (case z_sorted => k_is)
