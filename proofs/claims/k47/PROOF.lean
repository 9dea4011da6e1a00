import PyProof.Rows.All
import Wide.All
import OpenK.AllK
import Wide.FinOn
import HandS.ForMost
import HandS.Codes
import HandS.IsInst
import HandS.Wide
import HandS.DictTup
import PyProof.DictMoreH
import HandS.TupLen
import HandS.Nested
import HandS.ExcInit
import HandS.FStr
import HandS.ExcOwn
import HandS.ExcIs
import HandS.ExcField
import KE.KExcIs
import HandS.WordsExc
import HandS.Rev
import HandS.Style
import HandS.Zip
import HandS.Walk
import HandS.TryOnly
import HandS.TryMany
import HandS.MakeKwOnly
import HandS.Conv
import KE.KExcSuper
import KE.KExcMake
import KE.GoesZip
import KE.GoesMore
import HandS.More
import PySem.Challenge.RW_lentpages_k47_disassemble
set_option Elab.async false
set_option linter.all false
set_option maxRecDepth 100000
set_option maxHeartbeats 4000000
namespace Lw
open PySem PySem.Spec PyProof.Rows L2 NdefX
open C8 (Def Cal cal0 pe_c)
def topS (i : Nat) : Stmt := PySem.Challenge.pw_lentpages_k47_disassemble.main.body.getD i (.Pass ⟨0, 0, 0, 0⟩)

/-! ### data in the heap, tracked -/
mutual
def Dh (H : Hp) : PyData → V → Prop
  | .none, x => x = .non
  | .bool b, x => x = .bl b
  | .int i, x => x = .int i
  | .str s, x => x = .str s
  | .list ds, x => ∃ a xs, x = .ref a ∧ H a = some (.lst xs) ∧ DhAll H ds xs
  | .tuple ds, x => ∃ a xs, x = .ref a ∧ H a = some (.tup xs) ∧ DhAll H ds xs
  | .dict _, _ => False
def DhAll (H : Hp) : List PyData → List V → Prop
  | [], xs => xs = []
  | d :: ds, xs => ∃ v vs, xs = v :: vs ∧ Dh H d v ∧ DhAll H ds vs
end
mutual
theorem Dh.mono {H H' : Hp} (s : Same H H') : ∀ (d : PyData) (x : V), Dh H d x → Dh H' d x
  | .none, x, h => h
  | .bool b, x, h => h
  | .int i, x, h => h
  | .str i, x, h => h
  | .list ds, x, h => by
    obtain ⟨a, xs, e, g, r⟩ := h
    exact ⟨a, xs, e, s _ _ g, DhAll.mono s ds xs r⟩
  | .tuple ds, x, h => by
    obtain ⟨a, xs, e, g, r⟩ := h
    exact ⟨a, xs, e, s _ _ g, DhAll.mono s ds xs r⟩
  | .dict _, x, h => False.elim h
theorem DhAll.mono {H H' : Hp} (s : Same H H') : ∀ (ds : List PyData) (xs : List V), DhAll H ds xs → DhAll H' ds xs
  | [], xs, h => h
  | d :: ds, xs, h => by
    obtain ⟨v, vs, e, g, r⟩ := h
    exact ⟨v, vs, e, Dh.mono s d v g, DhAll.mono s ds vs r⟩
end
theorem DhAll.len {H : Hp} : ∀ {ds : List PyData} {xs : List V}, DhAll H ds xs → xs.length = ds.length
  | [], xs, h => by
    cases (show xs = [] from h)
    rfl
  | d :: ds, xs, h => by
    obtain ⟨v, vs, e, g, r⟩ := h
    rw [e, List.length_cons, List.length_cons, DhAll.len r]
theorem DhAll.get {H : Hp} : ∀ {ds : List PyData} {xs : List V} {i : Nat} {d : PyData}, DhAll H ds xs → ds[i]? = some d → ∃ x, xs[i]? = some x ∧ Dh H d x
  | [], xs, i, d, h, e => by simp at e
  | d' :: ds, xs, 0, d, h, e => by
    obtain ⟨v, vs, e', g, r⟩ := h
    simp at e
    subst e
    exact ⟨v, by rw [e']; rfl, g⟩
  | d' :: ds, xs, i + 1, d, h, e => by
    obtain ⟨v, vs, e', g, r⟩ := h
    obtain ⟨x, h1, h2⟩ := DhAll.get (i := i) (d := d) r (by simpa using e)
    exact ⟨x, by rw [e']; simpa using h1, h2⟩
mutual
theorem Dh.dp {K : PySem.W.Frag} {H : Hp} : ∀ (d : PyData) (x : V), Dh H d x → Dp K H x d
  | .none, x, h => by
    cases (show x = .non from h)
    exact .non
  | .bool b, x, h => by
    cases (show x = .bl b from h)
    exact .bl b
  | .int i, x, h => by
    cases (show x = .int i from h)
    exact .int i
  | .str i, x, h => by
    cases (show x = .str i from h)
    exact .str i
  | .list ds, x, h => by
    obtain ⟨a, xs, e, g, r⟩ := h
    rw [e]
    exact .lst (SqL.of g) (DhAll.dp ds xs r)
  | .tuple ds, x, h => by
    obtain ⟨a, xs, e, g, r⟩ := h
    rw [e]
    exact .tup (SqT.of g) (DhAll.dp ds xs r)
  | .dict _, x, h => False.elim h
theorem DhAll.dp {K : PySem.W.Frag} {H : Hp} : ∀ (ds : List PyData) (xs : List V), DhAll H ds xs → DpAll K H xs ds
  | [], xs, h => by
    cases (show xs = [] from h)
    exact .nil
  | d :: ds, xs, h => by
    obtain ⟨v, vs, e, g, r⟩ := h
    rw [e]
    exact .cons (Dh.dp d v g) (DhAll.dp ds vs r)
end
/-- a datum's type -/
def tyN : PyData → String
  | .none => "NoneType"
  | .bool _ => "bool"
  | .int _ => "int"
  | .str _ => "str"
  | .list _ => "list"
  | .tuple _ => "tuple"
  | .dict _ => "dict"
theorem Dh.ty {K : PySem.W.Frag} {H : Hp} : ∀ {d : PyData} {x : V}, Dh H d x → TyX K H x (.type (tyN d))
  | .none, x, h => by
    cases (show x = .non from h)
    exact .base .non
  | .bool b, x, h => by
    cases (show x = .bl b from h)
    exact .base (.bl b)
  | .int i, x, h => by
    cases (show x = .int i from h)
    exact .base (.int i)
  | .str i, x, h => by
    cases (show x = .str i from h)
    exact .base (.str i)
  | .list ds, x, h => by
    obtain ⟨a, xs, e, g, r⟩ := h
    rw [e]
    exact .base (.lst g)
  | .tuple ds, x, h => by
    obtain ⟨a, xs, e, g, r⟩ := h
    rw [e]
    exact .base (.tup g)
  | .dict _, x, h => False.elim h
/-- at most n lists and tuples in one another, none of them long -/
def Dle : Nat → PyData → Prop
  | 0, _ => False
  | n + 1, .list ds => ds.length ≤ 100000 ∧ ∀ d ∈ ds, Dle n d
  | n + 1, .tuple ds => ds.length ≤ 100000 ∧ ∀ d ∈ ds, Dle n d
  | _, .dict _ => False
  | _, _ => True
theorem same_upd {H : Hp} {p : Addr} {o : HO} (h : H p = none) : Same H (upd H p o) := fun b x e => by
  rw [upd_ne (ne_of_none e h)]
  exact e
theorem same_rfl {H : Hp} : Same H H := fun _ _ e => e
/-- what is asked of the top's names -/
structure Txt (mg : Str → Option Value) : Prop where
  len : mg "len" = none
  abs : mg "abs" = none
  int : mg "int" = none
  range : mg "range" = none
  isinstance : mg "isinstance" = none
  bool : mg "bool" = none
  str : mg "str" = none
  list : mg "list" = none
  tuple : mg "tuple" = none
abbrev sI (i : Int) : Option V := some (.int i)
abbrev sR (a : Addr) : Option V := some (.ref a)
abbrev sS (x : Str) : Option V := some (.str x)
abbrev sB (b : Bool) : Option V := some (.bl b)

/-! ### steps of a reading -/
theorem ifD {p : Prop} [Decidable p] {A B : Prop} (a : p → A) (b : ¬ p → B) : if decide p = true then A else B := by
  by_cases h : p
  · rw [if_pos (decide_eq_true h)]
    exact a h
  · rw [if_neg (fun z => h (of_decide_eq_true z))]
    exact b h
theorem ifEq {x y : Int} {A B : Prop} (a : x = y → A) (b : x ≠ y → B) : if decide (V.int x = V.int y) = true then A else B :=
  ifD (fun h => a (V.int.inj h)) (fun h => b (fun z => h (congrArg V.int z)))
theorem ifT {p : Prop} [Decidable p] {A B : Prop} (h : p) (a : A) : if decide p = true then A else B := by
  rw [if_pos (decide_eq_true h)]
  exact a
theorem ifF {p : Prop} [Decidable p] {A B : Prop} (h : ¬ p) (b : B) : if decide p = true then A else B := by
  rw [if_neg (fun z => h (of_decide_eq_true z))]
  exact b
theorem ifEqT {x y : Int} {A B : Prop} (h : x = y) (a : A) : if decide (V.int x = V.int y) = true then A else B := ifT (congrArg V.int h) a
theorem ifEqF {x y : Int} {A B : Prop} (h : x ≠ y) (b : B) : if decide (V.int x = V.int y) = true then A else B := ifF (fun z => h (V.int.inj z)) b
theorem cmul_l {i j : Int} (h : -(2 ^ 64) < i ∧ i < 2 ^ 64) : CMul i j := .inl h
theorem cmul_r {i j : Int} (h : -(2 ^ 64) < j ∧ j < 2 ^ 64) : CMul i j := .inr h
/-- a statement that the steps stop at -/
@[irreducible] def tMk (t : TS) : TS := t
theorem tMk_eq (t : TS) : tMk t = t := by
  unfold tMk
  rfl
theorem ps_mk {X : Cx} {s : Stmt} {t : TS} (h : PS X s t) : PS X s (tMk t) := by
  rw [tMk_eq]
  exact h
theorem un {t : TS} {D : Ends} {σ : L2.St} {H : Hp} (h : t D σ H) : tMk t D σ H := by
  rw [tMk_eq]
  exact h
/-- what follows, said once -/
theorem jn {t : TS} {D : Ends} {σ : L2.St} {H : Hp} (M : L2.St → Hp → Prop) (h2 : ∀ σ H, M σ H → D.nx σ H) (h1 : ∀ N : L2.St → Hp → Prop, (∀ σ H, M σ H → N σ H) → t { D with nx := N } σ H) : tMk t D σ H := by
  rw [tMk_eq]
  exact h1 D.nx h2
/-- a wish that the steps stop at -/
@[irreducible] def Ob (p : Prop) : Prop := p
theorem ob {p : Prop} (h : p) : Ob p := by
  unfold Ob
  exact h
theorem unob {p : Prop} (h : Ob p) : p := by
  unfold Ob at h
  exact h
theorem atI_getD {ns : List Int} {j : Int} (h0 : 0 ≤ j) (h1 : j < (ns.length : Int)) : atI (ns.map V.int) j = some (.int (ns.getD j.toNat 0)) := by
  have e : j = ((j.toNat : Nat) : Int) := by omega
  have hj : j.toNat < ns.length := by omega
  have q : atI (ns.map V.int) ((j.toNat : Nat) : Int) = some (.int (ns.getD j.toNat 0)) := atI_nat (by
    rw [List.getElem?_map, List.getElem?_eq_getElem hj, List.getD_eq_getElem?_getD, List.getElem?_eq_getElem hj]
    rfl)
  rw [← e] at q
  exact q
theorem sz {n : Nat} (h : n ≤ 1000 := by first | decide | simp) : n ≤ sizeLine := Nat.le_of_lt (small1000 h)
theorem sz5 {n : Nat} (h : n ≤ 1000000) : n < sizeLine := by
  rw [sizeLine_eq]
  omega
theorem take_succ_eq {α : Type} {xs ys : List α} {i : Nat} {x y : α} (hx : xs[i]? = some x) (hy : ys[i]? = some y) : xs.take (i + 1) = ys.take (i + 1) ↔ xs.take i = ys.take i ∧ x = y := by
  rw [List.take_add_one, List.take_add_one, hx, hy]
  constructor
  · intro h
    have h1 := List.append_inj' h rfl
    refine ⟨h1.1, ?_⟩
    have h2 := h1.2
    simpa using h2
  · rintro ⟨h1, rfl⟩
    rw [h1]
-- size2
theorem ifN {b : Bool} {A B : Prop} (h : if b = true then B else A) : if (!b) = true then A else B := by
  cases b
  · exact h
  · exact h
theorem ifNe {x y : Int} {A B : Prop} (a : x ≠ y → A) (b : x = y → B) : if (!decide (V.int x = V.int y)) = true then A else B := ifN (ifEq b a)
theorem ixAny {K : PySem.W.Frag} {H : Hp} {a : Addr} {xs : List V} {i : Int} {v : V} {Q : VK} (h : SqL K H a xs ∨ SqT K H a xs) (e : atI xs i = some v) (q : Q v H) : rIx K (.ref a) (.int i) H Q := by
  rcases h with h | h
  · exact .inl ⟨a, xs, i, v, rfl, rfl, h, e, q⟩
  · exact .inr (.inl ⟨a, xs, i, v, rfl, rfl, h, e, q⟩)
theorem sameT {K : PySem.W.Frag} {H H' : Hp} {a : Addr} {xs : List V} (s : Same H H') (h : SqT K H a xs) : SqT K H' a xs := by
  rcases h with (g | ⟨o, g⟩) | g
  · exact .inl (.inl (s _ _ g))
  · exact .inl (.inr ⟨o, s _ _ g⟩)
  · exact .inr g
theorem sqAny {K : PySem.W.Frag} {H H' : Hp} {a : Addr} {xs : List V} (s : Same H H') (h : SqL K H a xs ∨ SqT K H a xs) : SqL K H' a xs ∨ SqT K H' a xs := h.imp (fun z => s.seq z) (fun z => sameT s z)
theorem same_put {H H1 : Hp} {D : Addr} {o : HO} (s : Same H H1) (h : H D = none) : Same H (upd H1 D o) := fun b x e => by
  rw [upd_ne (ne_of_none e h)]
  exact s b x e

/-! ### rules that say the written part by a letter -/
theorem ixL {X : Cx} (K : PySem.W.Frag) (h : X.K = K) : IxR X (rIxL K) := by
  subst h
  exact ix_list
theorem ixT {X : Cx} (K : PySem.W.Frag) (h : X.K = K) : IxR X (rIxT K) := by
  subst h
  exact ix_tup
theorem ixA {X : Cx} (K : PySem.W.Frag) (h : X.K = K) : IxR X (rIx K) := by
  subst h
  exact ix_seq
def rLen (K : PySem.W.Frag) : List V → Hp → VK → Prop := fun xs H Q => ∃ p ys, xs = [.ref p] ∧ (SqL K H p ys ∨ SqT K H p ys) ∧ Q (.int ys.length) H
theorem lenQ {X : Cx} (K : PySem.W.Frag) (h : X.K = K) : CallR X (.builtin "len") (rLen K) := by
  subst h
  exact call_len_seq
def isB : PyData → Bool
  | .bool _ => true
  | _ => false
def isI : PyData → Bool
  | .int _ => true
  | _ => false
def isS : PyData → Bool
  | .str _ => true
  | _ => false
def isL : PyData → Bool
  | .list _ => true
  | _ => false
def isT : PyData → Bool
  | .tuple _ => true
  | _ => false
theorem kit_B {K : PySem.W.Frag} : ∀ (d : PyData), PySem.W.kitOne K (.type (tyN d)) (.type "bool") = some (isB d)
  | .none => kit_ty (show kitB "NoneType" "bool" = some false by decide +kernel)
  | .bool _ => kit_ty (show kitB "bool" "bool" = some true by decide +kernel)
  | .int _ => kit_ty (show kitB "int" "bool" = some false by decide +kernel)
  | .str _ => kit_ty (show kitB "str" "bool" = some false by decide +kernel)
  | .list _ => kit_ty (show kitB "list" "bool" = some false by decide +kernel)
  | .tuple _ => kit_ty (show kitB "tuple" "bool" = some false by decide +kernel)
  | .dict _ => kit_ty (show kitB "dict" "bool" = some false by decide +kernel)
theorem kit_I {K : PySem.W.Frag} : ∀ (d : PyData), PySem.W.kitOne K (.type (tyN d)) (.type "int") = some (isI d || isB d)
  | .none => kit_ty (show kitB "NoneType" "int" = some false by decide +kernel)
  | .bool _ => kit_ty (show kitB "bool" "int" = some true by decide +kernel)
  | .int _ => kit_ty (show kitB "int" "int" = some true by decide +kernel)
  | .str _ => kit_ty (show kitB "str" "int" = some false by decide +kernel)
  | .list _ => kit_ty (show kitB "list" "int" = some false by decide +kernel)
  | .tuple _ => kit_ty (show kitB "tuple" "int" = some false by decide +kernel)
  | .dict _ => kit_ty (show kitB "dict" "int" = some false by decide +kernel)
theorem kit_S {K : PySem.W.Frag} : ∀ (d : PyData), PySem.W.kitOne K (.type (tyN d)) (.type "str") = some (isS d)
  | .none => kit_ty (show kitB "NoneType" "str" = some false by decide +kernel)
  | .bool _ => kit_ty (show kitB "bool" "str" = some false by decide +kernel)
  | .int _ => kit_ty (show kitB "int" "str" = some false by decide +kernel)
  | .str _ => kit_ty (show kitB "str" "str" = some true by decide +kernel)
  | .list _ => kit_ty (show kitB "list" "str" = some false by decide +kernel)
  | .tuple _ => kit_ty (show kitB "tuple" "str" = some false by decide +kernel)
  | .dict _ => kit_ty (show kitB "dict" "str" = some false by decide +kernel)
theorem kit_L {K : PySem.W.Frag} : ∀ (d : PyData), PySem.W.kitOne K (.type (tyN d)) (.type "list") = some (isL d)
  | .none => kit_ty (show kitB "NoneType" "list" = some false by decide +kernel)
  | .bool _ => kit_ty (show kitB "bool" "list" = some false by decide +kernel)
  | .int _ => kit_ty (show kitB "int" "list" = some false by decide +kernel)
  | .str _ => kit_ty (show kitB "str" "list" = some false by decide +kernel)
  | .list _ => kit_ty (show kitB "list" "list" = some true by decide +kernel)
  | .tuple _ => kit_ty (show kitB "tuple" "list" = some false by decide +kernel)
  | .dict _ => kit_ty (show kitB "dict" "list" = some false by decide +kernel)
theorem kit_T {K : PySem.W.Frag} : ∀ (d : PyData), PySem.W.kitOne K (.type (tyN d)) (.type "tuple") = some (isT d)
  | .none => kit_ty (show kitB "NoneType" "tuple" = some false by decide +kernel)
  | .bool _ => kit_ty (show kitB "bool" "tuple" = some false by decide +kernel)
  | .int _ => kit_ty (show kitB "int" "tuple" = some false by decide +kernel)
  | .str _ => kit_ty (show kitB "str" "tuple" = some false by decide +kernel)
  | .list _ => kit_ty (show kitB "list" "tuple" = some false by decide +kernel)
  | .tuple _ => kit_ty (show kitB "tuple" "tuple" = some true by decide +kernel)
  | .dict _ => kit_ty (show kitB "dict" "tuple" = some false by decide +kernel)
theorem kit_LT {K : PySem.W.Frag} (d : PyData) : PySem.W.kitAny K (.type (tyN d)) [.type "list", .type "tuple"] = some (isL d || isT d) := by
  refine kitAny_cons (kit_L d) (fun h => ?_) (fun h => by rw [h]; rfl)
  rw [h]
  refine kitAny_cons (kit_T d) (fun h => by rw [h]; rfl) (fun h => by rw [h]; rfl)
/-- isinstance of a datum -/
def rIsD (T : String) (g : PyData → Bool) : List V → Hp → VK → Prop := fun xs H Q => ∃ x d, xs = [x, .ty T] ∧ Dh H d x ∧ Q (.bl (g d)) H
theorem isOf {X : Cx} {T : String} {g : PyData → Bool} (h : ∀ d, PySem.W.kitOne X.K (.type (tyN d)) (.type T) = some (g d)) : CallR X (.builtin "isinstance") (rIsD T g) := by
  intro pins s σ H xs us Q I r z
  obtain ⟨x, d, rfl, hx, q⟩ := z
  exact call_isi pins s σ H _ us Q I r ⟨_, _, _, _, _, rfl, .ty T, hx.ty, h d, q⟩
theorem is_bool {X : Cx} : CallR X (.builtin "isinstance") (rIsD "bool" isB) := isOf kit_B
theorem is_int {X : Cx} : CallR X (.builtin "isinstance") (rIsD "int" fun d => isI d || isB d) := isOf kit_I
theorem is_str {X : Cx} : CallR X (.builtin "isinstance") (rIsD "str" isS) := isOf kit_S
theorem is_list {X : Cx} : CallR X (.builtin "isinstance") (rIsD "list" isL) := isOf kit_L
theorem is_tuple {X : Cx} : CallR X (.builtin "isinstance") (rIsD "tuple" isT) := isOf kit_T
/-- isinstance(x, (list, tuple)) of a datum -/
def rIsLT : List V → Hp → VK → Prop := fun xs H Q => ∃ x d p, xs = [x, .ref p] ∧ H p = some (.tup [.ty "list", .ty "tuple"]) ∧ Dh H d x ∧ Q (.bl (isL d || isT d)) H
theorem is_lt {X : Cx} : CallR X (.builtin "isinstance") rIsLT := by
  intro pins s σ H xs us Q I r z
  obtain ⟨x, d, p, rfl, hp, hx, q⟩ := z
  exact call_isiT pins s σ H _ us Q I r ⟨_, _, _, _, _, _, rfl, hp, .cons (.ty "list") (.cons (.ty "tuple") .nil), hx.ty, kit_LT d, q⟩
theorem ifBT {b : Bool} {A B : Prop} (h : b = true) (a : A) : if b = true then A else B := by
  rw [if_pos h]
  exact a
theorem ifBF {b : Bool} {A B : Prop} (h : b = false) (q : B) : if b = true then A else B := by
  rw [h, if_neg Bool.false_ne_true]
  exact q
theorem inQ {X : Cx} (K : PySem.W.Frag) (h : X.K = K) : OpR X (compareOp .In) (rIn K false) := by
  subst h
  exact op_in_seq
theorem notInQ {X : Cx} (K : PySem.W.Frag) (h : X.K = K) : OpR X (compareOp .NotIn) (rIn K true) := by
  subst h
  exact op_notIn_seq
theorem eqQ {X : Cx} (K : PySem.W.Frag) (h : X.K = K) (hu : X.A.units + 64 < cLine) : OpR X (compareOp .Eq) (rEqD K) := by
  subst h
  exact op_eqD hu
theorem neQ {X : Cx} (K : PySem.W.Frag) (h : X.K = K) (hu : X.A.units + 64 < cLine) : OpR X (compareOp .NotEq) (rNeD K) := by
  subst h
  exact op_neD hu
def rLst (K : PySem.W.Frag) : List V → Hp → VK → Prop := fun xs H Q => ∃ p ys, xs = [.ref p] ∧ (SqL K H p ys ∨ SqT K H p ys) ∧ ∀ l, H l = none → Q (.ref l) (upd H l (.lst ys))
theorem listQ {X : Cx} (K : PySem.W.Frag) (h : X.K = K) : CallR X (.type "list") (rLst K) := by
  subst h
  exact call_list_of

/-! ### an own error (over ValueError, by any own classes) whose __init__ begins with super().__init__(text) -/
section
variable {prog : Program} {w : World} {A : Around} {E : Value → Shared → Prop} {h : Heap} {g : Array GenState} {d : Drawn} {t : Nat} {os : OsState}
theorem mw_call {u a C N t1 : Addr} {dv : Option Addr} {ws : List Value} {Q : Value → Shared → Prop} {nm q : Str} {bs bm : List Value} {hdct : Bool} {sn : List Str} {sub : List Value} {ab : Bool} {col : Option Bool} {dd : Option Addr} {k0 k1 k2 k3 k5 : Option Value}
    (hC : h.get? C = some (excClassObj nm q C N bs bm hdct sn sub ab col dd k0 k1 k2 k3 k5 "ValueError.__new__")) (he : h.get? a = some (PySem.W.excObj C t1 dv .none)) (hu : h.get? u = some (PySem.W.kxs_mw "ValueError.__init__" a)) (hl : ws.length ≤ sizeLine)
    (hq : ∀ h' t2, (∀ b o, b ≠ a → h.get? b = some o → h'.get? b = some o) → h'.get? a = some (PySem.W.excObj C t2 dv .none) → Q .none ⟨h', g, d, t, os⟩) : wpAny (model prog w) A (call (.ref u) ws) Q E ⟨h, g, d, t, os⟩ := by
  have FB := F.excBase_ValueError
  refine (wpAny_call (codeAny_of_tree ?_)); show wpAny _ A.in1 (callAny (.ref u) ⟨ws, []⟩) _ _ _; simp only [callAny]
  refine (wpAny_bind (wpAny_load hu ?_)); simp only [PySem.W.kxs_mw]; refine (PySem.W.KFB.if_so (by decide) (wpAny_bind (PySem.W.check_bound_init FB.toExcCallFacts hC he rfl (wpAny_bind (wpAny_pure (wpAny_pure ⟨plainId_quiet FB.init.plain _, codeAny_builtin FB.initEntry ?_⟩))))))
  exact PySem.W.exc_init_tree (cls := .ref C) (t0 := t1) (dv := dv) (c2 := .none) (c3 := .none) (b4 := .bool false) he hl fun h' k e _ => hq h' _ k e
end
/-- what the written part and the text say of the def F at f, an __init__ of the class at D -/
structure SupAt (P : Program) (K : PySem.W.Frag) (mg : Str → Option Value) (F : NF) (f D cc : Addr) (me : Str) (dV kV doc pm ctv : Value) (an : Option Addr) : Prop where
  fn : ∃ oc od osl, K.lookup f = some ⟨oc, od, .func (PySem.W.fnX F.name F.qual F.params F.body F.scope F.cl dV kV doc pm an (.ref F.c) ctv), osl⟩
  cl : F.cl = [(("__class__" : Str), cc)]
  code : PySem.W.codeIn K (.ref F.c) F.qual = true
  file : ∃ ccl cdd vs ccs file tf, K.lookup F.c = some ⟨ccl, cdd, .fields vs, ccs⟩ ∧ vs[2]? = some (.str file tf) ∧ ((P.main.file : Str) == file) = true
  top : (P.main.scope.names.lookup ("super" : Str)).isSome = false
  cell : ∃ cl cld csl, K.lookup cc = some ⟨cl, cld, .cell (some (.ref D)), csl⟩
  sup : mg "super" = none
  par : ∃ ar : Arg, (F.params.posonlyargs ++ F.params.args).head? = some ar ∧ ar.arg = me
  sk : F.scope.names.lookup ("super" : Str) = some .globalImplicit
  exc : OexC K D
  mro : PySem.W.mroIn K D (.ref D) = some true
  ini : PySem.W.ks_superIn K D D "__init__" = some (some (.builtin "ValueError.__init__"))
  ve : PySem.W.subIn K (.ref D) (.type "ValueError") = some true
  any : PySem.W.nsIn K cStatics "thirdparty.any" = some none
section
variable {CX : CXT} {P : Program} {w : World} {K : PySem.W.Frag} {mg : Str → Option Value} {base : Heap} {N ps : List Str} {F : NF} {f D cc : Addr} {k : Nat} {sp : Sp} {me : Str} {dV kV doc pm ctv : Value} {an : Option Addr} {msg : Expr} {rest : List Stmt} {p0 p1 p2 p3 p4 : Pos}
theorem fn_sup (S : NScope N ps ["__class__"] F.scope) (U : SupAt P K mg F f D cc me dV kV doc pm ctv an) (hps : ps[0]? = some me) (hF : F.body = .Expr (.Call (.Attribute (.Call (.Name "super" p0) [] [] p1) "__init__" p2) [msg] [] p3) p4 :: rest)
    (len : ∀ vs H Q E, sp vs H Q E → vs.length = ps.length)
    (hbody : ∀ (A : Around) (outer : List Env) (s : Shared) (H : Hp) (vs : List V) (Q : VK) (E : XK), Room k (A.deeper (envF F f s.heap.objs.size)) → sp vs H Q E →
      ∃ ta t, PA (ncx CX P w K mg base N F f A outer s H E) [msg] ta ∧ PSs (ncx CX P w K mg base N F f A outer s H E) rest t ∧
        ∃ a, vs[0]? = some (.ref a) ∧ H a = some (exo a D none) ∧ ta (startF N vs [none]) H fun xs H1 => xs.length ≤ 1000 ∧ H1 a = some (exo a D none) ∧ t { nx := fun _ H' => Q .non H', rt := Q } (startF N vs [none]) H1)
    {pl : Env → Sem Bool} (he : ∀ env : Env, eval (.Call (.Attribute (.Call (.Name "super" p0) [] [] p1) "__init__" p2) [msg] [] p3) env = (do
      let ov ← attributeBase (.Call (.Name "super" p0) [] [] p1) "__init__" env (eval (.Call (.Name "super" p0) [] [] p1) env)
      standAt p2.atName
      let (f, first) ← holding [ov] (getMethod ov "__init__" (pl env))
      callWith p3 f first (backTo p3 (starEach [msg] env)) []) := by intro _; rfl)
    (hm : ∀ env : Env, starEach [msg] env = [(false, eval msg env)] := by intro _; rfl) (hs : ∀ env : Env, swapsWith (.Call (.Attribute (.Call (.Name "super" p0) [] [] p1) "__init__" p2) [msg] [] p3) none p4.line env = pure false := by intro _; rfl) :
    FnOk P w K mg base CX (k + 1) f (PySem.W.fnX F.name F.qual F.params F.body F.scope F.cl dV kV doc pm an (.ref F.c) ctv) ps sp := by
  refine ⟨len, fun A outer s H args us vs Q E hr e0 hb r hsp => ?_⟩
  have hl := len _ _ _ _ hsp
  have KX : K.In s.heap := e0.mod.kin.keeps fun b o e => (e0.bs b o e).1
  have lim : s.heap.NoLimit := e0.mod.nolimit.keeps fun b o e => (e0.bs b o e).1
  obtain ⟨oc, od, osl, lk⟩ := U.fn
  obtain ⟨cl, cld, csl, hcc⟩ := U.cell
  have CA : CellsAt F.cl ["__class__"] [none] s.heap H := by
    rw [U.cl]
    have one : ∀ {y : Str} {c : Addr}, ([("__class__", cc)] : List (Str × Addr)).lookup y = some c → y = "__class__" ∧ c = cc := fun {y c} e => by
      have m := PySem.mem_of_lookup e
      rcases List.mem_singleton.mp m with z
      cases z
      exact ⟨rfl, rfl⟩
    refine ⟨rfl, fun y c e => ?_, fun x y c e1 e2 => ?_, fun i y e => ?_⟩
    · obtain ⟨rfl, rfl⟩ := one e
      exact ⟨(e0.bs _ _ (e0.mod.kin _ _ hcc)).2, _, _, KX _ _ hcc, rfl⟩
    · rw [(one e1).1, (one e2).1]
    · have hy : y = "__class__" := by
        have m := List.mem_of_getElem? e
        exact List.mem_singleton.mp m
      rw [hy]
      refine ⟨cc, by simp [List.lookup], fun v hv => ?_⟩
      cases i with
      | zero => simp at hv
      | succ i => simp at hv
  refine ks_codeAny_call_defAt (binds := ps.zip us) hr.depth (KX _ _ lk) rfl lim (PySem.W.codeRec_of KX U.code) rfl hb S.nocell (fun ⟨n, _⟩ hy => S.par n (List.of_mem_zip hy).1) (fun h₁ hns kp => ?_) S.co S.gen S.kind
  obtain ⟨ta, t, hta, ht, a, ha0, ha, q⟩ := hbody A outer s H vs Q E (hr.deeper _) hsp
  have I : Inv (ncx CX P w K mg base N F f A outer s H E) [] (startF N vs [none]) H { s with heap := h₁, toks := s.toks + (ps.zip us).length } := inv_startN S hr.hd e0 hl r CA hns kp
  show PySem.wpAt _ (A.deeper (envF F f s.heap.objs.size)) (.func F.body (envF F f s.heap.objs.size)) (execs F.body (envF F f s.heap.objs.size)) _ _ _
  rw [hF]
  refine ks_wpAt_execs_cons (ks_wpAt_mono (Q := fun fl s' => fl = .next ∧ ∃ H1, Inv (ncx CX P w K mg base N F f A outer s H E) [] (startF N vs [none]) H1 s' ∧ t { nx := fun _ H' => Q .non H', rt := Q } (startF N vs [none]) H1) ?one ?two fun _ _ z => z)
  case two =>
    rintro fl s' ⟨rfl, H1, J, q1⟩
    refine wpAt_of_wpAny (wpAny_mono (ht.run [] s' (startF N vs [none]) H1 _ J q1) (fun fl s2 hs => ?_) fun e s2 hs => hs)
    have fin : ∀ {σ' : L2.St} {H' : Hp} {v : V} {u : Value}, Inv (ncx CX P w K mg base N F f A outer s H E) [] σ' H' s2 → RelV v u → Q v H' → CE outer P w H s Q u s2 := fun {σ' H' v u} J2 rv q2 => ⟨v, H', J2.os, J2.bare, J2.base, J2.hok, rv, q2⟩
    cases fl with
    | ret u =>
      obtain ⟨v, σ', H', J2, rv, q2⟩ := hs
      exact fin J2 rv q2
    | next =>
      obtain ⟨σ', H', J2, q2⟩ := hs
      exact fin (v := V.non) (u := Value.none) J2 rfl q2
    | brk =>
      obtain ⟨_, _, _, q2⟩ := hs
      exact q2.elim
    | cont =>
      obtain ⟨_, _, _, q2⟩ := hs
      exact q2.elim
  case one =>
    have IX := I
    obtain ⟨oD, cdD, hD0, hD1, hD2⟩ : ∃ oD cdD, PySem.W.clsIn K D = some cdD ∧ K.lookup D = some oD ∧ oD.data = .cls cdD := by
      obtain ⟨nm, qq, NN, bs, bm, sn, sub, ab, col, dd, k0, k1, k2, k3, k5, hC, _⟩ := U.exc.cls
      exact ⟨_, _, by unfold PySem.W.clsIn; rw [hC] <;> rfl, hC, rfl⟩
    obtain ⟨ccl, cdd, vsc, ccs, file, tf, hfc, hv2, hfile⟩ := U.file
    obtain ⟨ar, har, harm⟩ := U.par
    obtain ⟨t1, ho⟩ := exo_at I.hok ha
    have K1 := I.kIn
    have hN0 : N[0]? = some me := by
      have z : (N.take (ps.length + [("__class__" : Str)].length))[0]? = (ps ++ [("__class__" : Str)])[0]? := by rw [S.pre]
      rw [List.getElem?_take_of_lt (by simp)] at z
      rw [z, List.getElem?_append_left (List.getElem?_eq_some_iff.mp hps).1, hps]
    have hme : F.scope.names.lookup me = some .local := S.par _ (List.mem_of_getElem? hps)
    have hs0 : (startF N vs [none])[0]? = some (some (.ref a)) := by
      have hlt : 0 < vs.length := (List.getElem?_eq_some_iff.mp ha0).1
      unfold startF
      rw [List.getElem?_append_left (by rw [List.length_map]; exact hlt), List.getElem?_map, ha0]
      rfl
    refine ks_wpAt_Expr_any (ks_wpAt_MethodCall ?_ (he _)) (hi := I.quiet) (hs := hs _)
    refine ks_wpAt_super_base (env := envF F f s.heap.objs.size) U.sk (S.frk _ (List.mem_singleton.mpr rfl)) (by decide) rfl (K1 _ _ lk) rfl har rfl (K1 _ _ hfc) rfl hv2 hfile U.top ?_
    obtain ⟨mb, hb1, hb2⟩ := I.mod.blt
    refine PySem.W.ks_loadName_global S.kind U.sk (Calls.loadGlobal_builtin (I.mod.glob.keeps I.bk) U.sup (hb1.keeps I.bk) ((hb2 "super" (by decide)).trans (show bootBuiltins "super" = some (.type "super") from by first | rfl | kernel_rfl)) ⟨rfl, ?_⟩)
    refine wpAny_loadName_free (c := cc) (v := .ref D) S.kind (S.frk _ (List.mem_singleton.mpr rfl)) (by show F.cl.lookup _ = _; rw [U.cl]; simp [List.lookup]) ⟨_, K1 _ _ hcc, rfl⟩ ?_
    obtain ⟨m, hns1, hlook⟩ := I.loc
    obtain ⟨u, hu, hL⟩ := hlook 0 me (.ref a) hN0 hs0 (.inl hme)
    obtain rfl : u = Value.ref a := hu
    have hmu : m me = some (.ref a) := by
      rcases hL with ⟨_, z⟩ | ⟨z, _⟩
      · exact z
      · have z2 : F.scope.names.lookup me = some .cell ∨ F.scope.names.lookup me = some .free := z
        rw [hme] at z2
        rcases z2 with z2 | z2 <;> cases z2
    rw [harm]
    refine wpAny_loadName_local S.kind hme hns1 hmu ?_
    refine ks_wpAny_isType_cls (K1 _ _ hD1) hD2 ⟨rfl, ?_⟩
    refine ks_wpAny_call_super (K1 _ _ hD1) hD2 ho rfl (fun c z => by cases z) (PySem.W.looks_mroIn K1 U.mro) (fun h2 e2 kk2 => ?_)
    have I2 := I.kept (t' := s.toks + (ps.zip us).length) kk2
    have K2 := I2.kIn
    have ia : PySem.W.InstAt h2 a (PySem.W.excObj D t1 none .none) D none := ⟨kk2 _ _ ho, rfl, rfl, trivial⟩
    have aD : a ≠ D := fun z => by
      have z2 := K1 _ _ hD1
      rw [← z, ho] at z2
      have z3 := Option.some.inj z2
      rw [← z3] at hD2
      cases hD2
    have ini := U.ini
    unfold PySem.W.ks_superIn at ini
    rw [hD0] at ini
    refine PySem.W.kxs_getMethod PySem.W.kxs_ValueError e2 (PySem.W.looks_opaque K2 U.any) (l₀ := cdD.mro) (fun A' Q' E' s' k' q' => wpAny_bind ((PySem.W.looks_clsIn K2 hD0) A' _ E' s' k' (wpAny_pure q'))) rfl K2 ini (ia.type.andThen (PySem.W.looks_subIn K2 U.ve)) aD (by decide) ?_
    have I3 := I2.kept (t' := s.toks + (ps.zip us).length + 1) (h' := h2.push (PySem.W.kxs_mw "ValueError.__init__" a)) (fun b o e => Heap.get?_push_of_some _ e)
    have I4 : Inv (ncx CX P w K mg base N F f A outer s H E) ([] ++ [(h2.objs.size, PySem.W.kxs_mw "ValueError.__init__" a)]) (startF N vs [none]) H _ := I3.pins_of (fun p hp => by
      obtain rfl := List.mem_singleton.mp hp
      exact ⟨Heap.get?_push_at rfl rfl, I2.hok.fresh (Nat.le_refl _), Nat.ne_of_gt I2.lt, I2.nofs (Nat.le_refl _), fun v z => by cases z⟩)
    show wpAny _ _ (callWith p3 (.ref h2.objs.size) [] (backTo p3 (starEach [msg] (envF F f s.heap.objs.size))) []) _ _ _
    have hsp2 := hta.run p3 _ _ _ _ _ I4 q
    have hst : starEach [msg] (ncx CX P w K mg base N F f A outer s H E).env = [(false, eval msg (envF F f s.heap.objs.size))] := hm _
    rw [hst] at hsp2
    rw [hm]
    refine PySem.W.kxs_callWith (i := "ValueError.__init__") (x := a) rfl (Calls.evalArgs_plain (thn hsp2 fun us2 s7 ⟨xs, H1, I8, r8, hl8, ea, q8⟩ => ?_))
    obtain ⟨nm, qq, NN, bs, bm, sn, sub, ab, col, dd, k0, k1, k2, k3, k5, hC, _⟩ := U.exc.cls
    obtain ⟨h7, g7, d7, t7, os7⟩ := s7
    have pn := (I8.pin (h2.objs.size, PySem.W.kxs_mw "ValueError.__init__" a) (List.mem_append_right _ (List.mem_append_right _ (List.mem_singleton.mpr rfl)))).1
    obtain ⟨t8, ho8⟩ := exo_at I8.hok ea
    refine ⟨pn, mw_call (I8.kIn _ _ hC) ho8 pn (by show us2.length ≤ sizeLine; rw [← r8.length, sizeLine_eq]; omega) fun h9 t9 k9 e9 => ⟨rfl, H1, ?_, q8⟩⟩
    have J := I8.write (t' := t7) (x := a) (e := a) (o := exo a D none) (by rw [ea]; exact True.intro) (.inl rfl) k9 ⟨_, e9⟩ (exo_ok e9)
    have eu : upd H1 a (exo a D none) = H1 := by
      funext b
      by_cases hb : b = a
      · rw [hb, upd_same, ea]
      · rw [upd_ne hb]
    rw [eu] at J
    exact J.unpinned
end

/-! ### a chain of three comparisons -/
section
variable {X : Cx} {a b c d : Expr} {ta tb tc td : TE} {r r2 r3 : R2} {op op2 op3 : CmpOp} {pos : Pos}
def tChain3 (r r2 r3 : R2) (ta tb tc td : TE) : TE := fun σ H Q => ta σ H fun x H1 => tb σ H1 fun y H2 => r x y H2 fun z H3 => ∃ k, z = .bl k ∧
  (if k = true then tc σ H3 fun u H4 => r2 y u H4 fun z2 H5 => ∃ k2, z2 = .bl k2 ∧ (if k2 = true then td σ H5 fun v H6 => r3 u v H6 Q else Q (.bl false) H5) else Q (.bl false) H3)
theorem if_ff {A B : Prop} (h : B) : if (false : Bool) = true then A else B := by
  rw [if_neg (by decide)]
  exact h
theorem if_tt {A B : Prop} (h : A) : if (true : Bool) = true then A else B := by
  rw [if_pos rfl]
  exact h
theorem pt_chain3 (h1 : OpR X (compareOp op) r) (h2 : OpR X (compareOp op2) r2) (h3 : OpR X (compareOp op3) r3) (ha : PE X a ta) (hb : PE X b tb) (hc : PE X c tc) (hd : PE X d td)
    (hm : lastMarks [op, op2, op3] [b, c, d] = false := by with_unfolding_all rfl) : PT X (.Compare a [op, op2, op3] [b, c, d] pos) (tTest (tChain3 r r2 r3 ta tb tc td)) := by
  refine ⟨fun pins s σ H Q I h => ?_⟩
  refine isTrue_chain (thn (ha.run pins s σ H _ I h) fun v s1 ⟨x, H1, I1, e1, q1⟩ => test_link (thn (hb.run pins s1 σ H1 _ I1 q1) fun u s2 ⟨y, H2, I2, e2, q2⟩ => thn (h1 pins s2 σ H2 x y v u _ I2 e1 e2 q2) fun dv s3 ⟨z, H3, I3, e3, k, ek, q3⟩ => ?_)) hm
  subst ek
  cases e3
  refine wpAny_truthy_bool ?_
  cases k with
  | false =>
    obtain ⟨k', e', q'⟩ := q3
    cases e'
    exact if_ff ⟨H3, I3, q'⟩
  | true =>
    refine if_tt (test_link (thn (hc.run pins s3 σ H3 _ I3 (if_pos rfl ▸ q3)) fun w4 s4 ⟨z4, H4, I4, e4, q4⟩ => thn (h2 pins s4 σ H4 y z4 u w4 _ I4 e2 e4 q4) fun d5 s5 ⟨z5, H5, I5, e5, k2, ek2, q5⟩ => ?_))
    subst ek2
    cases e5
    refine wpAny_truthy_bool ?_
    cases k2 with
    | false =>
      obtain ⟨k', e', q'⟩ := q5
      cases e'
      exact if_ff ⟨H5, I5, q'⟩
    | true =>
      refine if_tt (test_last (thn (hd.run pins s5 σ H5 _ I5 q5) fun w6 s6 ⟨z6, H6, I6, e6, q6⟩ => thn (h3 pins s6 σ H6 z4 z6 w4 w6 _ I6 e4 e6 q6) fun d7 s7 ⟨z7, H7, I7, e7, k3, ek3, q7⟩ => ?_))
      subst ek3
      cases e7
      exact wpAny_truthy_bool ⟨H7, I7, q7⟩
end

/-! ### defs that may raise, called -/
/-- the def under its name, which may let out what sp says -/
structure CalE (P : Program) (w : World) (K : PySem.W.Frag) (mg : Str → Option Value) (base : Heap) (k : Nat) (x : Str) (sp : Sp) : Prop where
  ex : ∃ (f : Addr) (fd : FuncData) (ps : List Str), FnOk P w K mg base (L2.CX P w) k f fd ps sp ∧ mg x = some (.ref f) ∧ PySem.W.keepIn K (.ref f) = true ∧ Binds K fd ps []
section
variable {P : Program} {w : World} {K : PySem.W.Frag} {mg : Str → Option Value} {base : Heap}
theorem fnE {x qual : Str} {st : Stmt} {f : Addr} {fd : FuncData} {N ps : List Str} {k : Nat} {sp : Sp} (F : C8.Fun K x qual st f fd) (S : FnScope N ps (C8.fnScope st)) (len : ∀ vs H Q E, sp vs H Q E → vs.length = ps.length)
    (hb : ∀ (cdv : Value) (A : Around) (outer : List Env) (s : Shared) (H : Hp) (vs : List V) (Q : VK) (E : XK), Room k (A.deeper (envOfC qual (C8.fnScope st) s.heap.objs.size f cdv)) → sp vs H Q E →
      ∃ t, PSs (cxOf (L2.CX P w) P w K mg base N qual (C8.fnScope st) f cdv A outer s H E) (C8.fnBody st) t ∧ t { nx := fun _ H' => Q .non H', rt := Q } (start N vs) H) : FnOk P w K mg base (L2.CX P w) (k + 1) f fd ps sp := by
  obtain ⟨oc, od, dV, kV, doc, pm, an, cdv, ct, osl, rfl, lk, hcd⟩ := F.ex
  exact fn_of lk hcd S len fun A outer s H vs Q E hr hs => hb cdv A outer s H vs Q E hr hs
theorem calE {x : Str} {st : Stmt} {f : Addr} {fd : FuncData} {N ps : List Str} {k : Nat} {sp : Sp} (D : Def K mg x st f fd) (b : Binds K fd ps []) (S : FnScope N ps (C8.fnScope st)) (len : ∀ vs H Q E, sp vs H Q E → vs.length = ps.length)
    (hb : ∀ (cdv : Value) (A : Around) (outer : List Env) (s : Shared) (H : Hp) (vs : List V) (Q : VK) (E : XK), Room k (A.deeper (envOfC x (C8.fnScope st) s.heap.objs.size f cdv)) → sp vs H Q E →
      ∃ t, PSs (cxOf (L2.CX P w) P w K mg base N x (C8.fnScope st) f cdv A outer s H E) (C8.fnBody st) t ∧ t { nx := fun _ H' => Q .non H', rt := Q } (start N vs) H) : CalE P w K mg base (k + 1) x sp :=
  ⟨f, fd, ps, fnE D.fn S len hb, D.mgf, D.kp, b⟩
end
section
variable {X : Cx} {x : Str} {p pos : Pos} {e : Expr} {es : List Expr} {ta : TA} {sp : Sp} {k j : Nat}
/-- its call where exceptions go to W -/
theorem pe_cE (c : CalE X.prog X.w X.K X.mg X.base k x sp) {W : WX} (tk : Takes X W) (hr : Room j X.A) (hk : k ≤ j) (hg : Gl X x) (ha : PA X (e :: es) ta) (hdb : (x == ("__debug__" : Str)) = false := by decide)
    (he : starEach (e :: es) X.env = (false, eval e X.env) :: starEach es X.env := by rfl) (hpl : (backTo pos (starEach es X.env)).any (·.1) = false := by rfl) : PE X (.Call (.Name x p) (e :: es) [] pos) (tCallS sp (WE W) ta) := by
  obtain ⟨f, fd, ps, F, m, kp, b⟩ := c.ex
  exact pe_callS (F.mono hk) hr hg m kp b (passAt tk) ha hdb he hpl
end
/-- a method that may raise -/
structure MetE (P : Program) (w : World) (K : PySem.W.Frag) (mg : Str → Option Value) (base : Heap) (k : Nat) (C : Addr) (m : Str) (sp : Sp) : Prop where
  ex : ∃ (f : Addr) (fd : FuncData) (ps : List Str), Cls K C ∧ Meth K C m f ∧ FnOk P w K mg base (L2.CX P w) k f fd ps sp ∧ Binds K fd ps []
def tMtE (C : Addr) (m : Str) (sp : Sp) (E : L2.St → XK) (ta : TE) (t : TA) : TE := fun σ H Q => ta σ H fun x H1 => ∃ a dx fs, x = .ref a ∧ H1 a = some (.ins C dx fs) ∧ fs.lookup m = none ∧ t σ H1 fun vs H2 => sp (x :: vs) H2 Q (E σ)
section
variable {P : Program} {w : World} {K : PySem.W.Frag} {mg : Str → Option Value} {base : Heap}
theorem metE {m qual : Str} {C : Addr} {st : Stmt} {f : Addr} {fd : FuncData} {N ps : List Str} {k : Nat} {sp : Sp} (c : Cls K C) (me : Meth K C m f) (F : C8.Fun K m qual st f fd) (b : Binds K fd ps []) (S : FnScope N ps (C8.fnScope st)) (len : ∀ vs H Q E, sp vs H Q E → vs.length = ps.length)
    (hb : ∀ (cdv : Value) (A : Around) (outer : List Env) (s : Shared) (H : Hp) (vs : List V) (Q : VK) (E : XK), Room k (A.deeper (envOfC qual (C8.fnScope st) s.heap.objs.size f cdv)) → sp vs H Q E →
      ∃ t, PSs (cxOf (L2.CX P w) P w K mg base N qual (C8.fnScope st) f cdv A outer s H E) (C8.fnBody st) t ∧ t { nx := fun _ H' => Q .non H', rt := Q } (start N vs) H) : MetE P w K mg base (k + 1) C m sp :=
  ⟨f, fd, ps, c, me, fnE F S len hb, b⟩
end
section
variable {X : Cx} {m : Str} {C : Addr} {pos apos : Pos} {e o : Expr} {es : List Expr} {ta : TE} {t : TA} {sp : Sp} {k j : Nat}
theorem pe_mE {pl : Sem Bool} (c : MetE X.prog X.w X.K X.mg X.base k C m sp) {W : WX} (tk : Takes X W) (hr : Room j X.A) (hk : k ≤ j) (he : PE X o ta) (ha : PA X (e :: es) t)
    (hst : starEach (e :: es) X.env = (false, eval e X.env) :: starEach es X.env := by rfl) (hpl : (backTo pos (starEach es X.env)).any (·.1) = false := by rfl)
    (ht : eval (.Call (.Attribute o m apos) (e :: es) [] pos) X.env = (do
      let ov ← eval o X.env
      standAt apos.atName
      let (f, first) ← holding [ov] (getMethod ov m pl)
      callWith pos f first (backTo pos (starEach (e :: es) X.env)) (backToKw pos (keywordEach [] X.env))) := by rfl) : PE X (.Call (.Attribute o m apos) (e :: es) [] pos) (tMtE C m sp (WE W) ta t) := by
  obtain ⟨f, fd, ps, hc, hm, F, b⟩ := c.ex
  refine ⟨fun pins s σ H Q I h => PySem.W.methodCall_KW (pl := pl) (thn (he.run pins s σ H _ I h) fun u s1 ⟨x, H1, I1, rx, a, dx, fs, ex, ea, l, q⟩ => ?_) ht⟩
  subst ex
  cases (show u = Value.ref a from rx)
  exact getmeth_ok I1 ea hc hm l (PySem.W.callWith_K (first := [.ref a]) (h₀ := X.base) I.ok.mod.kin hm.kp (thn (ha.run pos pins s1 σ H1 _ I1 q) fun us s2 ⟨vs, H2, I2, r, q2⟩ => ⟨I2.kIn, run_fnS (us := .ref a :: us) (vs := .ref a :: vs) (F.mono hk) hr b (passAt tk σ) I2 (.cons rfl r) q2⟩) hst hpl)
end

/-! ### isinstance of the exception that a suite holds, with its fields -/
def rIsX (K : PySem.W.Frag) (D a : Addr) (cls : Value) (d0 : Option Addr) : List V → Hp → VK → Prop := fun xs H Q => cls = .ref D ∧ ∃ (d : Addr) (c : V) (u : Value) (b : Bool) (fs : List (Str × V)), d0 = some d ∧ xs = [.ref a, c] ∧ ClsV c u ∧ H d = some (.xd fs) ∧ PySem.W.kitOne K (.ref D) u = some b ∧ Q (.bl b) H
def rIsXT (K : PySem.W.Frag) (D a : Addr) (cls : Value) (d0 : Option Addr) : List V → Hp → VK → Prop := fun xs H Q => cls = .ref D ∧ ∃ (d tp : Addr) (cs : List V) (us : List Value) (b : Bool) (fs : List (Str × V)), d0 = some d ∧ xs = [.ref a, .ref tp] ∧ H tp = some (.tup cs) ∧ Paired ClsV cs us ∧ H d = some (.xd fs) ∧ PySem.W.kitAny K (.ref D) us = some b ∧ Q (.bl b) H
section
variable {X : Cx} {a D : Addr} {cls : Value} {d0 : Option Addr} {oe : Obj} {pn : List (Addr × Obj)}
theorem exx_at {d : Addr} {pins : List (Addr × Obj)} {σ : L2.St} {H : Hp} {s : Shared} {fs : List (Str × V)} (hz : Zc (.ref D) (some d) oe) (hf : ∃ vs, oe.data = .fields vs) (I : Inv (X.suite a ((a, oe) :: pn)) pins σ H s) (hd : H d = some (.xd fs)) : ∃ od, PySem.W.InstAt s.heap a oe D (some od) := by
  obtain ⟨hget, _⟩ := I.pin (a, oe) (List.mem_append.mpr (.inl List.mem_cons_self))
  obtain ⟨mA, hns, _⟩ := (show ObjOk X.prog X.w H s.heap d (.xd fs) from I.hok d _ hd)
  obtain ⟨od, _, _, hod, _⟩ := hns
  obtain ⟨vs, hv⟩ := hf
  refine ⟨od, hget, hz.1, ?_, ?_⟩
  · obtain ⟨oc, od2, oda, osl⟩ := oe
    dsimp only at hv
    subst hv
    rfl
  · rw [hz.2]
    exact hod
theorem call_isX (K : PySem.W.Frag) (hK : X.K = K) (C : ExcC K D) (hz : Zc cls d0 oe) (hf : ∃ vs, oe.data = .fields vs) : CallR (X.suite a ((a, oe) :: pn)) (.builtin "isinstance") (rIsX K D a cls d0) := by
  intro pins s σ H xs us Q I r h
  obtain ⟨rfl, d, c, u, b, fs, rfl, rfl, hc, hd, e, q⟩ := h
  subst hK
  obtain ⟨u1, u2, rfl, r1, r2⟩ := vals2 r
  cases (show u1 = Value.ref a from r1)
  obtain rfl := hc.eq r2
  obtain ⟨od, J⟩ := exx_at hz hf I hd
  have hcl : (PySem.W.clsIn X.K D).isSome = true := by
    obtain ⟨cd, hcd, _⟩ := PySem.W.any_some C.hd
    rw [hcd]
    rfl
  exact PySem.W.kia_one (PySem.W.kitx_exc hcl C.hg C.hk C.hs C.ha C.hn C.ht C.hm) I.kIn J e (fun z => nomatch z) fun tk => ⟨.bl b, H, I.tok tk, rfl, q⟩
theorem call_isXT (K : PySem.W.Frag) (hK : X.K = K) (C : ExcC K D) (hz : Zc cls d0 oe) (hf : ∃ vs, oe.data = .fields vs) : CallR (X.suite a ((a, oe) :: pn)) (.builtin "isinstance") (rIsXT K D a cls d0) := by
  intro pins s σ H xs us Q I r h
  obtain ⟨rfl, d, tp, cs, ws, b, fs, rfl, rfl, hT, hk, hd, e, q⟩ := h
  subst hK
  obtain ⟨u1, u2, rfl, r1, r2⟩ := vals2 r
  cases (show u1 = Value.ref a from r1)
  cases (show u2 = Value.ref tp from r2)
  obtain ⟨od, J⟩ := exx_at hz hf I hd
  obtain ⟨_, its, rv, o, g1, g2, n, g3⟩ := (show ObjOk X.prog X.w H s.heap tp (.tup cs) from I.hok tp _ hT)
  obtain rfl := ClsV.all hk rv
  obtain ⟨oc, od2, dt, sl⟩ := o
  simp only at g2 g3
  subst g2 g3
  have hcl : (PySem.W.clsIn X.K D).isSome = true := by
    obtain ⟨cd, hcd, _⟩ := PySem.W.any_some C.hd
    rw [hcd]
    rfl
  exact PySem.W.kia_tup (PySem.W.kitx_exc hcl C.hg C.hk C.hs C.ha C.hn C.ht C.hm) I.kIn J g1 e (fun z => nomatch z) fun tk => ⟨.bl b, H, I.tok tk, rfl, q⟩
end

/-- what follows a wrapped statement, said once -/
theorem jnS {a b : TS} {D : Ends} {σ : L2.St} {H : Hp} (M : L2.St → Hp → Prop) (h2 : ∀ σ H, M σ H → b D σ H) (h1 : ∀ N : L2.St → Hp → Prop, (∀ σ H, M σ H → N σ H) → a { D with nx := N } σ H) : tSeq (tMk a) b D σ H := by
  rw [tMk_eq]
  exact h1 (b D) h2

mutual
/-- no lists inside -/
def noL : PyData → Bool
  | .list _ => false
  | .dict _ => false
  | .tuple ds => noLs ds
  | _ => true
def noLs : List PyData → Bool
  | [] => true
  | d :: ds => noL d && noLs ds
end
mutual
theorem Dh.tups {H H' : Hp} (s : ∀ a us, H a = some (.tup us) → H' a = some (.tup us)) : ∀ (d : PyData) (x : V), noL d = true → Dh H d x → Dh H' d x
  | .none, x, _, h => h
  | .bool b, x, _, h => h
  | .int i, x, _, h => h
  | .str i, x, _, h => h
  | .list ds, x, n, h => by cases n
  | .tuple ds, x, n, h => by
    obtain ⟨a, xs, e, g, r⟩ := h
    exact ⟨a, xs, e, s _ _ g, DhAll.tups s ds xs n r⟩
  | .dict _, x, n, h => by cases n
theorem DhAll.tups {H H' : Hp} (s : ∀ a us, H a = some (.tup us) → H' a = some (.tup us)) : ∀ (ds : List PyData) (xs : List V), noLs ds = true → DhAll H ds xs → DhAll H' ds xs
  | [], xs, _, h => h
  | d :: ds, xs, n, h => by
    obtain ⟨v, vs, e, g, r⟩ := h
    have n2 : noL d = true ∧ noLs ds = true := Bool.and_eq_true_iff.mp n
    exact ⟨v, vs, e, Dh.tups s d v n2.1 g, DhAll.tups s ds vs n2.2 r⟩
end
theorem DhAll.snoc {H : Hp} : ∀ {ds : List PyData} {xs : List V} {d : PyData} {x : V}, DhAll H ds xs → Dh H d x → DhAll H (ds ++ [d]) (xs ++ [x])
  | [], xs, d, x, h, hx => by
    cases (show xs = [] from h)
    exact ⟨x, [], rfl, hx, rfl⟩
  | d' :: ds, xs, d, x, h, hx => by
    obtain ⟨v, vs, rfl, h1, h2⟩ := h
    exact ⟨v, vs ++ [x], rfl, h1, DhAll.snoc h2 hx⟩

/-! ### for a, b in zip(text, list) -/
def ItzS (K : PySem.W.Frag) (x : Str) (b : Addr) : It :=
  ⟨fun i H => ∃ (ys : List V) (c : Nat) (y : V), SqL K H b ys ∧ x.cps[i]? = some c ∧ ys[i]? = some y,
    fun i H v H' => ∃ T c y, v = .ref T ∧ H T = none ∧ H' = upd H T (.tup [.str ⟨#[c]⟩, y]) ∧ x.cps[i]? = some c ∧ ∀ ys, SqL K H b ys → ys[i]? = some y,
    fun i H => ∃ ys : List V, SqL K H b ys ∧ i ≤ ys.length ∧ i ≤ x.cps.size ∧ (x.cps.size = i ∨ ys.length = i)⟩
structure SepS (z TI TO i1 i2 b : Addr) : Prop where
  s : ZipSep2 z TI TO i1 i2 [i1] [i2, b]
  b1 : b ≠ i2
theorem sepS_at (N b : Nat) (h : b < N) : SepS (N + 4) (N + 2) (N + 3) N (N + 1) b := by
  have nn : ∀ {x y : Nat}, x ≠ y → ¬ ((x : Addr) = (y : Addr)) := fun h => h
  have n1 : ∀ {x y : Nat}, x ≠ y → (x : Addr) ∉ [(y : Addr)] := fun h z => h (List.mem_singleton.mp z)
  have n2 : ∀ {x y w : Nat}, x ≠ y → x ≠ w → (x : Addr) ∉ [(y : Addr), (w : Addr)] := fun h k z => by
    rcases List.mem_cons.mp z with e | e
    · exact h e
    · exact k (List.mem_singleton.mp e)
  refine ⟨⟨nn (by omega), nn (by omega), nn (by omega), nn (by omega), List.mem_cons_self, n1 (by omega), n1 (by omega), nn (by omega), List.mem_cons_self, n2 (by omega) (by omega), n2 (by omega) (by omega), n2 (by omega) (by omega), n1 (by omega)⟩, nn (by omega)⟩
theorem turn_zipS {P : Program} {w : World} {K : PySem.W.Frag} {elts : List Expr} {kk : Nat} {tpos : Pos} {x : Str} {t : Tok} {b z TI TO i1 i2 : Addr} (D : SepS z TI TO i1 i2 b) :
    Turn P w K (.Tuple elts kk tpos) (ItzS K x b) [z, TI, TO, i1, i2] z (fun i h => IsZip h z TI TO .none ∧ IsTupOf2 h TI (.ref i1) (.ref i2) ∧ (∃ x y, IsTupOf2 h TO x y) ∧ h.IsStrIter i1 (strIterType x) x t i ∧ h.IsListIter i2 b i) where
  mem := by simp
  obj := fun i h st c hc => by
    obtain ⟨hz, hTI, ⟨x, y, hTO⟩, ⟨o1, e1, _, d1⟩, ⟨o2, e2, _, d2⟩⟩ := st
    simp only [List.mem_cons, List.not_mem_nil, or_false] at hc
    rcases hc with q | q | q | q | q
    · rw [q]; exact ⟨_, hz, fun v q => nomatch q⟩
    · rw [q]; exact ⟨_, hTI, fun v q => nomatch q⟩
    · rw [q]; exact ⟨_, hTO, fun v q => nomatch q⟩
    · rw [q]; exact ⟨o1, e1, fun v q => by rw [d1] at q; cases q⟩
    · rw [q]; exact ⟨o2, e2, fun v q => by rw [d2] at q; cases q⟩
  keep := fun i h h' st k => by
    obtain ⟨hz, hTI, ⟨x, y, hTO⟩, ⟨o1, e1, r1⟩, h2⟩ := st
    exact ⟨k z (by simp) _ hz, k TI (by simp) _ hTI, ⟨x, y, k TO (by simp) _ hTO⟩, ⟨o1, k i1 (by simp) _ e1, r1⟩, h2.at fun o q => k i2 (by simp) o q⟩
  item := by
    intro X hP hw hK hc i pins s σ H E I hf st hg
    subst hP hw hK
    obtain ⟨hz, hTI, ⟨x0, y0, hTO⟩, h1, h2⟩ := st
    obtain ⟨ys, c, y, hq, hcx, hy⟩ := hg
    obtain ⟨its, rv, p, _⟩ := I.list hq
    obtain ⟨u2, hu2, ru2⟩ := rv.get hy
    have hzl : z < s.heap.objs.size := Heap.lt_size hz
    have hh := I.ok.hd hc
    have l1 : i < x.cps.size := (Array.getElem?_eq_some_iff.mp hcx).1
    have l2 : i < its.toArray.size := by rw [List.size_toArray]; exact (List.getElem?_eq_some_iff.mp hu2).1
    refine wpAny_pyNext_zipD2_item D.s (Draws.text (A := X.A.in1) hh i1 x t) (Draws.list (A := X.A.in1) hh i2 b D.b1 its.toArray) hz hTI hTO h1 ⟨h2, p.isList⟩ l1 l2 fun v1 v2 h' tk p1 p2 z' TO' st1 st2 hT hsz hk => ?_
    obtain ⟨c', tc, ec, rfl⟩ := p1
    obtain rfl : c' = c := Option.some.inj (ec.symm.trans hcx)
    have e2 : its[i]? = some v2 := by simpa using p2
    obtain rfl : v2 = u2 := Option.some.inj (e2.symm.trans hu2)
    refine ⟨_, rfl, wpAny_letOwnedTupleGo_zip (s := { s with heap := h', toks := tk }) z' fun h'' z'' sb => ?_⟩
    have hT2 : h''.get? s.heap.objs.size = some { cls := .type "tuple", data := .seq #[.str ⟨#[c']⟩ tc, v2] } := (sb.2 _ (Nat.ne_of_gt hzl)).trans hT
    have nw : ObjOk X.prog X.w (upd H s.heap.objs.size (.tup [.str ⟨#[c']⟩, y])) h'' s.heap.objs.size (.tup [.str ⟨#[c']⟩, y]) := ⟨sz, [.str ⟨#[c']⟩ tc, v2], .cons ⟨_, rfl⟩ (.cons ru2 .nil), ⟨_, hT2, rfl, _, rfl⟩⟩
    have I1 : Inv X pins σ (upd H s.heap.objs.size (.tup [.str ⟨#[c']⟩, y])) { s with heap := h'', toks := tk } := I.turnedNew (t' := tk) (ch := [z, TI, TO, i1, i2]) (fun b o hb q => by
      simp only [List.mem_cons, List.not_mem_nil, or_false, not_or] at hb
      exact (sb.2 b hb.1).trans (hk b o hb.1 hb.2.2.1 hb.2.2.2.1 hb.2.2.2.2 q)) hf (Nat.le_refl _) nw
    refine ⟨.ref s.heap.objs.size, _, I1, rfl, ⟨_, c', y, rfl, I.hok.fresh (Nat.le_refl _), rfl, hcx, fun l hl => by rw [I.list_inj hl hq]; exact hy⟩, ⟨z'', ?_, ⟨_, _, (sb.2 _ D.s.TOz).trans TO'⟩, ?_, ?_⟩, fun b hb => ?_⟩
    · exact (sb.2 _ D.s.TIz).trans (hk _ _ D.s.TIz D.s.TITO D.s.TIi1 D.s.TIi2 hTI)
    · obtain ⟨o, g, r⟩ := st1
      exact ⟨o, (sb.2 _ D.s.zi1.symm).trans g, r⟩
    · exact st2.1.at fun o q => (sb.2 _ D.s.zi2.symm).trans q
    · have hlt : b < s.heap.objs.size := by
        simp only [List.mem_cons, List.not_mem_nil, or_false] at hb
        rcases hb with q | q | q | q | q
        · rw [q]; exact hzl
        · rw [q]; exact Heap.lt_size hTI
        · rw [q]; exact Heap.lt_size hTO
        · rw [q]; obtain ⟨_, e1, _⟩ := h1; exact Heap.lt_size e1
        · rw [q]; obtain ⟨_, e1, _⟩ := h2; exact Heap.lt_size e1
      rw [upd_ne (Nat.ne_of_lt hlt)]
      exact (hf b hb).1
  done := by
    intro X hP hw hK hc i pins s σ H E I hf st hg
    subst hP hw hK
    obtain ⟨hz, hTI, ⟨x0, y0, hTO⟩, h1, h2⟩ := st
    obtain ⟨ys, hq, l1, l2, hend⟩ := hg
    obtain ⟨its, rv, p, _⟩ := I.list hq
    have ll := rv.length
    have hh := I.ok.hd hc
    exact wpAny_pyNext_zipD2_end D.s (Draws.text (A := X.A.in1) hh i1 x t) (Draws.list (A := X.A.in1) hh i2 b D.b1 its.toArray) hz hTI hTO h1 ⟨h2, p.isList⟩ l2 (by rw [List.size_toArray]; omega) (hend.elim (fun e => .inl e.symm) fun e => .inr (by rw [List.size_toArray]; omega)) fun h' tk hk => ⟨rfl, I.turnedL (t' := tk) (ch := [z, TI, TO, i1, i2]) (fun b o hb q => by
      simp only [List.mem_cons, List.not_mem_nil, or_false, not_or] at hb
      exact hk b o hb.1 hb.2.2.1 hb.2.2.2.1 hb.2.2.2.2 q) hf⟩
  self := fun A i s Q E st h => wpAny_pyIter_zip st.1 h
def iZipS (K : PySem.W.Frag) (ta : TA) : TI := fun σ H R => ta σ H fun vs H1 => ∃ x b ys, vs = [.str x, .ref b] ∧ SqL K H1 b ys ∧ R (ItzS K x b) H1
theorem pi_zipS {X : Cx} {e e2 : Expr} {ta : TA} {p pos tpos : Pos} {elts : List Expr} {kk : Nat} (hg : Gl X "zip") (hm : X.mg "zip" = none) (ha : PA X [e, e2] ta)
    (hs : starEach [e, e2] X.env = (false, eval e X.env) :: starEach [e2] X.env := by rfl) (hpl : (backTo pos (starEach [e2] X.env)).any (·.1) = false := by rfl) :
    PI X (.Tuple elts kk tpos) (.Call (.Name "zip" p) [e, e2] [] pos) (iZipS X.K ta) := by
  refine ⟨fun pins s σ H R I h => Call_ (ld_blt I hg hm PyProof.Rows.boot_zip (PyProof.Rows.callWith_type1 (thn (ha.run pos pins s σ H _ I h) fun us s1 ⟨vs, H1, I1, r1, q1⟩ => ?_) hs hpl))⟩
  obtain ⟨x, b, ys, ex, hq, q⟩ := q1
  subst ex
  cases r1 with
  | cons r rr =>
    cases rr with
    | cons r' rr =>
      cases rr
      obtain ⟨t, rfl⟩ := r
      cases r'
      obtain ⟨its, rv, p1, _⟩ := I1.list hq
      have lb : b < s1.heap.objs.size := p1.lt
      refine zip_begins2 (begins_text x t) (begins_list b its.toArray) trivial p1.isList fun h' hz hTI hTO g1 g2 hsz hk => wpAny_pyIter_zip hz ?_
      have I2 : Inv X pins σ H1 { s1 with heap := h' } := I1.kept (t' := s1.toks) hk
      have S : SepS (s1.heap.objs.size + 4) (s1.heap.objs.size + 2) (s1.heap.objs.size + 3) s1.heap.objs.size (s1.heap.objs.size + 1) b := sepS_at _ _ lb
      refine ⟨s1.heap.objs.size + 4, [s1.heap.objs.size + 4, s1.heap.objs.size + 2, s1.heap.objs.size + 3, s1.heap.objs.size, s1.heap.objs.size + 1], _, _, H1, rfl, I2, turn_zipS (t := t) S, ⟨hz, hTI, ⟨_, _, hTO⟩, ⟨_, g1, rfl, rfl⟩, ⟨_, g2, rfl, rfl⟩⟩, fun c hcm => ?_, q⟩
      have hle : s1.heap.objs.size ≤ c := by
        simp only [List.mem_cons, List.not_mem_nil, or_false] at hcm
        rcases hcm with z | z | z | z | z
        · rw [z]; exact Nat.le_add_right _ _
        · rw [z]; exact Nat.le_add_right _ _
        · rw [z]; exact Nat.le_add_right _ _
        · exact Nat.le_of_eq z.symm
        · rw [z]; exact Nat.le_add_right _ _
      exact I1.fpOk hle (I1.hok.fresh hle)

section

-- a condition of an operator
local macro_rules | `(tactic| walk_at "cond") => `(tactic| first
  | (show (0 : Int) < _; omega)
  | (show CDiv _ _; constructor <;> (first | decide | omega))
  | (show CMul _ _; first | (refine cmul_l ?_; constructor <;> (first | decide | omega)) | (refine cmul_r ?_; constructor <;> (first | decide | omega)))
  | (show CPow _ _; exact (by refine ⟨by decide, by decide, by decide⟩))
  | (show CDivW _ _; exact ⟨by decide, by decide +kernel⟩))
local macro_rules | `(tactic| walk_at "sq") => `(tactic| first | assumption | exact Dh.mono (same_upd (by assumption)) _ _ (by assumption) | exact .inl (.inl (.inl (by assumption))) | exact .inr (.inl (.inl (by assumption))) | exact SqL.of (by assumption) | exact .inl (by assumption) | exact .inl (SqL.of (by assumption)) | exact SqT.of (by assumption) | exact .inr (SqT.of (by assumption)))
local macro_rules | `(tactic| walk_at "st") => `(tactic| first
  | refine ⟨_, rfl, ?_⟩
  | refine ⟨_, _, rfl, rfl, ?_⟩
  | refine .inl ⟨_, rfl, ?_⟩
  | refine ⟨rfl, ?_⟩
  | refine ⟨_, _, rfl, by walk_at "sq", ?_⟩
  | refine ⟨.inl ⟨rfl, _, SqL.of (by assumption)⟩, ?_⟩
  | refine ⟨by walk_at "cond", ?_⟩
  | (refine' ifBT ?hh ?_; (case hh => first | rfl | assumption))
  | (refine' ifBF ?hh ?_; (case hh => first | rfl | assumption)))
local macro_rules | `(tactic| walk_at "go") => `(tactic| repeat walk_at "st")
local macro_rules | `(tactic| walk_at "yes") => `(tactic| (refine' ifT ?hh ?_; (case hh => first | rfl | decide +kernel)))
local macro_rules | `(tactic| walk_at "no") => `(tactic| (refine' ifF ?hh ?_; (case hh => first | decide +kernel | (intro z; cases z; done))))

/-! ### _law_number -/
/-- n times // 1000 -/
def itd : Nat → Int → Int
  | 0, r => r
  | n + 1, r => itd n r / 1000
theorem itd_zero : ∀ n, itd n 0 = 0
  | 0 => rfl
  | n + 1 => by
    show itd n 0 / 1000 = 0
    rw [itd_zero n]
    rfl
theorem itd_add (r : Int) (h : itd n r = 0) : ∀ m, itd (n + m) r = 0
  | 0 => h
  | m + 1 => by
    show itd (n + m) r / 1000 = 0
    rw [itd_add r h m]
    rfl
theorem itd_nn {r : Int} (h : 0 ≤ r) : ∀ n, 0 ≤ itd n r
  | 0 => h
  | n + 1 => Int.ediv_nonneg (itd_nn h n) (by decide)
def nCell (ns : List Int) (i : Int) : Int := if ns.length = 0 then 0 else (ns.getD (i % (ns.length : Int)).toNat 0).natAbs
def nTurn (ns : List Int) (i : Int) : Int := if ns.length = 0 then i else i / (ns.length : Int)
def nPick (ns : List Int) (i k : Int) : Int := k + 16 * nTurn ns i
def nMix (c p : Int) : Int :=
  let a := (c + 7919 * p + 13) % 2147483647
  let b := (a * (a + 48271)) % 2147483629
  (b * (b + 69621) + 31 * p) % 2147483647
def num (ns : List Int) (i k size : Int) : Int :=
  let c := nCell ns i
  let p := nPick ns i k
  if c ≥ 10 ^ 18 then
    if itd p.toNat (c / 10 ^ 18) > 0 then itd p.toNat (c / 10 ^ 18) % 1000 % size else nMix c p / 9 % size
  else nMix c p / 9 % size
theorem num_nn {ns : List Int} {i k size : Int} (h : 0 < size) : 0 ≤ num ns i k size := by
  unfold num
  dsimp only
  split
  · split
    · exact Int.emod_nonneg _ (by omega)
    · exact Int.emod_nonneg _ (by omega)
  · exact Int.emod_nonneg _ (by omega)
theorem num_lt {ns : List Int} {i k size : Int} (h : 0 < size) : num ns i k size < size := by
  unfold num
  dsimp only
  split
  · split
    · exact Int.emod_lt_of_pos _ h
    · exact Int.emod_lt_of_pos _ h
  · exact Int.emod_lt_of_pos _ h
def spNum (K : PySem.W.Frag) : Sp := fun vs H Q _ => ∃ (a : Addr) (ns : List Int) (i k size : Int), vs = [.ref a, .int i, .int k, .int size] ∧ SqL K H a (ns.map V.int) ∧ ns.length ≤ 63 ∧
  0 ≤ i ∧ i ≤ 1000000000 ∧ 0 ≤ k ∧ k ≤ 1000000000 ∧ 0 < size ∧ Q (.int (num ns i k size)) H

abbrev s_number : Stmt := topS 19
theorem sc_number : FnScope ["_law_script", "_law_at", "_law_k", "_law_size", "_law_cell", "_law_turn", "_law_pick", "_law_rest", "_law_step", "_law_mixed"] ["_law_script", "_law_at", "_law_k", "_law_size"] (C8.fnScope s_number) := C8.fnScope_by (by decide +kernel)
section
variable {P : Program} {w : World} {K : PySem.W.Frag} {mg : Str → Option Value} {base : Heap}
theorem ok_number {f : Addr} {fd : FuncData} (D : Def K mg "_law_number" s_number f fd) (b : Binds K fd ["_law_script", "_law_at", "_law_k", "_law_size"] []) (T : Txt mg) : Cal P w K mg base 1 "_law_number" (spNum K) [] := by
  refine cal0 D b .nil sc_number (fun vs H Q E h => ?_) (fun cdv A outer s H vs Q E hr h => ?_)
  · obtain ⟨a, ns, i, k, size, rfl, _⟩ := h
    rfl
  obtain ⟨a, ns, i, k, size, rfl, hS, hl, i0, i1, k0, k1, hz, q⟩ := h
  refine ⟨_, (pss_cons (ps_set (i := 4) sc_number.nd rfl (.inl rfl) pe_int)
      (pss_cons (ps_set (i := 5) sc_number.nd rfl (.inl rfl) (pv 1))
      (pss_cons (ps_mk (ps_if (pt_cmpR op_gt (pe_callB (lenQ K rfl) (by rfl) T.len PySem.boot_len (pa_cons (pv 0) pa_nil)) pe_int (nomark _))
      (pss_cons (ps_set (i := 4) sc_number.nd rfl (.inl rfl) (pe_callB call_abs (by rfl) T.abs (by decide +kernel) (pa_cons (pe_ix (ixL K rfl) (pv 0) (pe_op op_mod (pe_callTy call_int1 (by rfl) T.int (by decide +kernel) (pa_cons (pv 1) pa_nil)) (pe_callB (lenQ K rfl) (by rfl) T.len PySem.boot_len (pa_cons (pv 0) pa_nil))) (fun _ _ => rfl)) pa_nil)))
      (pss_one (ps_set (i := 5) sc_number.nd rfl (.inl rfl) (pe_op op_fdiv (pv 1) (pe_callB (lenQ K rfl) (by rfl) T.len PySem.boot_len (pa_cons (pv 0) pa_nil))))))
      pss_nil))
      (pss_cons (ps_set (i := 6) sc_number.nd rfl (.inl rfl) (pe_op op_add (pv 2) (pe_op op_mul pe_int (pv 5))))
      (pss_cons (ps_mk (ps_if (pt_cmpR op_ge (pv 4) (pe_op op_pow pe_int pe_int) (nomark _))
      (pss_cons (ps_set (i := 7) sc_number.nd rfl (.inl rfl) (pe_op op_fdivW (pv 4) (pe_op op_pow pe_int pe_int)))
      (pss_cons (ps_mk (ps_for PassesOwn.never rfl (pi_range1 (by rfl) T.range (pa_cons (pv 6) pa_nil)) (pg_name (i := 8) sc_number.nd rfl (.inl rfl))
      (pss_cons (ps_mk (ps_if (pt_cmpR op_eq (pv 7) pe_int (nomark _))
      (pss_one ps_break)
      pss_nil))
      (pss_one (ps_set (i := 7) sc_number.nd rfl (.inl rfl) (pe_op op_fdiv (pv 7) pe_int))))))
      (pss_one (ps_mk (ps_if (pt_cmpR op_gt (pv 7) pe_int (nomark _))
      (pss_one (ps_ret (pe_op op_mod (pe_callTy call_int1 (by rfl) T.int (by decide +kernel) (pa_cons (pe_op op_mod (pe_callTy call_int1 (by rfl) T.int (by decide +kernel) (pa_cons (pv 7) pa_nil)) pe_int) pa_nil)) (pv 3))))
      pss_nil)))))
      pss_nil))
      (pss_cons (ps_set (i := 9) sc_number.nd rfl (.inl rfl) (pe_op op_mod (pe_callTy call_int1 (by rfl) T.int (by decide +kernel) (pa_cons (pe_op op_add (pe_op op_add (pv 4) (pe_op op_mul pe_int (pv 6))) pe_int) pa_nil)) pe_int))
      (pss_cons (ps_set (i := 9) sc_number.nd rfl (.inl rfl) (pe_op op_mod (pe_callTy call_int1 (by rfl) T.int (by decide +kernel) (pa_cons (pe_op op_mul (pv 9) (pe_op op_add (pv 9) pe_int)) pa_nil)) pe_int))
      (pss_cons (ps_set (i := 9) sc_number.nd rfl (.inl rfl) (pe_op op_mod (pe_callTy call_int1 (by rfl) T.int (by decide +kernel) (pa_cons (pe_op op_add (pe_op op_mul (pv 9) (pe_op op_add (pv 9) pe_int)) (pe_op op_mul pe_int (pv 6))) pa_nil)) pe_int))
      (pss_one (ps_ret (pe_op op_mod (pe_callTy call_int1 (by rfl) T.int (by decide +kernel) (pa_cons (pe_op op_fdiv (pv 9) pe_int) pa_nil)) (pv 3)))))))))))), ?_⟩
  have hml : (ns.map V.int).length = ns.length := List.length_map _
  have t0 : 0 ≤ nTurn ns i ∧ nTurn ns i ≤ 1000000000 := by
    unfold nTurn
    split
    · exact ⟨i0, i1⟩
    · exact ⟨Int.ediv_nonneg i0 (by omega), Int.le_trans (Int.ediv_le_self _ i0) i1⟩
  have p0 : 0 ≤ nPick ns i k ∧ nPick ns i k ≤ 17000000000 := by
    unfold nPick
    omega
  walk_at "go"
  refine jn (M := fun σ H' => ∃ c t : Int, c = nCell ns i ∧ t = nTurn ns i ∧ H' = H ∧ σ = [sR a, sI i, sI k, sI size, sI c, sI t, none, none, none, none]) ?_ (fun N kk => ?_)
  · rintro σ H' ⟨c, t, ec, et, rfl, rfl⟩
    walk_at "go"
    -- behind the pick
    have ep : k + 16 * t = nPick ns i k := by
      rw [et]
      rfl
    have c0 : 0 ≤ c := by
      rw [ec]
      unfold nCell
      split <;> omega
    have en : c < 10 ^ 18 ∨ ¬ itd (nPick ns i k).toNat (c / 10 ^ 18) > 0 → num ns i k size = nMix c (nPick ns i k) / 9 % size := fun h => by
      unfold num
      dsimp only
      rw [← ec]
      rcases h with h | h
      · rw [if_neg (by omega)]
      · split
        · rfl
        · rfl
    refine jn (M := fun σ H2 => H2 = H' ∧ (c < 10 ^ 18 ∨ ¬ itd (nPick ns i k).toNat (c / 10 ^ 18) > 0) ∧ ∃ y8 y9, σ = [sR a, sI i, sI k, sI size, sI c, sI t, sI (nPick ns i k), y8, y9, none]) ?_ (fun N kk => ?_)
    · rintro σ H2 ⟨rfl, hc, y8, y9, rfl⟩
      walk_at "go"
      have e := en hc
      unfold nMix at e
      dsimp only at e
      rw [e] at q
      exact q
    · walk_at "go"
      refine ifD (fun g => ?_) (fun g => ?_)
      · have g' : c ≥ 10 ^ 18 := g
        walk_at "go"
        have r0 : 0 ≤ c / 10 ^ 18 := Int.ediv_nonneg c0 (by decide)
        refine jn (M := fun σ H2 => H2 = H' ∧ ∃ y9, σ = [sR a, sI i, sI k, sI size, sI c, sI t, sI (nPick ns i k), sI (itd (nPick ns i k).toNat (c / 10 ^ 18)), y9, none]) ?_ (fun N2 k2 => ?_)
        · rintro σ H2 ⟨rfl, y9, rfl⟩
          refine un ?_
          walk_at "go"
          refine ifD (fun g2 => ?_) (fun g2 => ?_)
          · walk_at "go"
            have e : num ns i k size = itd (nPick ns i k).toNat (c / 10 ^ 18) % 1000 % size := by
              unfold num
              dsimp only
              rw [← ec, if_pos g', if_pos g2]
            rw [e] at q
            exact q
          · walk_at "go"
            exact kk _ _ ⟨rfl, .inr g2, _, _, rfl⟩
        · walk_at "go"
          refine ⟨(show -(2 ^ 62) ≤ k + 16 * t by omega), (show k + 16 * t < 2 ^ 62 by omega), for_range (lo := 0) (n := (k + 16 * t).toNat) (fun j σ H2 => Ob (H2 = H' ∧ ∃ y9, σ = [sR a, sI i, sI k, sI size, sI c, sI t, sI (nPick ns i k), sI (itd j (c / 10 ^ 18)), y9, none])) (ob ⟨rfl, none, ?_⟩) ?_ ?_⟩
          · rw [← ep]
            rfl
          · rintro j σ H2 hj h
            obtain ⟨rfl, y9, rfl⟩ := unob h
            refine un ?_
            walk_at "go"
            refine ifEq (fun z => ?_) (fun z => ?_)
            · walk_at "go"
              refine k2 _ _ ⟨rfl, sI (0 + (j : Int)), ?_⟩
              have z2 : itd (nPick ns i k).toNat (c / 10 ^ 18) = 0 := by
                have z3 := itd_add _ z ((nPick ns i k).toNat - j)
                rw [show j + ((nPick ns i k).toNat - j) = (nPick ns i k).toNat by omega] at z3
                exact z3
              rw [z2, ← z]
              rfl
            · walk_at "go"
              exact ob ⟨rfl, _, rfl⟩
          · rintro σ H2 h
            obtain ⟨rfl, y9, rfl⟩ := unob h
            refine k2 _ _ ⟨rfl, y9, ?_⟩
            rw [ep]
      · walk_at "go"
        have g' : ¬ c ≥ 10 ^ 18 := g
        refine kk _ _ ⟨rfl, .inl (by omega), none, none, ?_⟩
        rw [← ep]
        rfl
  · walk_at "go"
    refine ifD (fun c => ?_) (fun c => ?_)
    · walk_at "go"
      rw [hml] at c
      refine ⟨_, _, _, _, rfl, rfl, hS, atI_getD (Int.emod_nonneg _ (by omega)) (by rw [hml]; exact Int.emod_lt_of_pos _ (by omega)), ?_⟩
      walk_at "go"
      refine kk _ _ ⟨_, _, ?_, ?_, rfl, rfl⟩
      · unfold nCell
        rw [if_neg (show ¬ ns.length = 0 by omega)]
        simp only [hml]
        split
        · omega
        · omega
      · unfold nTurn
        rw [if_neg (by omega), hml]
    · walk_at "go"
      rw [hml] at c
      refine kk _ _ ⟨_, _, ?_, ?_, rfl, rfl⟩
      · unfold nCell
        rw [if_pos (by omega)]
      · unfold nTurn
        rw [if_pos (by omega)]
end

/-! ### _law_is_whole, _law_same -/
abbrev s_is_whole : Stmt := topS 20
theorem sc_is_whole : FnScope ["_law_told"] ["_law_told"] (C8.fnScope s_is_whole) := C8.fnScope_by (by decide +kernel)
abbrev s_same : Stmt := topS 21
theorem sc_same : FnScope ["_law_told", "_law_due", "_law_k"] ["_law_told", "_law_due"] (C8.fnScope s_same) := C8.fnScope_by (by decide +kernel)
def spWhole : Sp := fun vs H Q _ => ∃ (x : V) (d : PyData), vs = [x] ∧ Dh H d x ∧ Q (.bl (isI d)) H
def spSame (n : Nat) : Sp := fun vs H Q _ => ∃ (x y : V) (d e : PyData), vs = [x, y] ∧ Dh H d x ∧ Dh H e y ∧ Dle n e ∧ ∀ (b : Bool) (H' : Hp), (b = true ↔ d = e) → Same H H' → Q (.bl b) H'
section
variable {P : Program} {w : World} {K : PySem.W.Frag} {mg : Str → Option Value} {base : Heap}
theorem ok_whole {f : Addr} {fd : FuncData} (D : Def K mg "_law_is_whole" s_is_whole f fd) (b : Binds K fd ["_law_told"] []) (T : Txt mg) : Cal P w K mg base 1 "_law_is_whole" spWhole [] := by
  refine cal0 D b .nil sc_is_whole (fun vs H Q E h => ?_) (fun cdv A outer s H vs Q E hr h => ?_)
  · obtain ⟨x, d, rfl, _⟩ := h
    rfl
  obtain ⟨x, d, rfl, hx, q⟩ := h
  refine ⟨_, (pss_one (ps_ret (pe_and (pe_callB is_int (by rfl) T.isinstance (by decide +kernel) (pa_cons (pv 0) (pa_cons (pe_bltn (v := .ty "int") (by rfl) T.int (by decide +kernel) rfl) pa_nil))) (pe_one (pe_not (pe_callB is_bool (by rfl) T.isinstance (by decide +kernel) (pa_cons (pv 0) (pa_cons (pe_bltn (v := .ty "bool") (by rfl) T.bool (by decide +kernel) rfl) pa_nil)))))))), ?_⟩
  cases d <;> (walk_at "go"; exact q)
theorem ok_same_step {f : Addr} {fd : FuncData} (D : Def K mg "_law_same" s_same f fd) (b : Binds K fd ["_law_told", "_law_due"] []) (T : Txt mg) (c_is_whole : Cal P w K mg base 1 "_law_is_whole" spWhole []) {n : Nat}
    (c_same : Cal P w K mg base (n + 1) "_law_same" (spSame n) []) : Cal P w K mg base (n + 2) "_law_same" (spSame (n + 1)) [] := by
  refine cal0 D b .nil sc_same (fun vs H Q E h => ?_) (fun cdv A outer s H vs Q E hr h => ?_)
  · obtain ⟨x, y, d, e, rfl, _⟩ := h
    rfl
  obtain ⟨x, y, d, e, rfl, hx, hy, he, q⟩ := h
  refine ⟨_, (pss_cons (ps_mk (ps_if (pt_val (pe_callB is_lt (by rfl) T.isinstance (by decide +kernel) (pa_cons (pv 1) (pa_cons (pe_tup (pa_cons (pe_bltn (v := .ty "list") (by rfl) T.list (by decide +kernel) rfl) (pa_cons (pe_bltn (v := .ty "tuple") (by rfl) T.tuple (by decide +kernel) rfl) pa_nil))) pa_nil))))
      (pss_cons (ps_mk (ps_if (PW.pt (pw_or (pt_not (pt_val (pe_callB is_lt (by rfl) T.isinstance (by decide +kernel) (pa_cons (pv 0) (pa_cons (pe_tup (pa_cons (pe_bltn (v := .ty "list") (by rfl) T.list (by decide +kernel) rfl) (pa_cons (pe_bltn (v := .ty "tuple") (by rfl) T.tuple (by decide +kernel) rfl) pa_nil))) pa_nil))))) (pw_or1 (pt_cmpR op_ne (pe_callB is_list (by rfl) T.isinstance (by decide +kernel) (pa_cons (pv 0) (pa_cons (pe_bltn (v := .ty "list") (by rfl) T.list (by decide +kernel) rfl) pa_nil))) (pe_callB is_list (by rfl) T.isinstance (by decide +kernel) (pa_cons (pv 1) (pa_cons (pe_bltn (v := .ty "list") (by rfl) T.list (by decide +kernel) rfl) pa_nil))) (nomark _)))))
      (pss_one (ps_ret pe_bl))
      pss_nil))
      (pss_cons (ps_mk (ps_if (pt_cmpR op_ne (pe_callB (lenQ K rfl) (by rfl) T.len PySem.boot_len (pa_cons (pv 0) pa_nil)) (pe_callB (lenQ K rfl) (by rfl) T.len PySem.boot_len (pa_cons (pv 1) pa_nil)) (nomark _))
      (pss_one (ps_ret pe_bl))
      pss_nil))
      (pss_one (ps_ret (pe_cmpR op_eq (pe_callB (lenQ K rfl) (by rfl) T.len PySem.boot_len (pa_cons (pe_lc (own := [("_law_k", 2)]) (g := gName 2) rfl sc_same.nd (pi_range1 (by rfl) T.range (pa_cons (pe_callB (lenQ K rfl) (by rfl) T.len PySem.boot_len (pa_cons (pv 1) pa_nil)) pa_nil)) (blkOk_by (own := [("_law_k", 2)]) (N := ["_law_told", "_law_due", "_law_k"]) (sc := C8.fnScope s_same) (by decide +kernel)) (fun _ _ _ _ _ => (pg_name (i := 2) sc_same.nd rfl (.inl rfl))) (fun _ _ _ _ _ => (pts_one (pt_not (pt_val (C8.pe_c c_same hr (by omega) (by rfl) (pa_cons (pe_ix (ixA K rfl) (pv 0) (pv 2) (fun _ _ => rfl)) (pa_cons (pe_ix (ixA K rfl) (pv 1) (pv 2) (fun _ _ => rfl)) pa_nil))))))) (fun _ _ _ _ _ => (pv 2))) pa_nil)) pe_int (nomark _))))))
      pss_nil))
      (pss_cons (ps_mk (ps_if (pt_val (pe_callB is_bool (by rfl) T.isinstance (by decide +kernel) (pa_cons (pv 1) (pa_cons (pe_bltn (v := .ty "bool") (by rfl) T.bool (by decide +kernel) rfl) pa_nil))))
      (pss_one (ps_ret (pe_and (pe_callB is_bool (by rfl) T.isinstance (by decide +kernel) (pa_cons (pv 0) (pa_cons (pe_bltn (v := .ty "bool") (by rfl) T.bool (by decide +kernel) rfl) pa_nil))) (pe_one (pe_cmpR op_eq (pv 0) (pv 1) (nomark _))))))
      pss_nil))
      (pss_cons (ps_mk (ps_if (pt_val (pe_callB is_int (by rfl) T.isinstance (by decide +kernel) (pa_cons (pv 1) (pa_cons (pe_bltn (v := .ty "int") (by rfl) T.int (by decide +kernel) rfl) pa_nil))))
      (pss_one (ps_ret (pe_and (C8.pe_c c_is_whole hr (by omega) (by rfl) (pa_cons (pv 0) pa_nil)) (pe_one (pe_cmpR op_eq (pv 0) (pv 1) (nomark _))))))
      pss_nil))
      (pss_cons (ps_mk (ps_if (pt_val (pe_callB is_str (by rfl) T.isinstance (by decide +kernel) (pa_cons (pv 1) (pa_cons (pe_bltn (v := .ty "str") (by rfl) T.str (by decide +kernel) rfl) pa_nil))))
      (pss_one (ps_ret (pe_and (pe_callB is_str (by rfl) T.isinstance (by decide +kernel) (pa_cons (pv 0) (pa_cons (pe_bltn (v := .ty "str") (by rfl) T.str (by decide +kernel) rfl) pa_nil))) (pe_one (pe_cmpR op_eq (pv 0) (pv 1) (nomark _))))))
      pss_nil))
      (pss_one (ps_ret (pe_and (pe_cmpR op_isN (pv 0) pe_non (nomark _)) (pe_one (pe_cmpR op_isN (pv 1) pe_non (nomark _)))))))))), ?_⟩
  refine jn (M := fun σ H' => Same H H' ∧ σ = [some x, some y, none] ∧ (isL e || isT e) = false) ?_ (fun N kk => ?_)
  · rintro σ H1 ⟨s1, rfl, hf⟩
    have hx1 := Dh.mono s1 _ _ hx
    have hy1 := Dh.mono s1 _ _ hy
    clear hx hy he
    cases e with
    | list es => cases hf
    | tuple es => cases hf
    | dict kvs => exact False.elim hy1
    | none =>
      cases (show y = V.non from hy1)
      cases d
      case dict => exact False.elim hx1
      all_goals first | (obtain ⟨_, _, e1, _, _⟩ := id hx1; cases e1) | (cases (show x = _ from hx1))
      all_goals repeat (first | refine un ?_ | walk_at "st")
      all_goals exact q _ _ (by simp) s1
    | bool c =>
      cases (show y = V.bl c from hy1)
      cases d
      case dict => exact False.elim hx1
      all_goals first | (obtain ⟨_, _, e1, _, _⟩ := id hx1; cases e1) | (cases (show x = _ from hx1))
      all_goals repeat (first | refine un ?_ | walk_at "st")
      all_goals exact q _ _ (by simp) s1
    | int c =>
      cases (show y = V.int c from hy1)
      cases d
      case dict => exact False.elim hx1
      all_goals first | (obtain ⟨_, _, e1, _, _⟩ := id hx1; cases e1) | (cases (show x = _ from hx1))
      all_goals repeat (first | refine un ?_ | walk_at "st")
      all_goals first | exact q _ _ (by simp) s1 | skip
      all_goals refine ⟨_, _, rfl, hx1, ?_⟩
      all_goals repeat (first | refine un ?_ | walk_at "st")
      all_goals exact q _ _ (by simp) s1
    | str c =>
      cases (show y = V.str c from hy1)
      cases d
      case dict => exact False.elim hx1
      all_goals first | (obtain ⟨_, _, e1, _, _⟩ := id hx1; cases e1) | (cases (show x = _ from hx1))
      all_goals repeat (first | refine un ?_ | walk_at "st")
      all_goals exact q _ _ (by simp) s1
  · walk_at "go"
    refine ⟨sz, fun p hp => ?_⟩
    refine ⟨_, _, _, rfl, upd_same, Dh.mono (same_upd hp) _ _ hy, ?_⟩
    walk_at "go"
    have s1 : Same H (upd H p (.tup [.ty "list", .ty "tuple"])) := same_upd hp
    have hx1 := Dh.mono s1 _ _ hx
    have hy1 := Dh.mono s1 _ _ hy
    cases hf : (isL e || isT e) with
    | false =>
      refine ifBF rfl ?_
      exact kk _ _ ⟨s1, rfl, hf⟩
    | true =>
      refine ifBT rfl ?_
      generalize upd H p (HO.tup [V.ty "list", V.ty "tuple"]) = H1 at *
      clear hx hy kk hp
      walk_at "go"
      refine jn (M := fun σ H2 => Same H1 H2 ∧ ∃ a c xs ys ds es, σ = [sR a, sR c, none] ∧ (SqL K H2 a xs ∨ SqT K H2 a xs) ∧ (SqL K H2 c ys ∨ SqT K H2 c ys) ∧ DhAll H2 ds xs ∧ DhAll H2 es ys ∧ es.length ≤ 100000 ∧ (∀ e' ∈ es, Dle n e') ∧ (d = e ↔ ds = es)) ?_ (fun N2 k2 => ?_)
      · rintro σ H2 ⟨s2, a, c, xs, ys, ds, es, rfl, hA, hC, hds, hes, hlen, hle, hiff⟩
        have lx := hds.len
        have ly := hes.len
        walk_at "go"
        refine jn (M := fun σ H3 => H3 = H2 ∧ σ = [sR a, sR c, none] ∧ ds.length = es.length) ?_ (fun N3 k3 => ?_)
        · rintro σ H3 ⟨rfl, rfl, el⟩
          walk_at "go"
          refine ⟨by omega, by omega, fun L hL => lc_range (lo := 0) (n := ((ys.length : Nat) : Int).toNat)
            (fun i H' => Ob (Same H3 H' ∧ ∃ acc, H' L = some (.lst acc) ∧ acc.length ≤ i ∧ (acc = [] ↔ ds.take i = es.take i))) (ob ⟨same_upd hL, [], upd_same, Nat.le_refl _, by simp⟩) ?_ ?_⟩
          · intro i H4 hi h4
            obtain ⟨s4, acc, g4, l4, e4⟩ := unob h4
            have hi2 : i < es.length := by omega
            have hi3 : i < ds.length := by omega
            obtain ⟨xv, ex, dx⟩ := hds.get (List.getElem?_eq_getElem hi3)
            obtain ⟨yv, ey, dy⟩ := hes.get (List.getElem?_eq_getElem hi2)
            have tk := take_succ_eq (List.getElem?_eq_getElem hi3) (List.getElem?_eq_getElem hi2)
            have ax : atI xs (0 + (i : Int)) = some xv := by
              rw [Int.zero_add]
              exact atI_nat ex
            have ay : atI ys (0 + (i : Int)) = some yv := by
              rw [Int.zero_add]
              exact atI_nat ey
            refine ⟨rfl, ?_⟩
            walk_at "go"
            refine ixAny (sqAny s4 hA) ax ?_
            walk_at "go"
            refine ixAny (sqAny s4 hC) ay ?_
            walk_at "go"
            refine ⟨_, _, _, _, rfl, Dh.mono s4 _ _ dx, Dh.mono s4 _ _ dy, hle _ (List.getElem_mem hi2), fun b5 H5 hb s5 => ?_⟩
            walk_at "go"
            refine ifN ?_
            cases b5 with
            | true =>
              refine ifBT rfl (ob ⟨s4.trans s5, acc, s5 _ _ g4, Nat.le_succ_of_le l4, ?_⟩)
              rw [e4, tk]
              exact ⟨fun z => ⟨z, hb.mp rfl⟩, fun z => z.1⟩
            | false =>
              refine ifBF rfl ?_
              walk_at "go"
              refine ⟨acc, s5 _ _ g4, sz5 (by omega), ob ⟨same_put (s4.trans s5) hL, _, upd_same, ?_, ?_⟩⟩
              · rw [List.length_append]
                exact Nat.add_le_add_right l4 1
              · constructor
                · intro z
                  exact absurd (congrArg List.length z) (by rw [List.length_append]; simp)
                · intro z
                  exact absurd (hb.mpr (tk.mp z).2) Bool.false_ne_true
          · intro H4 h4
            obtain ⟨s4, acc, g4, l4, e4⟩ := unob h4
            walk_at "go"
            refine q _ _ ?_ ((s1.trans s2).trans s4)
            rw [hiff]
            have et : ((ys.length : Nat) : Int).toNat = es.length := by omega
            rw [et, List.take_of_length_le (by omega), List.take_of_length_le (Nat.le_refl _)] at e4
            rw [← e4, decide_eq_true_iff]
            constructor
            · intro z
              have z2 := V.int.inj z
              exact List.eq_nil_of_length_eq_zero (by omega)
            · intro z
              rw [z]
              rfl
        · walk_at "go"
          refine ifNe (fun z => ?_) (fun z => ?_)
          · walk_at "go"
            refine q _ _ ?_ (s1.trans s2)
            rw [hiff]
            constructor
            · intro h
              cases h
            · intro h
              rw [h] at lx
              omega
          · walk_at "go"
            exact k3 _ _ ⟨rfl, rfl, by omega⟩
      · walk_at "go"
        refine ⟨sz, fun p2 hp2 => ?_⟩
        have s2 : Same H1 (upd H1 p2 (HO.tup [V.ty "list", V.ty "tuple"])) := same_upd hp2
        refine ⟨_, _, _, rfl, upd_same, Dh.mono s2 _ _ hx1, ?_⟩
        have hx2 := Dh.mono s2 _ _ hx1
        have hy2 := Dh.mono s2 _ _ hy1
        walk_at "go"
        generalize upd H1 p2 (HO.tup [V.ty "list", V.ty "tuple"]) = H2 at *
        clear hp2
        cases e with
        | none => cases hf
        | bool _ => cases hf
        | int _ => cases hf
        | str _ => cases hf
        | dict kvs => cases hf
        | list es =>
          obtain ⟨c, ys, rfl, gy, hes⟩ := id hy2
          cases d
          case dict => exact False.elim hx2
          case list ds =>
            obtain ⟨a, xs, rfl, gx, hds⟩ := id hx2
            walk_at "go"
            exact k2 _ _ ⟨s2, _, _, _, _, ds, es, rfl, .inl (.inl (.inl gx)), .inl (.inl (.inl gy)), hds, hes, he.1, he.2, by simp⟩
          all_goals walk_at "go"
          all_goals exact q _ _ (by simp) (s1.trans s2)
        | tuple es =>
          obtain ⟨c, ys, rfl, gy, hes⟩ := id hy2
          cases d
          case dict => exact False.elim hx2
          case tuple ds =>
            obtain ⟨a, xs, rfl, gx, hds⟩ := id hx2
            walk_at "go"
            exact k2 _ _ ⟨s2, _, _, _, _, ds, es, rfl, .inr (.inl (.inl gx)), .inr (.inl (.inl gy)), hds, hes, he.1, he.2, by simp⟩
          all_goals walk_at "go"
          all_goals exact q _ _ (by simp) (s1.trans s2)
theorem ok_same {f : Addr} {fd : FuncData} (D : Def K mg "_law_same" s_same f fd) (b : Binds K fd ["_law_told", "_law_due"] []) (T : Txt mg) (c_is_whole : Cal P w K mg base 1 "_law_is_whole" spWhole []) :
    ∀ n, Cal P w K mg base (n + 1) "_law_same" (spSame n) []
  | 0 => by
    have no : ∀ vs H Q E, ¬ spSame 0 vs H Q E := fun vs H Q E h => by
      obtain ⟨x, y, d, e, _, _, _, h1, _⟩ := h
      exact h1
    exact ⟨f, fd, _, _, ⟨fun vs H Q E h => absurd h (no vs H Q E), fun A outer s H args us vs Q E _ _ _ _ h => absurd h (no vs H Q E)⟩, D.mgf, D.kp, b, .nil⟩
  | n + 1 => ok_same_step D b T c_is_whole (ok_same D b T c_is_whole n)
end

end

/-! ### a try whose wish the body sees as a letter -/
def tTry (K : PySem.W.Frag) (c : Value) (i : Nat) (tb : WX → TS) (ts : Addr → Value → Option Addr → TS) (Wout : WX) : TS := fun D σ H => ∀ W : WX, (∀ cls d σ2 H2, wAs K c i ts Wout D cls d σ2 H2 → W cls d σ2 H2) → tb W D σ H
theorem ps_try_m {X : Cx} {x n : Str} {c : Value} {i : Nat} {body suite : List Stmt} {b0 : Stmt} {np pos pos2 : Pos} {tb : WX → TS} {ts : Addr → Value → Option Addr → TS} {Wout : WX} (hs : X.stack = X.env :: X.outer) (hf : X.env.frame = some X.env.locals) (hN : X.N.Nodup) (hi : X.N[i]? = some n) (hln : X.env.kindOf n = some .local) (hc : Names X x c) (tk : Takes X Wout)
    (hb : ∀ (W : WX) (pn : List (Addr × Obj)) (xe : Value → Shared → Prop), Takes (X.tr pn xe) W → PassesOwn (model X.prog X.w) X.A X.env xe → PSs (X.tr pn xe) body (tb W))
    (hu : ∀ (a : Addr) (oe : Obj) (cls : Value) (d : Option Addr) (pn : List (Addr × Obj)), Zc cls d oe → (∃ vs, oe.data = .fields vs) → PSs (X.suite a ((a, oe) :: pn)) (b0 :: suite) (ts a cls d)) :
    PS X (.Try body [.ExceptHandler (some (.Name x np)) (some n) (b0 :: suite) pos2] [] [] pos) (tTry X.K c i tb ts Wout) :=
  ⟨fun pins s σ H D I h => (ps_try_as hs hf hN hi hln hc tk hb hu).run pins s σ H D I (h _ fun _ _ _ _ z => z)⟩
/-- the catch takes it -/
theorem catch_yes {K : PySem.W.Frag} {c : Value} {i : Nat} {ts : Addr → Value → Option Addr → TS} {Wout : WX} {D : Ends} {cls : Value} {d : Option Addr} {σ : L2.St} {H : Hp} (e : PySem.W.exmOne K cls c = some true)
    (h : ∀ a, H a = none → ts a cls d { nx := fun σ' H' => D.nx (σ'.set i none) H', rt := D.rt, bk := fun σ' H' => D.bk (σ'.set i none) H', ct := fun σ' H' => D.ct (σ'.set i none) H' } (σ.set i (some (.ref a))) H) : wAs K c i ts Wout D cls d σ H :=
  ⟨true, e, fun _ => h, fun z => by cases z⟩

/-! ### lines and bytes -/
abbrev tS (i : Int) : Str := toString i
def wordS (c : Nat) : Str := (["halt", "set", "add", "sub", "load", "store", "loadw", "storew", "move", "jump", "fork"] : List Str).getD c ""
def kindS (c : Nat) : Str := (["", "rn", "rrr", "rrr", "rr", "rr", "rr", "rr", "rrr", "rn", "r"] : List Str).getD c ""
def formS (c : Nat) : Str := (["", "an", "abc", "abc", "ab", "ab", "ab", "ab", "abc", "an", "a"] : List Str).getD c ""
def By (bs : List Int) : Prop := ∀ b ∈ bs, 0 ≤ b ∧ b < 256
def lawK : List Nat → List Int → Str → Option (Str × List Int)
  | [], bs, l => some (l, bs)
  | k :: ks, bs, l => if k = 110 then lawK ks (bs.drop 2) (l ++ " " ++ tS (bs.getD 0 0 + 256 * bs.getD 1 0)) else if bs.getD 0 0 > 7 then none else lawK ks (bs.drop 1) (l ++ " " ++ tS (bs.getD 0 0))
def kindL (c : Nat) : List Nat := (kindS c).cps.toList
def formL (c : Nat) : List Nat := (formS c).cps.toList
def endL (o : Option (Str × List Int)) : Option Str := o.bind fun p => if p.2.all (· == 0) then some p.1 else none
def lawLine : List Int → Option Str
  | [] => none
  | c :: bs => if c > 10 then none else endL (lawK (kindL c.toNat) bs (wordS c.toNat))
def nameB (form : List Nat) (f : List Int) : List Bool := ((([97, 98, 99] : List Nat).zip f).filter fun p => decide (p.1 ∈ form)).map fun p => decide (p.2 < 8)
def fieldP (form : List Nat) (ops : List Int) : List Int := (form.zip ops).flatMap fun p => if p.1 = 110 then [p.2 % 256, p.2 / 256] else [p.2]
def fieldsP (form : List Nat) (ops : List Int) : List Int := fieldP form ops ++ List.replicate (3 - (fieldP form ops).length) 0
def opsP (c : Nat) (x y z : Int) : List Int := if formS c = "an" then [x, y + 256 * z] else [x, y, z].take (formL c).length
def progLine : List Int → Option Str
  | [c, x, y, z] => if c ≥ 11 then none else if (nameB (formL c.toNat) [x, y, z]).all id = false then none
      else if [c] ++ fieldsP (formL c.toNat) (opsP c.toNat x y z) ≠ [c, x, y, z] then none else some (Str.join " " (wordS c.toNat :: (opsP c.toNat x y z).map tS))
  | _ => none
theorem join1 (w : Str) : Str.join " " [w] = w := rfl
theorem join2 (w s : Str) (r : List Str) : Str.join " " (w :: s :: r) = w ++ " " ++ Str.join " " (s :: r) := rfl
theorem kind_tab : [kindL 0, kindL 1, kindL 2, kindL 3, kindL 4, kindL 5, kindL 6, kindL 7, kindL 8, kindL 9, kindL 10] = [[], [114, 110], [114, 114, 114], [114, 114, 114], [114, 114], [114, 114], [114, 114], [114, 114], [114, 114, 114], [114, 110], [114]] := by decide +kernel
theorem form_tab : [formL 0, formL 1, formL 2, formL 3, formL 4, formL 5, formL 6, formL 7, formL 8, formL 9, formL 10] = [[], [97, 110], [97, 98, 99], [97, 98, 99], [97, 98], [97, 98], [97, 98], [97, 98], [97, 98, 99], [97, 110], [97]] := by decide +kernel
theorem an_tab : [(decide (formS 0 = "an")), (decide (formS 1 = "an")), (decide (formS 2 = "an")), (decide (formS 3 = "an")), (decide (formS 4 = "an")), (decide (formS 5 = "an")), (decide (formS 6 = "an")), (decide (formS 7 = "an")), (decide (formS 8 = "an")), (decide (formS 9 = "an")), (decide (formS 10 = "an"))] = [false, true, false, false, false, false, false, false, false, true, false] := by decide +kernel
/-- the five forms: kinds, form, whether it is "an" -/
theorem five {c : Nat} (h : c ≤ 10) : (kindL c = [] ∧ formL c = [] ∧ formS c ≠ "an") ∨ (kindL c = [114] ∧ formL c = [97] ∧ formS c ≠ "an") ∨ (kindL c = [114, 114] ∧ formL c = [97, 98] ∧ formS c ≠ "an") ∨ (kindL c = [114, 114, 114] ∧ formL c = [97, 98, 99] ∧ formS c ≠ "an") ∨ (kindL c = [114, 110] ∧ formL c = [97, 110] ∧ formS c = "an") := by
  have k := kind_tab
  have f := form_tab
  have a := an_tab
  simp only [List.cons.injEq, and_true, decide_eq_false_iff_not, decide_eq_true_eq] at k f a
  obtain ⟨k0, k1, k2, k3, k4, k5, k6, k7, k8, k9, k10⟩ := k
  obtain ⟨f0, f1, f2, f3, f4, f5, f6, f7, f8, f9, f10⟩ := f
  obtain ⟨a0, a1, a2, a3, a4, a5, a6, a7, a8, a9, a10⟩ := a
  have : c = 0 ∨ c = 1 ∨ c = 2 ∨ c = 3 ∨ c = 4 ∨ c = 5 ∨ c = 6 ∨ c = 7 ∨ c = 8 ∨ c = 9 ∨ c = 10 := by omega
  rcases this with rfl | rfl | rfl | rfl | rfl | rfl | rfl | rfl | rfl | rfl | rfl
  · exact .inl ⟨k0, f0, a0⟩
  · exact .inr (.inr (.inr (.inr ⟨k1, f1, a1⟩)))
  · exact .inr (.inr (.inr (.inl ⟨k2, f2, a2⟩)))
  · exact .inr (.inr (.inr (.inl ⟨k3, f3, a3⟩)))
  · exact .inr (.inr (.inl ⟨k4, f4, a4⟩))
  · exact .inr (.inr (.inl ⟨k5, f5, a5⟩))
  · exact .inr (.inr (.inl ⟨k6, f6, a6⟩))
  · exact .inr (.inr (.inl ⟨k7, f7, a7⟩))
  · exact .inr (.inr (.inr (.inl ⟨k8, f8, a8⟩)))
  · exact .inr (.inr (.inr (.inr ⟨k9, f9, a9⟩)))
  · exact .inr (.inl ⟨k10, f10, a10⟩)
theorem app_assoc (a b c : Str) : a ++ b ++ c = a ++ (b ++ c) := TL.ext_tl (by rw [TL.tl_append, TL.tl_append, TL.tl_append, TL.tl_append, List.append_assoc])
theorem same_line {c x y z : Int} (h : By [c, x, y, z]) : progLine [c, x, y, z] = lawLine [c, x, y, z] := by
  have hc := h c (by simp)
  have hx := h x (by simp)
  have hy := h y (by simp)
  have hz := h z (by simp)
  dsimp only [progLine, lawLine]
  by_cases c10 : c > 10
  · rw [if_pos (by omega), if_pos c10]
  rw [if_neg (by omega), if_neg c10]
  have e1 : (y + 256 * z) % 256 = y := by omega
  have e2 : (y + 256 * z) / 256 = z := by omega
  rcases five (c := c.toNat) (by omega) with ⟨k, f, a⟩ | ⟨k, f, a⟩ | ⟨k, f, a⟩ | ⟨k, f, a⟩ | ⟨k, f, a⟩
  all_goals simp only [k, f, a, opsP, if_true, if_false, nameB, fieldsP, fieldP, lawK, endL]
  all_goals simp [List.replicate, e1, e2, join1, join2, app_assoc]
  all_goals
    have q : ∀ {i : Int}, i < 8 ↔ ¬ 7 < i := fun {i} => by omega
    have q2 : ∀ {i : Int}, 8 ≤ i ↔ 7 < i := fun {i} => by omega
    simp only [q, q2, eq_comm (a := (0 : Int))]
    by_cases b1 : 7 < x <;> by_cases b2 : 7 < y <;> by_cases b3 : 7 < z <;> by_cases z1 : x = 0 <;> by_cases z2 : y = 0 <;> by_cases z3 : z = 0 <;> simp [b1, b2, b3, z1, z2, z3] <;> omega

section

-- a condition of an operator
local macro_rules | `(tactic| walk_at "cond") => `(tactic| first
  | (show (0 : Int) < _; omega)
  | (show CDiv _ _; constructor <;> (first | decide | omega))
  | (show CMul _ _; first | (refine cmul_l ?_; constructor <;> (first | decide | omega)) | (refine cmul_r ?_; constructor <;> (first | decide | omega)))
  | (show CPow _ _; exact (by refine ⟨by decide, by decide, by decide⟩))
  | (show CDivW _ _; exact ⟨by decide, by decide +kernel⟩))
local macro_rules | `(tactic| walk_at "sq") => `(tactic| first | assumption | exact Dh.mono (same_upd (by assumption)) _ _ (by assumption) | exact .inl (.inl (.inl (by assumption))) | exact .inr (.inl (.inl (by assumption))) | exact SqL.of (by assumption) | exact .inl (by assumption) | exact .inl (SqL.of (by assumption)) | exact SqT.of (by assumption) | exact .inr (SqT.of (by assumption)))
local macro_rules | `(tactic| walk_at "st") => `(tactic| first
  | refine ⟨_, rfl, ?_⟩
  | refine ⟨_, _, rfl, rfl, ?_⟩
  | refine .inl ⟨_, rfl, ?_⟩
  | refine ⟨rfl, ?_⟩
  | refine ⟨_, _, rfl, by walk_at "sq", ?_⟩
  | refine ⟨.inl ⟨rfl, _, SqL.of (by assumption)⟩, ?_⟩
  | refine ⟨by walk_at "cond", ?_⟩
  | (refine' ifBT ?hh ?_; (case hh => first | rfl | assumption))
  | (refine' ifBF ?hh ?_; (case hh => first | rfl | assumption)))
local macro_rules | `(tactic| walk_at "go") => `(tactic| repeat walk_at "st")
local macro_rules | `(tactic| walk_at "yes") => `(tactic| (refine' ifT ?hh ?_; (case hh => first | rfl | decide +kernel)))
local macro_rules | `(tactic| walk_at "no") => `(tactic| (refine' ifF ?hh ?_; (case hh => first | decide +kernel | (intro z; cases z; done))))

local macro_rules | `(tactic| walk_at "st") => `(tactic| refine ⟨_, _, _, _, _, rfl, by assumption, by assumption, by omega, by omega, by omega, by omega, by omega, ?_⟩)
local macro_rules | `(tactic| walk_at "st") => `(tactic| refine ⟨_, _, _, _, _, rfl, Same.seq (by assumption) (by assumption), by assumption, by omega, by omega, by omega, by omega, by omega, ?_⟩)

/-! ### BadCode, names_registers, fields, line_of, disassemble -/
abbrev s_BadCode_init : Stmt := inClass (topS 8) 0
theorem sn_BadCode_init : NScope ["self", "position", "__class__"] ["self", "position"] ["__class__"] (C8.fnScope s_BadCode_init) := nscope_by (by decide +kernel)
theorem no_fly {P : Program} {w : World} {l : List Env} {H : Hp} {s s' : Shared} {e : Value} {p : Prop} (c : L2.CX P w l H s (fun _ _ _ => False) e s') : p := by
  obtain ⟨_, _, _, _, _, _, _, _, _, _, _, _, z⟩ := c
  exact z.elim
def bcF (i : Int) : List (Str × V) := [("position", .int i)]
def spBC (D : Addr) : Sp := fun vs H Q _ => ∃ (a : Addr) (i : Int), vs = [.ref a, .int i] ∧ H a = some (exo a D none) ∧ i.natAbs.log2 < 1920 ∧
  ∀ dx, H dx = none → dx ≠ a → Q .non (upd (upd H dx (exd dx (bcF i))) a (exo a D (some dx)))
theorem sz3 {n : Nat} (h : n ≤ 10000) : n ≤ sizeLine := by
  rw [sizeLine_eq]
  omega
theorem len_ap {a b : Str} {m n : Nat} (ha : a.length ≤ m) (hb : b.length ≤ n) : (a ++ b).length ≤ m + n := by
  rw [Str.length_append]
  omega
theorem log_le {i : Int} (h : i.natAbs < 2 ^ 100) : i.natAbs.log2 < 1920 := by
  by_cases e : i.natAbs = 0
  · rw [e]
    decide
  · exact (Nat.log2_lt e).mpr (Nat.lt_of_lt_of_le h (Nat.pow_le_pow_right (by decide) (by decide)))
theorem log_sm {i : Int} (h0 : 0 ≤ i) (h1 : i ≤ 1000000000) : i.natAbs.log2 < 1920 := log_le (Nat.lt_of_le_of_lt (show i.natAbs ≤ 1000000000 by omega) (by decide +kernel))
theorem tS_len {i : Int} (h0 : 0 ≤ i) (h1 : i ≤ 1000000000) : (tS i).length ≤ 1921 := int_text_len_1921 (log_sm h0 h1)
section
variable {P : Program} {w : World} {K : PySem.W.Frag} {mg : Str → Option Value} {base : Heap}
theorem ok_BadCode {F : NF} {f D cc : Addr} {dV kV doc pm ctv : Value} {an : Option Addr} {q : Str} {cl : List (Str × Addr)} {c : Addr} (U : SupAt P K mg (NF.of s_BadCode_init "__init__" q cl c) f D cc "self" dV kV doc pm ctv an)
    (nS : PySem.W.findIn K (.ref D) "position" = some none) :
    FnOk P w K mg base (L2.CX P w) 1 f (PySem.W.fnX "__init__" q (C8.fnArgs s_BadCode_init) (C8.fnBody s_BadCode_init) (C8.fnScope s_BadCode_init) cl dV kV doc pm an (.ref c) ctv) ["self", "position"] (spBC D) := by
  refine fn_sup (F := NF.of s_BadCode_init "__init__" q cl c) (N := ["self", "position", "__class__"]) sn_BadCode_init U rfl (by rfl) (fun vs H Q E h => ?_) (fun A outer s H vs Q E hr h => ?_)
  · obtain ⟨a, i, rfl, _⟩ := h
    rfl
  obtain ⟨a, i, rfl, ha, hi, q⟩ := h
  refine ⟨_, _, pa_cons (pe_joined (.cons pe_str (.cons (pe_fmt (pv 1)) (.cons pe_str .nil)))) pa_nil, pss_one (ps_ost (pv 0) (pv 1)), a, rfl, ha, ?_⟩
  have l1 := len_ap (show Str.empty.length ≤ 0 by decide +kernel) (show ("the bytes at position " : Str).length ≤ 50 by decide +kernel)
  have l2 := len_ap l1 (int_text_len_1921 hi)
  have l3 := len_ap l2 (show (" are not an instruction" : Str).length ≤ 50 by decide +kernel)
  refine ⟨_, rfl, sz3 (Nat.le_trans l1 (by decide)), ?_⟩
  refine ⟨_, rfl, .inr ⟨i, rfl, hi, _, rfl, sz3 (Nat.le_trans l2 (by decide)), ?_⟩⟩
  refine ⟨_, rfl, sz3 (Nat.le_trans l3 (by decide)), ?_⟩
  refine ⟨(by show 1 ≤ 1000; decide), ha, _, rfl, _, rfl, a, D, rfl, U.exc, nS, .inl ⟨ha, fun dx nd ne => q dx nd ne⟩⟩
end
/-- what the top has of words -/
structure TxtW (K : PySem.W.Frag) (mg : Str → Option Value) (F : Addr) : Prop extends Txt mg where
  all : mg "all" = none
  zip : mg "zip" = none
  REG : ∃ t, mg "REGISTERS" = some (.int 8 t)
  LEN : ∃ t, mg "CODE_LENGTH" = some (.int 4 t)
  FORMS : mg "FORMS" = some (.ref F)
  tab : ∃ rs : List Addr, rs.length = 11 ∧ (∀ H, SqT K H F (rs.map V.ref)) ∧ ∀ i r, rs[i]? = some r → ∀ H, SqT K H r [.str (wordS i), .str (formS i)]
theorem allQ {X : Cx} (K : PySem.W.Frag) (h : X.K = K) (hc : X.calm = true) : CallR X (.builtin "all") (rAll K) := by
  subst h
  exact cr_all hc
theorem walk_zipS {K : PySem.W.Frag} {x : Str} {b : Addr} {ys : List V} {n : Nat} (hn : n = min x.cps.size ys.length) : Walk (ItzS K x b) n (fun H => SqL K H b ys) (YPair (fun i => (x.cps[i]?).map fun c => V.str ⟨#[c]⟩) (fun i => ys[i]?)) := by
  subst hn
  refine ⟨fun i H hi q => ?_, fun H q => ⟨ys, q, by omega, by omega, by omega⟩, fun i H v H' hi q y => ?_⟩
  · have h1 : i < x.cps.size := by omega
    have h2 : i < ys.length := by omega
    exact ⟨ys, x.cps[i], ys[i], q, by simp [h1], by simp [h2]⟩
  · obtain ⟨T, c, z, e1, e2, e3, e4, e5⟩ := y
    exact ⟨T, .str ⟨#[c]⟩, z, e1, e2, e3, by show (x.cps[i]?).map _ = _; rw [e4]; rfl, e5 ys q⟩

end

section

-- a condition of an operator
local macro_rules | `(tactic| walk_at "cond") => `(tactic| first
  | (show (0 : Int) < _; omega)
  | (show CDiv _ _; constructor <;> (first | decide | omega))
  | (show CMul _ _; first | (refine cmul_l ?_; constructor <;> (first | decide | omega)) | (refine cmul_r ?_; constructor <;> (first | decide | omega)))
  | (show CPow _ _; exact (by refine ⟨by decide, by decide, by decide⟩))
  | (show CDivW _ _; exact ⟨by decide, by decide +kernel⟩))
local macro_rules | `(tactic| walk_at "sq") => `(tactic| first | assumption | exact Dh.mono (same_upd (by assumption)) _ _ (by assumption) | exact .inl (.inl (.inl (by assumption))) | exact .inr (.inl (.inl (by assumption))) | exact SqL.of (by assumption) | exact .inl (by assumption) | exact .inl (SqL.of (by assumption)) | exact SqT.of (by assumption) | exact .inr (SqT.of (by assumption)))
local macro_rules | `(tactic| walk_at "st") => `(tactic| first
  | refine ⟨_, rfl, ?_⟩
  | refine ⟨_, _, rfl, rfl, ?_⟩
  | refine .inl ⟨_, rfl, ?_⟩
  | refine ⟨rfl, ?_⟩
  | refine ⟨_, _, rfl, by walk_at "sq", ?_⟩
  | refine ⟨.inl ⟨rfl, _, SqL.of (by assumption)⟩, ?_⟩
  | refine ⟨by walk_at "cond", ?_⟩
  | (refine' ifBT ?hh ?_; (case hh => first | rfl | assumption))
  | (refine' ifBF ?hh ?_; (case hh => first | rfl | assumption)))
local macro_rules | `(tactic| walk_at "go") => `(tactic| repeat walk_at "st")
local macro_rules | `(tactic| walk_at "yes") => `(tactic| (refine' ifT ?hh ?_; (case hh => first | rfl | decide +kernel)))
local macro_rules | `(tactic| walk_at "no") => `(tactic| (refine' ifF ?hh ?_; (case hh => first | decide +kernel | (intro z; cases z; done))))

local macro_rules | `(tactic| walk_at "st") => `(tactic| refine ⟨_, _, _, _, _, rfl, by assumption, by assumption, by omega, by omega, by omega, by omega, by omega, ?_⟩)
local macro_rules | `(tactic| walk_at "st") => `(tactic| refine ⟨_, _, _, _, _, rfl, Same.seq (by assumption) (by assumption), by assumption, by omega, by omega, by omega, by omega, by omega, ?_⟩)

/-! ### names_registers -/
abbrev s_names_registers : Stmt := topS 13
theorem sc_names_registers : FnScope ["form", "fields", "letter", "field"] ["form", "fields"] (C8.fnScope s_names_registers) := C8.fnScope_by (by decide +kernel)
theorem nameB_step (L : List Nat) (x y z : Int) : nameB L [x] = nameB L [] ++ (if 97 ∈ L then [decide (x < 8)] else []) ∧ nameB L [x, y] = nameB L [x] ++ (if 98 ∈ L then [decide (y < 8)] else []) ∧ nameB L [x, y, z] = nameB L [x, y] ++ (if 99 ∈ L then [decide (z < 8)] else []) := by
  by_cases c : 97 ∈ L <;> by_cases d : 98 ∈ L <;> by_cases e : 99 ∈ L <;> simp [nameB, List.filter_cons, c, d, e]
section
variable {P : Program} {w : World} {K : PySem.W.Frag} {mg : Str → Option Value} {base : Heap} {FM : Addr}
def spNames (K : PySem.W.Frag) : Sp := fun vs H Q _ => ∃ (form : Str) (f : Addr) (fs : List Int), vs = [.str form, .ref f] ∧ H f = some (.lst (fs.map V.int)) ∧ fs.length = 3 ∧ ∀ H', Same H H' → Q (.bl ((nameB form.cps.toList fs).all id)) H'
theorem ok_names {f : Addr} {fd : FuncData} (D : Def K mg "names_registers" s_names_registers f fd) (b : Binds K fd ["form", "fields"] []) (T : TxtW K mg FM) : Cal P w K mg base 1 "names_registers" (spNames K) [] := by
  obtain ⟨tR, TR⟩ := T.REG
  refine cal0 D b .nil sc_names_registers (fun vs H Q E h => ?_) (fun cdv A outer s H vs Q E hr h => ?_)
  · obtain ⟨form, f, fs, rfl, _⟩ := h
    rfl
  obtain ⟨form, f, fs, rfl, gf, lf, q⟩ := h
  refine ⟨_, (pss_one (ps_ret (pe_callB (allQ K rfl rfl) (by rfl) T.all (by decide +kernel) (pa_cons (pe_lc (own := [("letter", 2), ("field", 3)]) (g := gTup K 2 (gCons (gName 2) (gCons (gName 3) gNil))) rfl sc_names_registers.nd (pi_zipS (by rfl) T.zip (pa_cons pe_str (pa_cons (pv 1) pa_nil))) (blkOk_by (own := [("letter", 2), ("field", 3)]) (N := ["form", "fields", "letter", "field"]) (sc := C8.fnScope s_names_registers) (by decide +kernel)) (fun _ _ _ _ _ => pg_tup rfl (pgs_cons (pg_name (i := 2) sc_names_registers.nd rfl (.inl rfl)) (pgs_cons (pg_name (i := 3) sc_names_registers.nd rfl (.inl rfl)) pgs_nil))) (fun _ _ _ _ _ => pts_one (pt_cmpR op_in_sign (pv 2) (pv 0) (by rfl))) (fun _ _ _ _ _ => pe_cmpR op_lt (pv 3) (pe_glob (v := V.int 8) (by rfl) TR ⟨_, rfl⟩) (nomark _))) pa_nil)))), ?_⟩
  walk_at "go"
  obtain ⟨x, y, z, rfl⟩ : ∃ x y z, fs = [x, y, z] := by
    match fs, lf with
    | [x, y, z], _ => exact ⟨x, y, z, rfl⟩
  refine ⟨("abc" : Str), f, _, rfl, SqL.of gf, fun L nL => ?_⟩
  have ab : ("abc" : Str).cps = #[97, 98, 99] := by decide +kernel
  refine lc_it (walk_zipS (K := K) (x := ("abc" : Str)) (b := f) (ys := [V.int x, V.int y, V.int z]) (n := 3) (by rw [ab]; rfl)) (fun i H' => Ob (Same H H' ∧ H' L = some (.lst ((nameB form.cps.toList ([x, y, z].take i)).map V.bl)))) (ob ⟨same_upd nL, upd_same⟩) (fun i H' _ h => SqL.of ((unob h).1 _ _ gf)) ?_ ?_
  · intro i v H2 H3 hi h hy
    obtain ⟨s2, g2⟩ := unob h
    clear h
    obtain ⟨TT, x1, x2, rfl, nT, rfl, e1, e2⟩ := hy
    obtain ⟨c, w, rfl, rfl, st, ls⟩ : ∃ (c : Nat) (w : Int), x1 = .str ⟨#[c]⟩ ∧ x2 = .int w ∧ nameB form.cps.toList ([x, y, z].take (i + 1)) = nameB form.cps.toList ([x, y, z].take i) ++ (if c ∈ form.cps.toList then [decide (w < 8)] else []) ∧ (nameB form.cps.toList ([x, y, z].take i)).length ≤ 3 := by
      rw [ab] at e1
      have e2 : [V.int x, V.int y, V.int z][i]? = some x2 := e2
      have e1 : ((#[97, 98, 99] : Array Nat)[i]?).map (fun c => V.str ⟨#[c]⟩) = some x1 := e1
      have fl : ∀ (ps : List (Nat × Int)), ps.length ≤ 3 → ((ps.filter fun p => decide (p.1 ∈ form.cps.toList)).map fun p => decide (p.2 < 8)).length ≤ 3 := fun ps h => by
        rw [List.length_map]
        exact Nat.le_trans (List.length_filter_le _ _) h
      have : i = 0 ∨ i = 1 ∨ i = 2 := by omega
      rcases this with rfl | rfl | rfl
      · refine ⟨97, x, (Option.some.inj e1).symm, (Option.some.inj e2).symm, ?_, fl _ (by simp)⟩
        exact (nameB_step form.cps.toList x y z).1
      · refine ⟨98, y, (Option.some.inj e1).symm, (Option.some.inj e2).symm, ?_, fl _ (by simp)⟩
        exact (nameB_step form.cps.toList x y z).2.1
      · refine ⟨99, z, (Option.some.inj e1).symm, (Option.some.inj e2).symm, ?_, fl _ (by simp)⟩
        exact (nameB_step form.cps.toList x y z).2.2
    have s3 := same_upd (o := HO.tup [V.str ⟨#[c]⟩, V.int w]) nT
    have gT := upd_same (H := H2) (a := TT) (o := HO.tup [V.str ⟨#[c]⟩, V.int w])
    have g3 := s3 _ _ g2
    have s23 := s2.trans s3
    generalize upd H2 TT (HO.tup [V.str ⟨#[c]⟩, V.int w]) = H3 at *
    rw [st]
    refine ⟨TT, _, rfl, SqT.of gT, rfl, ?_⟩
    refine ⟨_, _, rfl, ?_⟩
    refine ⟨_, _, rfl, ?_⟩
    refine ⟨rfl, ?_⟩
    walk_at "go"
    refine ifD (fun d => ?_) (fun d => ?_)
    · rw [if_pos d]
      walk_at "go"
      exact ⟨_, g3, sz5 (by rw [List.length_map]; omega), ob ⟨same_put s23 nL, by rw [upd_same, List.map_append]; rfl⟩⟩
    · rw [if_neg d, List.append_nil]
      exact ob ⟨s23, g3⟩
  intro H2 h
  obtain ⟨s2, g2⟩ := unob h
  try dsimp only
  exact ⟨L, _, rfl, SqL.of g2, q _ s2⟩
end

end

section

-- a condition of an operator
local macro_rules | `(tactic| walk_at "cond") => `(tactic| first
  | (show (0 : Int) < _; omega)
  | (show CDiv _ _; constructor <;> (first | decide | omega))
  | (show CMul _ _; first | (refine cmul_l ?_; constructor <;> (first | decide | omega)) | (refine cmul_r ?_; constructor <;> (first | decide | omega)))
  | (show CPow _ _; exact (by refine ⟨by decide, by decide, by decide⟩))
  | (show CDivW _ _; exact ⟨by decide, by decide +kernel⟩))
local macro_rules | `(tactic| walk_at "sq") => `(tactic| first | assumption | exact Dh.mono (same_upd (by assumption)) _ _ (by assumption) | exact .inl (.inl (.inl (by assumption))) | exact .inr (.inl (.inl (by assumption))) | exact SqL.of (by assumption) | exact .inl (by assumption) | exact .inl (SqL.of (by assumption)) | exact SqT.of (by assumption) | exact .inr (SqT.of (by assumption)))
local macro_rules | `(tactic| walk_at "st") => `(tactic| first
  | refine ⟨_, rfl, ?_⟩
  | refine ⟨_, _, rfl, rfl, ?_⟩
  | refine .inl ⟨_, rfl, ?_⟩
  | refine ⟨rfl, ?_⟩
  | refine ⟨_, _, rfl, by walk_at "sq", ?_⟩
  | refine ⟨.inl ⟨rfl, _, SqL.of (by assumption)⟩, ?_⟩
  | refine ⟨by walk_at "cond", ?_⟩
  | (refine' ifBT ?hh ?_; (case hh => first | rfl | assumption))
  | (refine' ifBF ?hh ?_; (case hh => first | rfl | assumption)))
local macro_rules | `(tactic| walk_at "go") => `(tactic| repeat walk_at "st")
local macro_rules | `(tactic| walk_at "yes") => `(tactic| (refine' ifT ?hh ?_; (case hh => first | rfl | decide +kernel)))
local macro_rules | `(tactic| walk_at "no") => `(tactic| (refine' ifF ?hh ?_; (case hh => first | decide +kernel | (intro z; cases z; done))))

local macro_rules | `(tactic| walk_at "st") => `(tactic| refine ⟨_, _, _, _, _, rfl, by assumption, by assumption, by omega, by omega, by omega, by omega, by omega, ?_⟩)
local macro_rules | `(tactic| walk_at "st") => `(tactic| refine ⟨_, _, _, _, _, rfl, Same.seq (by assumption) (by assumption), by assumption, by omega, by omega, by omega, by omega, by omega, ?_⟩)

/-! ### fields -/
abbrev s_fields : Stmt := topS 16
theorem sc_fields : FnScope ["form", "operands", "fields", "letter", "operand"] ["form", "operands"] (C8.fnScope s_fields) := C8.fnScope_by (by decide +kernel)
theorem fieldP_le (form : List Nat) (ops : List Int) : (fieldP form ops).length ≤ 2 * form.length := by
  unfold fieldP
  induction form generalizing ops with
  | nil => simp
  | cons f fs ih =>
    cases ops with
    | nil => simp
    | cons o os =>
      rw [List.zip_cons_cons, List.flatMap_cons, List.length_append, List.length_cons]
      have := ih os
      split
      · show 2 + _ ≤ _
        omega
      · show 1 + _ ≤ _
        omega
theorem zip_take {α β : Type} : ∀ (xs : List α) (ys : List β) (n : Nat), (xs.take n).zip (ys.take n) = (xs.zip ys).take n
  | [], _, _ => by simp
  | _ :: _, [], n => by simp
  | _ :: _, _ :: _, 0 => rfl
  | x :: xs, y :: ys, n + 1 => congrArg ((x, y) :: ·) (zip_take xs ys n)
theorem sign_n (c : Nat) : V.str ⟨#[c]⟩ = V.str "n" ↔ c = 110 := by
  have e : ("n" : Str).cps = #[110] := by decide +kernel
  constructor
  · intro h
    have h := V.str.inj h
    have h : (#[c] : Array Nat) = ("n" : Str).cps := congrArg Str.cps h
    rw [e] at h
    simpa using h
  · rintro rfl
    exact congrArg V.str (TL.ext_tl (by show [110] = ("n" : Str).cps.toList; rw [e]))
theorem fieldP_snoc {form : List Nat} {ops : List Int} {i : Nat} {c : Nat} {o : Int} (h1 : form[i]? = some c) (h2 : ops[i]? = some o) : fieldP (form.take (i + 1)) (ops.take (i + 1)) = fieldP (form.take i) (ops.take i) ++ (if c = 110 then [o % 256, o / 256] else [o]) := by
  unfold fieldP
  rw [zip_take, zip_take, List.take_add_one, List.getElem?_zip_eq_some (z := (c, o)) |>.mpr ⟨h1, h2⟩, List.flatMap_append]
  congr 1
  simp
theorem fieldP_all (form : List Nat) (ops : List Int) : fieldP (form.take (min form.length ops.length)) (ops.take (min form.length ops.length)) = fieldP form ops := by
  unfold fieldP
  rw [zip_take, List.take_of_length_le (by rw [List.length_zip]; exact Nat.le_refl _)]
section
variable {P : Program} {w : World} {K : PySem.W.Frag} {mg : Str → Option Value} {base : Heap} {FM : Addr}
def spFlds : Sp := fun vs H Q _ => ∃ (form : Str) (p : Addr) (ops : List Int), vs = [.str form, .ref p] ∧ H p = some (.lst (ops.map V.int)) ∧ form.cps.size ≤ 10 ∧ (∀ o ∈ ops, 0 ≤ o) ∧ ∀ (r : Addr) (H' : Hp), Same H H' → H r = none → H' r = some (.lst ((fieldsP form.cps.toList ops).map V.int)) → Q (.ref r) H'
theorem ok_flds {f : Addr} {fd : FuncData} (D : Def K mg "_fields" s_fields f fd) (b : Binds K fd ["form", "operands"] []) (T : TxtW K mg FM) : Cal P w K mg base 1 "_fields" spFlds [] := by
  refine cal0 D b .nil sc_fields (fun vs H Q E h => ?_) (fun cdv A outer s H vs Q E hr h => ?_)
  · obtain ⟨form, p, ops, rfl, _⟩ := h
    rfl
  obtain ⟨form, p, ops, rfl, gp, lf, on, q⟩ := h
  refine ⟨_, (pss_cons (ps_set (i := 2) sc_fields.nd rfl (.inl rfl) (pe_lst pa_nil))
      (pss_cons (ps_mk (ps_for PassesOwn.never rfl (pi_zipS (by rfl) T.zip (pa_cons (pv 0) (pa_cons (pv 1) pa_nil))) (pg_tup rfl (pgs_cons (pg_name (i := 3) sc_fields.nd rfl (.inl rfl)) (pgs_cons (pg_name (i := 4) sc_fields.nd rfl (.inl rfl)) pgs_nil)))
      (pss_one (ps_expr (pe_bm PySem.F.plainAttrs_list PySem.F.slot_list_extend PySem.F.type_list_extend mt_extend (pv 2) (pa_cons (pe_ifExp (pt_cmpR op_eq (pv 3) pe_str (nomark _)) (pe_lst (pa_cons (pe_op op_mod (pv 4) pe_int) (pa_cons (pe_op op_fdiv (pv 4) pe_int) pa_nil))) (pe_lst (pa_cons (pv 4) pa_nil))) pa_nil))))))
      (pss_one (ps_ret (pe_op op_cat (pv 2) (pe_op op_rep (pe_lst (pa_cons pe_int pa_nil)) (pe_op op_sub pe_int (pe_callB (lenQ K rfl) (by rfl) T.len PySem.boot_len (pa_cons (pv 2) pa_nil))))))))), ?_⟩
  walk_at "go"
  refine ⟨sz, fun L nL => ?_⟩
  have s1 := same_upd (o := HO.lst []) nL
  have gL := upd_same (H := H) (a := L) (o := HO.lst [])
  have gp1 := s1 _ _ gp
  generalize upd H L (HO.lst []) = H1 at *
  refine jnS (M := fun σ H' => ∃ y3 y4, Same H H' ∧ H' L = some (.lst ((fieldP form.cps.toList ops).map V.int)) ∧ σ = [sS form, sR p, sR L, y3, y4]) ?_ (fun N kk => ?_)
  rotate_left
  · walk_at "go"
    refine ⟨form, p, _, rfl, SqL.of gp1, ?_⟩
    refine for_it (walk_zipS (K := K) (x := form) (b := p) (ys := ops.map V.int) (n := min form.cps.toList.length ops.length) (by rw [Array.length_toList, List.length_map])) (fun i σ H' => Ob (∃ y3 y4, Same H H' ∧ H' L = some (.lst ((fieldP (form.cps.toList.take i) (ops.take i)).map V.int)) ∧ σ = [sS form, sR p, sR L, y3, y4])) (ob ⟨none, none, s1, gL, rfl⟩) (fun i σ H' _ h => ?_) ?_ ?_
    · obtain ⟨_, _, s2, _⟩ := unob h
      exact SqL.of (s2 _ _ gp)
    · intro i x σ H2 H3 hi h hy
      obtain ⟨y3, y4, s2, g2, rfl⟩ := unob h
      clear h kk
      obtain ⟨TT, x1, x2, rfl, nT, rfl, e1, e2⟩ := hy
      have h1 : i < form.cps.toList.length := by omega
      have h2 : i < ops.length := by omega
      have h1' : i < form.cps.size := by rw [← Array.length_toList]; exact h1
      have e1 : (form.cps[i]?).map (fun c => V.str ⟨#[c]⟩) = some x1 := e1
      have e2 : (ops.map V.int)[i]? = some x2 := e2
      rw [Array.getElem?_eq_getElem h1'] at e1
      rw [List.getElem?_map, List.getElem?_eq_getElem h2] at e2
      obtain rfl := Option.some.inj e1
      obtain rfl := Option.some.inj e2
      have st := fieldP_snoc (form := form.cps.toList) (ops := ops) (i := i) (c := form.cps[i]) (o := ops[i]) (by rw [List.getElem?_eq_getElem h1, Array.getElem_toList]) (List.getElem?_eq_getElem h2)
      have o0 := on _ (List.getElem_mem h2)
      have fl := fieldP_le (form.cps.toList.take i) (ops.take i)
      rw [List.length_take] at fl
      have lfs : form.cps.toList.length = form.cps.size := Array.length_toList
      generalize form.cps[i] = c at *
      generalize ops[i] = o at *
      have s3 := same_upd (o := HO.tup [V.str ⟨#[c]⟩, V.int o]) nT
      have gT := upd_same (H := H2) (a := TT) (o := HO.tup [V.str ⟨#[c]⟩, V.int o])
      have g3 := s3 _ _ g2
      have s23 := s2.trans s3
      generalize upd H2 TT (HO.tup [V.str ⟨#[c]⟩, V.int o]) = H3 at *
      rw [st]
      refine ⟨TT, _, rfl, SqT.of gT, rfl, ?_⟩
      refine ⟨_, _, rfl, ?_⟩
      refine ⟨_, _, rfl, ?_⟩
      walk_at "go"
      by_cases c1 : c = 110
      · refine ifT ((sign_n c).mpr c1) ?_
        rw [if_pos c1]
        walk_at "go"
        refine ⟨sz, fun r nr => ?_⟩
        have s4 := same_upd (o := HO.lst [V.int (o % 256), V.int (o / 256)]) nr
        refine ⟨L, r, _, _, rfl, rfl, s4 _ _ g3, upd_same, Nat.le_of_lt (sz5 (by rw [List.length_map]; show _ + 2 ≤ _; omega)), ?_⟩
        exact ob ⟨_, _, same_put (s23.trans s4) nL, by rw [upd_same, List.map_append]; rfl, rfl⟩
      · refine ifF (fun z => c1 ((sign_n c).mp z)) ?_
        rw [if_neg c1]
        walk_at "go"
        refine ⟨sz, fun r nr => ?_⟩
        have s4 := same_upd (o := HO.lst [V.int o]) nr
        refine ⟨L, r, _, _, rfl, rfl, s4 _ _ g3, upd_same, Nat.le_of_lt (sz5 (by rw [List.length_map]; show _ + 1 ≤ _; omega)), ?_⟩
        exact ob ⟨_, _, same_put (s23.trans s4) nL, by rw [upd_same, List.map_append]; rfl, rfl⟩
    · intro σ H2 h
      obtain ⟨y3, y4, s2, g2, rfl⟩ := unob h
      rw [fieldP_all] at g2
      exact kk _ _ ⟨y3, y4, s2, g2, rfl⟩
  rintro σ H2 ⟨y3, y4, s2, g2, rfl⟩
  walk_at "go"
  refine ⟨sz, fun r nr => ?_⟩
  have s3 := same_upd (o := HO.lst [V.int 0]) nr
  have gr := upd_same (H := H2) (a := r) (o := HO.lst [V.int 0])
  have g3 := s3 _ _ g2
  have s23 := s2.trans s3
  generalize upd H2 r (HO.lst [V.int 0]) = H3 at *
  have fl := fieldP_le form.cps.toList ops
  have lfs : form.cps.toList.length = form.cps.size := Array.length_toList
  walk_at "go"
  rw [List.length_map]
  refine ⟨r, _, [V.int 0], rfl, rfl, gr, by omega, by omega, Nat.le_of_lt (sz5 (by show 1 * _ ≤ _; omega)), fun r2 nr2 => ?_⟩
  have e0 : (List.replicate ((3 : Int) - ((fieldP form.cps.toList ops).length : Nat)).toNat [V.int 0]).flatten = (List.replicate (3 - (fieldP form.cps.toList ops).length) (0 : Int)).map V.int := by
    rw [show ((3 : Int) - ((fieldP form.cps.toList ops).length : Nat)).toNat = 3 - (fieldP form.cps.toList ops).length by omega, List.map_replicate]
    generalize 3 - (fieldP form.cps.toList ops).length = k
    induction k with
    | zero => rfl
    | succ k ih => rw [List.replicate_succ, List.flatten_cons, ih, List.replicate_succ]; rfl
  rw [e0]
  have s4 := same_upd (o := HO.lst ((List.replicate (3 - (fieldP form.cps.toList ops).length) (0 : Int)).map V.int)) nr2
  have gr2 := upd_same (H := H3) (a := r2) (o := HO.lst ((List.replicate (3 - (fieldP form.cps.toList ops).length) (0 : Int)).map V.int))
  have g4 := s4 _ _ g3
  have s24 := s23.trans s4
  generalize upd H3 r2 (HO.lst ((List.replicate (3 - (fieldP form.cps.toList ops).length) (0 : Int)).map V.int)) = H4 at *
  refine ⟨L, r2, _, _, rfl, rfl, g4, gr2, Nat.le_of_lt (sz5 (by rw [List.length_map, List.length_map, List.length_replicate]; omega)), fun r3 nr3 => ?_⟩
  rw [← List.map_append]
  exact q r3 _ (s24.trans (same_upd nr3)) (s24.free nr3) upd_same
end

end

/-! ### lists of ints as data -/
theorem dh_ints {H : Hp} : ∀ (ns : List Int), DhAll H (ns.map PyData.int) (ns.map V.int)
  | [] => rfl
  | n :: ns => ⟨.int n, ns.map V.int, rfl, rfl, dh_ints ns⟩
theorem lay_ints : ∀ ns : List Int, PyData.canLayAll0 (ns.map PyData.int) = true
  | [] => by simp [PyData.canLayAll0]
  | n :: ns => by
    simp only [List.map_cons, PyData.canLayAll0, PyData.canLay0, lay_ints ns, Bool.and_self]
theorem depth_ints : ∀ ns : List Int, PyData.depthAll (ns.map PyData.int) ≤ 1
  | [] => by simp [PyData.depthAll]
  | n :: ns => by
    have h := depth_ints ns
    simp only [List.map_cons, PyData.depthAll, PyData.depth]
    omega
theorem shaped_ints (ns : List Int) : SeqAt.shaped (.list (ns.map PyData.int)) = true := by
  have h1 := depth_ints ns
  have h2 : PyData.depth (.list (ns.map PyData.int)) ≤ 64 := by
    simp only [PyData.depth]
    omega
  show (PyData.canLay0 (.list (ns.map PyData.int)) && decide (PyData.depth (.list (ns.map PyData.int)) ≤ 64)) = true
  rw [Bool.and_eq_true]
  exact ⟨by simp only [PyData.canLay0]; exact lay_ints ns, decide_eq_true h2⟩
theorem eqvA_ints : ∀ ns : List Int, PyData.eqvAll (ns.map PyData.int) (ns.map PyData.int) = true
  | [] => by simp [PyData.eqvAll]
  | n :: ns => by
    simp only [List.map_cons, PyData.eqvAll, PyData.eqv, eqvA_ints ns, beq_self_eq_true, Bool.and_self]
theorem eqv_ints (ns : List Int) : PyData.eqv (.list (ns.map PyData.int)) (.list (ns.map PyData.int)) = true := by
  rw [PyData.eqv]
  exact eqvA_ints ns

section

-- a condition of an operator
local macro_rules | `(tactic| walk_at "cond") => `(tactic| first
  | (show (0 : Int) < _; omega)
  | (show CDiv _ _; constructor <;> (first | decide | omega))
  | (show CMul _ _; first | (refine cmul_l ?_; constructor <;> (first | decide | omega)) | (refine cmul_r ?_; constructor <;> (first | decide | omega)))
  | (show CPow _ _; exact (by refine ⟨by decide, by decide, by decide⟩))
  | (show CDivW _ _; exact ⟨by decide, by decide +kernel⟩))
local macro_rules | `(tactic| walk_at "sq") => `(tactic| first | assumption | exact Dh.mono (same_upd (by assumption)) _ _ (by assumption) | exact .inl (.inl (.inl (by assumption))) | exact .inr (.inl (.inl (by assumption))) | exact SqL.of (by assumption) | exact .inl (by assumption) | exact .inl (SqL.of (by assumption)) | exact SqT.of (by assumption) | exact .inr (SqT.of (by assumption)))
local macro_rules | `(tactic| walk_at "st") => `(tactic| first
  | refine ⟨_, rfl, ?_⟩
  | refine ⟨_, _, rfl, rfl, ?_⟩
  | refine .inl ⟨_, rfl, ?_⟩
  | refine ⟨rfl, ?_⟩
  | refine ⟨_, _, rfl, by walk_at "sq", ?_⟩
  | refine ⟨.inl ⟨rfl, _, SqL.of (by assumption)⟩, ?_⟩
  | refine ⟨by walk_at "cond", ?_⟩
  | (refine' ifBT ?hh ?_; (case hh => first | rfl | assumption))
  | (refine' ifBF ?hh ?_; (case hh => first | rfl | assumption)))
local macro_rules | `(tactic| walk_at "go") => `(tactic| repeat walk_at "st")
local macro_rules | `(tactic| walk_at "yes") => `(tactic| (refine' ifT ?hh ?_; (case hh => first | rfl | decide +kernel)))
local macro_rules | `(tactic| walk_at "no") => `(tactic| (refine' ifF ?hh ?_; (case hh => first | decide +kernel | (intro z; cases z; done))))

local macro_rules | `(tactic| walk_at "st") => `(tactic| refine ⟨_, _, _, _, _, rfl, by assumption, by assumption, by omega, by omega, by omega, by omega, by omega, ?_⟩)
local macro_rules | `(tactic| walk_at "st") => `(tactic| refine ⟨_, _, _, _, _, rfl, Same.seq (by assumption) (by assumption), by assumption, by omega, by omega, by omega, by omega, by omega, ?_⟩)

/-! ### line_of -/
abbrev s_line_of : Stmt := topS 17
theorem sc_line_of : FnScope ["code", "word", "form", "fields", "operands", "operand"] ["code"] (C8.fnScope s_line_of) := C8.fnScope_by (by decide +kernel)
def oS : Option Str → V
  | none => .non
  | some s => .str s
theorem progLine_short {l : List Int} (h : l.length ≠ 4) : progLine l = none := by
  match l, h with
  | [], _ => rfl
  | [_], _ => rfl
  | [_, _], _ => rfl
  | [_, _, _], _ => rfl
  | [_, _, _, _], h => exact absurd rfl h
  | _ :: _ :: _ :: _ :: _ :: _, _ => rfl
theorem cut1 (x : V) (xs : List V) : cutV (x :: xs) (some 1) none = xs := by
  unfold cutV
  have e : HT.sIx (x :: xs).length 0 (some 1) = 1 := by
    simp [HT.sIx]
  have e2 : HT.sIx (x :: xs).length (x :: xs).length none = (x :: xs).length := rfl
  rw [e, e2]
  simp
theorem cut_lo {us : List V} {a : Nat} (h : a ≤ us.length) : cutV us none (some (a : Int)) = us.take a := by
  unfold cutV
  have e : HT.sIx us.length 0 none = 0 := rfl
  have e2 : HT.sIx us.length us.length (some (a : Int)) = a := by
    simp only [HT.sIx]
    split <;> omega
  rw [e, e2]
  simp
theorem form_len {c : Nat} (h : c ≤ 10) : (formS c).cps.size ≤ 3 ∧ (formS c).length ≤ 3 ∧ (wordS c).length ≤ 10 := by
  have hw : ((List.range 11).all fun c => decide ((formS c).cps.size ≤ 3 ∧ (formS c).length ≤ 3 ∧ (wordS c).length ≤ 10)) = true := by decide +kernel
  exact of_decide_eq_true (List.all_eq_true.mp hw c (List.mem_range.mpr (by omega)))
def spLine : Sp := fun vs H Q _ => ∃ (p : Addr) (cs : List Int), vs = [.ref p] ∧ H p = some (.lst (cs.map V.int)) ∧ By cs ∧ cs.length ≤ 4 ∧ ∀ H', Same H H' → Q (oS (progLine cs)) H'
theorem eqv_ne {a b : List Int} : PyData.eqvAll (a.map PyData.int) (b.map PyData.int) = decide (a = b) := by
  induction a generalizing b with
  | nil => cases b <;> simp [PyData.eqvAll]
  | cons x a ih =>
    cases b with
    | nil => simp [PyData.eqvAll]
    | cons y b =>
      simp only [List.map_cons, PyData.eqvAll, PyData.eqv, ih]
      by_cases h1 : x = y <;> by_cases h2 : a = b <;> simp [h1, h2]
section
variable {P : Program} {w : World} {K : PySem.W.Frag} {mg : Str → Option Value} {base : Heap} {FM : Addr}
theorem ok_line {f : Addr} {fd : FuncData} (D : Def K mg "_line_of" s_line_of f fd) (b : Binds K fd ["code"] []) (T : TxtW K mg FM) (c_names_registers : Cal P w K mg base 1 "names_registers" (spNames K) []) (c__fields : Cal P w K mg base 1 "_fields" spFlds []) : Cal P w K mg base 2 "_line_of" spLine [] := by
  obtain ⟨tL, TLN⟩ := T.LEN
  obtain ⟨rs, lrs, hF, hr'⟩ := T.tab
  refine cal0 D b .nil sc_line_of (fun vs H Q E h => ?_) (fun cdv A outer s H vs Q E hr h => ?_)
  · obtain ⟨p, cs, rfl, _⟩ := h
    rfl
  obtain ⟨p, cs, rfl, gp, hb, lc, q⟩ := h
  refine ⟨_, (pss_cons (ps_mk (ps_if (PW.pt (pw_or (pt_cmpR op_lt (pe_callB (lenQ K rfl) (by rfl) T.len PySem.boot_len (pa_cons (pv 0) pa_nil)) (pe_glob (v := V.int 4) (by rfl) TLN ⟨_, rfl⟩) (nomark _)) (pw_or1 (pt_cmpR op_ge (pe_ix (ixL K rfl) (pv 0) pe_int (fun _ _ => rfl)) (pe_callB (lenQ K rfl) (by rfl) T.len PySem.boot_len (pa_cons (pe_glob (v := V.ref FM) (by rfl) T.FORMS rfl) pa_nil)) (nomark _)))))
      (pss_one (ps_ret pe_non))
      pss_nil))
      (pss_cons (ps_asg (pe_ix (ixT K rfl) (pe_glob (v := V.ref FM) (by rfl) T.FORMS rfl) (pe_ix (ixL K rfl) (pv 0) pe_int (fun _ _ => rfl)) (fun _ _ => rfl)) (pg_tup rfl (pgs_cons (pg_name (i := 1) sc_line_of.nd rfl (.inl rfl)) (pgs_cons (pg_name (i := 2) sc_line_of.nd rfl (.inl rfl)) pgs_nil))))
      (pss_cons (ps_set (i := 3) sc_line_of.nd rfl (.inl rfl) (pe_slice sl_list (pv 0) (po_some pe_int) po_none))
      (pss_cons (ps_mk (ps_if (pt_not (pt_val (C8.pe_c c_names_registers hr (by omega) (by rfl) (pa_cons (pv 2) (pa_cons (pv 3) pa_nil)))))
      (pss_one (ps_ret pe_non))
      pss_nil))
      (pss_cons (ps_set (i := 4) sc_line_of.nd rfl (.inl rfl) (pe_ifExp (pt_cmpR op_eq (pv 2) pe_str (nomark _)) (pe_lst (pa_cons (pe_ix (ixL K rfl) (pv 3) pe_int (fun _ _ => rfl)) (pa_cons (pe_op op_add (pe_ix (ixL K rfl) (pv 3) pe_int (fun _ _ => rfl)) (pe_op op_mul pe_int (pe_ix (ixL K rfl) (pv 3) pe_int (fun _ _ => rfl)))) pa_nil))) (pe_slice sl_list (pv 3) po_none (po_some (pe_callB call_len_str (by rfl) T.len PySem.boot_len (pa_cons (pv 2) pa_nil))))))
      (pss_cons (ps_mk (ps_if (pt_cmpR (neQ K rfl hr.units) (pe_op op_cat (pe_lst (pa_cons (pe_ix (ixL K rfl) (pv 0) pe_int (fun _ _ => rfl)) pa_nil)) (C8.pe_c c__fields hr (by omega) (by rfl) (pa_cons (pv 2) (pa_cons (pv 4) pa_nil)))) (pv 0) (nomark _))
      (pss_one (ps_ret pe_non))
      pss_nil))
      (pss_one (ps_ret (pe_join pe_str (pe_op op_cat (pe_lst (pa_cons (pv 1) pa_nil)) (pe_lc (own := [("operand", 5)]) (g := gName 5) (tt := tYes) rfl sc_line_of.nd (pi_list (pv 4)) (blkOk_by (own := [("operand", 5)]) (N := ["code", "word", "form", "fields", "operands", "operand"]) (sc := C8.fnScope s_line_of) (by decide +kernel)) (fun _ _ _ _ _ => (pg_name (i := 5) sc_line_of.nd rfl (.inl rfl))) (fun _ _ _ _ _ => pts_nil) (fun _ _ _ _ _ => (pe_callTy call_str_int (by rfl) T.str (by decide +kernel) (pa_cons (pv 5) pa_nil)))))))))))))), ?_⟩
  refine jnS (M := fun σ H' => H' = H ∧ (∃ c x y z, cs = [c, x, y, z] ∧ c ≤ 10) ∧ σ = [sR p, none, none, none, none, none]) ?_ (fun N kk => ?_)
  rotate_left
  · walk_at "go"
    rw [List.length_map]
    refine ifD (fun c => ?_) (fun c => ?_)
    · walk_at "go"
      rw [progLine_short (by omega)] at q
      exact q _ same_rfl
    obtain ⟨c0, x, y, z, rfl⟩ : ∃ c x y z, cs = [c, x, y, z] := by
      match cs, lc, c with
      | [c, x, y, z], _, _ => exact ⟨c, x, y, z, rfl⟩
      | [], _, h => exact absurd (show ((0 : Nat) : Int) < 4 by decide) h
      | [_], _, h => exact absurd (show ((1 : Nat) : Int) < 4 by decide) h
      | [_, _], _, h => exact absurd (show ((2 : Nat) : Int) < 4 by decide) h
      | [_, _, _], _, h => exact absurd (show ((3 : Nat) : Int) < 4 by decide) h
      | _ :: _ :: _ :: _ :: _ :: _, h, _ => simp at h
    walk_at "go"
    refine ⟨p, _, _, _, rfl, rfl, SqL.of gp, atI_nat (j := 0) rfl, ?_⟩
    walk_at "go"
    refine ⟨FM, _, rfl, .inr (hF H), ?_⟩
    walk_at "go"
    rw [List.length_map, lrs]
    refine ifD (fun c => ?_) (fun c => ?_)
    · walk_at "go"
      have e : progLine [c0, x, y, z] = none := if_pos c
      rw [e] at q
      exact q _ same_rfl
    · exact kk _ _ ⟨rfl, ⟨c0, x, y, z, rfl, by omega⟩, rfl⟩
  rintro σ H1 ⟨rfl, ⟨c0, x, y, z, rfl, c10⟩, rfl⟩
  have hc := hb c0 (by simp)
  have hx := hb x (by simp)
  have hy := hb y (by simp)
  have hz := hb z (by simp)
  obtain ⟨c, ec⟩ : ∃ c : Nat, (c : Int) = c0 := ⟨c0.toNat, by omega⟩
  have c10' : c ≤ 10 := by omega
  obtain ⟨fz, fl, wl⟩ := form_len c10'
  have hrc : rs[c]? = some rs[c] := List.getElem?_eq_getElem (by omega)
  have htc := hr' c _ hrc
  generalize rs[c] = rc at *
  walk_at "go"
  refine ⟨p, _, _, _, rfl, rfl, SqL.of gp, atI_nat (j := 0) rfl, ?_⟩
  refine ⟨FM, _, _, _, rfl, rfl, hF _, (by rw [← ec]; exact atI_nat (by rw [List.getElem?_map, hrc]; rfl)), ?_⟩
  refine ⟨rc, _, rfl, htc _, rfl, ?_⟩
  refine ⟨_, _, rfl, ?_⟩
  refine ⟨_, _, rfl, ?_⟩
  walk_at "go"
  intro f nf
  show _
  rw [show cutV ([c0, x, y, z].map V.int) (some 1) none = [x, y, z].map V.int from cut1 _ _]
  have s2 := same_upd (o := HO.lst ([x, y, z].map V.int)) nf
  have gf := upd_same (H := H1) (a := f) (o := HO.lst ([x, y, z].map V.int))
  have gp2 := s2 _ _ gp
  generalize upd H1 f (HO.lst ([x, y, z].map V.int)) = H2 at *
  try dsimp only
  walk_at "go"
  refine jnS (M := fun σ H' => Same H2 H' ∧ (nameB (formL c) [x, y, z]).all id = true ∧ σ = [sR p, sS (wordS c), sS (formS c), sR f, none, none]) ?_ (fun N kk => ?_)
  rotate_left
  · walk_at "go"
    refine ⟨formS c, f, [x, y, z], rfl, gf, rfl, fun H3 s3 => ?_⟩
    walk_at "go"
    refine ifN ?_
    cases e : (nameB (formL c) [x, y, z]).all id with
    | true => exact ifBT e (kk _ _ ⟨s3, e, rfl⟩)
    | false =>
      refine ifBF e ?_
      walk_at "go"
      have e2 : progLine [c0, x, y, z] = none := by
        show (if _ then _ else if _ then _ else _) = none
        rw [if_neg (by omega), if_pos (by rw [← ec]; exact e)]
      rw [e2] at q
      exact q _ (s2.trans s3)
  rintro σ H3 ⟨s3, en, rfl⟩
  have gf3 := s3 _ _ gf
  have gp3 := s3 _ _ gp2
  have s23 := s2.trans s3
  have o0 : ∀ o ∈ opsP c x y z, 0 ≤ o ∧ o ≤ 100000 := fun o ho => by
    unfold opsP at ho
    split at ho
    · simp only [List.mem_cons, List.not_mem_nil, or_false] at ho
      rcases ho with rfl | rfl <;> omega
    · have ho := List.mem_of_mem_take ho
      simp only [List.mem_cons, List.not_mem_nil, or_false] at ho
      rcases ho with rfl | rfl | rfl <;> omega
  have ol : (opsP c x y z).length ≤ 3 := by
    unfold opsP
    split
    · show 2 ≤ 3
      decide
    · rw [List.length_take]
      exact Nat.min_le_right _ _
  walk_at "go"
  by_cases ca : formS c = "an"
  case' pos =>
    refine ifT (congrArg V.str ca) ?_
    walk_at "go"
    refine ⟨f, _, _, _, rfl, rfl, SqL.of gf3, atI_nat (j := 0) rfl, ?_⟩
    walk_at "go"
    refine ⟨f, _, _, _, rfl, rfl, SqL.of gf3, atI_nat (j := 1) rfl, ?_⟩
    walk_at "go"
    refine ⟨f, _, _, _, rfl, rfl, SqL.of gf3, atI_nat (j := 2) rfl, ?_⟩
    walk_at "go"
    refine ⟨sz, fun o no => ?_⟩
    have eo : (opsP c x y z).map V.int = [V.int x, V.int (y + 256 * z)] := by
      rw [opsP, if_pos ca]
      rfl
  case' neg =>
    refine ifF (fun z => ca (V.str.inj z)) ?_
    walk_at "go"
    refine ⟨by rw [sizeLine_eq]; omega, ?_⟩
    walk_at "go"
    intro o no
    have eo : (opsP c x y z).map V.int = cutV ([x, y, z].map V.int) none (some ((formS c).length : Nat)) := by
      rw [opsP, if_neg ca, cut_lo (by show _ ≤ 3; exact fl), List.map_take]
      rfl
  all_goals
    rw [← eo]
    have s4 := same_upd (o := HO.lst ((opsP c x y z).map V.int)) no
    have go := upd_same (H := H3) (a := o) (o := HO.lst ((opsP c x y z).map V.int))
    have gp4 := s4 _ _ gp3
    have s24 := s23.trans s4
    generalize upd H3 o (HO.lst ((opsP c x y z).map V.int)) = H4 at *
    clear eo no s3 s4 gf3 gp3 s23
    try dsimp only
    walk_at "go"
    refine jnS (M := fun σ H' => Same H4 H' ∧ [c0] ++ fieldsP (formL c) (opsP c x y z) = [c0, x, y, z] ∧ σ = [sR p, sS (wordS c), sS (formS c), sR f, sR o, none]) ?_ (fun N kk => ?_)
    rotate_left
    · walk_at "go"
      refine ⟨p, _, _, _, rfl, rfl, SqL.of gp4, atI_nat (j := 0) rfl, ?_⟩
      refine ⟨sz, fun l nl => ?_⟩
      have s5 := same_upd (o := HO.lst [V.int c0]) nl
      have gl := upd_same (H := H4) (a := l) (o := HO.lst [V.int c0])
      have go5 := s5 _ _ go
      have gp5 := s5 _ _ gp4
      generalize upd H4 l (HO.lst [V.int c0]) = H5 at *
      walk_at "go"
      refine ⟨formS c, o, opsP c x y z, rfl, go5, by omega, fun q hq => (o0 q hq).1, fun r H6 s6 nr gr => ?_⟩
      change H6 r = some (.lst ((fieldsP (formL c) (opsP c x y z)).map V.int)) at gr
      have gl6 := s6 _ _ gl
      have gp6 := s6 _ _ gp5
      have fll : (fieldsP (formL c) (opsP c x y z)).length ≤ 1000 := by
        have := fieldP_le (formL c) (opsP c x y z)
        have e : (formL c).length = (formS c).cps.size := Array.length_toList
        unfold fieldsP
        rw [List.length_append, List.length_replicate]
        omega
      refine ⟨l, r, _, _, rfl, rfl, gl6, gr, Nat.le_of_lt (sz5 (by rw [List.length_map]; show 1 + _ ≤ _; omega)), fun m nm => ?_⟩
      have s7 := same_upd (o := HO.lst ([V.int c0] ++ (fieldsP (formL c) (opsP c x y z)).map V.int)) nm
      have gm := upd_same (H := H6) (a := m) (o := HO.lst ([V.int c0] ++ (fieldsP (formL c) (opsP c x y z)).map V.int))
      have gp7 := s7 _ _ gp6
      have s57 := s5.trans (s6.trans s7)
      refine ⟨_, rfl, ?_⟩
      refine ⟨.list (([c0] ++ fieldsP (formL c) (opsP c x y z)).map PyData.int), .list ([c0, x, y, z].map PyData.int), Dh.dp _ _ ⟨m, _, rfl, upd_same, ?_⟩, Dh.dp _ _ ⟨p, _, rfl, gp7, dh_ints _⟩, shaped_ints _, shaped_ints _, ?_⟩
      · rw [show [V.int c0] ++ (fieldsP (formL c) (opsP c x y z)).map V.int = ([c0] ++ fieldsP (formL c) (opsP c x y z)).map V.int by rw [List.map_append]; rfl]
        exact dh_ints _
      rw [PyData.eqv, eqv_ne]
      walk_at "go"
      refine ifN ?_
      refine ifD (fun e => ?_) (fun e => ?_)
      · exact kk _ _ ⟨s57, e, rfl⟩
      · walk_at "go"
        have e2 : progLine [c0, x, y, z] = none := by
          show (if _ then _ else if _ then _ else if _ then _ else _) = none
          rw [if_neg (by omega), ← ec, Int.toNat_natCast, if_neg (by rw [en]; decide), ec, if_pos e]
        rw [e2] at q
        exact q _ (s24.trans s57)
    rintro σ H5 ⟨s5, ef, rfl⟩
    have e2 : progLine [c0, x, y, z] = some (Str.join " " (wordS c :: (opsP c x y z).map tS)) := by
      show (if _ then _ else if _ then _ else if _ then _ else _) = _
      rw [if_neg (by omega), ← ec, Int.toNat_natCast, if_neg (by rw [en]; decide), ec, if_neg (fun z => z ef)]
    rw [e2] at q
    have go5 := s5 _ _ go
    have s25 := s24.trans s5
    walk_at "go"
    refine ⟨⟨_, rfl⟩, ?_⟩
    walk_at "go"
    refine ⟨sz, fun l nl => ?_⟩
    have s6 := same_upd (o := HO.lst [V.str (wordS c)]) nl
    have gl := upd_same (H := H5) (a := l) (o := HO.lst [V.str (wordS c)])
    have go6 := s6 _ _ go5
    have s26 := s25.trans s6
    generalize upd H5 l (HO.lst [V.str (wordS c)]) = H6 at *
    walk_at "go"
    refine ⟨⟨_, SqL.of go6⟩, fun L nL => lc_list (K := K) (a := o) (xs := (opsP c x y z).map V.int) (fun i H' => Ob (Same H6 H' ∧ H' L = some (.lst ((((opsP c x y z).take i).map tS).map V.str)))) (ob ⟨same_upd nL, upd_same⟩) (fun i H' _ h => SqL.of ((unob h).1 _ _ go6)) ?_ ?_⟩
    · intro i v H7 hi h
      obtain ⟨s7, g7⟩ := unob h
      clear h
      rw [List.getElem?_map] at hi
      have hil : i < (opsP c x y z).length := by
        cases e : (opsP c x y z)[i]? with
        | none => rw [e] at hi; cases hi
        | some z => exact (List.getElem?_eq_some_iff.mp e).1
      rw [List.getElem?_eq_getElem hil] at hi
      obtain rfl := Option.some.inj hi
      have o1 := o0 _ (List.getElem_mem hil)
      have ek : (((opsP c x y z).take (i + 1)).map tS).map V.str = (((opsP c x y z).take i).map tS).map V.str ++ [V.str (tS (opsP c x y z)[i])] := by
        rw [List.take_add_one, List.getElem?_eq_getElem hil, List.map_append, List.map_append]
        rfl
      rw [ek]
      generalize (opsP c x y z)[i] = ov at *
      refine ⟨rfl, ?_⟩
      walk_at "go"
      refine ⟨log_sm o1.1 (by omega), ?_⟩
      exact ⟨_, g7, sz5 (by rw [List.length_map, List.length_map, List.length_take]; omega), ob ⟨same_put s7 nL, upd_same⟩⟩
    intro H7 h
    obtain ⟨s7, gL⟩ := unob h
    rw [List.length_map, List.take_length] at gL
    clear h
    have gl7 := s7 _ _ gl
    have s27 := s26.trans s7
    try dsimp only
    refine ⟨l, L, _, _, rfl, rfl, gl7, gL, Nat.le_of_lt (sz5 (by rw [List.length_map, List.length_map]; show 1 + _ ≤ _; omega)), fun M nM => ?_⟩
    have s8 := same_upd (o := HO.lst ([V.str (wordS c)] ++ ((opsP c x y z).map tS).map V.str)) nM
    refine ⟨" ", M, wordS c :: (opsP c x y z).map tS, rfl, rfl, .inl (SqL.of upd_same), ?_, ?_⟩
    · have sm : ∀ (os : List Int), (∀ o ∈ os, 0 ≤ o ∧ o ≤ 100000) → (((os.map tS).map (·.length)).sum : Nat) ≤ 1921 * os.length := fun os => by
        induction os with
        | nil => exact fun _ => Nat.le_refl _
        | cons q os ih =>
          intro h
          have h1 := ih fun r hr => h r (List.mem_cons_of_mem _ hr)
          have h2 := h q List.mem_cons_self
          have h3 := tS_len (i := q) h2.1 (by omega)
          simp only [List.map_cons, List.sum_cons, List.length_cons]
          omega
      have e1 : (" " : Str).length = 1 := by decide +kernel
      have h1 := sm _ o0
      rw [List.map_cons, List.sum_cons, List.length_cons, List.length_map, e1]
      omega
    · rw [TL.join_eq]
      exact q _ (s27.trans s8)
end

end

section

-- a condition of an operator
local macro_rules | `(tactic| walk_at "cond") => `(tactic| first
  | (show (0 : Int) < _; omega)
  | (show CDiv _ _; constructor <;> (first | decide | omega))
  | (show CMul _ _; first | (refine cmul_l ?_; constructor <;> (first | decide | omega)) | (refine cmul_r ?_; constructor <;> (first | decide | omega)))
  | (show CPow _ _; exact (by refine ⟨by decide, by decide, by decide⟩))
  | (show CDivW _ _; exact ⟨by decide, by decide +kernel⟩))
local macro_rules | `(tactic| walk_at "sq") => `(tactic| first | assumption | exact Dh.mono (same_upd (by assumption)) _ _ (by assumption) | exact .inl (.inl (.inl (by assumption))) | exact .inr (.inl (.inl (by assumption))) | exact SqL.of (by assumption) | exact .inl (by assumption) | exact .inl (SqL.of (by assumption)) | exact SqT.of (by assumption) | exact .inr (SqT.of (by assumption)))
local macro_rules | `(tactic| walk_at "st") => `(tactic| first
  | refine ⟨_, rfl, ?_⟩
  | refine ⟨_, _, rfl, rfl, ?_⟩
  | refine .inl ⟨_, rfl, ?_⟩
  | refine ⟨rfl, ?_⟩
  | refine ⟨_, _, rfl, by walk_at "sq", ?_⟩
  | refine ⟨.inl ⟨rfl, _, SqL.of (by assumption)⟩, ?_⟩
  | refine ⟨by walk_at "cond", ?_⟩
  | (refine' ifBT ?hh ?_; (case hh => first | rfl | assumption))
  | (refine' ifBF ?hh ?_; (case hh => first | rfl | assumption)))
local macro_rules | `(tactic| walk_at "go") => `(tactic| repeat walk_at "st")
local macro_rules | `(tactic| walk_at "yes") => `(tactic| (refine' ifT ?hh ?_; (case hh => first | rfl | decide +kernel)))
local macro_rules | `(tactic| walk_at "no") => `(tactic| (refine' ifF ?hh ?_; (case hh => first | decide +kernel | (intro z; cases z; done))))

local macro_rules | `(tactic| walk_at "st") => `(tactic| refine ⟨_, _, _, _, _, rfl, by assumption, by assumption, by omega, by omega, by omega, by omega, by omega, ?_⟩)
local macro_rules | `(tactic| walk_at "st") => `(tactic| refine ⟨_, _, _, _, _, rfl, Same.seq (by assumption) (by assumption), by assumption, by omega, by omega, by omega, by omega, by omega, ?_⟩)

/-! ### disassemble -/
abbrev s_disassemble : Stmt := topS 15
theorem sc_disassemble : FnScope ["data", "lines", "position", "line"] ["data"] (C8.fnScope s_disassemble) := C8.fnScope_by (by decide +kernel)
def chunk (data : List Int) (i : Nat) : List Int := (data.drop (4 * i)).take 4
def dis (f : List Int → Option Str) (data : List Int) : Nat → Nat → Nat ⊕ List Str
  | 0, _ => .inr []
  | k + 1, i => match f (chunk data i) with
    | none => .inl (4 * i)
    | some l => match dis f data k (i + 1) with
      | .inl p => .inl p
      | .inr ls => .inr (l :: ls)
def disN (data : List Int) : Nat := (data.length + 3) / 4
/-- what is told: the lines so far before those to come -/
def pre (ls : List Str) : Nat ⊕ List Str → Nat ⊕ List Str
  | .inl p => .inl p
  | .inr xs => .inr (ls ++ xs)
theorem dis_some {f : List Int → Option Str} {data : List Int} {k i : Nat} {l : Str} {ls : List Str} (h : f (chunk data i) = some l) : pre ls (dis f data (k + 1) i) = pre (ls ++ [l]) (dis f data k (i + 1)) := by
  rw [dis, h]
  cases dis f data k (i + 1) with
  | inl p => rfl
  | inr xs => exact congrArg Sum.inr (by rw [List.append_assoc]; rfl)
theorem dis_none {f : List Int → Option Str} {data : List Int} {k i : Nat} {ls : List Str} (h : f (chunk data i) = none) : pre ls (dis f data (k + 1) i) = .inl (4 * i) := by
  rw [dis, h]
  rfl
theorem pre_nil (x : Nat ⊕ List Str) : pre [] x = x := by
  cases x <;> rfl
theorem chunk_len (data : List Int) (i : Nat) : (chunk data i).length ≤ 4 := by
  unfold chunk
  rw [List.length_take]
  exact Nat.min_le_left _ _
theorem chunk_by {data : List Int} (h : By data) (i : Nat) : By (chunk data i) := fun b hb => h b (List.mem_of_mem_drop (List.mem_of_mem_take hb))
theorem cut_chunk (data : List Int) (i : Nat) (h : 4 * i ≤ data.length) : cutV (data.map V.int) (some ((4 * i : Nat) : Int)) (some ((4 * i + 4 : Nat) : Int)) = (chunk data i).map V.int := by
  unfold cutV chunk
  rw [List.length_map]
  have e1 : HT.sIx data.length 0 (some ((4 * i : Nat) : Int)) = 4 * i := by
    simp only [HT.sIx]
    split <;> omega
  have e2 : HT.sIx data.length data.length (some ((4 * i + 4 : Nat) : Int)) = min (4 * i + 4) data.length := by
    simp only [HT.sIx]
    split <;> omega
  rw [e1, e2, List.map_take, List.map_drop]
  by_cases c : 4 * i + 4 ≤ data.length
  · rw [Nat.min_eq_left c, show 4 * i + 4 - 4 * i = 4 by omega]
  · rw [Nat.min_eq_right (by omega), List.take_of_length_le (by rw [List.length_drop, List.length_map]; omega), List.take_of_length_le (by rw [List.length_drop, List.length_map]; omega)]
theorem fits {i : Int} (h : -(10 ^ 9) ≤ i ∧ i ≤ 10 ^ 9) : Builtin.Range.rangeFitsLong i = true := by
  unfold Builtin.Range.rangeFitsLong
  rw [Bool.and_eq_true, decide_eq_true_iff, decide_eq_true_iff]
  omega
theorem rg4 (n : Nat) (h : n ≤ 100000) : RgC 0 (n : Nat) 4 ((n + 3) / 4) := by
  have e : Builtin.Range.rangeSize 0 (n : Nat) 4 = (((n + 3) / 4 : Nat) : Int) := by
    unfold Builtin.Range.rangeSize
    rw [if_pos (by decide)]
    split <;> omega
  refine ⟨by decide, by decide, ?_, e⟩
  unfold Builtin.Range.small
  rw [e]
  rw [fits (i := 0) (by omega), fits (i := (n : Nat)) (by omega), fits (i := 4) (by omega), fits (i := ((n + 3) / 4 : Nat)) (by omega), if_pos (by decide), fits (by omega), Bool.or_true]
  rfl
def spDis (U : Addr) : Sp := fun vs H Q E => ∃ (a : Addr) (data : List Int), vs = [.ref a] ∧ H a = some (.lst (data.map V.int)) ∧ By data ∧ data.length ≤ 1000 ∧
  (∀ ls, dis progLine data (disN data) 0 = .inr ls → ∀ (p : Addr) (H' : Hp), Same H H' → H p = none → H' p = some (.lst (ls.map V.str)) → Q (.ref p) H') ∧
  (∀ i, dis progLine data (disN data) 0 = .inl i → ∀ (d : Addr) (H' : Hp), Same H H' → H' d = some (.xd (bcF (i : Nat))) → E (.ref U) (some d) H')
section
variable {P : Program} {w : World} {K : PySem.W.Frag} {mg : Str → Option Value} {base : Heap} {FM : Addr}
theorem ok_dis {U f2 : Addr} {fd2 : FuncData} (B : FnOk P w K mg base (L2.CX P w) 1 f2 fd2 ["self", "position"] (spBC U)) (O : OexC K U) (iC : PySem.W.findIn K (.ref U) "__init__" = some (some (.ref f2))) (tI : PySem.W.typeIn K (.ref f2) = some (.type "function"))
    (hb : Binds K fd2 ["self", "position"] []) (mD : mg "BadCode" = some (.ref U)) {f : Addr} {fd : FuncData} (Df : Def K mg "disassemble" s_disassemble f fd) (b : Binds K fd ["data"] []) (T : TxtW K mg FM) (c__line_of : Cal P w K mg base 2 "_line_of" spLine []) : CalE P w K mg base 3 "disassemble" (spDis U) := by
  obtain ⟨tL, TLN⟩ := T.LEN
  refine calE Df b sc_disassemble (fun vs H Q E h => ?_) (fun cdv A outer s H vs Q E hr h => ?_)
  · obtain ⟨a, data, rfl, _⟩ := h
    rfl
  obtain ⟨a, data, rfl, ga, hby, hl, q1, q2⟩ := h
  refine ⟨_, (pss_cons (ps_set (i := 1) sc_disassemble.nd rfl (.inl rfl) (pe_lst pa_nil))
      (pss_cons (ps_mk (ps_for (passes_of rfl) rfl (pi_range3 (by rfl) T.range (pa_cons pe_int (pa_cons (pe_callB (lenQ K rfl) (by rfl) T.len PySem.boot_len (pa_cons (pv 0) pa_nil)) (pa_cons (pe_glob (v := V.int 4) (by rfl) TLN ⟨_, rfl⟩) pa_nil)))) (pg_name (i := 2) sc_disassemble.nd rfl (.inl rfl))
      (pss_cons (ps_set (i := 3) sc_disassemble.nd rfl (.inl rfl) (C8.pe_c c__line_of hr (by omega) (by rfl) (pa_cons (pe_slice sl_list (pv 0) (po_some (pv 2)) (po_some (pe_op op_add (pv 2) (pe_glob (v := V.int 4) (by rfl) TLN ⟨_, rfl⟩)))) pa_nil)))
      (pss_cons (ps_mk (ps_if (pt_cmpR op_isN (pv 3) pe_non (nomark _))
      (pss_one (ps_raise rfl (takes_of rfl rfl rfl rfl) (pmk_oex O iC tI B hr hb .nil (fun _ _ _ _ e s' _ c => no_fly c) rfl mD (pa_cons (pv 2) pa_nil))))
      pss_nil))
      (pss_one (ps_expr (pe_bm PySem.F.plainAttrs_list PySem.F.slot_list_append PySem.F.type_list_append mt_append (pv 1) (pa_cons (pv 3) pa_nil))))))))
      (pss_one (ps_ret (pv 1))))), ?_⟩
  walk_at "go"
  refine ⟨sz, fun L nL => ?_⟩
  have s1 := same_upd (o := HO.lst []) nL
  have gL := upd_same (H := H) (a := L) (o := HO.lst [])
  have ga1 := s1 _ _ ga
  generalize upd H L (HO.lst []) = H1 at *
  refine jnS (M := fun σ H' => ∃ ls y2 y3, Same H H' ∧ H' L = some (.lst (ls.map V.str)) ∧ dis progLine data (disN data) 0 = .inr ls ∧ σ = [sR a, sR L, y2, y3]) ?_ (fun N kk => ?_)
  · rintro σ H2 ⟨ls, y2, y3, s2, g2, el, rfl⟩
    walk_at "go"
    exact q1 ls el L _ s2 nL g2
  walk_at "go"
  rw [List.length_map]
  refine ⟨0, (data.length : Nat), 4, (data.length + 3) / 4, rfl, rg4 _ (by omega), ?_⟩
  refine for_rangeC (lo := 0) (c := 4) (n := (data.length + 3) / 4) (fun i σ H' => Ob (∃ ls y2 y3, Same H H' ∧ H' L = some (.lst (ls.map V.str)) ∧ ls.length = i ∧ dis progLine data (disN data) 0 = pre ls (dis progLine data ((data.length + 3) / 4 - i) i) ∧ σ = [sR a, sR L, y2, y3])) (ob ⟨[], none, none, s1, gL, rfl, (pre_nil _).symm, rfl⟩) ?_ ?_
  · intro i σ H2 hi h
    obtain ⟨ls, y2, y3, s2, g2, ll, el, rfl⟩ := unob h
    clear h kk
    have ga2 := s2 _ _ ga
    rw [show (0 : Int) + (i : Nat) * 4 = ((4 * i : Nat) : Int) by omega]
    walk_at "go"
    intro p np
    rw [show ((4 * i : Nat) : Int) + 4 = ((4 * i + 4 : Nat) : Int) by omega, cut_chunk data i (by omega)]
    have s3 := same_upd (o := HO.lst ((chunk data i).map V.int)) np
    have gp := upd_same (H := H2) (a := p) (o := HO.lst ((chunk data i).map V.int))
    have g3 := s3 _ _ g2
    have s23 := s2.trans s3
    generalize upd H2 p (HO.lst ((chunk data i).map V.int)) = H3 at *
    refine ⟨p, chunk data i, rfl, gp, chunk_by hby i, chunk_len data i, fun H4 s4 => ?_⟩
    have g4 := s4 _ _ g3
    have s24 := s23.trans s4
    rw [show (data.length + 3) / 4 - i = ((data.length + 3) / 4 - (i + 1)) + 1 by omega] at el
    clear s23 s3 g3 gp s4
    walk_at "go"
    cases ep : progLine (chunk data i) with
    | none =>
      rw [dis_none ep] at el
      refine jnS (M := fun σ H' => False) (fun σ H' z => z.elim) (fun N kk => ?_)
      walk_at "go"
      refine ⟨(by show 1 ≤ 1000; decide), fun a na => ⟨a, (4 * i : Nat), rfl, upd_same, log_sm (by omega) (by omega), fun dx nd ne => ⟨rfl, dx, bcF (4 * i : Nat), upd_same, ?_, ?_, ?_⟩⟩⟩
      · rw [upd_ne ne]
        exact upd_same
      · rw [upd_ne ne] at nd
        exact nd
      · rw [upd_ne ne] at nd
        have e : upd (del (upd (upd (upd H4 a (exo a U none)) dx (exd dx (bcF (4 * i : Nat)))) a (exo a U (some dx))) a) dx (.xd (bcF (4 * i : Nat))) = upd H4 dx (.xd (bcF (4 * i : Nat))) := by
          funext c
          by_cases h1 : c = dx
          · rw [h1, upd_same, upd_same]
          · rw [upd_ne h1, upd_ne h1]
            by_cases h2 : c = a
            · rw [h2, del_same, na]
            · rw [del_ne h2, upd_ne h2, upd_ne h1, upd_ne h2]
        rw [e]
        exact q2 (4 * i) el dx _ (s24.trans (same_upd nd)) upd_same
    | some l =>
      rw [dis_some ep] at el
      refine jnS (M := fun σ H' => H' = H4 ∧ σ = [sR a, sR L, sI (4 * i : Nat), sS l]) ?_ (fun N kk => ?_)
      rotate_left
      · walk_at "go"
        exact kk _ _ ⟨rfl, rfl⟩
      rintro σ H5 ⟨rfl, rfl⟩
      walk_at "go"
      refine ⟨L, _, _, rfl, rfl, g4, sz5 (by rw [List.length_map]; omega), ?_⟩
      exact ob ⟨ls ++ [l], _, _, same_put s24 nL, by rw [upd_same, List.map_append]; rfl, by rw [List.length_append, ll]; rfl, el, rfl⟩
  · intro σ H2 h
    obtain ⟨ls, y2, y3, s2, g2, ll, el, rfl⟩ := unob h
    rw [Nat.sub_self, dis] at el
    exact kk _ _ ⟨ls, y2, y3, s2, g2, by rw [el, pre, List.append_nil], rfl⟩
end

end

section

-- a condition of an operator
local macro_rules | `(tactic| walk_at "cond") => `(tactic| first
  | (show (0 : Int) < _; omega)
  | (show CDiv _ _; constructor <;> (first | decide | omega))
  | (show CMul _ _; first | (refine cmul_l ?_; constructor <;> (first | decide | omega)) | (refine cmul_r ?_; constructor <;> (first | decide | omega)))
  | (show CPow _ _; exact (by refine ⟨by decide, by decide, by decide⟩))
  | (show CDivW _ _; exact ⟨by decide, by decide +kernel⟩))
local macro_rules | `(tactic| walk_at "sq") => `(tactic| first | assumption | exact Dh.mono (same_upd (by assumption)) _ _ (by assumption) | exact .inl (.inl (.inl (by assumption))) | exact .inr (.inl (.inl (by assumption))) | exact SqL.of (by assumption) | exact .inl (by assumption) | exact .inl (SqL.of (by assumption)) | exact SqT.of (by assumption) | exact .inr (SqT.of (by assumption)))
local macro_rules | `(tactic| walk_at "st") => `(tactic| first
  | refine ⟨_, rfl, ?_⟩
  | refine ⟨_, _, rfl, rfl, ?_⟩
  | refine .inl ⟨_, rfl, ?_⟩
  | refine ⟨rfl, ?_⟩
  | refine ⟨_, _, rfl, by walk_at "sq", ?_⟩
  | refine ⟨.inl ⟨rfl, _, SqL.of (by assumption)⟩, ?_⟩
  | refine ⟨by walk_at "cond", ?_⟩
  | (refine' ifBT ?hh ?_; (case hh => first | rfl | assumption))
  | (refine' ifBF ?hh ?_; (case hh => first | rfl | assumption)))
local macro_rules | `(tactic| walk_at "go") => `(tactic| repeat walk_at "st")
local macro_rules | `(tactic| walk_at "yes") => `(tactic| (refine' ifT ?hh ?_; (case hh => first | rfl | decide +kernel)))
local macro_rules | `(tactic| walk_at "no") => `(tactic| (refine' ifF ?hh ?_; (case hh => first | decide +kernel | (intro z; cases z; done))))

local macro_rules | `(tactic| walk_at "st") => `(tactic| refine ⟨_, _, _, _, _, rfl, by assumption, by assumption, by omega, by omega, by omega, by omega, by omega, ?_⟩)
local macro_rules | `(tactic| walk_at "st") => `(tactic| refine ⟨_, _, _, _, _, rfl, Same.seq (by assumption) (by assumption), by assumption, by omega, by omega, by omega, by omega, by omega, ?_⟩)

/-! ### the law's words, operands, line -/
section
variable {X : Cx} {j k : Nat} {x : Str} {p pos : Pos} {sp : Sp} {dvs : List V}
theorem pe_cn (c : Cal X.prog X.w X.K X.mg X.base k x sp dvs) (hr : Room j X.A) (hk : k ≤ j) (hg : Gl X x) (hdb : (x == ("__debug__" : Str)) = false := by decide) : PE X (.Call (.Name x p) [] [] pos) (tCall sp dvs E0 tNil) := by
  obtain ⟨f, fd, ps, ds, F, hm, kp, b, d⟩ := c.ex
  exact pe_call0 F (hr.mono hk) hg hm kp b d pass0 hdb
end
abbrev s_words : Stmt := topS 22
theorem sc_words : FnScope [] [] (C8.fnScope s_words) := C8.fnScope_by (by decide +kernel)
abbrev s_operands : Stmt := topS 23
theorem sc_operands : FnScope ["_law_code"] ["_law_code"] (C8.fnScope s_operands) := C8.fnScope_by (by decide +kernel)
abbrev s_Lline_of : Stmt := topS 24
theorem sc_Lline_of : FnScope ["_law_four", "_law_kinds", "_law_line", "_law_at", "_law_kind", "_law_byte"] ["_law_four"] (C8.fnScope s_Lline_of) := C8.fnScope_by (by decide +kernel)
def lS : Option Str → Str
  | none => ""
  | some s => s
def wid : List Nat → Nat
  | [] => 0
  | k :: ks => (if k = 110 then 2 else 1) + wid ks
theorem wid_tab {c : Nat} (h : c ≤ 10) : wid (kindL c) ≤ 3 ∧ (kindL c).length ≤ 3 := by
  have hw : ((List.range 11).all fun c => decide (wid (kindL c) ≤ 3 ∧ (kindL c).length ≤ 3)) = true := by decide +kernel
  exact of_decide_eq_true (List.all_eq_true.mp hw c (List.mem_range.mpr (by omega)))
theorem range_words : (List.range 11).map (fun c => V.str (wordS c)) = [V.str "halt", V.str "set", V.str "add", V.str "sub", V.str "load", V.str "store", V.str "loadw", V.str "storew", V.str "move", V.str "jump", V.str "fork"] := rfl
theorem range_kinds : (List.range 11).map (fun c => V.str (kindS c)) = [V.str "", V.str "rn", V.str "rrr", V.str "rrr", V.str "rr", V.str "rr", V.str "rr", V.str "rr", V.str "rrr", V.str "rn", V.str "r"] := rfl
theorem cut_hi {us : List V} {a : Nat} (h : a ≤ us.length) : cutV us (some (a : Int)) none = us.drop a := by
  unfold cutV
  have e : HT.sIx us.length 0 (some (a : Int)) = a := by
    simp only [HT.sIx]
    split <;> omega
  have e2 : HT.sIx us.length us.length none = us.length := rfl
  rw [e, e2]
  exact List.take_of_length_le (by rw [List.length_drop]; exact Nat.le_refl _)
theorem keep_snoc {p : Int → Bool} {xs : List Int} {i : Nat} {v : Int} (h : xs[i]? = some v) : (xs.take (i + 1)).filter p = (xs.take i).filter p ++ if p v = true then [v] else [] := by
  rw [List.take_add_one, h, List.filter_append]
  congr 1
  show List.filter p [v] = _
  rw [List.filter_cons, List.filter_nil]
theorem none_left {xs : List Int} : (xs.filter fun i => !decide (i = 0)).length > 0 ↔ xs.all (· == 0) = false := by
  rw [gt_iff_lt, List.length_filter_pos_iff, List.all_eq_false]
  simp
def spLW : Sp := fun vs H Q _ => vs = [] ∧ ∀ (p : Addr) (H' : Hp), Same H H' → H p = none → H' p = some (.lst ((List.range 11).map fun c => V.str (wordS c))) → Q (.ref p) H'
def spLO : Sp := fun vs H Q _ => ∃ c : Nat, vs = [.int (c : Nat)] ∧ c ≤ 10 ∧ ∀ H', Same H H' → Q (.str (kindS c)) H'
def spLL : Sp := fun vs H Q _ => ∃ (p : Addr) (fs : List Int), vs = [.ref p] ∧ H p = some (.lst (fs.map V.int)) ∧ By fs ∧ fs.length = 4 ∧ ∀ H', Same H H' → Q (.str (lS (lawLine fs))) H'
section
variable {P : Program} {w : World} {K : PySem.W.Frag} {mg : Str → Option Value} {base : Heap} {FM : Addr}
theorem ok_lwords {f : Addr} {fd : FuncData} (D : Def K mg "_law_words" s_words f fd) (b : Binds K fd [] []) (T : Txt mg) : Cal P w K mg base 1 "_law_words" spLW [] := by
  refine cal0 D b .nil sc_words (fun vs H Q E h => ?_) (fun cdv A outer s H vs Q E hr h => ?_)
  · rw [h.1]
    rfl
  obtain ⟨rfl, q⟩ := h
  refine ⟨_, (pss_one (ps_ret (pe_lst (pa_cons pe_str (pa_cons pe_str (pa_cons pe_str (pa_cons pe_str (pa_cons pe_str (pa_cons pe_str (pa_cons pe_str (pa_cons pe_str (pa_cons pe_str (pa_cons pe_str (pa_cons pe_str pa_nil)))))))))))))), ?_⟩
  walk_at "go"
  refine ⟨sz, fun p np => ?_⟩
  rw [← range_words]
  exact q p _ (same_upd np) np upd_same
theorem ok_loper {f : Addr} {fd : FuncData} (D : Def K mg "_law_operands" s_operands f fd) (b : Binds K fd ["_law_code"] []) (T : Txt mg) : Cal P w K mg base 1 "_law_operands" spLO [] := by
  refine cal0 D b .nil sc_operands (fun vs H Q E h => ?_) (fun cdv A outer s H vs Q E hr h => ?_)
  · obtain ⟨c, rfl, _⟩ := h
    rfl
  obtain ⟨c, rfl, hc, q⟩ := h
  refine ⟨_, (pss_one (ps_ret (pe_ix (ixL K rfl) (pe_lst (pa_cons pe_str (pa_cons pe_str (pa_cons pe_str (pa_cons pe_str (pa_cons pe_str (pa_cons pe_str (pa_cons pe_str (pa_cons pe_str (pa_cons pe_str (pa_cons pe_str (pa_cons pe_str pa_nil)))))))))))) (pv 0) (fun _ _ => rfl)))), ?_⟩
  walk_at "go"
  refine ⟨sz, fun p np => ?_⟩
  rw [← range_kinds]
  have s1 := same_upd (o := HO.lst ((List.range 11).map fun c => V.str (kindS c))) np
  have g1 := upd_same (H := H) (a := p) (o := HO.lst ((List.range 11).map fun c => V.str (kindS c)))
  generalize upd H p (HO.lst ((List.range 11).map fun c => V.str (kindS c))) = H1 at *
  walk_at "go"
  refine ⟨p, _, _, _, rfl, rfl, SqL.of g1, atI_nat (v := V.str (kindS c)) (by rw [List.getElem?_map, List.getElem?_range (by omega)]; rfl), ?_⟩
  exact q _ s1
theorem ok_lline {f : Addr} {fd : FuncData} (D : Def K mg "_law_line_of" s_Lline_of f fd) (b : Binds K fd ["_law_four"] []) (T : Txt mg) (c_words : Cal P w K mg base 1 "_law_words" spLW []) (c_operands : Cal P w K mg base 1 "_law_operands" spLO []) : Cal P w K mg base 2 "_law_line_of" spLL [] := by
  refine cal0 D b .nil sc_Lline_of (fun vs H Q E h => ?_) (fun cdv A outer s H vs Q E hr h => ?_)
  · obtain ⟨p, fs, rfl, _⟩ := h
    rfl
  obtain ⟨p, fs, rfl, gp, hb, lf, q⟩ := h
  obtain ⟨c0, x, y, z, rfl⟩ : ∃ c x y z, fs = [c, x, y, z] := by
    match fs, lf with
    | [c, x, y, z], _ => exact ⟨c, x, y, z, rfl⟩
  have hc := hb c0 (by simp)
  refine ⟨_, (pss_cons (ps_mk (ps_if (pt_cmpR op_gt (pe_ix (ixL K rfl) (pv 0) pe_int (fun _ _ => rfl)) pe_int (nomark _))
      (pss_one (ps_ret pe_str))
      pss_nil))
      (pss_cons (ps_set (i := 1) sc_Lline_of.nd rfl (.inl rfl) (C8.pe_c c_operands hr (by omega) (by rfl) (pa_cons (pe_ix (ixL K rfl) (pv 0) pe_int (fun _ _ => rfl)) pa_nil)))
      (pss_cons (ps_set (i := 2) sc_Lline_of.nd rfl (.inl rfl) (pe_ix (ixL K rfl) ((pe_cn c_words hr (by omega) (by rfl))) (pe_ix (ixL K rfl) (pv 0) pe_int (fun _ _ => rfl)) (fun _ _ => rfl)))
      (pss_cons (ps_set (i := 3) sc_Lline_of.nd rfl (.inl rfl) pe_int)
      (pss_cons (ps_mk (ps_for PassesOwn.never rfl (pi_str (pv 1)) (pg_name (i := 4) sc_Lline_of.nd rfl (.inl rfl))
      (pss_one (ps_mk (ps_if (pt_cmpR op_eq (pv 4) pe_str (nomark _))
      (pss_cons (ps_set (i := 2) sc_Lline_of.nd rfl (.inl rfl) (pe_op op_add_str (pe_op op_add_str (pv 2) pe_str) (pe_callTy call_str_int (by rfl) T.str (by decide +kernel) (pa_cons (pe_op op_add (pe_ix (ixL K rfl) (pv 0) (pv 3) (fun _ _ => rfl)) (pe_op op_mul pe_int (pe_ix (ixL K rfl) (pv 0) (pe_op op_add (pv 3) pe_int) (fun _ _ => rfl)))) pa_nil))))
      (pss_one (ps_set (i := 3) sc_Lline_of.nd rfl (.inl rfl) (pe_op op_add (pv 3) pe_int))))
      (pss_one (ps_mk (ps_if (pt_cmpR op_gt (pe_ix (ixL K rfl) (pv 0) (pv 3) (fun _ _ => rfl)) pe_int (nomark _))
      (pss_one (ps_ret pe_str))
      (pss_cons (ps_set (i := 2) sc_Lline_of.nd rfl (.inl rfl) (pe_op op_add_str (pe_op op_add_str (pv 2) pe_str) (pe_callTy call_str_int (by rfl) T.str (by decide +kernel) (pa_cons (pe_ix (ixL K rfl) (pv 0) (pv 3) (fun _ _ => rfl)) pa_nil))))
      (pss_one (ps_set (i := 3) sc_Lline_of.nd rfl (.inl rfl) (pe_op op_add (pv 3) pe_int))))))))))))
      (pss_cons (ps_mk (ps_if (pt_cmpR op_gt (pe_callB (lenQ K rfl) (by rfl) T.len PySem.boot_len (pa_cons (pe_lc (own := [("_law_byte", 5)]) (g := gName 5) rfl sc_Lline_of.nd (pi_list (pe_slice sl_list (pv 0) (po_some (pv 3)) po_none)) (blkOk_by (own := [("_law_byte", 5)]) (N := ["_law_four", "_law_kinds", "_law_line", "_law_at", "_law_kind", "_law_byte"]) (sc := C8.fnScope s_Lline_of) (by decide +kernel)) (fun _ _ _ _ _ => (pg_name (i := 5) sc_Lline_of.nd rfl (.inl rfl))) (fun _ _ _ _ _ => (pts_one (pt_cmpR op_ne (pv 5) pe_int (nomark _)))) (fun _ _ _ _ _ => (pv 5))) pa_nil)) pe_int (nomark _))
      (pss_one (ps_ret pe_str))
      pss_nil))
      (pss_one (ps_ret (pv 2))))))))), ?_⟩
  refine jnS (M := fun σ H' => H' = H ∧ c0 ≤ 10 ∧ σ = [sR p, none, none, none, none, none]) ?_ (fun N kk => ?_)
  rotate_left
  · walk_at "go"
    refine ⟨p, _, _, _, rfl, rfl, SqL.of gp, atI_nat (j := 0) rfl, ?_⟩
    walk_at "go"
    refine ifD (fun cc => ?_) (fun cc => ?_)
    · walk_at "go"
      have e : lawLine [c0, x, y, z] = none := if_pos cc
      rw [e] at q
      exact q _ same_rfl
    · exact kk _ _ ⟨rfl, by omega, rfl⟩
  rintro σ H1 ⟨rfl, c10, rfl⟩
  obtain ⟨c, rfl⟩ : ∃ c : Nat, c0 = (c : Int) := ⟨c0.toNat, by omega⟩
  have c10' : c ≤ 10 := by omega
  have eq0 : lawLine [(c : Int), x, y, z] = endL (lawK (kindL c) [x, y, z] (wordS c)) := by
    show (if _ then _ else _) = _
    rw [if_neg (by omega), Int.toNat_natCast]
  rw [eq0] at q
  have w3 := wid_tab c10'
  have wl := (form_len c10').2.2
  have ks : (kindL c).length = (kindS c).cps.size := Array.length_toList
  walk_at "go"
  refine ⟨p, _, _, _, rfl, rfl, SqL.of gp, atI_nat (j := 0) rfl, ?_⟩
  refine ⟨c, rfl, c10', fun H2 s2 => ?_⟩
  have gp2 := s2 _ _ gp
  walk_at "go"
  intro W H3 s3 nW gW
  have gp3 := s3 _ _ gp2
  have s23 := s2.trans s3
  clear s2 s3 gp2
  try dsimp only
  walk_at "go"
  refine ⟨p, _, _, _, rfl, rfl, SqL.of gp3, atI_nat (j := 0) rfl, ?_⟩
  refine ⟨W, _, _, _, rfl, rfl, SqL.of gW, atI_nat (v := V.str (wordS c)) (by rw [List.getElem?_map, List.getElem?_range (by omega)]; rfl), ?_⟩
  clear gW nW
  walk_at "go"
  refine jnS (M := fun σ H' => ∃ (at_ : Nat) (line : Str) (y4 : Option V), Same H3 H' ∧ at_ ≤ 4 ∧ lawK (kindL c) [x, y, z] (wordS c) = some (line, [(c : Int), x, y, z].drop at_) ∧ σ = [sR p, sS (kindS c), sS line, sI (at_ : Nat), y4, none]) ?_ (fun N kk => ?_)
  rotate_left
  · walk_at "go"
    refine for_it (walk_str (z := kindS c)) (fun i σ H' => Ob (∃ (at_ : Nat) (line : Str) (y4 : Option V), H' = H3 ∧ 1 ≤ at_ ∧ at_ + wid ((kindL c).drop i) ≤ 4 ∧ line.length ≤ 10 + 2000 * i ∧ lawK (kindL c) [x, y, z] (wordS c) = lawK ((kindL c).drop i) ([(c : Int), x, y, z].drop at_) line ∧ σ = [sR p, sS (kindS c), sS line, sI (at_ : Nat), y4, none])) (ob ⟨1, wordS c, none, rfl, Nat.le_refl _, by rw [List.drop_zero]; omega, by omega, rfl, rfl⟩) (fun _ _ _ _ _ => trivial) ?_ ?_
    · intro i v σ H4 H5 hi h hy
      obtain ⟨at_, line, y4, rfl, a1, a4, ll, el, rfl⟩ := unob h
      clear h kk
      obtain ⟨rfl, k, ek, rfl⟩ := hy
      have hik : i < (kindL c).length := by omega
      have edr : (kindL c).drop i = k :: (kindL c).drop (i + 1) := by
        rw [List.drop_eq_getElem_cons hik]
        congr 1
        have : (kindS c).cps[i]? = some (kindL c)[i] := by
          rw [Array.getElem?_eq_getElem hi]
          rfl
        rw [this] at ek
        exact Option.some.inj ek
      rw [edr] at el a4
      have e1 : (" " : Str).length = 1 := by decide +kernel
      have sl := sizeLine_eq
      have lfs : ([(c : Int), x, y, z].drop at_).length = 4 - at_ := by rw [List.length_drop]; rfl
      by_cases c1 : k = 110
      · subst c1
        simp only [wid, if_true] at a4
        rw [lawK, if_pos rfl] at el
        have hA : at_ < [(c : Int), x, y, z].length := by rw [lf]; omega
        have hB : at_ + 1 < [(c : Int), x, y, z].length := by rw [lf]; omega
        have bA := hb _ (List.getElem_mem hA)
        have bB := hb _ (List.getElem_mem hB)
        have gA : [(c : Int), x, y, z][at_]? = some _ := List.getElem?_eq_getElem hA
        have gB : [(c : Int), x, y, z][at_ + 1]? = some _ := List.getElem?_eq_getElem hB
        rw [List.drop_drop, List.getD_eq_getElem?_getD, List.getD_eq_getElem?_getD, List.getElem?_drop, List.getElem?_drop, show at_ + 0 = at_ from rfl, gA, gB, Option.getD_some, Option.getD_some] at el
        generalize [(c : Int), x, y, z][at_] = va at *
        generalize [(c : Int), x, y, z][at_ + 1] = vb at *
        refine un ?_
        walk_at "go"
        refine ⟨by omega, ?_⟩
        walk_at "go"
        refine ⟨p, _, _, _, rfl, rfl, SqL.of gp3, atI_nat (v := V.int va) (by rw [List.getElem?_map, gA]; rfl), ?_⟩
        walk_at "go"
        refine ⟨p, _, _, _, rfl, rfl, SqL.of gp3, atI_nat (j := at_ + 1) (v := V.int vb) (by rw [List.getElem?_map, gB]; rfl), ?_⟩
        walk_at "go"
        refine ⟨log_sm (by omega) (by omega), ?_⟩
        have tl := tS_len (i := va + 256 * vb) (by omega) (by omega)
        change (Str.ofString (toString (va + 256 * vb))).length ≤ 1921 at tl
        refine ⟨_, _, rfl, rfl, by rw [Str.length_append]; omega, ?_⟩
        walk_at "go"
        exact ob ⟨at_ + 2, _, _, rfl, by omega, by omega, by rw [Str.length_append, Str.length_append]; exact Nat.le_trans (Nat.add_le_add_left tl _) (by omega), el, rfl⟩
      · rw [wid, if_neg c1] at a4
        rw [lawK, if_neg c1] at el
        have hA : at_ < [(c : Int), x, y, z].length := by rw [lf]; omega
        have bA := hb _ (List.getElem_mem hA)
        have gA : [(c : Int), x, y, z][at_]? = some _ := List.getElem?_eq_getElem hA
        rw [List.drop_drop, List.getD_eq_getElem?_getD, List.getElem?_drop, show at_ + 0 = at_ from rfl, gA, Option.getD_some] at el
        generalize [(c : Int), x, y, z][at_] = va at *
        refine un ?_
        walk_at "go"
        refine ifF (fun z => c1 ((sign_n k).mp z)) ?_
        refine un ?_
        walk_at "go"
        refine ⟨p, _, _, _, rfl, rfl, SqL.of gp3, atI_nat (v := V.int va) (by rw [List.getElem?_map, gA]; rfl), ?_⟩
        walk_at "go"
        refine ifD (fun cc => ?_) (fun cc => ?_)
        · rw [if_pos cc] at el
          rw [el] at q
          walk_at "go"
          exact q _ s23
        rw [if_neg cc] at el
        walk_at "go"
        refine ⟨by omega, ?_⟩
        walk_at "go"
        refine ⟨p, _, _, _, rfl, rfl, SqL.of gp3, atI_nat (v := V.int va) (by rw [List.getElem?_map, gA]; rfl), ?_⟩
        walk_at "go"
        refine ⟨log_sm (by omega) (by omega), ?_⟩
        have tl := tS_len (i := va) (by omega) (by omega)
        change (Str.ofString (toString va)).length ≤ 1921 at tl
        refine ⟨_, _, rfl, rfl, by rw [Str.length_append]; omega, ?_⟩
        walk_at "go"
        exact ob ⟨at_ + 1, _, _, rfl, by omega, by omega, by rw [Str.length_append, Str.length_append]; exact Nat.le_trans (Nat.add_le_add_left tl _) (by omega), el, rfl⟩
    · intro σ H4 h
      obtain ⟨at_, line, y4, rfl, a1, a4, ll, el, rfl⟩ := unob h
      rw [List.drop_of_length_le (by omega)] at el a4
      exact kk _ _ ⟨at_, line, y4, same_rfl, by simpa [wid] using a4, el, rfl⟩
  rintro σ H4 ⟨at_, line, y4, s4, a4, el, rfl⟩
  rw [el] at q
  refine jnS (M := fun σ H' => Same H4 H' ∧ ([(c : Int), x, y, z].drop at_).all (· == 0) = true ∧ σ = [sR p, sS (kindS c), sS line, sI (at_ : Nat), y4, none]) ?_ (fun N kk => ?_)
  rotate_left
  · have gp4 := s4 _ _ gp3
    walk_at "go"
    intro T nT
    rw [cut_hi (by rw [List.length_map, lf]; exact a4), ← List.map_drop]
    have lr : ([(c : Int), x, y, z].drop at_).length ≤ 4 := by rw [List.length_drop, lf]; omega
    generalize [(c : Int), x, y, z].drop at_ = rest at *
    have s5 := same_upd (o := HO.lst (rest.map V.int)) nT
    have gT := upd_same (H := H4) (a := T) (o := HO.lst (rest.map V.int))
    generalize upd H4 T (HO.lst (rest.map V.int)) = H5 at *
    try dsimp only
    walk_at "go"
    refine ⟨⟨_, SqL.of gT⟩, fun L nL => lc_list (K := K) (a := T) (xs := rest.map V.int) (fun i H' => Ob (Same H5 H' ∧ H' L = some (.lst (((rest.take i).filter fun i => !decide (i = 0)).map V.int)))) (ob ⟨same_upd nL, upd_same⟩) (fun i H' _ h => SqL.of ((unob h).1 _ _ gT)) ?_ ?_⟩
    · intro i v H6 hi h
      obtain ⟨s6, g6⟩ := unob h
      clear h
      rw [List.getElem?_map] at hi
      cases er : rest[i]? with
      | none => rw [er] at hi; cases hi
      | some u =>
        rw [er] at hi
        obtain rfl := Option.some.inj hi
        rw [keep_snoc er]
        walk_at "go"
        by_cases u0 : u = 0
        · subst u0
          show if (!decide (V.int 0 = V.int 0)) = true then _ else _
          rw [if_neg (show ¬ ((!decide (V.int 0 = V.int 0)) = true) by decide), if_neg (by decide), List.append_nil]
          exact ob ⟨s6, g6⟩
        · show if (!decide (V.int u = V.int 0)) = true then _ else _
          rw [if_pos (show (!decide (V.int u = V.int 0)) = true by rw [decide_eq_false (fun z => u0 (V.int.inj z))]; rfl), if_pos (by simp [u0]), List.map_append]
          walk_at "go"
          refine ⟨_, g6, sz5 (Nat.le_trans (Nat.le_of_eq (List.length_map ..)) (Nat.le_trans (List.length_filter_le ..) (by rw [List.length_take]; omega))), ?_⟩
          exact ob ⟨same_put s6 nL, upd_same⟩
    intro H6 h
    obtain ⟨s6, g6⟩ := unob h
    clear h
    rw [List.length_map, List.take_length] at g6
    have s46 := s5.trans s6
    walk_at "go"
    rw [List.length_map]
    refine ifD (fun cc => ?_) (fun cc => ?_)
    · walk_at "go"
      have e0 := (none_left (xs := rest)).mp (by omega)
      have e1 : endL (some (line, rest)) = none := if_neg (by rw [e0]; decide)
      rw [e1] at q
      exact q _ (s23.trans (s4.trans s46))
    · refine kk _ _ ⟨s46, ?_, rfl⟩
      cases e0 : rest.all (· == 0) with
      | true => rfl
      | false =>
        have := none_left.mpr e0
        omega
  rintro σ H5 ⟨s5, e0, rfl⟩
  walk_at "go"
  have e1 : endL (some (line, [(c : Int), x, y, z].drop at_)) = some line := if_pos e0
  rw [e1] at q
  exact q _ (s23.trans (s4.trans s5))
end

end

section

-- a condition of an operator
local macro_rules | `(tactic| walk_at "cond") => `(tactic| first
  | (show (0 : Int) < _; omega)
  | (show CDiv _ _; constructor <;> (first | decide | omega))
  | (show CMul _ _; first | (refine cmul_l ?_; constructor <;> (first | decide | omega)) | (refine cmul_r ?_; constructor <;> (first | decide | omega)))
  | (show CPow _ _; exact (by refine ⟨by decide, by decide, by decide⟩))
  | (show CDivW _ _; exact ⟨by decide, by decide +kernel⟩))
local macro_rules | `(tactic| walk_at "sq") => `(tactic| first | assumption | exact Dh.mono (same_upd (by assumption)) _ _ (by assumption) | exact .inl (.inl (.inl (by assumption))) | exact .inr (.inl (.inl (by assumption))) | exact SqL.of (by assumption) | exact .inl (by assumption) | exact .inl (SqL.of (by assumption)) | exact SqT.of (by assumption) | exact .inr (SqT.of (by assumption)))
local macro_rules | `(tactic| walk_at "st") => `(tactic| first
  | refine ⟨_, rfl, ?_⟩
  | refine ⟨_, _, rfl, rfl, ?_⟩
  | refine .inl ⟨_, rfl, ?_⟩
  | refine ⟨rfl, ?_⟩
  | refine ⟨_, _, rfl, by walk_at "sq", ?_⟩
  | refine ⟨.inl ⟨rfl, _, SqL.of (by assumption)⟩, ?_⟩
  | refine ⟨by walk_at "cond", ?_⟩
  | (refine' ifBT ?hh ?_; (case hh => first | rfl | assumption))
  | (refine' ifBF ?hh ?_; (case hh => first | rfl | assumption)))
local macro_rules | `(tactic| walk_at "go") => `(tactic| repeat walk_at "st")
local macro_rules | `(tactic| walk_at "yes") => `(tactic| (refine' ifT ?hh ?_; (case hh => first | rfl | decide +kernel)))
local macro_rules | `(tactic| walk_at "no") => `(tactic| (refine' ifF ?hh ?_; (case hh => first | decide +kernel | (intro z; cases z; done))))

local macro_rules | `(tactic| walk_at "st") => `(tactic| refine ⟨_, _, _, _, _, rfl, by assumption, by assumption, by omega, by omega, by omega, by omega, by omega, ?_⟩)
local macro_rules | `(tactic| walk_at "st") => `(tactic| refine ⟨_, _, _, _, _, rfl, Same.seq (by assumption) (by assumption), by assumption, by omega, by omega, by omega, by omega, by omega, ?_⟩)

/-! ### the law's due -/
abbrev s_lines_due : Stmt := topS 25
theorem sc_lines_due : FnScope ["_law_data", "_law_lines", "_law_at", "_law_four"] ["_law_data"] (C8.fnScope s_lines_due) := C8.fnScope_by (by decide +kernel)
theorem lawK_len : ∀ (ks : List Nat) (bs : List Int) (l : Str) {l2 : Str} {r : List Int}, lawK ks bs l = some (l2, r) → l.length ≤ l2.length
  | [], bs, l, l2, r, h => by
    rw [lawK] at h
    obtain ⟨rfl, rfl⟩ := Prod.mk.inj (Option.some.inj h)
    exact Nat.le_refl _
  | k :: ks, bs, l, l2, r, h => by
    rw [lawK] at h
    split at h
    · have := lawK_len ks _ _ h
      rw [Str.length_append, Str.length_append] at this
      omega
    · split at h
      · cases h
      · have := lawK_len ks _ _ h
        rw [Str.length_append, Str.length_append] at this
        omega
theorem word_pos {c : Nat} (h : c ≤ 10) : 1 ≤ (wordS c).length := by
  have hw : ((List.range 11).all fun c => decide (1 ≤ (wordS c).length)) = true := by decide +kernel
  exact of_decide_eq_true (List.all_eq_true.mp hw c (List.mem_range.mpr (by omega)))
theorem lawLine_pos {fs : List Int} {l : Str} (hb : By fs) (h : lawLine fs = some l) : l ≠ "" := by
  match fs, h with
  | c :: bs, h =>
    rw [lawLine] at h
    split at h
    · cases h
    · rename_i c1
      have c0 := (hb c (by simp)).1
      cases e : lawK (kindL c.toNat) bs (wordS c.toNat) with
      | none => rw [e] at h; cases h
      | some p =>
        rw [e] at h
        have h : (if p.2.all (· == 0) then some p.1 else none) = some l := h
        split at h
        · obtain rfl := Option.some.inj h
          have h1 := lawK_len _ _ _ (l2 := p.1) (r := p.2) e
          have h2 := word_pos (c := c.toNat) (by omega)
          intro z
          rw [z] at h1
          have e0 : ("" : Str).length = 0 := by decide +kernel
          omega
        · cases h
theorem lS_nil {fs : List Int} (hb : By fs) (hl : fs.length = 4) : lS (lawLine fs) = "" ↔ progLine fs = none := by
  match fs, hl with
  | [c, x, y, z], _ =>
    rw [same_line hb]
    cases e : lawLine [c, x, y, z] with
    | none => exact ⟨fun _ => rfl, fun _ => rfl⟩
    | some l => exact ⟨fun q => absurd q (lawLine_pos hb e), fun q => by cases q⟩
def dueD : Nat ⊕ List Str → PyData
  | .inl i => .tuple [.str "raises", .str "BadCode", .tuple [.int (i : Nat)]]
  | .inr ls => .tuple [.str "gives", .list (ls.map PyData.str)]
def dueT : Nat ⊕ List Str → Str
  | .inl _ => "raises"
  | .inr _ => "gives"
def disP (data : List Int) : Nat ⊕ List Str := dis progLine data (disN data) 0
def spDue : Sp := fun vs H Q _ => ∃ (a : Addr) (data : List Int), vs = [.ref a] ∧ H a = some (.lst (data.map V.int)) ∧ By data ∧ data.length ≤ 1000 ∧
  ∀ (T : Addr) (us : List V) (H' : Hp), Same H H' → H' T = some (.tup us) → us[0]? = some (.str (dueT (disP data))) → Dh H' (dueD (disP data)) (.ref T) → Q (.ref T) H'
theorem dh_strs {H : Hp} : ∀ (ls : List Str), DhAll H (ls.map PyData.str) (ls.map V.str)
  | [] => rfl
  | _ :: ls => ⟨_, _, rfl, rfl, dh_strs ls⟩
section
variable {P : Program} {w : World} {K : PySem.W.Frag} {mg : Str → Option Value} {base : Heap} {FM : Addr}
theorem ok_ldue {f : Addr} {fd : FuncData} (D : Def K mg "_law_lines_due" s_lines_due f fd) (b : Binds K fd ["_law_data"] []) (T : Txt mg) (c_line_of : Cal P w K mg base 2 "_law_line_of" spLL []) : Cal P w K mg base 3 "_law_lines_due" spDue [] := by
  refine cal0 D b .nil sc_lines_due (fun vs H Q E h => ?_) (fun cdv A outer s H vs Q E hr h => ?_)
  · obtain ⟨a, data, rfl, _⟩ := h
    rfl
  obtain ⟨a, data, rfl, ga, hby, hl, q⟩ := h
  refine ⟨_, (pss_cons (ps_set (i := 1) sc_lines_due.nd rfl (.inl rfl) (pe_lst pa_nil))
      (pss_cons (ps_mk (ps_for PassesOwn.never rfl (pi_range1 (by rfl) T.range (pa_cons (pe_op op_fdiv (pe_op op_add (pe_callB (lenQ K rfl) (by rfl) T.len PySem.boot_len (pa_cons (pv 0) pa_nil)) pe_int) pe_int) pa_nil)) (pg_name (i := 2) sc_lines_due.nd rfl (.inl rfl))
      (pss_cons (ps_set (i := 3) sc_lines_due.nd rfl (.inl rfl) (pe_slice sl_list (pv 0) (po_some (pe_op op_mul pe_int (pv 2))) (po_some (pe_op op_add (pe_op op_mul pe_int (pv 2)) pe_int))))
      (pss_cons (ps_mk (ps_if (PW.pt (pw_or (pt_cmpR op_lt (pe_callB (lenQ K rfl) (by rfl) T.len PySem.boot_len (pa_cons (pv 3) pa_nil)) pe_int (nomark _)) (pw_or1 (pt_cmpR op_eq (C8.pe_c c_line_of hr (by omega) (by rfl) (pa_cons (pv 3) pa_nil)) pe_str (nomark _)))))
      (pss_one (ps_ret (pe_tup (pa_cons pe_str (pa_cons pe_str (pa_cons (pe_tup (pa_cons (pe_op op_mul pe_int (pv 2)) pa_nil)) pa_nil))))))
      pss_nil))
      (pss_one (ps_expr (pe_bm PySem.F.plainAttrs_list PySem.F.slot_list_append PySem.F.type_list_append mt_append (pv 1) (pa_cons (C8.pe_c c_line_of hr (by omega) (by rfl) (pa_cons (pv 3) pa_nil)) pa_nil))))))))
      (pss_one (ps_ret (pe_tup (pa_cons pe_str (pa_cons (pv 1) pa_nil))))))), ?_⟩
  walk_at "go"
  refine ⟨sz, fun L nL => ?_⟩
  have s1 := same_upd (o := HO.lst []) nL
  have gL := upd_same (H := H) (a := L) (o := HO.lst [])
  have ga1 := s1 _ _ ga
  generalize upd H L (HO.lst []) = H1 at *
  refine jnS (M := fun σ H' => ∃ ls y2 y3, Same H H' ∧ H' L = some (.lst (ls.map V.str)) ∧ disP data = .inr ls ∧ σ = [sR a, sR L, y2, y3]) ?_ (fun N kk => ?_)
  · rintro σ H2 ⟨ls, y2, y3, s2, g2, el, rfl⟩
    walk_at "go"
    refine ⟨sz, fun T nT => ?_⟩
    have s3 := same_upd (o := HO.tup [V.str "gives", V.ref L]) nT
    refine q T _ _ (s2.trans s3) upd_same ?_ ?_
    · rw [el]
      rfl
    · rw [el]
      exact ⟨T, _, rfl, upd_same, _, _, rfl, rfl, _, _, rfl, ⟨L, _, rfl, s3 _ _ g2, dh_strs ls⟩, rfl⟩
  walk_at "go"
  rw [List.length_map, show ((data.length : Nat) : Int) + 3 = ((data.length + 3 : Nat) : Int) by omega, show ((data.length + 3 : Nat) : Int) / 4 = (disN data : Nat) by unfold disN; omega]
  have dn : disN data ≤ 1000 := by unfold disN; omega
  refine ⟨by omega, by omega, for_range (lo := 0) (n := disN data) (fun i σ H' => Ob (∃ ls y2 y3, Same H H' ∧ H' L = some (.lst (ls.map V.str)) ∧ ls.length = i ∧ disP data = pre ls (dis progLine data (disN data - i) i) ∧ σ = [sR a, sR L, y2, y3])) (ob ⟨[], none, none, s1, gL, rfl, (pre_nil _).symm, rfl⟩) ?_ ?_⟩
  · intro i σ H2 hi h
    obtain ⟨ls, y2, y3, s2, g2, ll, el, rfl⟩ := unob h
    clear h kk
    have ga2 := s2 _ _ ga
    rw [show (0 : Int) + (i : Nat) = (i : Nat) by omega]
    walk_at "go"
    intro p np
    have hi' := hi
    unfold disN at hi'
    rw [show (4 : Int) * (i : Nat) = ((4 * i : Nat) : Int) by omega, show ((4 * i : Nat) : Int) + 4 = ((4 * i + 4 : Nat) : Int) by omega, cut_chunk data i (by omega)]
    have s3 := same_upd (o := HO.lst ((chunk data i).map V.int)) np
    have gp := upd_same (H := H2) (a := p) (o := HO.lst ((chunk data i).map V.int))
    have g3 := s3 _ _ g2
    have s23 := s2.trans s3
    generalize upd H2 p (HO.lst ((chunk data i).map V.int)) = H3 at *
    have cb := chunk_by hby i
    have cl := chunk_len data i
    rw [show disN data - i = (disN data - (i + 1)) + 1 by omega] at el
    clear s3 g2 s2
    try dsimp only
    refine jnS (M := fun σ H' => ∃ l, Same H3 H' ∧ (chunk data i).length = 4 ∧ progLine (chunk data i) = some l ∧ σ = [sR a, sR L, sI (i : Nat), sR p]) ?_ (fun N kk => ?_)
    rotate_left
    · walk_at "go"
      rw [List.length_map]
      refine ifD (fun cc => ?_) (fun cc => ?_)
      · have e0 := dis_none (data := data) (k := disN data - (i + 1)) (i := i) (ls := ls) (progLine_short (l := chunk data i) (by omega))
        rw [e0] at el
        walk_at "go"
        refine ⟨sz, fun U nU => ?_⟩
        have sU := same_upd (o := HO.tup [V.int (4 * (i : Int))]) nU
        have gU := upd_same (H := H3) (a := U) (o := HO.tup [V.int (4 * (i : Int))])
        have sX := s23.trans sU
        generalize upd H3 U (HO.tup [V.int (4 * (i : Int))]) = H6 at *
        walk_at "go"
        refine ⟨sz, fun T nT => ?_⟩
        have sT := same_upd (o := HO.tup [V.str "raises", V.str "BadCode", V.ref U]) nT
        refine q T _ _ (sX.trans sT) upd_same (by rw [el]; rfl) ?_
        rw [el]
        refine ⟨T, _, rfl, upd_same, _, _, rfl, rfl, _, _, rfl, rfl, _, _, rfl, ⟨U, _, rfl, sT _ _ gU, _, _, rfl, ?_, rfl⟩, rfl⟩
        show V.int _ = V.int _
        rw [show ((4 * i : Nat) : Int) = 4 * (i : Int) by omega]
      have c4 : (chunk data i).length = 4 := by omega
      walk_at "go"
      refine ⟨cb, c4, fun H4 s4 => ?_⟩
      walk_at "go"
      refine ifD (fun ce => ?_) (fun ce => ?_)
      · have e0 := dis_none (data := data) (k := disN data - (i + 1)) (i := i) (ls := ls) ((lS_nil cb c4).mp (V.str.inj ce))
        rw [e0] at el
        have s24 := s23.trans s4
        walk_at "go"
        refine ⟨sz, fun U nU => ?_⟩
        have sU := same_upd (o := HO.tup [V.int (4 * (i : Int))]) nU
        have gU := upd_same (H := H4) (a := U) (o := HO.tup [V.int (4 * (i : Int))])
        have sX := s24.trans sU
        generalize upd H4 U (HO.tup [V.int (4 * (i : Int))]) = H6 at *
        walk_at "go"
        refine ⟨sz, fun T nT => ?_⟩
        have sT := same_upd (o := HO.tup [V.str "raises", V.str "BadCode", V.ref U]) nT
        refine q T _ _ (sX.trans sT) upd_same (by rw [el]; rfl) ?_
        rw [el]
        refine ⟨T, _, rfl, upd_same, _, _, rfl, rfl, _, _, rfl, rfl, _, _, rfl, ⟨U, _, rfl, sT _ _ gU, _, _, rfl, ?_, rfl⟩, rfl⟩
        show V.int _ = V.int _
        rw [show ((4 * i : Nat) : Int) = 4 * (i : Int) by omega]
      · cases ep : progLine (chunk data i) with
        | none => exact absurd (congrArg V.str ((lS_nil cb c4).mpr ep)) ce
        | some l => exact kk _ _ ⟨l, s4, c4, ep, rfl⟩
    rintro σ H4 ⟨l, s4, c4, ep, rfl⟩
    rw [dis_some ep] at el
    have gp4 := s4 _ _ gp
    have g4 := s4 _ _ g3
    walk_at "go"
    refine ⟨cb, c4, fun H5 s5 => ?_⟩
    have g5 := s5 _ _ g4
    have el2 : lawLine (chunk data i) = some l := by
      match chunk data i, cb, c4, ep with
      | [c, x, y, z], cb, _, ep => rw [← same_line cb]; exact ep
    rw [el2]
    walk_at "go"
    refine ⟨L, _, _, rfl, rfl, g5, sz5 (by rw [List.length_map]; omega), ?_⟩
    exact ob ⟨ls ++ [l], _, _, same_put (s23.trans (s4.trans s5)) nL, by rw [upd_same, List.map_append]; rfl, by rw [List.length_append, ll]; rfl, el, rfl⟩
  · intro σ H2 h
    obtain ⟨ls, y2, y3, s2, g2, ll, el, rfl⟩ := unob h
    rw [Nat.sub_self, dis] at el
    exact kk _ _ ⟨ls, y2, y3, s2, g2, by rw [el, pre, List.append_nil], rfl⟩
end

end

section

-- a condition of an operator
local macro_rules | `(tactic| walk_at "cond") => `(tactic| first
  | (show (0 : Int) < _; omega)
  | (show CDiv _ _; constructor <;> (first | decide | omega))
  | (show CMul _ _; first | (refine cmul_l ?_; constructor <;> (first | decide | omega)) | (refine cmul_r ?_; constructor <;> (first | decide | omega)))
  | (show CPow _ _; exact (by refine ⟨by decide, by decide, by decide⟩))
  | (show CDivW _ _; exact ⟨by decide, by decide +kernel⟩))
local macro_rules | `(tactic| walk_at "sq") => `(tactic| first | assumption | exact Dh.mono (same_upd (by assumption)) _ _ (by assumption) | exact .inl (.inl (.inl (by assumption))) | exact .inr (.inl (.inl (by assumption))) | exact SqL.of (by assumption) | exact .inl (by assumption) | exact .inl (SqL.of (by assumption)) | exact SqT.of (by assumption) | exact .inr (SqT.of (by assumption)))
local macro_rules | `(tactic| walk_at "st") => `(tactic| first
  | refine ⟨_, rfl, ?_⟩
  | refine ⟨_, _, rfl, rfl, ?_⟩
  | refine .inl ⟨_, rfl, ?_⟩
  | refine ⟨rfl, ?_⟩
  | refine ⟨_, _, rfl, by walk_at "sq", ?_⟩
  | refine ⟨.inl ⟨rfl, _, SqL.of (by assumption)⟩, ?_⟩
  | refine ⟨by walk_at "cond", ?_⟩
  | (refine' ifBT ?hh ?_; (case hh => first | rfl | assumption))
  | (refine' ifBF ?hh ?_; (case hh => first | rfl | assumption)))
local macro_rules | `(tactic| walk_at "go") => `(tactic| repeat walk_at "st")
local macro_rules | `(tactic| walk_at "yes") => `(tactic| (refine' ifT ?hh ?_; (case hh => first | rfl | decide +kernel)))
local macro_rules | `(tactic| walk_at "no") => `(tactic| (refine' ifF ?hh ?_; (case hh => first | decide +kernel | (intro z; cases z; done))))

local macro_rules | `(tactic| walk_at "st") => `(tactic| refine ⟨_, _, _, _, _, rfl, by assumption, by assumption, by omega, by omega, by omega, by omega, by omega, ?_⟩)
local macro_rules | `(tactic| walk_at "st") => `(tactic| refine ⟨_, _, _, _, _, rfl, Same.seq (by assumption) (by assumption), by assumption, by omega, by omega, by omega, by omega, by omega, ?_⟩)

/-! ### the law's bytes -/
abbrev s_line_four : Stmt := topS 26
theorem sc_line_four : FnScope ["_law_script", "_law_at", "_law_code", "_law_four", "_law_k"] ["_law_script", "_law_at"] (C8.fnScope s_line_four) := C8.fnScope_by (by decide +kernel)
abbrev s_any_byte : Stmt := topS 27
theorem sc_any_byte : FnScope ["_law_script", "_law_at", "_law_k", "_law_number_here"] ["_law_script", "_law_at", "_law_k"] (C8.fnScope s_any_byte) := C8.fnScope_by (by decide +kernel)
def spFour (K : PySem.W.Frag) : Sp := fun vs H Q _ => ∃ (a : Addr) (ns : List Int) (i : Int), vs = [.ref a, .int i] ∧ SqL K H a (ns.map V.int) ∧ ns.length ≤ 63 ∧ 0 ≤ i ∧ i ≤ 1000000 ∧
  ∀ (p : Addr) (fs : List Int) (H' : Hp), Same H H' → H p = none → H' p = some (.lst (fs.map V.int)) → By fs → fs.length ≤ 8 → Q (.ref p) H'
def spAny (K : PySem.W.Frag) : Sp := fun vs H Q _ => ∃ (a : Addr) (ns : List Int) (i k : Int), vs = [.ref a, .int i, .int k] ∧ SqL K H a (ns.map V.int) ∧ ns.length ≤ 63 ∧ 0 ≤ i ∧ i ≤ 1000000 ∧ 0 ≤ k ∧ k ≤ 1000000 ∧
  ∀ v : Int, 0 ≤ v → v < 256 → Q (.int v) H
theorem by_snoc {xs : List Int} {v : Int} (h : By xs) (h0 : 0 ≤ v) (h1 : v < 256) : By (xs ++ [v]) := fun b hb => by
  rcases List.mem_append.mp hb with z | z
  · exact h b z
  · obtain rfl := List.mem_singleton.mp z
    exact ⟨h0, h1⟩
section
variable {P : Program} {w : World} {K : PySem.W.Frag} {mg : Str → Option Value} {base : Heap} {FM : Addr}
theorem ok_lany {f : Addr} {fd : FuncData} (D : Def K mg "_law_any_byte" s_any_byte f fd) (b : Binds K fd ["_law_script", "_law_at", "_law_k"] []) (T : Txt mg) (c_number : Cal P w K mg base 1 "_law_number" (spNum K) []) : Cal P w K mg base 2 "_law_any_byte" (spAny K) [] := by
  refine cal0 D b .nil sc_any_byte (fun vs H Q E h => ?_) (fun cdv A outer s H vs Q E hr h => ?_)
  · obtain ⟨a, ns, i, k, rfl, _⟩ := h
    rfl
  obtain ⟨a, ns, i, k, rfl, hS, hl, i0, i1, k0, k1, q⟩ := h
  refine ⟨_, (pss_cons (ps_set (i := 3) sc_any_byte.nd rfl (.inl rfl) (C8.pe_c c_number hr (by omega) (by rfl) (pa_cons (pv 0) (pa_cons (pv 1) (pa_cons (pe_op op_add (pe_op op_mul pe_int (pv 2)) pe_int) (pa_cons pe_int pa_nil))))))
      (pss_cons (ps_mk (ps_if (pt_cmpR op_eq (C8.pe_c c_number hr (by omega) (by rfl) (pa_cons (pv 0) (pa_cons (pv 1) (pa_cons (pe_op op_add (pe_op op_mul pe_int (pv 2)) pe_int) (pa_cons pe_int pa_nil))))) pe_int (nomark _))
      (pss_one (ps_ret (pv 3)))
      pss_nil))
      (pss_one (ps_ret (pe_op op_mod (pe_callTy call_int1 (by rfl) T.int (by decide +kernel) (pa_cons (pv 3) pa_nil)) pe_int))))), ?_⟩
  walk_at "go"
  have r0 : 0 ≤ num ns i (4 * k + 6) 256 := num_nn (by decide)
  have r1 : num ns i (4 * k + 6) 256 < 256 := num_lt (by decide)
  refine jnS (M := fun σ H' => H' = H ∧ σ = [sR a, sI i, sI k, sI (num ns i (4 * k + 6) 256)]) ?_ (fun N kk => ?_)
  rotate_left
  · walk_at "go"
    refine ifEq (fun c => ?_) (fun c => ?_)
    · walk_at "go"
      exact q _ r0 r1
    · exact kk _ _ ⟨rfl, rfl⟩
  rintro σ H1 ⟨rfl, rfl⟩
  walk_at "go"
  exact q _ (by omega) (by omega)
theorem ok_lfour {f : Addr} {fd : FuncData} (D : Def K mg "_law_line_four" s_line_four f fd) (b : Binds K fd ["_law_script", "_law_at"] []) (T : Txt mg) (c_number : Cal P w K mg base 1 "_law_number" (spNum K) []) (c_operands : Cal P w K mg base 1 "_law_operands" spLO []) : Cal P w K mg base 2 "_law_line_four" (spFour K) [] := by
  refine cal0 D b .nil sc_line_four (fun vs H Q E h => ?_) (fun cdv A outer s H vs Q E hr h => ?_)
  · obtain ⟨a, ns, i, rfl, _⟩ := h
    rfl
  obtain ⟨a, ns, i, rfl, hS, hl, i0, i1, q⟩ := h
  refine ⟨_, (pss_cons (ps_set (i := 2) sc_line_four.nd rfl (.inl rfl) (C8.pe_c c_number hr (by omega) (by rfl) (pa_cons (pv 0) (pa_cons (pv 1) (pa_cons pe_int (pa_cons pe_int pa_nil))))))
      (pss_cons (ps_set (i := 3) sc_line_four.nd rfl (.inl rfl) (pe_lst (pa_cons (pv 2) pa_nil)))
      (pss_cons (ps_mk (ps_for PassesOwn.never rfl (pi_range1 (by rfl) T.range (pa_cons (pe_callB call_len_str (by rfl) T.len PySem.boot_len (pa_cons (C8.pe_c c_operands hr (by omega) (by rfl) (pa_cons (pv 2) pa_nil)) pa_nil)) pa_nil)) (pg_name (i := 4) sc_line_four.nd rfl (.inl rfl))
      (pss_one (ps_mk (ps_if (pt_cmpR op_eq (pe_ix ix_str (C8.pe_c c_operands hr (by omega) (by rfl) (pa_cons (pv 2) pa_nil)) (pv 4) (fun _ _ => rfl)) pe_str (nomark _))
      (pss_cons (ps_expr (pe_bm PySem.F.plainAttrs_list PySem.F.slot_list_append PySem.F.type_list_append mt_append (pv 3) (pa_cons (C8.pe_c c_number hr (by omega) (by rfl) (pa_cons (pv 0) (pa_cons (pv 1) (pa_cons pe_int (pa_cons pe_int pa_nil))))) pa_nil)))
      (pss_one (ps_expr (pe_bm PySem.F.plainAttrs_list PySem.F.slot_list_append PySem.F.type_list_append mt_append (pv 3) (pa_cons (C8.pe_c c_number hr (by omega) (by rfl) (pa_cons (pv 0) (pa_cons (pv 1) (pa_cons pe_int (pa_cons pe_int pa_nil))))) pa_nil)))))
      (pss_one (ps_expr (pe_bm PySem.F.plainAttrs_list PySem.F.slot_list_append PySem.F.type_list_append mt_append (pv 3) (pa_cons (C8.pe_c c_number hr (by omega) (by rfl) (pa_cons (pv 0) (pa_cons (pv 1) (pa_cons (pe_op op_add pe_int (pv 4)) (pa_cons pe_int pa_nil))))) pa_nil)))))))))
      (pss_one (ps_ret (pe_op op_cat (pv 3) (pe_lc (own := [("_law_k", 4)]) (g := gName 4) (tt := tYes) rfl sc_line_four.nd (pi_range1 (by rfl) T.range (pa_cons (pe_op op_sub pe_int (pe_callB (lenQ K rfl) (by rfl) T.len PySem.boot_len (pa_cons (pv 3) pa_nil))) pa_nil)) (blkOk_by (own := [("_law_k", 4)]) (N := ["_law_script", "_law_at", "_law_code", "_law_four", "_law_k"]) (sc := C8.fnScope s_line_four) (by decide +kernel)) (fun _ _ _ _ _ => (pg_name (i := 4) sc_line_four.nd rfl (.inl rfl))) (fun _ _ _ _ _ => pts_nil) (fun _ _ _ _ _ => pe_int)))))))), ?_⟩
  walk_at "go"
  have r0 : 0 ≤ num ns i 0 11 := num_nn (by decide)
  have r1 : num ns i 0 11 < 11 := num_lt (by decide)
  obtain ⟨c, ec⟩ : ∃ c : Nat, num ns i 0 11 = (c : Int) := ⟨(num ns i 0 11).toNat, by omega⟩
  rw [ec] at r0 r1 ⊢
  have fl := wid_tab (c := c) (by omega)
  have kl : (kindL c).length = (kindS c).length := Array.length_toList
  refine ⟨sz, fun F nF => ?_⟩
  have s1 := same_upd (o := HO.lst [V.int (c : Nat)]) nF
  have gF := upd_same (H := H) (a := F) (o := HO.lst [V.int (c : Nat)])
  generalize upd H F (HO.lst [V.int (c : Nat)]) = H1 at *
  refine jnS (M := fun σ H' => ∃ fs y4, Same H H' ∧ H' F = some (.lst (fs.map V.int)) ∧ By fs ∧ fs.length ≤ 7 ∧ σ = [sR a, sI i, sI (c : Nat), sR F, y4]) ?_ (fun N kk => ?_)
  rotate_left
  · walk_at "go"
    refine ⟨by omega, fun H2 s2 => ?_⟩
    have g2 := s2 _ _ gF
    have s12 := s1.trans s2
    have sl := sizeLine_eq
    walk_at "go"
    refine ⟨by omega, ?_⟩
    walk_at "go"
    refine ⟨by omega, by omega, for_range (lo := 0) (n := (kindS c).length) (fun j σ H' => Ob (∃ fs y4, Same H H' ∧ H' F = some (.lst (fs.map V.int)) ∧ By fs ∧ fs.length ≤ 1 + 2 * j ∧ σ = [sR a, sI i, sI (c : Nat), sR F, y4])) (ob ⟨[(c : Int)], none, s12, g2, fun x hx => by obtain rfl := List.mem_singleton.mp hx; omega, Nat.le_refl _, rfl⟩) ?_ ?_⟩
    · intro j σ H3 hj h
      obtain ⟨fs, y4, s3, g3, hb, hf, rfl⟩ := unob h
      clear h kk
      have hS3 := s3.seq hS
      have v0 : 0 ≤ num ns i 4 256 := num_nn (by decide)
      have v1 : num ns i 4 256 < 256 := num_lt (by decide)
      have w0 : 0 ≤ num ns i 5 256 := num_nn (by decide)
      have w1 : num ns i 5 256 < 256 := num_lt (by decide)
      have x0 : 0 ≤ num ns i (1 + (j : Int)) 8 := num_nn (by decide)
      have x1 : num ns i (1 + (j : Int)) 8 < 8 := num_lt (by decide)
      rw [show (0 : Int) + (j : Nat) = (j : Nat) by omega]
      refine un ?_
      walk_at "go"
      refine ⟨by omega, fun H4 s4 => ?_⟩
      have s34 := s3.trans s4
      have g4 := s4 _ _ g3
      have hS4 := s4.seq hS3
      have hjk : j < (kindL c).length := by omega
      try dsimp only
      walk_at "go"
      refine ⟨kindS c, _, _, rfl, rfl, by omega, atI_nat (v := (kindL c)[j]) (List.getElem?_eq_getElem hjk), ?_⟩
      generalize (kindL c)[j] = ch at *
      walk_at "go"
      by_cases ce : ch = 110
      · refine ifT ((sign_n ch).mpr ce) ?_
        walk_at "go"
        refine ⟨F, _, _, rfl, rfl, g4, sz5 (by rw [List.length_map]; omega), ?_⟩
        have g5 := upd_same (H := H4) (a := F) (o := HO.lst (fs.map V.int ++ [V.int (num ns i 4 256)]))
        have s5 := same_put s34 nF (o := HO.lst (fs.map V.int ++ [V.int (num ns i 4 256)]))
        have hS5 := s5.seq hS
        generalize upd H4 F (HO.lst (fs.map V.int ++ [V.int (num ns i 4 256)])) = H5 at *
        walk_at "go"
        refine ⟨F, _, _, rfl, rfl, g5, sz5 (by rw [List.length_append, List.length_map]; show fs.length + 1 ≤ _; omega), ?_⟩
        exact ob ⟨fs ++ [num ns i 4 256] ++ [num ns i 5 256], _, same_put s5 nF, by rw [upd_same, List.map_append, List.map_append]; rfl, by_snoc (by_snoc hb v0 v1) w0 w1, by rw [List.length_append, List.length_append]; show fs.length + 1 + 1 ≤ _; omega, rfl⟩
      · refine ifF (fun z => ce ((sign_n ch).mp z)) ?_
        walk_at "go"
        refine ⟨F, _, _, rfl, rfl, g4, sz5 (by rw [List.length_map]; omega), ?_⟩
        exact ob ⟨fs ++ [num ns i (1 + (j : Int)) 8], _, same_put s34 nF, by rw [upd_same, List.map_append]; rfl, by_snoc hb x0 (by omega), by rw [List.length_append]; show fs.length + 1 ≤ _; omega, rfl⟩
    · intro σ H3 h
      obtain ⟨fs, y4, s3, g3, hb, hf, rfl⟩ := unob h
      exact kk _ _ ⟨fs, y4, s3, g3, hb, by omega, rfl⟩
  rintro σ H2 ⟨fs, y4, s2, g2, hb, hf, rfl⟩
  walk_at "go"
  rw [List.length_map]
  refine ⟨by omega, by omega, fun L nL => lc_range (lo := 0) (n := ((4 : Int) - (fs.length : Nat)).toNat) (fun j H' => Ob (Same H2 H' ∧ H' L = some (.lst ((List.replicate j (0 : Int)).map V.int)))) (ob ⟨same_upd nL, upd_same⟩) ?_ ?_⟩
  · intro j H3 hj h
    obtain ⟨s3, g3⟩ := unob h
    refine ⟨rfl, ?_⟩
    walk_at "go"
    refine ⟨_, g3, sz5 (by rw [List.length_map, List.length_replicate]; omega), ob ⟨same_put s3 nL, ?_⟩⟩
    rw [upd_same, List.replicate_succ', List.map_append]
    rfl
  intro H3 h
  obtain ⟨s3, g3⟩ := unob h
  have g23 := s3 _ _ g2
  walk_at "go"
  refine ⟨F, L, _, _, rfl, rfl, g23, g3, Nat.le_of_lt (sz5 (by rw [List.length_map, List.length_map, List.length_replicate]; omega)), fun p np => ?_⟩
  rw [← List.map_append]
  refine q p _ _ ((s2.trans s3).trans (same_upd np)) ((s2.trans s3).free np) upd_same ?_ (by rw [List.length_append, List.length_replicate]; omega)
  intro x hx
  rcases List.mem_append.mp hx with z | z
  · exact hb x z
  · obtain rfl := List.eq_of_mem_replicate z
    omega
end

end

section

-- a condition of an operator
local macro_rules | `(tactic| walk_at "cond") => `(tactic| first
  | (show (0 : Int) < _; omega)
  | (show CDiv _ _; constructor <;> (first | decide | omega))
  | (show CMul _ _; first | (refine cmul_l ?_; constructor <;> (first | decide | omega)) | (refine cmul_r ?_; constructor <;> (first | decide | omega)))
  | (show CPow _ _; exact (by refine ⟨by decide, by decide, by decide⟩))
  | (show CDivW _ _; exact ⟨by decide, by decide +kernel⟩))
local macro_rules | `(tactic| walk_at "sq") => `(tactic| first | assumption | exact Dh.mono (same_upd (by assumption)) _ _ (by assumption) | exact .inl (.inl (.inl (by assumption))) | exact .inr (.inl (.inl (by assumption))) | exact SqL.of (by assumption) | exact .inl (by assumption) | exact .inl (SqL.of (by assumption)) | exact SqT.of (by assumption) | exact .inr (SqT.of (by assumption)))
local macro_rules | `(tactic| walk_at "st") => `(tactic| first
  | refine ⟨_, rfl, ?_⟩
  | refine ⟨_, _, rfl, rfl, ?_⟩
  | refine .inl ⟨_, rfl, ?_⟩
  | refine ⟨rfl, ?_⟩
  | refine ⟨_, _, rfl, by walk_at "sq", ?_⟩
  | refine ⟨.inl ⟨rfl, _, SqL.of (by assumption)⟩, ?_⟩
  | refine ⟨by walk_at "cond", ?_⟩
  | (refine' ifBT ?hh ?_; (case hh => first | rfl | assumption))
  | (refine' ifBF ?hh ?_; (case hh => first | rfl | assumption)))
local macro_rules | `(tactic| walk_at "go") => `(tactic| repeat walk_at "st")
local macro_rules | `(tactic| walk_at "yes") => `(tactic| (refine' ifT ?hh ?_; (case hh => first | rfl | decide +kernel)))
local macro_rules | `(tactic| walk_at "no") => `(tactic| (refine' ifF ?hh ?_; (case hh => first | decide +kernel | (intro z; cases z; done))))

local macro_rules | `(tactic| walk_at "st") => `(tactic| refine ⟨_, _, _, _, _, rfl, by assumption, by assumption, by omega, by omega, by omega, by omega, by omega, ?_⟩)
local macro_rules | `(tactic| walk_at "st") => `(tactic| refine ⟨_, _, _, _, _, rfl, Same.seq (by assumption) (by assumption), by assumption, by omega, by omega, by omega, by omega, by omega, ?_⟩)

/-! ### the law's change -/
abbrev s_data_changed : Stmt := topS 28
theorem sc_data_changed : FnScope ["_law_script", "_law_turn", "_law_data", "_law_made", "_law_way", "_law_at", "_law_byte"] ["_law_script", "_law_turn", "_law_data"] (C8.fnScope s_data_changed) := C8.fnScope_by (by decide +kernel)
def spChg (K : PySem.W.Frag) : Sp := fun vs H Q _ => ∃ (a p : Addr) (ns data : List Int) (t : Int), vs = [.ref a, .int t, .ref p] ∧ SqL K H a (ns.map V.int) ∧ ns.length ≤ 63 ∧ 0 ≤ t ∧ t ≤ 1000000 ∧ H p = some (.lst (data.map V.int)) ∧ By data ∧ data.length ≤ 900 ∧
  ∀ (r : Addr) (ds : List Int) (H' : Hp), Same H H' → H r = none → H' r = some (.lst (ds.map V.int)) → By ds → ds.length ≤ data.length + 1 → Q (.ref r) H'
theorem erase_map {k : Nat} {xs : List Int} : (xs.map V.int).eraseIdx k = (xs.eraseIdx k).map V.int := by
  rw [List.eraseIdx_eq_take_drop_succ, List.eraseIdx_eq_take_drop_succ, List.map_append, List.map_take, List.map_drop]
section
variable {P : Program} {w : World} {K : PySem.W.Frag} {mg : Str → Option Value} {base : Heap} {FM : Addr}
theorem ok_lchg {f : Addr} {fd : FuncData} (D : Def K mg "_law_data_changed" s_data_changed f fd) (b : Binds K fd ["_law_script", "_law_turn", "_law_data"] []) (T : Txt mg) (zM : mg "max" = none) (c_number : Cal P w K mg base 1 "_law_number" (spNum K) []) : Cal P w K mg base 2 "_law_data_changed" (spChg K) [] := by
  refine cal0 D b .nil sc_data_changed (fun vs H Q E h => ?_) (fun cdv A outer s H vs Q E hr h => ?_)
  · obtain ⟨a, p, ns, data, t, rfl, _⟩ := h
    rfl
  obtain ⟨a, p, ns, data, t, rfl, hS, hl, t0, t1, gp, hby, hd, q⟩ := h
  refine ⟨_, (pss_cons (ps_set (i := 3) sc_data_changed.nd rfl (.inl rfl) (pe_callTy (listQ K rfl) (by rfl) T.list (by decide +kernel) (pa_cons (pv 2) pa_nil)))
      (pss_cons (ps_set (i := 4) sc_data_changed.nd rfl (.inl rfl) (C8.pe_c c_number hr (by omega) (by rfl) (pa_cons (pv 0) (pa_cons pe_int (pa_cons (pe_op op_add pe_int (pe_op op_mul pe_int (pv 1))) (pa_cons pe_int pa_nil))))))
      (pss_cons (ps_set (i := 5) sc_data_changed.nd rfl (.inl rfl) (pe_op op_mod (pe_callTy call_int1 (by rfl) T.int (by decide +kernel) (pa_cons (C8.pe_c c_number hr (by omega) (by rfl) (pa_cons (pv 0) (pa_cons pe_int (pa_cons (pe_op op_add pe_int (pe_op op_mul pe_int (pv 1))) (pa_cons pe_int pa_nil))))) pa_nil)) (pe_op op_add (pe_callB (lenQ K rfl) (by rfl) T.len PySem.boot_len (pa_cons (pv 3) pa_nil)) pe_int)))
      (pss_cons (ps_set (i := 6) sc_data_changed.nd rfl (.inl rfl) (pe_op op_mod (pe_callTy call_int1 (by rfl) T.int (by decide +kernel) (pa_cons (pe_op op_mul (C8.pe_c c_number hr (by omega) (by rfl) (pa_cons (pv 0) (pa_cons pe_int (pa_cons (pe_op op_add pe_int (pe_op op_mul pe_int (pv 1))) (pa_cons pe_int pa_nil))))) (C8.pe_c c_number hr (by omega) (by rfl) (pa_cons (pv 0) (pa_cons pe_int (pa_cons (pe_op op_add pe_int (pe_op op_mul pe_int (pv 1))) (pa_cons pe_int pa_nil)))))) pa_nil)) pe_int))
      (pss_cons (ps_mk (ps_if (pt_cmpR op_eq (pv 4) pe_int (nomark _))
      (pss_one (ps_expr (pe_bm PySem.F.plainAttrs_list PySem.F.slot_list_insert PySem.F.type_list_insert mt_insert (pv 3) (pa_cons (pv 5) (pa_cons (pv 6) pa_nil)))))
      (pss_one (ps_mk (ps_if (pt_cmpR op_eq (pv 4) pe_int (nomark _))
      (pss_one (ps_set (i := 3) sc_data_changed.nd rfl (.inl rfl) (pe_slice sl_list (pv 3) po_none (po_some (pe_callB (call_max2 rfl) (by rfl) zM (by decide +kernel) (pa_cons pe_int (pa_cons (pe_op op_sub (pe_op op_sub (pe_callB (lenQ K rfl) (by rfl) T.len PySem.boot_len (pa_cons (pv 3) pa_nil)) pe_int) (pe_op op_mod (pe_callTy call_int1 (by rfl) T.int (by decide +kernel) (pa_cons (pv 6) pa_nil)) pe_int)) pa_nil)))))))
      (pss_one (ps_mk (ps_if (pt_cmpR op_lt (pv 5) (pe_callB (lenQ K rfl) (by rfl) T.len PySem.boot_len (pa_cons (pv 3) pa_nil)) (nomark _))
      (pss_one (ps_mk (ps_if (pt_cmpR op_eq (pv 4) pe_int (nomark _))
      (pss_one (ps_expr (pe_bm PySem.F.plainAttrs_list PySem.F.slot_list_pop PySem.F.type_list_pop mt_popAt (pv 3) (pa_cons (pv 5) pa_nil))))
      (pss_one (ps_mk (ps_if (pt_cmpR op_eq (pv 4) pe_int (nomark _))
      (pss_one (ps_asg (pv 6) (pg_sub (pv 3) (pv 5) set_list)))
      (pss_one (ps_mk (ps_if (pt_cmpR op_eq (pv 4) pe_int (nomark _))
      (pss_one (ps_asg (pe_op op_mod (pe_op op_add (pe_ix (ixL K rfl) (pv 3) (pv 5) (fun _ _ => rfl)) pe_int) pe_int) (pg_sub (pv 3) (pv 5) set_list)))
      (pss_one (ps_asg pe_int (pg_sub (pv 3) (pv 5) set_list))))))))))))
      pss_nil))))))))
      (pss_one (ps_ret (pv 3)))))))), ?_⟩
  walk_at "go"
  intro l nl
  have s1 := same_upd (o := HO.lst (data.map V.int)) nl
  have gl := upd_same (H := H) (a := l) (o := HO.lst (data.map V.int))
  have hS1 := s1.seq hS
  generalize upd H l (HO.lst (data.map V.int)) = H1 at *
  have u0 : 0 ≤ num ns 0 (5 + 5 * t) 256 := num_nn (by decide)
  have u1 : num ns 0 (5 + 5 * t) 256 < 256 := num_lt (by decide)
  have v0 : 0 ≤ num ns 0 (6 + 5 * t) 3 := num_nn (by decide)
  have v1 : num ns 0 (6 + 5 * t) 3 < 3 := num_lt (by decide)
  have a0 : 0 ≤ num ns 0 (4 + 5 * t) 288 % ((data.length : Nat) + 1) := Int.emod_nonneg _ (by omega)
  have a1 : num ns 0 (4 + 5 * t) 288 % ((data.length : Nat) + 1) < (data.length : Nat) + 1 := Int.emod_lt_of_pos _ (by omega)
  try dsimp only
  walk_at "go"
  rw [List.length_map]
  walk_at "go"
  generalize num ns 0 (3 + 5 * t) 6 = way at *
  try dsimp only
  generalize num ns 0 (4 + 5 * t) 288 % ((data.length : Nat) + 1) = at_ at *
  have b0 : 0 ≤ num ns 0 (5 + 5 * t) 256 * num ns 0 (6 + 5 * t) 3 % 256 := Int.emod_nonneg _ (by decide)
  have b1 : num ns 0 (5 + 5 * t) 256 * num ns 0 (6 + 5 * t) 3 % 256 < 256 := Int.emod_lt_of_pos _ (by decide)
  generalize num ns 0 (5 + 5 * t) 256 * num ns 0 (6 + 5 * t) 3 % 256 = byte at *
  clear u0 u1 v0 v1
  obtain ⟨k, rfl⟩ : ∃ k : Nat, at_ = (k : Int) := ⟨at_.toNat, by omega⟩
  refine jnS (M := fun σ H' => ∃ r ds, Same H H' ∧ H r = none ∧ H' r = some (.lst (ds.map V.int)) ∧ By ds ∧ ds.length ≤ data.length + 1 ∧ σ = [sR a, sI t, sR p, sR r, sI way, sI (k : Nat), sI byte]) ?_ (fun N kk => ?_)
  · rintro σ H2 ⟨r, ds, s2, nr, gr, hb, hds, rfl⟩
    walk_at "go"
    exact q r ds _ s2 nr gr hb hds
  have put : ∀ ds : List Int, By ds → ds.length ≤ data.length + 1 → N [sR a, sI t, sR p, sR l, sI way, sI (k : Nat), sI byte] (upd H1 l (.lst (ds.map V.int))) := fun ds hb hds => kk _ _ ⟨l, ds, same_put s1 nl, nl, upd_same, hb, hds, rfl⟩
  walk_at "go"
  refine ifEq (fun c => ?_) (fun c => ?_)
  · walk_at "go"
    refine ⟨l, _, _, _, rfl, rfl, gl, sz5 (by rw [List.length_map]; omega), by omega, by omega, ?_⟩
    rw [Int.toNat_natCast, ← List.map_take, ← List.map_drop, show [V.int byte] = [byte].map V.int from rfl, ← List.map_append, ← List.map_append]
    refine put _ (fun x hx => ?_) (by rw [List.length_append, List.length_append, List.length_take, List.length_drop]; show _ + 1 + _ ≤ _; omega)
    rcases List.mem_append.mp hx with z | z
    · rcases List.mem_append.mp z with z | z
      · exact hby x (List.mem_of_mem_take z)
      · obtain rfl := List.mem_singleton.mp z
        exact ⟨b0, b1⟩
    · exact hby x (List.mem_of_mem_drop z)
  refine un ?_
  walk_at "go"
  refine ifEq (fun c => ?_) (fun c => ?_)
  · iterate 5 walk_at "st"
    refine Or.inl ⟨byte, rfl, ?_⟩
    iterate 3 walk_at "st"
    refine ⟨_, _, rfl, ?_⟩
    refine ⟨_, rfl, ?_⟩
    have em : ∃ m : Nat, (if ((data.map V.int).length : Int) - 1 - byte % 3 > 0 then ((data.map V.int).length : Int) - 1 - byte % 3 else 0) = (m : Int) ∧ m ≤ data.length := by
      rw [List.length_map]
      have z0 : 0 ≤ byte % 3 := Int.emod_nonneg _ (by decide)
      split
      · exact ⟨((data.length : Int) - 1 - byte % 3).toNat, by omega, by omega⟩
      · exact ⟨0, rfl, Nat.zero_le _⟩
    obtain ⟨m, em, hm⟩ := em
    try dsimp only
    rw [em]
    walk_at "go"
    intro r nr
    rw [cut_lo (by rw [List.length_map]; exact hm), ← List.map_take]
    exact kk _ _ ⟨r, data.take m, s1.trans (same_upd nr), s1.free nr, upd_same, fun x hx => hby x (List.mem_of_mem_take hx), by rw [List.length_take]; omega, rfl⟩
  refine un ?_
  walk_at "go"
  rw [List.length_map]
  refine ifD (fun ck => ?_) (fun ck => ?_)
  rotate_left
  · walk_at "go"
    exact kk _ _ ⟨l, data, s1, nl, gl, hby, by omega, rfl⟩
  have hk : k < data.length := by omega
  have hix : ixN (data.map V.int).length (k : Int) = some k := by
    unfold ixN
    rw [List.length_map, if_pos (by omega), if_pos (by omega), Int.toNat_natCast]
  have set : ∀ x : Int, 0 ≤ x → x < 256 → N [sR a, sI t, sR p, sR l, sI way, sI (k : Nat), sI byte] (upd H1 l (.lst ((data.map V.int).set k (V.int x)))) := fun x x0 x1 => by
    rw [show (data.map V.int).set k (V.int x) = (data.set k x).map V.int from List.map_set.symm]
    refine put _ (fun y hy => ?_) (by rw [List.length_set]; omega)
    rcases List.mem_or_eq_of_mem_set hy with z | rfl
    · exact hby y z
    · exact ⟨x0, x1⟩
  refine un ?_
  walk_at "go"
  refine ifEq (fun c => ?_) (fun c => ?_)
  · walk_at "go"
    refine ⟨l, _, _, k, V.int data[k], rfl, rfl, gl, by omega, by omega, ?_, by rw [List.getElem?_map, List.getElem?_eq_getElem hk]; rfl, ?_⟩
    · rw [List.length_map]
      unfold seqIndex?
      rw [if_neg (show ¬ ((k : Int) < 0) by omega)]
      rw [if_pos (by rw [Bool.and_eq_true, decide_eq_true_iff, decide_eq_true_iff]; omega), Int.toNat_natCast]
    rw [erase_map]
    exact put _ (fun x hx => hby x (List.mem_of_mem_eraseIdx hx)) (by rw [List.length_eraseIdx]; split <;> omega)
  refine un ?_
  walk_at "go"
  refine ifEq (fun c => ?_) (fun c => ?_)
  · walk_at "go"
    refine ⟨l, _, _, k, rfl, rfl, gl, hix, ?_⟩
    exact set _ b0 b1
  refine un ?_
  walk_at "go"
  refine ifEq (fun c => ?_) (fun c => ?_)
  · walk_at "go"
    refine ⟨l, _, _, _, rfl, rfl, SqL.of gl, atI_nat (v := V.int data[k]) (by rw [List.getElem?_map, List.getElem?_eq_getElem hk]; rfl), ?_⟩
    walk_at "go"
    refine ⟨l, _, _, k, rfl, rfl, gl, hix, ?_⟩
    exact set _ (Int.emod_nonneg _ (by decide)) (Int.emod_lt_of_pos _ (by decide))
  · walk_at "go"
    refine ⟨l, _, _, k, rfl, rfl, gl, hix, ?_⟩
    exact set _ (by decide) (by decide)
end

end

section

-- a condition of an operator
local macro_rules | `(tactic| walk_at "cond") => `(tactic| first
  | (show (0 : Int) < _; omega)
  | (show CDiv _ _; constructor <;> (first | decide | omega))
  | (show CMul _ _; first | (refine cmul_l ?_; constructor <;> (first | decide | omega)) | (refine cmul_r ?_; constructor <;> (first | decide | omega)))
  | (show CPow _ _; exact (by refine ⟨by decide, by decide, by decide⟩))
  | (show CDivW _ _; exact ⟨by decide, by decide +kernel⟩))
local macro_rules | `(tactic| walk_at "sq") => `(tactic| first | assumption | exact Dh.mono (same_upd (by assumption)) _ _ (by assumption) | exact .inl (.inl (.inl (by assumption))) | exact .inr (.inl (.inl (by assumption))) | exact SqL.of (by assumption) | exact .inl (by assumption) | exact .inl (SqL.of (by assumption)) | exact SqT.of (by assumption) | exact .inr (SqT.of (by assumption)))
local macro_rules | `(tactic| walk_at "st") => `(tactic| first
  | refine ⟨_, rfl, ?_⟩
  | refine ⟨_, _, rfl, rfl, ?_⟩
  | refine .inl ⟨_, rfl, ?_⟩
  | refine ⟨rfl, ?_⟩
  | refine ⟨_, _, rfl, by walk_at "sq", ?_⟩
  | refine ⟨.inl ⟨rfl, _, SqL.of (by assumption)⟩, ?_⟩
  | refine ⟨by walk_at "cond", ?_⟩
  | (refine' ifBT ?hh ?_; (case hh => first | rfl | assumption))
  | (refine' ifBF ?hh ?_; (case hh => first | rfl | assumption)))
local macro_rules | `(tactic| walk_at "go") => `(tactic| repeat walk_at "st")
local macro_rules | `(tactic| walk_at "yes") => `(tactic| (refine' ifT ?hh ?_; (case hh => first | rfl | decide +kernel)))
local macro_rules | `(tactic| walk_at "no") => `(tactic| (refine' ifF ?hh ?_; (case hh => first | decide +kernel | (intro z; cases z; done))))

local macro_rules | `(tactic| walk_at "st") => `(tactic| refine ⟨_, _, _, _, _, rfl, by assumption, by assumption, by omega, by omega, by omega, by omega, by omega, ?_⟩)
local macro_rules | `(tactic| walk_at "st") => `(tactic| refine ⟨_, _, _, _, _, rfl, Same.seq (by assumption) (by assumption), by assumption, by omega, by omega, by omega, by omega, by omega, ?_⟩)

/-! ### the law's try -/
abbrev s_lines_told : Stmt := topS 29
theorem sc_lines_told : FnScope ["_law_data", "_law_handed", "_law_told", "e"] ["_law_data"] (C8.fnScope s_lines_told) := C8.fnScope_by (by decide +kernel)
/-- what the top says of the errors -/
structure ETc (K : PySem.W.Frag) (mg : Str → Option Value) (BC CE BL AE LE ME FE PgE : Addr) : Prop where
  mBC : mg "BadCode" = some (.ref BC)
  mCE : mg "CodeError" = some (.ref CE)
  mBL : mg "BadLine" = some (.ref BL)
  mA : mg "AccessError" = some (.ref AE)
  mL : mg "LimitError" = some (.ref LE)
  mM : mg "MissingError" = some (.ref ME)
  mF : mg "FileError" = some (.ref FE)
  mP : mg "PagesError" = some (.ref PgE)
  zV : mg "ValueError" = none
  zI : mg "isinstance" = none
  xc : ExcC K BC
  xf : XfC K BC
  nP : PySem.W.findIn K (.ref BC) "position" = some none
  eBB : PySem.W.exmOne K (.ref BC) (.ref BC) = some true
  eBC : PySem.W.exmOne K (.ref BC) (.ref CE) = some true
  iB1 : PySem.W.kitAny K (.ref BC) [.ref BL, .ref AE] = some false
  iB2 : PySem.W.kitAny K (.ref BC) [.ref LE, .ref ME, .ref FE] = some false
  iBB : PySem.W.kitOne K (.ref BC) (.ref BC) = some true
  iBP : PySem.W.kitOne K (.ref BC) (.ref PgE) = some true
  iBV : PySem.W.kitOne K (.ref BC) (.type "ValueError") = some true
theorem bc_pos {i : Int} : (bcF i).lookup ("position" : Str) = some (.int i) := by kernel_rfl
theorem dle_li {n : Nat} {ns : List Int} (h : ns.length ≤ 100000) : Dle (n + 2) (.list (ns.map PyData.int)) := ⟨by rw [List.length_map]; exact h, fun d m => by
  obtain ⟨i, _, rfl⟩ := List.mem_map.mp m
  exact trivial⟩
def spTold : Sp := fun vs H Q _ => ∃ (a : Addr) (data : List Int), vs = [.ref a] ∧ H a = some (.lst (data.map V.int)) ∧ By data ∧ data.length ≤ 1000 ∧
  (∀ ls, disP data = .inr ls → ∀ (T L : Addr) (H' : Hp), Same H H' → H L = none → H' T = some (.tup [.str "gives", .ref L]) → H' L = some (.lst (ls.map V.str)) → Q (.ref T) H') ∧
  (∀ i, disP data = .inl i → ∀ (T U : Addr) (H' : Hp), Same H H' → H' T = some (.tup [.str "raises", .str "BadCode", .ref U]) → H' U = some (.tup [.int (i : Nat)]) → Q (.ref T) H')
section
variable {P : Program} {w : World} {K : PySem.W.Frag} {mg : Str → Option Value} {base : Heap} {FM BC CE BL AE LE ME FE PgE : Addr}
theorem ok_told {f : Addr} {fd : FuncData} (D : Def K mg "_law_lines_told" s_lines_told f fd) (b : Binds K fd ["_law_data"] []) (T : Txt mg) (TE : ETc K mg BC CE BL AE LE ME FE PgE) (e_dis : CalE P w K mg base 3 "disassemble" (spDis BC)) (c_same : Cal P w K mg base 4 "_law_same" (spSame 3) []) : Cal P w K mg base 5 "_law_lines_told" spTold [] := by
  refine cal0 D b .nil sc_lines_told (fun vs H Q E h => ?_) (fun cdv A outer s H vs Q E hr h => ?_)
  · obtain ⟨a, data, rfl, _⟩ := h
    rfl
  obtain ⟨a, data, rfl, ga, hby, hl, q1, q2⟩ := h
  refine ⟨_, (pss_cons (ps_set (i := 1) sc_lines_told.nd rfl (.inl rfl) (pe_callTy (listQ K rfl) (by rfl) T.list (by decide +kernel) (pa_cons (pv 0) pa_nil)))
      (pss_cons (ps_set (i := 2) sc_lines_told.nd rfl (.inl rfl) pe_non)
      (pss_cons (ps_mk (ps_try_m (i := 3) rfl rfl sc_lines_told.nd rfl rfl ⟨rfl, by decide, Or.inl TE.mBC⟩ takes0 (fun W pn xe tk _ =>
      (pss_one (ps_set (i := 2) sc_lines_told.nd rfl (.inl rfl) (pe_tup (pa_cons pe_str (pa_cons (pe_cE e_dis tk hr (by omega) (by rfl) (pa_cons (pv 1) pa_nil)) pa_nil))))))
      (fun a oe cls d pn hz hf =>
      (pss_one (ps_set (i := 2) sc_lines_told.nd rfl (.inl rfl) (pe_tup (pa_cons pe_str (pa_cons pe_str (pa_cons (pe_tup (pa_cons (pe_xf TE.xf TE.nP hz hf (pv 3)) pa_nil)) pa_nil)))))))))
      (pss_cons (ps_mk (ps_if (pt_not (pt_val (C8.pe_c c_same hr (by omega) (by rfl) (pa_cons (pv 1) (pa_cons (pv 0) pa_nil)))))
      (pss_one (ps_ret pe_non))
      pss_nil))
      (pss_one (ps_ret (pv 2))))))), ?_⟩
  walk_at "go"
  intro h nh
  have s1 := same_upd (o := HO.lst (data.map V.int)) nh
  have gh := upd_same (H := H) (a := h) (o := HO.lst (data.map V.int))
  have ga1 := s1 _ _ ga
  have fr := s1
  generalize upd H h (HO.lst (data.map V.int)) = H1 at *
  try dsimp only
  walk_at "go"
  refine jnS (M := fun σ H' => ∃ v, Same H1 H' ∧ (∀ H'', Same H' H'' → Q v H'') ∧ σ = [sR a, sR h, some v, none]) ?_ (fun N kk => ?_)
  rotate_left
  · intro W hW
    have key : ∀ i, disP data = .inl i → ∀ d H2, Same H1 H2 → H2 d = some (.xd (bcF (i : Nat))) → W (.ref BC) (some d) [sR a, sR h, some .non, none] H2 := fun i ei d H2 s2 gd => hW _ _ _ _ (catch_yes TE.eBB fun x nx => by
      clear hW
      walk_at "go"
      refine ⟨d, _, .int (i : Nat), rfl, gd, bc_pos, ?_⟩
      walk_at "go"
      refine ⟨sz, fun U nU => ?_⟩
      have sU := same_upd (o := HO.tup [V.int (i : Nat)]) nU
      have gU := upd_same (H := H2) (a := U) (o := HO.tup [V.int (i : Nat)])
      have s3 := s2.trans sU
      clear sU nU gd s2
      generalize upd H2 U (HO.tup [V.int (i : Nat)]) = H3 at *
      walk_at "go"
      refine ⟨sz, fun T nT => ?_⟩
      have sT := same_upd (o := HO.tup [V.str "raises", V.str "BadCode", V.ref U]) nT
      have gT := upd_same (H := H3) (a := T) (o := HO.tup [V.str "raises", V.str "BadCode", V.ref U])
      have gU := sT _ _ gU
      have s4 := s3.trans sT
      generalize upd H3 T (HO.tup [V.str "raises", V.str "BadCode", V.ref U]) = H4 at *
      exact kk _ _ ⟨.ref T, s4, fun H5 s5 => q2 i ei T U H5 (s1.trans (s4.trans s5)) (s5 _ _ gT) (s5 _ _ gU), rfl⟩)
    walk_at "go"
    refine ⟨hby, hl, fun ls el p H2 s2 np gp => ?_, fun i ei d H2 s2 gd => key i ei d H2 s2 gd⟩
    walk_at "go"
    refine ⟨sz, fun T nT => ?_⟩
    have sT := same_upd (o := HO.tup [V.str "gives", V.ref p]) nT
    have gT := upd_same (H := H2) (a := T) (o := HO.tup [V.str "gives", V.ref p])
    have gp := sT _ _ gp
    have s3 := s2.trans sT
    clear hW key
    generalize upd H2 T (HO.tup [V.str "gives", V.ref p]) = H3 at *
    exact kk _ _ ⟨.ref T, s3, fun H4 s4 => q1 ls el T p H4 (s1.trans (s3.trans s4)) (s1.free np) (s4 _ _ gT) (s4 _ _ gp), rfl⟩
  rintro σ H2 ⟨v, s2, qv, rfl⟩
  have gh2 := s2 _ _ gh
  have ga2 := s2 _ _ ga1
  have dh : ∀ r, H2 r = some (.lst (data.map V.int)) → Dh H2 (.list (data.map PyData.int)) (.ref r) := fun r g => ⟨r, _, rfl, g, dh_ints data⟩
  walk_at "go"
  refine un ?_
  walk_at "go"
  refine ⟨.ref h, .ref a, _, _, rfl, dh h gh2, dh a ga2, dle_li (by omega), fun bb H3 hb s3 => ?_⟩
  obtain rfl := hb.mpr rfl
  walk_at "go"
  exact qv _ s3
end

end

section

-- a condition of an operator
local macro_rules | `(tactic| walk_at "cond") => `(tactic| first
  | (show (0 : Int) < _; omega)
  | (show CDiv _ _; constructor <;> (first | decide | omega))
  | (show CMul _ _; first | (refine cmul_l ?_; constructor <;> (first | decide | omega)) | (refine cmul_r ?_; constructor <;> (first | decide | omega)))
  | (show CPow _ _; exact (by refine ⟨by decide, by decide, by decide⟩))
  | (show CDivW _ _; exact ⟨by decide, by decide +kernel⟩))
local macro_rules | `(tactic| walk_at "sq") => `(tactic| first | assumption | exact Dh.mono (same_upd (by assumption)) _ _ (by assumption) | exact .inl (.inl (.inl (by assumption))) | exact .inr (.inl (.inl (by assumption))) | exact SqL.of (by assumption) | exact .inl (by assumption) | exact .inl (SqL.of (by assumption)) | exact SqT.of (by assumption) | exact .inr (SqT.of (by assumption)))
local macro_rules | `(tactic| walk_at "st") => `(tactic| first
  | refine ⟨_, rfl, ?_⟩
  | refine ⟨_, _, rfl, rfl, ?_⟩
  | refine .inl ⟨_, rfl, ?_⟩
  | refine ⟨rfl, ?_⟩
  | refine ⟨_, _, rfl, by walk_at "sq", ?_⟩
  | refine ⟨.inl ⟨rfl, _, SqL.of (by assumption)⟩, ?_⟩
  | refine ⟨by walk_at "cond", ?_⟩
  | (refine' ifBT ?hh ?_; (case hh => first | rfl | assumption))
  | (refine' ifBF ?hh ?_; (case hh => first | rfl | assumption)))
local macro_rules | `(tactic| walk_at "go") => `(tactic| repeat walk_at "st")
local macro_rules | `(tactic| walk_at "yes") => `(tactic| (refine' ifT ?hh ?_; (case hh => first | rfl | decide +kernel)))
local macro_rules | `(tactic| walk_at "no") => `(tactic| (refine' ifF ?hh ?_; (case hh => first | decide +kernel | (intro z; cases z; done))))

local macro_rules | `(tactic| walk_at "st") => `(tactic| refine ⟨_, _, _, _, _, rfl, by assumption, by assumption, by omega, by omega, by omega, by omega, by omega, ?_⟩)
local macro_rules | `(tactic| walk_at "st") => `(tactic| refine ⟨_, _, _, _, _, rfl, Same.seq (by assumption) (by assumption), by assumption, by omega, by omega, by omega, by omega, by omega, ?_⟩)

/-! ### the law's round, and the family of the error -/
abbrev s_lines_hold : Stmt := topS 30
theorem sc_lines_hold : FnScope ["_law_data", "_law_due", "_law_turn", "_law_told"] ["_law_data"] (C8.fnScope s_lines_hold) := C8.fnScope_by (by decide +kernel)
abbrev s_code_family : Stmt := topS 31
theorem sc_code_family : FnScope ["_law_data", "e"] ["_law_data"] (C8.fnScope s_code_family) := C8.fnScope_by (by decide +kernel)
theorem dle_due : ∀ r : Nat ⊕ List Str, (∀ ls, r = .inr ls → ls.length ≤ 100000) → Dle 3 (dueD r)
  | .inl i, _ => ⟨by show 3 ≤ 100000; decide, fun d hd => by
    simp only [List.mem_cons, List.not_mem_nil, or_false] at hd
    rcases hd with rfl | rfl | rfl
    · exact trivial
    · exact trivial
    · exact ⟨by show 1 ≤ 100000; decide, fun d hd => by
        simp only [List.mem_cons, List.not_mem_nil, or_false] at hd
        obtain rfl := hd
        exact trivial⟩⟩
  | .inr ls, h => ⟨by show 2 ≤ 100000; decide, fun d hd => by
    simp only [List.mem_cons, List.not_mem_nil, or_false] at hd
    rcases hd with rfl | rfl
    · exact trivial
    · exact ⟨by rw [List.length_map]; exact h ls rfl, fun d hd => by
        obtain ⟨i, _, rfl⟩ := List.mem_map.mp hd
        exact trivial⟩⟩
theorem dis_len {f : List Int → Option Str} {data : List Int} : ∀ {k i : Nat} {ls : List Str}, dis f data k i = .inr ls → ls.length = k
  | 0, i, ls, h => by
    rw [dis] at h
    obtain rfl := Sum.inr.inj h
    rfl
  | k + 1, i, ls, h => by
    rw [dis] at h
    cases e : f (chunk data i) with
    | none => rw [e] at h; cases h
    | some l =>
      rw [e] at h
      cases e2 : dis f data k (i + 1) with
      | inl p => rw [e2] at h; cases h
      | inr xs =>
        rw [e2] at h
        obtain rfl := Sum.inr.inj h
        rw [List.length_cons, dis_len e2]
def spHold : Sp := fun vs H Q _ => ∃ (a : Addr) (data : List Int), vs = [.ref a] ∧ H a = some (.lst (data.map V.int)) ∧ By data ∧ data.length ≤ 1000 ∧ ∀ H', Same H H' → Q (.bl true) H'
def spFam : Sp := fun vs H Q _ => ∃ (a : Addr) (data : List Int) (i : Nat), vs = [.ref a] ∧ H a = some (.lst (data.map V.int)) ∧ By data ∧ data.length ≤ 1000 ∧ disP data = .inl i ∧ ∀ H', Same H H' → Q (.bl true) H'
section
variable {P : Program} {w : World} {K : PySem.W.Frag} {mg : Str → Option Value} {base : Heap} {FM BC CE BL AE LE ME FE PgE : Addr}
theorem ok_hold {f : Addr} {fd : FuncData} (D : Def K mg "_law_lines_hold" s_lines_hold f fd) (b : Binds K fd ["_law_data"] []) (T : Txt mg) (c_lines_due : Cal P w K mg base 3 "_law_lines_due" spDue []) (c_lines_told : Cal P w K mg base 5 "_law_lines_told" spTold []) (c_same : Cal P w K mg base 4 "_law_same" (spSame 3) []) : Cal P w K mg base 6 "_law_lines_hold" spHold [] := by
  refine cal0 D b .nil sc_lines_hold (fun vs H Q E h => ?_) (fun cdv A outer s H vs Q E hr h => ?_)
  · obtain ⟨a, data, rfl, _⟩ := h
    rfl
  obtain ⟨a, data, rfl, ga, hby, hl, q⟩ := h
  have dl : Dle 3 (dueD (disP data)) := dle_due _ fun ls e => by
    have := dis_len e
    unfold disN at this
    omega
  refine ⟨_, (pss_cons (ps_set (i := 1) sc_lines_hold.nd rfl (.inl rfl) (C8.pe_c c_lines_due hr (by omega) (by rfl) (pa_cons (pv 0) pa_nil)))
      (pss_cons (ps_mk (ps_for PassesOwn.never rfl (pi_range1 (by rfl) T.range (pa_cons pe_int pa_nil)) (pg_name (i := 2) sc_lines_hold.nd rfl (.inl rfl))
      (pss_cons (ps_set (i := 3) sc_lines_hold.nd rfl (.inl rfl) (C8.pe_c c_lines_told hr (by omega) (by rfl) (pa_cons (pv 0) pa_nil)))
      (pss_cons (ps_mk (ps_if (pt_not (pt_val (C8.pe_c c_same hr (by omega) (by rfl) (pa_cons (pv 3) (pa_cons (pv 1) pa_nil)))))
      (pss_one (ps_ret pe_bl))
      pss_nil))
      (pss_one (ps_mk (ps_if (pt_cmpR op_eq (pe_ix (ixT K rfl) (pv 3) pe_int (fun _ _ => rfl)) pe_str (nomark _))
      (pss_one (ps_expr (pe_bm PySem.F.plainAttrs_list PySem.F.slot_list_append PySem.F.type_list_append mt_append (pe_ix (ixT K rfl) (pv 3) pe_int (fun _ _ => rfl)) (pa_cons pe_str pa_nil))))
      pss_nil)))))))
      (pss_one (ps_ret pe_bl)))), ?_⟩
  walk_at "go"
  refine ⟨hby, hl, fun DT us H1 s1 gD hu dD => ?_⟩
  clear hu gD
  walk_at "go"
  refine jnS (M := fun σ H' => ∃ y2 y3, Same H H' ∧ σ = [sR a, sR DT, y2, y3]) ?_ (fun N kk => ?_)
  · rintro σ H2 ⟨y2, y3, s2, rfl⟩
    walk_at "go"
    exact q _ s2
  walk_at "go"
  refine ⟨by omega, by omega, for_range (lo := 0) (n := 2) (fun i σ H' => Ob (∃ y2 y3, Same H1 H' ∧ σ = [sR a, sR DT, y2, y3])) (ob ⟨none, none, same_rfl, rfl⟩) ?_ ?_⟩
  rotate_left
  · intro σ H2 h
    obtain ⟨y2, y3, s2, rfl⟩ := unob h
    exact kk _ _ ⟨y2, y3, s1.trans s2, rfl⟩
  intro i σ H2 hi h
  obtain ⟨y2, y3, s2, rfl⟩ := unob h
  clear h kk
  have ga2 := s2 _ _ (s1 _ _ ga)
  walk_at "go"
  refine ⟨hby, hl, fun ls el T L H3 s3 nL gT gL => ?_, fun i ei T U H3 s3 gT gU => ?_⟩
  · have dT : Dh H3 (dueD (disP data)) (.ref T) := by
      rw [el]
      exact ⟨T, _, rfl, gT, _, _, rfl, rfl, _, _, rfl, ⟨L, _, rfl, gL, dh_strs ls⟩, rfl⟩
    have dD3 := Dh.mono (s2.trans s3) _ _ dD
    walk_at "go"
    refine jnS (M := fun σ H' => Same H3 H' ∧ σ = [sR a, sR DT, sI (0 + (i : Int)), sR T]) ?_ (fun N kk => ?_)
    rotate_left
    · walk_at "go"
      refine ⟨.ref T, .ref DT, _, _, rfl, dT, dD3, dl, fun bb H4 hb s4 => ?_⟩
      obtain rfl := hb.mpr rfl
      walk_at "go"
      exact kk _ _ ⟨s4, rfl⟩
    rintro σ H4 ⟨s4, rfl⟩
    have gT4 := s4 _ _ gT
    have gL4 := s4 _ _ gL
    refine un ?_
    walk_at "go"
    refine ⟨T, _, _, _, rfl, rfl, SqT.of gT4, atI_nat (j := 0) rfl, ?_⟩
    walk_at "go"
    refine ⟨T, _, _, _, rfl, rfl, SqT.of gT4, atI_nat (j := 1) rfl, ?_⟩
    walk_at "go"
    refine ⟨L, _, _, rfl, rfl, gL4, sz5 (by rw [List.length_map, dis_len el]; unfold disN; omega), ?_⟩
    exact ob ⟨_, _, same_put (s2.trans (s3.trans s4)) (s2.free nL), rfl⟩
  · have dT : Dh H3 (dueD (disP data)) (.ref T) := by
      rw [ei]
      exact ⟨T, _, rfl, gT, _, _, rfl, rfl, _, _, rfl, rfl, _, _, rfl, ⟨U, _, rfl, gU, _, _, rfl, rfl, rfl⟩, rfl⟩
    have dD3 := Dh.mono (s2.trans s3) _ _ dD
    try dsimp only
    walk_at "go"
    refine jnS (M := fun σ H' => ∃ y2, Same H3 H' ∧ σ = [sR a, sR DT, y2, sR T]) ?_ (fun N kk => ?_)
    rotate_left
    · walk_at "go"
      refine ⟨.ref T, .ref DT, _, _, rfl, dT, dD3, dl, fun bb H4 hb s4 => ?_⟩
      obtain rfl := hb.mpr rfl
      walk_at "go"
      exact kk _ _ ⟨_, s4, rfl⟩
    rintro σ H4 ⟨y2', s4, rfl⟩
    have gT4 := s4 _ _ gT
    refine un ?_
    walk_at "go"
    refine ⟨T, _, _, _, rfl, rfl, SqT.of gT4, atI_nat (j := 0) rfl, ?_⟩
    walk_at "go"
    exact ob ⟨_, _, s2.trans (s3.trans s4), rfl⟩
theorem ok_fam {f : Addr} {fd : FuncData} (D : Def K mg "_law_code_family" s_code_family f fd) (b : Binds K fd ["_law_data"] []) (T : Txt mg) (TE : ETc K mg BC CE BL AE LE ME FE PgE) (e_dis : CalE P w K mg base 3 "disassemble" (spDis BC)) : Cal P w K mg base 4 "_law_code_family" spFam [] := by
  refine cal0 D b .nil sc_code_family (fun vs H Q E h => ?_) (fun cdv A outer s H vs Q E hr h => ?_)
  · obtain ⟨a, data, i, rfl, _⟩ := h
    rfl
  obtain ⟨a, data, i, rfl, ga, hby, hl, ei, q⟩ := h
  refine ⟨_, (pss_cons (ps_mk (ps_try_m (i := 1) rfl rfl sc_code_family.nd rfl rfl ⟨rfl, by decide, Or.inl TE.mCE⟩ takes0 (fun W pn xe tk _ =>
      (pss_one (ps_expr (pe_cE e_dis tk hr (by omega) (by rfl) (pa_cons (pe_callTy (listQ K rfl) (by rfl) T.list (by decide +kernel) (pa_cons (pv 0) pa_nil)) pa_nil)))))
      (fun a oe cls d pn hz hf =>
      (pss_cons (ps_mk (ps_if (PW.pt (pw_or (pt_val (pe_callB (call_isXT K rfl TE.xc hz hf) (by rfl) T.isinstance (by decide +kernel) (pa_cons (pv 1) (pa_cons (pe_tup (pa_cons (pe_glob (v := V.ref BL) (by rfl) TE.mBL rfl) (pa_cons (pe_glob (v := V.ref AE) (by rfl) TE.mA rfl) pa_nil))) pa_nil)))) (pw_or1 (pt_val (pe_callB (call_isXT K rfl TE.xc hz hf) (by rfl) T.isinstance (by decide +kernel) (pa_cons (pv 1) (pa_cons (pe_tup (pa_cons (pe_glob (v := V.ref LE) (by rfl) TE.mL rfl) (pa_cons (pe_glob (v := V.ref ME) (by rfl) TE.mM rfl) (pa_cons (pe_glob (v := V.ref FE) (by rfl) TE.mF rfl) pa_nil)))) pa_nil)))))))
      (pss_one (ps_ret pe_bl))
      pss_nil))
      (pss_one (ps_ret (pe_and (pe_callB (call_isX K rfl TE.xc hz hf) (by rfl) T.isinstance (by decide +kernel) (pa_cons (pv 1) (pa_cons (pe_glob (v := V.ref BC) (by rfl) TE.mBC rfl) pa_nil))) (pe_and (pe_callB (call_isX K rfl TE.xc hz hf) (by rfl) T.isinstance (by decide +kernel) (pa_cons (pv 1) (pa_cons (pe_glob (v := V.ref PgE) (by rfl) TE.mP rfl) pa_nil))) (pe_one (pe_callB (call_isX K rfl TE.xc hz hf) (by rfl) T.isinstance (by decide +kernel) (pa_cons (pv 1) (pa_cons (pe_bltn (v := .ty "ValueError") (by rfl) TE.zV (by decide +kernel) rfl) pa_nil))))))))))))
      (pss_one (ps_ret pe_bl))), ?_⟩
  walk_at "go"
  refine jnS (M := fun σ H' => False) (fun σ H' z => z.elim) (fun N kk => ?_)
  intro W hW
  have key : ∀ d H2, Same H H2 → H2 d = some (.xd (bcF (i : Nat))) → W (.ref BC) (some d) [sR a, none] H2 := fun d H2 s2 gd => hW _ _ _ _ (catch_yes TE.eBC fun x nx => by
    clear hW
    walk_at "go"
    refine jnS (M := fun σ H' => Same H2 H' ∧ σ = [sR a, some (.ref x)]) ?_ (fun N k2 => ?_)
    rotate_left
    · walk_at "go"
      refine ⟨sz, fun tp ntp => ?_⟩
      have st := same_upd (o := HO.tup [V.ref BL, V.ref AE]) ntp
      walk_at "go"
      refine ⟨d, tp, _, _, false, _, rfl, rfl, upd_same, .cons (.own BL) (.cons (.own AE) .nil), st _ _ gd, TE.iB1, ?_⟩
      have gd := st _ _ gd
      generalize upd H2 tp (HO.tup [V.ref BL, V.ref AE]) = H3 at *
      walk_at "go"
      refine ⟨sz, fun tp ntp => ?_⟩
      have st2 := same_upd (o := HO.tup [V.ref LE, V.ref ME, V.ref FE]) ntp
      walk_at "go"
      refine ⟨d, tp, _, _, false, _, rfl, rfl, upd_same, .cons (.own LE) (.cons (.own ME) (.cons (.own FE) .nil)), st2 _ _ gd, TE.iB2, ?_⟩
      walk_at "go"
      exact k2 _ _ ⟨st.trans st2, rfl⟩
    rintro σ H3 ⟨s3, rfl⟩
    have gd := s3 _ _ gd
    walk_at "go"
    refine ⟨d, _, _, true, _, rfl, rfl, .own BC, gd, TE.iBB, ?_⟩
    walk_at "go"
    refine ⟨d, _, _, true, _, rfl, rfl, .own PgE, gd, TE.iBP, ?_⟩
    walk_at "go"
    refine ⟨d, _, _, true, _, rfl, rfl, .ty "ValueError", gd, TE.iBV, ?_⟩
    walk_at "go"
    exact q _ (s2.trans s3))
  walk_at "go"
  intro l nl
  have s1 := same_upd (o := HO.lst (data.map V.int)) nl
  have gl := upd_same (H := H) (a := l) (o := HO.lst (data.map V.int))
  generalize upd H l (HO.lst (data.map V.int)) = H1 at *
  refine ⟨l, data, rfl, gl, hby, hl, fun ls el => ?_, fun j ej d H2 s2 gd => ?_⟩
  · have : disP data = .inr ls := el
    rw [ei] at this
    cases this
  · have : disP data = .inl j := ej
    rw [ei] at this
    obtain rfl := Sum.inl.inj this
    exact key d H2 (s1.trans s2) gd
end

end

section

-- a condition of an operator
local macro_rules | `(tactic| walk_at "cond") => `(tactic| first
  | (show (0 : Int) < _; omega)
  | (show CDiv _ _; constructor <;> (first | decide | omega))
  | (show CMul _ _; first | (refine cmul_l ?_; constructor <;> (first | decide | omega)) | (refine cmul_r ?_; constructor <;> (first | decide | omega)))
  | (show CPow _ _; exact (by refine ⟨by decide, by decide, by decide⟩))
  | (show CDivW _ _; exact ⟨by decide, by decide +kernel⟩))
local macro_rules | `(tactic| walk_at "sq") => `(tactic| first | assumption | exact Dh.mono (same_upd (by assumption)) _ _ (by assumption) | exact .inl (.inl (.inl (by assumption))) | exact .inr (.inl (.inl (by assumption))) | exact SqL.of (by assumption) | exact .inl (by assumption) | exact .inl (SqL.of (by assumption)) | exact SqT.of (by assumption) | exact .inr (SqT.of (by assumption)))
local macro_rules | `(tactic| walk_at "st") => `(tactic| first
  | refine ⟨_, rfl, ?_⟩
  | refine ⟨_, _, rfl, rfl, ?_⟩
  | refine .inl ⟨_, rfl, ?_⟩
  | refine ⟨rfl, ?_⟩
  | refine ⟨_, _, rfl, by walk_at "sq", ?_⟩
  | refine ⟨.inl ⟨rfl, _, SqL.of (by assumption)⟩, ?_⟩
  | refine ⟨by walk_at "cond", ?_⟩
  | (refine' ifBT ?hh ?_; (case hh => first | rfl | assumption))
  | (refine' ifBF ?hh ?_; (case hh => first | rfl | assumption)))
local macro_rules | `(tactic| walk_at "go") => `(tactic| repeat walk_at "st")
local macro_rules | `(tactic| walk_at "yes") => `(tactic| (refine' ifT ?hh ?_; (case hh => first | rfl | decide +kernel)))
local macro_rules | `(tactic| walk_at "no") => `(tactic| (refine' ifF ?hh ?_; (case hh => first | decide +kernel | (intro z; cases z; done))))

local macro_rules | `(tactic| walk_at "st") => `(tactic| refine ⟨_, _, _, _, _, rfl, by assumption, by assumption, by omega, by omega, by omega, by omega, by omega, ?_⟩)
local macro_rules | `(tactic| walk_at "st") => `(tactic| refine ⟨_, _, _, _, _, rfl, Same.seq (by assumption) (by assumption), by assumption, by omega, by omega, by omega, by omega, by omega, ?_⟩)

/-! ### the law -/
abbrev s_law : Stmt := topS 32
theorem sc_law : FnScope ["_law_script", "_law_kind", "_law_many", "_law_good", "_law_k", "_law_data", "_law_turn"] ["_law_script"] (C8.fnScope s_law) := C8.fnScope_by (by decide +kernel)
def spLaw (K : PySem.W.Frag) : Sp := fun vs H Q _ => ∃ (a : Addr) (ns : List Int), vs = [.ref a] ∧ SqL K H a (ns.map V.int) ∧ ns.length ≤ 63 ∧ ∀ H', Q (.bl true) H'
theorem pick6 {i : Int} (h0 : 0 ≤ i) (h1 : i < 6) : ∃ j : Int, atI [V.int 0, V.int 1, V.int 1, V.int 2, V.int 0, V.int 1] i = some (V.int j) ∧ 0 ≤ j ∧ j ≤ 2 := by
  have h : i = 0 ∨ i = 1 ∨ i = 2 ∨ i = 3 ∨ i = 4 ∨ i = 5 := by omega
  rcases h with rfl | rfl | rfl | rfl | rfl | rfl
  · exact ⟨0, rfl, by decide, by decide⟩
  · exact ⟨1, rfl, by decide, by decide⟩
  · exact ⟨1, rfl, by decide, by decide⟩
  · exact ⟨2, rfl, by decide, by decide⟩
  · exact ⟨0, rfl, by decide, by decide⟩
  · exact ⟨1, rfl, by decide, by decide⟩
section
variable {P : Program} {w : World} {K : PySem.W.Frag} {mg : Str → Option Value} {base : Heap} {FM BC CE BL AE LE ME FE PgE : Addr}
theorem ok_law {f : Addr} {fd : FuncData} (D : Def K mg "law" s_law f fd) (T : Txt mg) (c_number : Cal P w K mg base 1 "_law_number" (spNum K) []) (c_line_four : Cal P w K mg base 2 "_law_line_four" (spFour K) []) (c_any_byte : Cal P w K mg base 2 "_law_any_byte" (spAny K) [])
    (c_data_changed : Cal P w K mg base 2 "_law_data_changed" (spChg K) []) (c_lines_hold : Cal P w K mg base 6 "_law_lines_hold" spHold []) (c_lines_due : Cal P w K mg base 3 "_law_lines_due" spDue []) (c_code_family : Cal P w K mg base 4 "_law_code_family" spFam []) : FnOk P w K mg base C8.CX0 7 f fd ["_law_script"] (spLaw K) := by
  refine C8.fn0 D.fn sc_law (fun vs H Q E h => ?_) (fun cdv A0 outer s H vs Q E hr h => ?_)
  · obtain ⟨a, ns, rfl, _⟩ := h
    rfl
  obtain ⟨a, ns, rfl, hS, hl, q⟩ := h
  refine ⟨_, (pss_cons (ps_set (i := 1) sc_law.nd rfl (.inl rfl) (C8.pe_c c_number hr (by omega) (by rfl) (pa_cons (pv 0) (pa_cons pe_int (pa_cons pe_int (pa_cons pe_int pa_nil))))))
      (pss_cons (ps_set (i := 2) sc_law.nd rfl (.inl rfl) (pe_op op_mod (pe_callTy call_int1 (by rfl) T.int (by decide +kernel) (pa_cons (pe_op op_add (C8.pe_c c_number hr (by omega) (by rfl) (pa_cons (pv 0) (pa_cons pe_int (pa_cons pe_int (pa_cons pe_int pa_nil))))) pe_int) pa_nil)) pe_int))
      (pss_cons (ps_set (i := 3) sc_law.nd rfl (.inl rfl) (pe_lst pa_nil))
      (pss_cons (ps_mk (ps_for PassesOwn.never rfl (pi_range1 (by rfl) T.range (pa_cons (pv 2) pa_nil)) (pg_name (i := 4) sc_law.nd rfl (.inl rfl))
      (pss_one (ps_expr (pe_bm PySem.F.plainAttrs_list PySem.F.slot_list_extend PySem.F.type_list_extend mt_extend (pv 3) (pa_cons (C8.pe_c c_line_four hr (by omega) (by rfl) (pa_cons (pv 0) (pa_cons (pe_op op_add pe_int (pv 4)) pa_nil))) pa_nil))))))
      (pss_cons (ps_set (i := 5) sc_law.nd rfl (.inl rfl) (pe_callTy (listQ K rfl) (by rfl) T.list (by decide +kernel) (pa_cons (pv 3) pa_nil)))
      (pss_cons (ps_mk (ps_if (pt_cmpR op_eq (pv 1) pe_int (nomark _))
      (pss_one (ps_setLc (i := 5) (own := [("_law_k", 4)]) (g := gName 4) (tt := tYes) rfl sc_law.nd rfl rfl (sw_true rfl rfl rfl (by decide +kernel)) (pi_range1 (by rfl) T.range (pa_cons (pe_op op_add (pe_op op_mul pe_int (pv 2)) (C8.pe_c c_number hr (by omega) (by rfl) (pa_cons (pv 0) (pa_cons pe_int (pa_cons pe_int (pa_cons pe_int pa_nil)))))) pa_nil)) (blkOk_by (own := [("_law_k", 4)]) (N := ["_law_script", "_law_kind", "_law_many", "_law_good", "_law_k", "_law_data", "_law_turn"]) (sc := C8.fnScope s_law) (by decide +kernel)) (fun _ _ _ _ _ => (pg_name (i := 4) sc_law.nd rfl (.inl rfl))) (fun _ _ _ _ _ => pts_nil) (fun _ _ _ _ _ => (C8.pe_c c_any_byte hr (by omega) (by rfl) (pa_cons (pv 0) (pa_cons (pe_op op_add pe_int (pe_op op_fdiv (pv 4) pe_int)) (pa_cons (pe_op op_mod (pe_callTy call_int1 (by rfl) T.int (by decide +kernel) (pa_cons (pv 4) pa_nil)) pe_int) pa_nil)))))))
      pss_nil))
      (pss_cons (ps_mk (ps_if (pt_cmpR op_eq (pv 1) pe_int (nomark _))
      (pss_one (ps_set (i := 5) sc_law.nd rfl (.inl rfl) (pe_op op_rep (pv 3) pe_int)))
      pss_nil))
      (pss_cons (ps_mk (ps_for PassesOwn.never rfl (pi_range1 (by rfl) T.range (pa_cons (pe_ix (ixL K rfl) (pe_lst (pa_cons pe_int (pa_cons pe_int (pa_cons pe_int (pa_cons pe_int (pa_cons pe_int (pa_cons pe_int pa_nil))))))) (pv 1) (fun _ _ => rfl)) pa_nil)) (pg_name (i := 6) sc_law.nd rfl (.inl rfl))
      (pss_one (ps_set (i := 5) sc_law.nd rfl (.inl rfl) (C8.pe_c c_data_changed hr (by omega) (by rfl) (pa_cons (pv 0) (pa_cons (pv 6) (pa_cons (pv 5) pa_nil))))))))
      (pss_cons (ps_mk (ps_if (PW.pt (pw_or (pt_not (pt_val (C8.pe_c c_lines_hold hr (by omega) (by rfl) (pa_cons (pv 3) pa_nil)))) (pw_or (pt_not (pt_val (C8.pe_c c_lines_hold hr (by omega) (by rfl) (pa_cons (pv 5) pa_nil)))) (pw_or1 (pt_not (pt_val (C8.pe_c c_lines_hold hr (by omega) (by rfl) (pa_cons (pv 3) pa_nil))))))))
      (pss_one (ps_ret pe_bl))
      pss_nil))
      (pss_cons (ps_mk (ps_if (pt_cmpR op_eq (pe_ix (ixT K rfl) (C8.pe_c c_lines_due hr (by omega) (by rfl) (pa_cons (pv 5) pa_nil)) pe_int (fun _ _ => rfl)) pe_str (nomark _))
      (pss_one (ps_ret (C8.pe_c c_code_family hr (by omega) (by rfl) (pa_cons (pv 5) pa_nil))))
      pss_nil))
      (pss_one (ps_ret pe_bl)))))))))))), ?_⟩
  have k0 : 0 ≤ num ns 0 0 6 := num_nn (by decide)
  have k1 : num ns 0 0 6 < 6 := num_lt (by decide)
  have m0 : 0 ≤ (num ns 0 1 13 + 1) % 13 := Int.emod_nonneg _ (by decide)
  have m1 : (num ns 0 1 13 + 1) % 13 < 13 := Int.emod_lt_of_pos _ (by decide)
  have t0 : 0 ≤ num ns 0 2 4 := num_nn (by decide)
  have t1 : num ns 0 2 4 < 4 := num_lt (by decide)
  walk_at "go"
  generalize num ns 0 0 6 = kind at *
  try dsimp only
  generalize (num ns 0 1 13 + 1) % 13 = many at *
  walk_at "go"
  refine ⟨sz, fun G nG => ?_⟩
  have s1 := same_upd (o := HO.lst []) nG
  have gG := upd_same (H := H) (a := G) (o := HO.lst [])
  generalize upd H G (HO.lst []) = H1 at *
  walk_at "go"
  refine jnS (M := fun σ H' => ∃ fs y4, Same H H' ∧ H' G = some (.lst (fs.map V.int)) ∧ By fs ∧ fs.length ≤ 96 ∧ σ = [sR a, sI kind, sI many, sR G, y4, none, none]) ?_ (fun N kk => ?_)
  rotate_left
  · walk_at "go"
    refine ⟨by omega, by omega, for_range (lo := 0) (n := many.toNat) (fun j σ H' => Ob (∃ fs y4, Same H H' ∧ H' G = some (.lst (fs.map V.int)) ∧ By fs ∧ fs.length ≤ 8 * j ∧ σ = [sR a, sI kind, sI many, sR G, y4, none, none])) (ob ⟨[], none, s1, gG, (fun _ z => by cases z), Nat.le_refl _, rfl⟩) ?_ ?_⟩
    rotate_left
    · intro σ H2 h
      obtain ⟨fs, y4, s2, g2, hb, hf, rfl⟩ := unob h
      exact kk _ _ ⟨fs, y4, s2, g2, hb, by omega, rfl⟩
    intro j σ H2 hj h
    obtain ⟨fs, y4, s2, g2, hb, hf, rfl⟩ := unob h
    clear h kk
    have hS2 := s2.seq hS
    walk_at "go"
    refine ⟨a, ns, _, rfl, hS2, hl, by omega, by omega, fun p fs2 H3 s3 np gp hb2 hf2 => ?_⟩
    have g3 := s3 _ _ g2
    have s23 := s2.trans s3
    walk_at "go"
    refine ⟨G, p, _, _, rfl, rfl, g3, gp, Nat.le_of_lt (sz5 (by rw [List.length_map, List.length_map]; omega)), ?_⟩
    refine ob ⟨fs ++ fs2, _, same_put s23 nG, by rw [upd_same, List.map_append], fun x hx => ?_, by rw [List.length_append]; omega, rfl⟩
    rcases List.mem_append.mp hx with z | z
    · exact hb x z
    · exact hb2 x z
  rintro σ H2 ⟨fs, y4, s2, g2, hb, hf, rfl⟩
  walk_at "go"
  intro Dd nD
  have s3 := s2.trans (same_upd (o := HO.lst (fs.map V.int)) nD)
  have g3 := same_upd (o := HO.lst (fs.map V.int)) nD _ _ g2
  have gD := upd_same (H := H2) (a := Dd) (o := HO.lst (fs.map V.int))
  generalize upd H2 Dd (HO.lst (fs.map V.int)) = H3 at *
  clear nD g2 s2 s1 gG
  try dsimp only
  have hS3 := s3.seq hS
  refine jnS (M := fun σ H' => ∃ Dd ds, Same H3 H' ∧ H' Dd = some (.lst (ds.map V.int)) ∧ By ds ∧ ds.length ≤ 600 ∧ σ = [sR a, sI kind, sI many, sR G, y4, sR Dd, none]) ?_ (fun N kk => ?_)
  rotate_left
  · walk_at "go"
    refine ifEq (fun c => ?_) (fun c => ?_)
    · walk_at "go"
      have hn : 0 ≤ 4 * many + num ns 0 2 4 ∧ 4 * many + num ns 0 2 4 ≤ 100 := by omega
      generalize 4 * many + num ns 0 2 4 = n at *
      refine ⟨by omega, by omega, fun L nL => lc_range (lo := 0) (n := n.toNat) (fun j H' => Ob (∃ vs : List Int, Same H3 H' ∧ H' L = some (.lst (vs.map V.int)) ∧ By vs ∧ vs.length = j)) (ob ⟨[], same_upd nL, upd_same, (fun _ z => by cases z), rfl⟩) ?_ ?_⟩
      · intro j H4 hj h
        obtain ⟨vs, s4, g4, hv, lv⟩ := unob h
        clear h kk
        have hS4 := s4.seq hS3
        refine ⟨rfl, ?_⟩
        walk_at "go"
        refine ⟨a, ns, _, _, rfl, hS4, hl, by omega, by omega, by omega, by omega, fun v v0 v1 => ?_⟩
        refine ⟨_, g4, sz5 (by rw [List.length_map]; omega), ?_⟩
        exact ob ⟨vs ++ [v], same_put s4 nL, by rw [upd_same, List.map_append]; rfl, by_snoc hv v0 v1, by rw [List.length_append, lv]; rfl⟩
      intro H4 h
      obtain ⟨vs, s4, g4, hv, lv⟩ := unob h
      exact kk _ _ ⟨L, vs, s4, g4, hv, by omega, rfl⟩
    · walk_at "go"
      exact kk _ _ ⟨Dd, fs, same_rfl, gD, hb, by omega, rfl⟩
  clear gD
  rintro σ H4 ⟨Dd, ds, s4, gD, hd, ld, rfl⟩
  have g4 := s4 _ _ g3
  walk_at "go"
  refine jnS (M := fun σ H' => ∃ Dd ds, Same H4 H' ∧ H' Dd = some (.lst (ds.map V.int)) ∧ By ds ∧ ds.length ≤ 600 ∧ σ = [sR a, sI kind, sI many, sR G, y4, sR Dd, none]) ?_ (fun N kk => ?_)
  rotate_left
  · walk_at "go"
    refine ifEq (fun c => ?_) (fun c => ?_)
    · walk_at "go"
      try dsimp only
      refine ⟨G, _, fs.map V.int, rfl, rfl, g4, by omega, by omega, Nat.le_of_lt (sz5 (by rw [List.length_map, show (6 : Int).toNat = 6 from rfl]; omega)), fun r nr => ?_⟩
      have e0 : (List.replicate (6 : Int).toNat (fs.map V.int)).flatten = ((List.replicate 6 fs).flatten).map V.int := by
        rw [List.map_flatten, List.map_replicate]
        rfl
      rw [e0]
      refine kk _ _ ⟨r, _, same_upd nr, upd_same, fun x hx => ?_, ?_, rfl⟩
      · obtain ⟨l, h1, h2⟩ := List.mem_flatten.mp hx
        obtain rfl := List.eq_of_mem_replicate h1
        exact hb x h2
      · rw [List.length_flatten, List.map_replicate, List.sum_replicate_nat]
        omega
    · walk_at "go"
      exact kk _ _ ⟨Dd, ds, same_rfl, gD, hd, ld, rfl⟩
  clear gD hd ld
  rintro σ H5 ⟨Dd, ds, s5, gD, hd, ld, rfl⟩
  have g5 := s5 _ _ g4
  have s35 := s4.trans s5
  have hS5 := s35.seq hS3
  clear g4 s4 s5 g3
  walk_at "go"
  refine jnS (M := fun σ H' => ∃ Dd ds y6, Same H5 H' ∧ H' Dd = some (.lst (ds.map V.int)) ∧ By ds ∧ ds.length ≤ 602 ∧ σ = [sR a, sI kind, sI many, sR G, y4, sR Dd, y6]) ?_ (fun N kk => ?_)
  rotate_left
  · walk_at "go"
    refine ⟨sz, fun p np => ?_⟩
    have s6 := same_upd (o := HO.lst [V.int 0, V.int 1, V.int 1, V.int 2, V.int 0, V.int 1]) np
    have g6 := upd_same (H := H5) (a := p) (o := HO.lst [V.int 0, V.int 1, V.int 1, V.int 2, V.int 0, V.int 1])
    have gD6 := s6 _ _ gD
    have hS6 := s6.seq hS5
    generalize upd H5 p (HO.lst [V.int 0, V.int 1, V.int 1, V.int 2, V.int 0, V.int 1]) = H6 at *
    walk_at "go"
    obtain ⟨j, ej, j0, j2⟩ := pick6 k0 k1
    refine ⟨p, _, _, _, rfl, rfl, SqL.of g6, ej, ?_⟩
    walk_at "go"
    refine ⟨by omega, by omega, for_range (lo := 0) (n := j.toNat) (fun i σ H' => Ob (∃ Dd ds y6, Same H6 H' ∧ H' Dd = some (.lst (ds.map V.int)) ∧ By ds ∧ ds.length ≤ 600 + i ∧ σ = [sR a, sI kind, sI many, sR G, y4, sR Dd, y6])) (ob ⟨Dd, ds, none, same_rfl, gD6, hd, by omega, rfl⟩) ?_ ?_⟩
    rotate_left
    · intro σ H7 h
      obtain ⟨Dd, ds, y6, s7, gD, hd, ld, rfl⟩ := unob h
      exact kk _ _ ⟨Dd, ds, y6, s6.trans s7, gD, hd, by omega, rfl⟩
    clear gD hd ld gD6
    intro i σ H7 hi h
    obtain ⟨Dd, ds, y6, s7, gD, hd, ld, rfl⟩ := unob h
    clear h kk
    have hS7 := s7.seq hS6
    walk_at "go"
    intro r es H8 s8 nr gr hb8 l8
    exact ob ⟨r, es, _, s7.trans s8, gr, hb8, by omega, rfl⟩
  clear gD hd ld
  rintro σ H6 ⟨Dd, ds, y6, s6, gD, hd, ld, rfl⟩
  have g6 := s6 _ _ g5
  clear g5
  walk_at "go"
  refine jnS (M := fun σ H' => Same H6 H' ∧ σ = [sR a, sI kind, sI many, sR G, y4, sR Dd, y6]) ?_ (fun N kk => ?_)
  rotate_left
  · walk_at "go"
    refine ⟨hb, by omega, fun H7 s7 => ?_⟩
    have gD7 := s7 _ _ gD
    have g7 := s7 _ _ g6
    walk_at "go"
    refine ⟨hd, by omega, fun H8 s8 => ?_⟩
    have g8 := s8 _ _ g7
    walk_at "go"
    refine ⟨hb, by omega, fun H9 s9 => ?_⟩
    walk_at "go"
    exact kk _ _ ⟨s7.trans (s8.trans s9), rfl⟩
  rintro σ H7 ⟨s7, rfl⟩
  have gD7 := s7 _ _ gD
  refine jnS (M := fun σ H' => True) (fun σ H' _ => by walk_at "go"; exact q _) (fun N kk => ?_)
  walk_at "go"
  refine ⟨hd, by omega, fun T us H8 s8 gT hu dT => ?_⟩
  have gD8 := s8 _ _ gD7
  walk_at "go"
  refine ⟨T, us, _, _, rfl, rfl, SqT.of gT, atI_nat (j := 0) hu, ?_⟩
  cases e : disP ds with
  | inl i =>
    walk_at "go"
    exact ⟨Dd, ds, i, rfl, gD8, hd, by omega, e, fun H9 _ => q H9⟩
  | inr ls =>
    walk_at "go"
    exact kk _ _ trivial
end

end

/-! ### a table of tuples, as the top keeps it -/
theorem top_tab {K : PySem.W.Frag} {H : Hp} {FM : Addr} {d : Option Addr} {its : Array Value} {n : Nat} {sl : Array (Option Value)} {rs : List Addr} (l : K.lookup FM = some ⟨.type "tuple", d, .seq its n, sl⟩) (e : its.toList = rs.map Value.ref) (h : rs.length ≤ 1000) : SqT K H FM (rs.map V.ref) := by
  refine .inr ⟨_, its, n, l, rfl, rfl, ?_, ?_⟩
  · rw [← Array.length_toList, e, List.length_map, sizeLine_eq]
    omega
  · rw [e]
    clear l e h
    induction rs with
    | nil => exact .nil
    | cons r rs ih => exact .cons rfl ih
theorem row_tab {K : PySem.W.Frag} {FM : Addr} {d : Option Addr} {its : Array Value} {n : Nat} {sl : Array (Option Value)} {x y : Str} {t u : Tok} (l : K.lookup FM = some ⟨.type "tuple", d, .seq its n, sl⟩) (e : its.toList = [.str x t, .str y u]) : ∀ H, SqT K H FM [.str x, .str y] := fun H => by
  refine .inr ⟨_, its, n, l, rfl, rfl, ?_, ?_⟩
  · rw [← Array.length_toList, e, sizeLine_eq]
    show 2 ≤ 16777216
    decide
  · rw [e]
    exact .cons ⟨_, rfl⟩ (.cons ⟨_, rfl⟩ .nil)

/-- what the written part says, asked one by one -/
theorem own_mk {P : Program} {K : PySem.W.Frag} {h : Heap} {mg : Str → Option Value} (X : K.In h) (G : h.Ns mainGlobals mg) {st : Stmt} {qn : Str} {D f cc c N : Addr} {oc ccl cl dV kV doc pm ctv : Value} {od an cdd cld dd : Option Addr} {osl ccs csl : Array (Option Value)} {vs : Array Value} {file : Str} {tf : Tok}
    {nm q : Str} {bs bm : List Value} {sn : List Str} {sub : List Value} {ab : Bool} {col : Option Bool} {k0 k1 k2 k3 k5 : Option Value} {ar : Arg}
    (iC : PySem.W.findIn K (.ref D) "__init__" = some (some (.ref f))) (tI : PySem.W.typeIn K (.ref f) = some (.type "function"))
    (lF : K.lookup f = some ⟨oc, od, .func (PySem.W.fnX "__init__" qn (C8.fnArgs st) (C8.fnBody st) (C8.fnScope st) [("__class__", cc)] dV kV doc pm an (.ref c) ctv), osl⟩)
    (cF : PySem.W.codeIn K (.ref c) qn = true) (lc : K.lookup c = some ⟨ccl, cdd, .fields vs, ccs⟩) (hv : vs[2]? = some (.str file tf)) (hf : ((P.main.file : Str) == file) = true) (tp : (P.main.scope.names.lookup ("super" : Str)).isSome = false)
    (lcc : K.lookup cc = some ⟨cl, cld, .cell (some (.ref D)), csl⟩) (zs : PySem.W.nsIn K mainGlobals "super" = some none) (hp : ((C8.fnArgs st).posonlyargs ++ (C8.fnArgs st).args).head? = some ar) (ha : ar.arg = "self")
    (sk : (C8.fnScope st).names.lookup ("super" : Str) = some .globalImplicit)
    (lD : K.lookup D = some (excClassObj nm q D N bs bm true sn sub ab col dd k0 k1 k2 k3 k5 "ValueError.__new__")) (rb : PySem.HandSPX.refsVE bm = true)
    (sa : PySem.W.findIn K (.ref D) "__setattr__" = some (some (.builtin "object.__setattr__"))) (ex : PySem.W.subIn K (.ref D) (.type "BaseException") = some true) (ty : PySem.W.typeIn K (.ref D) = some (.type "type")) (kC : PySem.W.keepIn K (.ref D) = true)
    (mr : PySem.W.mroIn K D (.ref D) = some true) (ini : PySem.W.ks_superIn K D D "__init__" = some (some (.builtin "ValueError.__init__"))) (ve : PySem.W.subIn K (.ref D) (.type "ValueError") = some true) (any : PySem.W.nsIn K cStatics "thirdparty.any" = some none) :
    SupAt P K mg (NF.of st "__init__" qn [("__class__", cc)] c) f D cc "self" dV kV doc pm ctv an ∧ OexC K D := by
  have O : OexC K D := ⟨⟨nm, q, N, bs, bm, sn, sub, ab, col, dd, k0, k1, k2, k3, k5, lD, rb⟩, sa, ex, ty, kC⟩
  exact ⟨⟨⟨_, _, _, lF⟩, rfl, cF, ⟨_, _, _, _, _, _, lc, hv, hf⟩, tp, ⟨_, _, _, lcc⟩, PySem.W.mg_none_of X G zs, ⟨ar, hp, ha⟩, sk, O, mr, ini, ve, any⟩, O⟩

section

-- a condition of an operator
local macro_rules | `(tactic| walk_at "cond") => `(tactic| first
  | (show (0 : Int) < _; omega)
  | (show CDiv _ _; constructor <;> (first | decide | omega))
  | (show CMul _ _; first | (refine cmul_l ?_; constructor <;> (first | decide | omega)) | (refine cmul_r ?_; constructor <;> (first | decide | omega)))
  | (show CPow _ _; exact (by refine ⟨by decide, by decide, by decide⟩))
  | (show CDivW _ _; exact ⟨by decide, by decide +kernel⟩))
local macro_rules | `(tactic| walk_at "sq") => `(tactic| first | assumption | exact Dh.mono (same_upd (by assumption)) _ _ (by assumption) | exact .inl (.inl (.inl (by assumption))) | exact .inr (.inl (.inl (by assumption))) | exact SqL.of (by assumption) | exact .inl (by assumption) | exact .inl (SqL.of (by assumption)) | exact SqT.of (by assumption) | exact .inr (SqT.of (by assumption)))
local macro_rules | `(tactic| walk_at "st") => `(tactic| first
  | refine ⟨_, rfl, ?_⟩
  | refine ⟨_, _, rfl, rfl, ?_⟩
  | refine .inl ⟨_, rfl, ?_⟩
  | refine ⟨rfl, ?_⟩
  | refine ⟨_, _, rfl, by walk_at "sq", ?_⟩
  | refine ⟨.inl ⟨rfl, _, SqL.of (by assumption)⟩, ?_⟩
  | refine ⟨by walk_at "cond", ?_⟩
  | (refine' ifBT ?hh ?_; (case hh => first | rfl | assumption))
  | (refine' ifBF ?hh ?_; (case hh => first | rfl | assumption)))
local macro_rules | `(tactic| walk_at "go") => `(tactic| repeat walk_at "st")
local macro_rules | `(tactic| walk_at "yes") => `(tactic| (refine' ifT ?hh ?_; (case hh => first | rfl | decide +kernel)))
local macro_rules | `(tactic| walk_at "no") => `(tactic| (refine' ifF ?hh ?_; (case hh => first | decide +kernel | (intro z; cases z; done))))

theorem all_mk {l : PySem.W.OpenLaw} {w : World} {K : PySem.W.Frag} {h : Heap} {mg : Str → Option Value} {fa : Addr} (X : K.In h) (G : h.Ns mainGlobals mg) (hfa : mg "law" = some (.ref fa))
    {tkR tkL : Tok} (aREG : PySem.W.nsIn K mainGlobals "REGISTERS" = some (some (.int 8 tkR))) (aLEN : PySem.W.nsIn K mainGlobals "CODE_LENGTH" = some (some (.int 4 tkL)))
    {FM fr0 fr1 fr2 fr3 fr4 fr5 fr6 fr7 fr8 fr9 fr10 : Addr} {dFM : Option Addr} {itsFM : Array Value} {nFM : Nat} {slFM : Array (Option Value)}
    (aFM : PySem.W.nsIn K mainGlobals "FORMS" = some (some (.ref FM))) (lFM : K.lookup FM = some ⟨.type "tuple", dFM, .seq itsFM nFM, slFM⟩) (x_FM : itsFM.toList = [.ref fr0, .ref fr1, .ref fr2, .ref fr3, .ref fr4, .ref fr5, .ref fr6, .ref fr7, .ref fr8, .ref fr9, .ref fr10])
    {dfr0 : Option Addr} {itsfr0 : Array Value} {nfr0 : Nat} {slfr0 : Array (Option Value)} {twfr0 tffr0 : Tok}
    (lfr0 : K.lookup fr0 = some ⟨.type "tuple", dfr0, .seq itsfr0 nfr0, slfr0⟩) (x_fr0 : itsfr0.toList = [.str "halt" twfr0, .str "" tffr0])
    {dfr1 : Option Addr} {itsfr1 : Array Value} {nfr1 : Nat} {slfr1 : Array (Option Value)} {twfr1 tffr1 : Tok}
    (lfr1 : K.lookup fr1 = some ⟨.type "tuple", dfr1, .seq itsfr1 nfr1, slfr1⟩) (x_fr1 : itsfr1.toList = [.str "set" twfr1, .str "an" tffr1])
    {dfr2 : Option Addr} {itsfr2 : Array Value} {nfr2 : Nat} {slfr2 : Array (Option Value)} {twfr2 tffr2 : Tok}
    (lfr2 : K.lookup fr2 = some ⟨.type "tuple", dfr2, .seq itsfr2 nfr2, slfr2⟩) (x_fr2 : itsfr2.toList = [.str "add" twfr2, .str "abc" tffr2])
    {dfr3 : Option Addr} {itsfr3 : Array Value} {nfr3 : Nat} {slfr3 : Array (Option Value)} {twfr3 tffr3 : Tok}
    (lfr3 : K.lookup fr3 = some ⟨.type "tuple", dfr3, .seq itsfr3 nfr3, slfr3⟩) (x_fr3 : itsfr3.toList = [.str "sub" twfr3, .str "abc" tffr3])
    {dfr4 : Option Addr} {itsfr4 : Array Value} {nfr4 : Nat} {slfr4 : Array (Option Value)} {twfr4 tffr4 : Tok}
    (lfr4 : K.lookup fr4 = some ⟨.type "tuple", dfr4, .seq itsfr4 nfr4, slfr4⟩) (x_fr4 : itsfr4.toList = [.str "load" twfr4, .str "ab" tffr4])
    {dfr5 : Option Addr} {itsfr5 : Array Value} {nfr5 : Nat} {slfr5 : Array (Option Value)} {twfr5 tffr5 : Tok}
    (lfr5 : K.lookup fr5 = some ⟨.type "tuple", dfr5, .seq itsfr5 nfr5, slfr5⟩) (x_fr5 : itsfr5.toList = [.str "store" twfr5, .str "ab" tffr5])
    {dfr6 : Option Addr} {itsfr6 : Array Value} {nfr6 : Nat} {slfr6 : Array (Option Value)} {twfr6 tffr6 : Tok}
    (lfr6 : K.lookup fr6 = some ⟨.type "tuple", dfr6, .seq itsfr6 nfr6, slfr6⟩) (x_fr6 : itsfr6.toList = [.str "loadw" twfr6, .str "ab" tffr6])
    {dfr7 : Option Addr} {itsfr7 : Array Value} {nfr7 : Nat} {slfr7 : Array (Option Value)} {twfr7 tffr7 : Tok}
    (lfr7 : K.lookup fr7 = some ⟨.type "tuple", dfr7, .seq itsfr7 nfr7, slfr7⟩) (x_fr7 : itsfr7.toList = [.str "storew" twfr7, .str "ab" tffr7])
    {dfr8 : Option Addr} {itsfr8 : Array Value} {nfr8 : Nat} {slfr8 : Array (Option Value)} {twfr8 tffr8 : Tok}
    (lfr8 : K.lookup fr8 = some ⟨.type "tuple", dfr8, .seq itsfr8 nfr8, slfr8⟩) (x_fr8 : itsfr8.toList = [.str "move" twfr8, .str "abc" tffr8])
    {dfr9 : Option Addr} {itsfr9 : Array Value} {nfr9 : Nat} {slfr9 : Array (Option Value)} {twfr9 tffr9 : Tok}
    (lfr9 : K.lookup fr9 = some ⟨.type "tuple", dfr9, .seq itsfr9 nfr9, slfr9⟩) (x_fr9 : itsfr9.toList = [.str "jump" twfr9, .str "an" tffr9])
    {dfr10 : Option Addr} {itsfr10 : Array Value} {nfr10 : Nat} {slfr10 : Array (Option Value)} {twfr10 tffr10 : Tok}
    (lfr10 : K.lookup fr10 = some ⟨.type "tuple", dfr10, .seq itsfr10 nfr10, slfr10⟩) (x_fr10 : itsfr10.toList = [.str "fork" twfr10, .str "a" tffr10])
    (hgs : PySem.W.specialIn K (.builtin "object.__class__") "__get__" = some (some (.builtin "getset_descriptor.__get__"))) (htk : PySem.W.takesIn K (.builtin "object.__class__") = some true)
    {BC fBC ccBC cBC NBC : Addr} {ocBC cclBC clBC kVBC docBC pmBC ctvBC : Value} {odBC anBC cddBC cldBC ddBC : Option Addr} {oslBC ccsBC cslBC : Array (Option Value)} {vsBC : Array Value} {fileBC : Str} {tfBC : Tok}
    {nmBC qBC : Str} {bsBC bmBC : List Value} {snBC : List Str} {subBC : List Value} {abBC : Bool} {colBC : Option Bool} {k0BC k1BC k2BC k3BC k5BC : Option Value}
    (aBC : PySem.W.nsIn K mainGlobals "BadCode" = some (some (.ref BC)))
    (iCBC : PySem.W.findIn K (.ref BC) "__init__" = some (some (.ref fBC))) (tIBC : PySem.W.typeIn K (.ref fBC) = some (.type "function"))
    (lFBC : K.lookup fBC = some ⟨ocBC, odBC, .func (PySem.W.fnX "__init__" "BadCode.__init__" (C8.fnArgs s_BadCode_init) (C8.fnBody s_BadCode_init) (C8.fnScope s_BadCode_init) [("__class__", ccBC)] .none kVBC docBC pmBC anBC (.ref cBC) ctvBC), oslBC⟩)
    (cFBC : PySem.W.codeIn K (.ref cBC) "BadCode.__init__" = true) (lcBC : K.lookup cBC = some ⟨cclBC, cddBC, .fields vsBC, ccsBC⟩) (x_hvBC : vsBC[2]? = some (.str fileBC tfBC)) (x_hfBC : ((l.prog.main.file : Str) == fileBC) = true) (x_tpBC : (l.prog.main.scope.names.lookup ("super" : Str)).isSome = false)
    (lccBC : K.lookup ccBC = some ⟨clBC, cldBC, .cell (some (.ref BC)), cslBC⟩) (zsuperBC : PySem.W.nsIn K mainGlobals "super" = some none)
    (lDBC : K.lookup BC = some (excClassObj nmBC qBC BC NBC bsBC bmBC true snBC subBC abBC colBC ddBC k0BC k1BC k2BC k3BC k5BC "ValueError.__new__")) (x_rbBC : PySem.HandSPX.refsVE bmBC = true)
    (saBC : PySem.W.findIn K (.ref BC) "__setattr__" = some (some (.builtin "object.__setattr__"))) (exBC : PySem.W.subIn K (.ref BC) (.type "BaseException") = some true) (tyBC : PySem.W.typeIn K (.ref BC) = some (.type "type")) (kCBC : PySem.W.keepIn K (.ref BC) = true)
    (mrBC : PySem.W.mroIn K BC (.ref BC) = some true) (x_iniBC : PySem.W.ks_superIn K BC BC "__init__" = some (some (.builtin "ValueError.__init__"))) (veBC : PySem.W.subIn K (.ref BC) (.type "ValueError") = some true) (anyBC : PySem.W.nsIn K cStatics "thirdparty.any" = some none)
    (nBC_position : PySem.W.findIn K (.ref BC) "position" = some none)
    (hgaBC : PySem.W.findIn K (.ref BC) "__getattribute__" = some (some (.builtin "BaseException.__getattribute__")))
    (hgtBC : PySem.W.findIn K (.ref BC) "__getattr__" = some none)
    (hclBC : PySem.W.findIn K (.ref BC) "__class__" = some (some (.builtin "object.__class__")))
    (hhdBC : PySem.W.hasDictIn K BC = true) (hobBC : PySem.W.mroIn K BC (.type "object") = some true)
    {CE BL AE LE ME FE PgE : Addr}
    (aCE : PySem.W.nsIn K mainGlobals "CodeError" = some (some (.ref CE)))
    (aBL : PySem.W.nsIn K mainGlobals "BadLine" = some (some (.ref BL)))
    (aAE : PySem.W.nsIn K mainGlobals "AccessError" = some (some (.ref AE)))
    (aLE : PySem.W.nsIn K mainGlobals "LimitError" = some (some (.ref LE)))
    (aME : PySem.W.nsIn K mainGlobals "MissingError" = some (some (.ref ME)))
    (aFE : PySem.W.nsIn K mainGlobals "FileError" = some (some (.ref FE)))
    (aPgE : PySem.W.nsIn K mainGlobals "PagesError" = some (some (.ref PgE)))
    (zValueError : PySem.W.nsIn K mainGlobals "ValueError" = some none)
    (x_eBB : PySem.W.exmOne K (.ref BC) (.ref BC) = some true)
    (x_eBC : PySem.W.exmOne K (.ref BC) (.ref CE) = some true)
    (x_iB1 : PySem.W.kitAny K (.ref BC) [.ref BL, .ref AE] = some false)
    (x_iB2 : PySem.W.kitAny K (.ref BC) [.ref LE, .ref ME, .ref FE] = some false)
    (x_iBB : PySem.W.kitOne K (.ref BC) (.ref BC) = some true)
    (x_iBP : PySem.W.kitOne K (.ref BC) (.ref PgE) = some true)
    (x_iBV : PySem.W.kitOne K (.ref BC) (.type "ValueError") = some true)
    {od_names_registers an_names_registers : Option Addr} {sl_names_registers : Array (Option Value)} {f_names_registers : Addr} {oc_names_registers kV_names_registers dc_names_registers pm_names_registers cd_names_registers ct_names_registers : Value}
    (a_names_registers : PySem.W.nsIn K mainGlobals "names_registers" = some (some (.ref f_names_registers)))
    (l_names_registers : K.lookup f_names_registers = some ⟨oc_names_registers, od_names_registers, .func (PySem.W.fnOf "names_registers" "names_registers" (C8.fnArgs s_names_registers) (C8.fnBody s_names_registers) (C8.fnScope s_names_registers) .none kV_names_registers dc_names_registers pm_names_registers an_names_registers cd_names_registers ct_names_registers), sl_names_registers⟩)
    (c_names_registers : PySem.W.codeIn K cd_names_registers "names_registers" = true) (k_names_registers : PySem.W.keepIn K (.ref f_names_registers) = true)
    {od_disassemble an_disassemble : Option Addr} {sl_disassemble : Array (Option Value)} {f_disassemble : Addr} {oc_disassemble kV_disassemble dc_disassemble pm_disassemble cd_disassemble ct_disassemble : Value}
    (a_disassemble : PySem.W.nsIn K mainGlobals "disassemble" = some (some (.ref f_disassemble)))
    (l_disassemble : K.lookup f_disassemble = some ⟨oc_disassemble, od_disassemble, .func (PySem.W.fnOf "disassemble" "disassemble" (C8.fnArgs s_disassemble) (C8.fnBody s_disassemble) (C8.fnScope s_disassemble) .none kV_disassemble dc_disassemble pm_disassemble an_disassemble cd_disassemble ct_disassemble), sl_disassemble⟩)
    (c_disassemble : PySem.W.codeIn K cd_disassemble "disassemble" = true) (k_disassemble : PySem.W.keepIn K (.ref f_disassemble) = true)
    {od_fields an_fields : Option Addr} {sl_fields : Array (Option Value)} {f_fields : Addr} {oc_fields kV_fields dc_fields pm_fields cd_fields ct_fields : Value}
    (a_fields : PySem.W.nsIn K mainGlobals "_fields" = some (some (.ref f_fields)))
    (l_fields : K.lookup f_fields = some ⟨oc_fields, od_fields, .func (PySem.W.fnOf "_fields" "_fields" (C8.fnArgs s_fields) (C8.fnBody s_fields) (C8.fnScope s_fields) .none kV_fields dc_fields pm_fields an_fields cd_fields ct_fields), sl_fields⟩)
    (c_fields : PySem.W.codeIn K cd_fields "_fields" = true) (k_fields : PySem.W.keepIn K (.ref f_fields) = true)
    {od_line_of an_line_of : Option Addr} {sl_line_of : Array (Option Value)} {f_line_of : Addr} {oc_line_of kV_line_of dc_line_of pm_line_of cd_line_of ct_line_of : Value}
    (a_line_of : PySem.W.nsIn K mainGlobals "_line_of" = some (some (.ref f_line_of)))
    (l_line_of : K.lookup f_line_of = some ⟨oc_line_of, od_line_of, .func (PySem.W.fnOf "_line_of" "_line_of" (C8.fnArgs s_line_of) (C8.fnBody s_line_of) (C8.fnScope s_line_of) .none kV_line_of dc_line_of pm_line_of an_line_of cd_line_of ct_line_of), sl_line_of⟩)
    (c_line_of : PySem.W.codeIn K cd_line_of "_line_of" = true) (k_line_of : PySem.W.keepIn K (.ref f_line_of) = true)
    {od_number an_number : Option Addr} {sl_number : Array (Option Value)} {f_number : Addr} {oc_number kV_number dc_number pm_number cd_number ct_number : Value}
    (a_number : PySem.W.nsIn K mainGlobals "_law_number" = some (some (.ref f_number)))
    (l_number : K.lookup f_number = some ⟨oc_number, od_number, .func (PySem.W.fnOf "_law_number" "_law_number" (C8.fnArgs s_number) (C8.fnBody s_number) (C8.fnScope s_number) .none kV_number dc_number pm_number an_number cd_number ct_number), sl_number⟩)
    (c_number : PySem.W.codeIn K cd_number "_law_number" = true) (k_number : PySem.W.keepIn K (.ref f_number) = true)
    {od_is_whole an_is_whole : Option Addr} {sl_is_whole : Array (Option Value)} {f_is_whole : Addr} {oc_is_whole kV_is_whole dc_is_whole pm_is_whole cd_is_whole ct_is_whole : Value}
    (a_is_whole : PySem.W.nsIn K mainGlobals "_law_is_whole" = some (some (.ref f_is_whole)))
    (l_is_whole : K.lookup f_is_whole = some ⟨oc_is_whole, od_is_whole, .func (PySem.W.fnOf "_law_is_whole" "_law_is_whole" (C8.fnArgs s_is_whole) (C8.fnBody s_is_whole) (C8.fnScope s_is_whole) .none kV_is_whole dc_is_whole pm_is_whole an_is_whole cd_is_whole ct_is_whole), sl_is_whole⟩)
    (c_is_whole : PySem.W.codeIn K cd_is_whole "_law_is_whole" = true) (k_is_whole : PySem.W.keepIn K (.ref f_is_whole) = true)
    {od_same an_same : Option Addr} {sl_same : Array (Option Value)} {f_same : Addr} {oc_same kV_same dc_same pm_same cd_same ct_same : Value}
    (a_same : PySem.W.nsIn K mainGlobals "_law_same" = some (some (.ref f_same)))
    (l_same : K.lookup f_same = some ⟨oc_same, od_same, .func (PySem.W.fnOf "_law_same" "_law_same" (C8.fnArgs s_same) (C8.fnBody s_same) (C8.fnScope s_same) .none kV_same dc_same pm_same an_same cd_same ct_same), sl_same⟩)
    (c_same : PySem.W.codeIn K cd_same "_law_same" = true) (k_same : PySem.W.keepIn K (.ref f_same) = true)
    {od_words an_words : Option Addr} {sl_words : Array (Option Value)} {f_words : Addr} {oc_words kV_words dc_words pm_words cd_words ct_words : Value}
    (a_words : PySem.W.nsIn K mainGlobals "_law_words" = some (some (.ref f_words)))
    (l_words : K.lookup f_words = some ⟨oc_words, od_words, .func (PySem.W.fnOf "_law_words" "_law_words" (C8.fnArgs s_words) (C8.fnBody s_words) (C8.fnScope s_words) .none kV_words dc_words pm_words an_words cd_words ct_words), sl_words⟩)
    (c_words : PySem.W.codeIn K cd_words "_law_words" = true) (k_words : PySem.W.keepIn K (.ref f_words) = true)
    {od_operands an_operands : Option Addr} {sl_operands : Array (Option Value)} {f_operands : Addr} {oc_operands kV_operands dc_operands pm_operands cd_operands ct_operands : Value}
    (a_operands : PySem.W.nsIn K mainGlobals "_law_operands" = some (some (.ref f_operands)))
    (l_operands : K.lookup f_operands = some ⟨oc_operands, od_operands, .func (PySem.W.fnOf "_law_operands" "_law_operands" (C8.fnArgs s_operands) (C8.fnBody s_operands) (C8.fnScope s_operands) .none kV_operands dc_operands pm_operands an_operands cd_operands ct_operands), sl_operands⟩)
    (c_operands : PySem.W.codeIn K cd_operands "_law_operands" = true) (k_operands : PySem.W.keepIn K (.ref f_operands) = true)
    {od_Lline_of an_Lline_of : Option Addr} {sl_Lline_of : Array (Option Value)} {f_Lline_of : Addr} {oc_Lline_of kV_Lline_of dc_Lline_of pm_Lline_of cd_Lline_of ct_Lline_of : Value}
    (a_Lline_of : PySem.W.nsIn K mainGlobals "_law_line_of" = some (some (.ref f_Lline_of)))
    (l_Lline_of : K.lookup f_Lline_of = some ⟨oc_Lline_of, od_Lline_of, .func (PySem.W.fnOf "_law_line_of" "_law_line_of" (C8.fnArgs s_Lline_of) (C8.fnBody s_Lline_of) (C8.fnScope s_Lline_of) .none kV_Lline_of dc_Lline_of pm_Lline_of an_Lline_of cd_Lline_of ct_Lline_of), sl_Lline_of⟩)
    (c_Lline_of : PySem.W.codeIn K cd_Lline_of "_law_line_of" = true) (k_Lline_of : PySem.W.keepIn K (.ref f_Lline_of) = true)
    {od_lines_due an_lines_due : Option Addr} {sl_lines_due : Array (Option Value)} {f_lines_due : Addr} {oc_lines_due kV_lines_due dc_lines_due pm_lines_due cd_lines_due ct_lines_due : Value}
    (a_lines_due : PySem.W.nsIn K mainGlobals "_law_lines_due" = some (some (.ref f_lines_due)))
    (l_lines_due : K.lookup f_lines_due = some ⟨oc_lines_due, od_lines_due, .func (PySem.W.fnOf "_law_lines_due" "_law_lines_due" (C8.fnArgs s_lines_due) (C8.fnBody s_lines_due) (C8.fnScope s_lines_due) .none kV_lines_due dc_lines_due pm_lines_due an_lines_due cd_lines_due ct_lines_due), sl_lines_due⟩)
    (c_lines_due : PySem.W.codeIn K cd_lines_due "_law_lines_due" = true) (k_lines_due : PySem.W.keepIn K (.ref f_lines_due) = true)
    {od_line_four an_line_four : Option Addr} {sl_line_four : Array (Option Value)} {f_line_four : Addr} {oc_line_four kV_line_four dc_line_four pm_line_four cd_line_four ct_line_four : Value}
    (a_line_four : PySem.W.nsIn K mainGlobals "_law_line_four" = some (some (.ref f_line_four)))
    (l_line_four : K.lookup f_line_four = some ⟨oc_line_four, od_line_four, .func (PySem.W.fnOf "_law_line_four" "_law_line_four" (C8.fnArgs s_line_four) (C8.fnBody s_line_four) (C8.fnScope s_line_four) .none kV_line_four dc_line_four pm_line_four an_line_four cd_line_four ct_line_four), sl_line_four⟩)
    (c_line_four : PySem.W.codeIn K cd_line_four "_law_line_four" = true) (k_line_four : PySem.W.keepIn K (.ref f_line_four) = true)
    {od_any_byte an_any_byte : Option Addr} {sl_any_byte : Array (Option Value)} {f_any_byte : Addr} {oc_any_byte kV_any_byte dc_any_byte pm_any_byte cd_any_byte ct_any_byte : Value}
    (a_any_byte : PySem.W.nsIn K mainGlobals "_law_any_byte" = some (some (.ref f_any_byte)))
    (l_any_byte : K.lookup f_any_byte = some ⟨oc_any_byte, od_any_byte, .func (PySem.W.fnOf "_law_any_byte" "_law_any_byte" (C8.fnArgs s_any_byte) (C8.fnBody s_any_byte) (C8.fnScope s_any_byte) .none kV_any_byte dc_any_byte pm_any_byte an_any_byte cd_any_byte ct_any_byte), sl_any_byte⟩)
    (c_any_byte : PySem.W.codeIn K cd_any_byte "_law_any_byte" = true) (k_any_byte : PySem.W.keepIn K (.ref f_any_byte) = true)
    {od_data_changed an_data_changed : Option Addr} {sl_data_changed : Array (Option Value)} {f_data_changed : Addr} {oc_data_changed kV_data_changed dc_data_changed pm_data_changed cd_data_changed ct_data_changed : Value}
    (a_data_changed : PySem.W.nsIn K mainGlobals "_law_data_changed" = some (some (.ref f_data_changed)))
    (l_data_changed : K.lookup f_data_changed = some ⟨oc_data_changed, od_data_changed, .func (PySem.W.fnOf "_law_data_changed" "_law_data_changed" (C8.fnArgs s_data_changed) (C8.fnBody s_data_changed) (C8.fnScope s_data_changed) .none kV_data_changed dc_data_changed pm_data_changed an_data_changed cd_data_changed ct_data_changed), sl_data_changed⟩)
    (c_data_changed : PySem.W.codeIn K cd_data_changed "_law_data_changed" = true) (k_data_changed : PySem.W.keepIn K (.ref f_data_changed) = true)
    {od_lines_told an_lines_told : Option Addr} {sl_lines_told : Array (Option Value)} {f_lines_told : Addr} {oc_lines_told kV_lines_told dc_lines_told pm_lines_told cd_lines_told ct_lines_told : Value}
    (a_lines_told : PySem.W.nsIn K mainGlobals "_law_lines_told" = some (some (.ref f_lines_told)))
    (l_lines_told : K.lookup f_lines_told = some ⟨oc_lines_told, od_lines_told, .func (PySem.W.fnOf "_law_lines_told" "_law_lines_told" (C8.fnArgs s_lines_told) (C8.fnBody s_lines_told) (C8.fnScope s_lines_told) .none kV_lines_told dc_lines_told pm_lines_told an_lines_told cd_lines_told ct_lines_told), sl_lines_told⟩)
    (c_lines_told : PySem.W.codeIn K cd_lines_told "_law_lines_told" = true) (k_lines_told : PySem.W.keepIn K (.ref f_lines_told) = true)
    {od_lines_hold an_lines_hold : Option Addr} {sl_lines_hold : Array (Option Value)} {f_lines_hold : Addr} {oc_lines_hold kV_lines_hold dc_lines_hold pm_lines_hold cd_lines_hold ct_lines_hold : Value}
    (a_lines_hold : PySem.W.nsIn K mainGlobals "_law_lines_hold" = some (some (.ref f_lines_hold)))
    (l_lines_hold : K.lookup f_lines_hold = some ⟨oc_lines_hold, od_lines_hold, .func (PySem.W.fnOf "_law_lines_hold" "_law_lines_hold" (C8.fnArgs s_lines_hold) (C8.fnBody s_lines_hold) (C8.fnScope s_lines_hold) .none kV_lines_hold dc_lines_hold pm_lines_hold an_lines_hold cd_lines_hold ct_lines_hold), sl_lines_hold⟩)
    (c_lines_hold : PySem.W.codeIn K cd_lines_hold "_law_lines_hold" = true) (k_lines_hold : PySem.W.keepIn K (.ref f_lines_hold) = true)
    {od_code_family an_code_family : Option Addr} {sl_code_family : Array (Option Value)} {f_code_family : Addr} {oc_code_family kV_code_family dc_code_family pm_code_family cd_code_family ct_code_family : Value}
    (a_code_family : PySem.W.nsIn K mainGlobals "_law_code_family" = some (some (.ref f_code_family)))
    (l_code_family : K.lookup f_code_family = some ⟨oc_code_family, od_code_family, .func (PySem.W.fnOf "_law_code_family" "_law_code_family" (C8.fnArgs s_code_family) (C8.fnBody s_code_family) (C8.fnScope s_code_family) .none kV_code_family dc_code_family pm_code_family an_code_family cd_code_family ct_code_family), sl_code_family⟩)
    (c_code_family : PySem.W.codeIn K cd_code_family "_law_code_family" = true) (k_code_family : PySem.W.keepIn K (.ref f_code_family) = true)
    {od_law an_law : Option Addr} {sl_law : Array (Option Value)} {f_law : Addr} {oc_law kV_law dc_law pm_law cd_law ct_law : Value}
    (a_law : PySem.W.nsIn K mainGlobals "law" = some (some (.ref f_law)))
    (l_law : K.lookup f_law = some ⟨oc_law, od_law, .func (PySem.W.fnOf "law" "law" (C8.fnArgs s_law) (C8.fnBody s_law) (C8.fnScope s_law) .none kV_law dc_law pm_law an_law cd_law ct_law), sl_law⟩)
    (c_law : PySem.W.codeIn K cd_law "law" = true) (k_law : PySem.W.keepIn K (.ref f_law) = true)
    (z_len : PySem.W.nsIn K mainGlobals "len" = some none)
    (z_abs : PySem.W.nsIn K mainGlobals "abs" = some none)
    (z_int : PySem.W.nsIn K mainGlobals "int" = some none)
    (z_range : PySem.W.nsIn K mainGlobals "range" = some none)
    (z_isinstance : PySem.W.nsIn K mainGlobals "isinstance" = some none)
    (z_bool : PySem.W.nsIn K mainGlobals "bool" = some none)
    (z_str : PySem.W.nsIn K mainGlobals "str" = some none)
    (z_list : PySem.W.nsIn K mainGlobals "list" = some none)
    (z_tuple : PySem.W.nsIn K mainGlobals "tuple" = some none)
    (z_all : PySem.W.nsIn K mainGlobals "all" = some none)
    (z_zip : PySem.W.nsIn K mainGlobals "zip" = some none)
    (z_max : PySem.W.nsIn K mainGlobals "max" = some none) :
    ∃ fd : FuncData, (∀ (s : Shared) (v : Value), BindsTo s fd ⟨[v], []⟩ [("_law_script", v)]) ∧ ∀ base : Heap, K.In base → base.Ns mainGlobals mg → FnOk l.prog w K mg base C8.CX0 7 fa fd ["_law_script"] (spLaw K) := by
  have e := hfa.symm.trans (PySem.W.mg_of X G a_law)
  cases e
  have T : Txt mg := ⟨PySem.W.mg_none_of X G z_len, PySem.W.mg_none_of X G z_abs, PySem.W.mg_none_of X G z_int, PySem.W.mg_none_of X G z_range, PySem.W.mg_none_of X G z_isinstance, PySem.W.mg_none_of X G z_bool, PySem.W.mg_none_of X G z_str, PySem.W.mg_none_of X G z_list, PySem.W.mg_none_of X G z_tuple⟩
  have TW : TxtW K mg FM := ⟨T, PySem.W.mg_none_of X G z_all, PySem.W.mg_none_of X G z_zip, ⟨tkR, PySem.W.mg_of X G aREG⟩, ⟨tkL, PySem.W.mg_of X G aLEN⟩, PySem.W.mg_of X G aFM, [fr0, fr1, fr2, fr3, fr4, fr5, fr6, fr7, fr8, fr9, fr10], rfl, fun H => top_tab lFM (rs := [fr0, fr1, fr2, fr3, fr4, fr5, fr6, fr7, fr8, fr9, fr10]) x_FM (by show 11 ≤ 1000; decide), fun i r e => by
    match i, e with
    | 0, e => obtain rfl := Option.some.inj e; exact row_tab lfr0 x_fr0
    | 1, e => obtain rfl := Option.some.inj e; exact row_tab lfr1 x_fr1
    | 2, e => obtain rfl := Option.some.inj e; exact row_tab lfr2 x_fr2
    | 3, e => obtain rfl := Option.some.inj e; exact row_tab lfr3 x_fr3
    | 4, e => obtain rfl := Option.some.inj e; exact row_tab lfr4 x_fr4
    | 5, e => obtain rfl := Option.some.inj e; exact row_tab lfr5 x_fr5
    | 6, e => obtain rfl := Option.some.inj e; exact row_tab lfr6 x_fr6
    | 7, e => obtain rfl := Option.some.inj e; exact row_tab lfr7 x_fr7
    | 8, e => obtain rfl := Option.some.inj e; exact row_tab lfr8 x_fr8
    | 9, e => obtain rfl := Option.some.inj e; exact row_tab lfr9 x_fr9
    | 10, e => obtain rfl := Option.some.inj e; exact row_tab lfr10 x_fr10
    | i + 11, e => cases e⟩
  obtain ⟨U_BC, O_BC⟩ := own_mk (P := l.prog) X G iCBC tIBC lFBC cFBC lcBC x_hvBC x_hfBC x_tpBC lccBC zsuperBC rfl rfl rfl lDBC x_rbBC saBC exBC tyBC kCBC mrBC x_iniBC veBC anyBC
  have b_BC : Binds K (PySem.W.fnX "__init__" "BadCode.__init__" (C8.fnArgs s_BadCode_init) (C8.fnBody s_BadCode_init) (C8.fnScope s_BadCode_init) [("__class__", ccBC)] .none kVBC docBC pmBC anBC (.ref cBC) ctvBC) ["self", "position"] [] := .all fun us hl => match us, hl with | [_, _], _ => rfl
  have xc_BC : ExcC K BC := ⟨hgaBC, hgtBC, exBC, hhdBC, hclBC, hgs, htk, hobBC⟩
  have xf_BC : XfC K BC := ⟨hgaBC, hgtBC, exBC, hhdBC⟩
  have TE : ETc K mg BC CE BL AE LE ME FE PgE := ⟨PySem.W.mg_of X G aBC, PySem.W.mg_of X G aCE, PySem.W.mg_of X G aBL, PySem.W.mg_of X G aAE, PySem.W.mg_of X G aLE, PySem.W.mg_of X G aME, PySem.W.mg_of X G aFE, PySem.W.mg_of X G aPgE, PySem.W.mg_none_of X G zValueError, PySem.W.mg_none_of X G z_isinstance, xc_BC, xf_BC, nBC_position, x_eBB, x_eBC, x_iB1, x_iB2, x_iBB, x_iBP, x_iBV⟩
  have D_names_registers : Def K mg "names_registers" s_names_registers f_names_registers _ := ⟨⟨oc_names_registers, od_names_registers, .none, kV_names_registers, dc_names_registers, pm_names_registers, an_names_registers, cd_names_registers, ct_names_registers, sl_names_registers, rfl, l_names_registers, c_names_registers⟩, PySem.W.mg_of X G a_names_registers, k_names_registers⟩
  have b_names_registers := D_names_registers.fn.binds (ps := ["form", "fields"]) rfl fun _ _ _ _ _ _ us hl => match us, hl with | [_, _], _ => rfl
  have D_disassemble : Def K mg "disassemble" s_disassemble f_disassemble _ := ⟨⟨oc_disassemble, od_disassemble, .none, kV_disassemble, dc_disassemble, pm_disassemble, an_disassemble, cd_disassemble, ct_disassemble, sl_disassemble, rfl, l_disassemble, c_disassemble⟩, PySem.W.mg_of X G a_disassemble, k_disassemble⟩
  have b_disassemble := D_disassemble.fn.binds (ps := ["data"]) rfl fun _ _ _ _ _ _ us hl => match us, hl with | [_], _ => rfl
  have D_fields : Def K mg "_fields" s_fields f_fields _ := ⟨⟨oc_fields, od_fields, .none, kV_fields, dc_fields, pm_fields, an_fields, cd_fields, ct_fields, sl_fields, rfl, l_fields, c_fields⟩, PySem.W.mg_of X G a_fields, k_fields⟩
  have b_fields := D_fields.fn.binds (ps := ["form", "operands"]) rfl fun _ _ _ _ _ _ us hl => match us, hl with | [_, _], _ => rfl
  have D_line_of : Def K mg "_line_of" s_line_of f_line_of _ := ⟨⟨oc_line_of, od_line_of, .none, kV_line_of, dc_line_of, pm_line_of, an_line_of, cd_line_of, ct_line_of, sl_line_of, rfl, l_line_of, c_line_of⟩, PySem.W.mg_of X G a_line_of, k_line_of⟩
  have b_line_of := D_line_of.fn.binds (ps := ["code"]) rfl fun _ _ _ _ _ _ us hl => match us, hl with | [_], _ => rfl
  have D_number : Def K mg "_law_number" s_number f_number _ := ⟨⟨oc_number, od_number, .none, kV_number, dc_number, pm_number, an_number, cd_number, ct_number, sl_number, rfl, l_number, c_number⟩, PySem.W.mg_of X G a_number, k_number⟩
  have b_number := D_number.fn.binds (ps := ["_law_script", "_law_at", "_law_k", "_law_size"]) rfl fun _ _ _ _ _ _ us hl => match us, hl with | [_, _, _, _], _ => rfl
  have D_is_whole : Def K mg "_law_is_whole" s_is_whole f_is_whole _ := ⟨⟨oc_is_whole, od_is_whole, .none, kV_is_whole, dc_is_whole, pm_is_whole, an_is_whole, cd_is_whole, ct_is_whole, sl_is_whole, rfl, l_is_whole, c_is_whole⟩, PySem.W.mg_of X G a_is_whole, k_is_whole⟩
  have b_is_whole := D_is_whole.fn.binds (ps := ["_law_told"]) rfl fun _ _ _ _ _ _ us hl => match us, hl with | [_], _ => rfl
  have D_same : Def K mg "_law_same" s_same f_same _ := ⟨⟨oc_same, od_same, .none, kV_same, dc_same, pm_same, an_same, cd_same, ct_same, sl_same, rfl, l_same, c_same⟩, PySem.W.mg_of X G a_same, k_same⟩
  have b_same := D_same.fn.binds (ps := ["_law_told", "_law_due"]) rfl fun _ _ _ _ _ _ us hl => match us, hl with | [_, _], _ => rfl
  have D_words : Def K mg "_law_words" s_words f_words _ := ⟨⟨oc_words, od_words, .none, kV_words, dc_words, pm_words, an_words, cd_words, ct_words, sl_words, rfl, l_words, c_words⟩, PySem.W.mg_of X G a_words, k_words⟩
  have b_words := D_words.fn.binds (ps := []) rfl fun _ _ _ _ _ _ us hl => match us, hl with | [], _ => rfl
  have D_operands : Def K mg "_law_operands" s_operands f_operands _ := ⟨⟨oc_operands, od_operands, .none, kV_operands, dc_operands, pm_operands, an_operands, cd_operands, ct_operands, sl_operands, rfl, l_operands, c_operands⟩, PySem.W.mg_of X G a_operands, k_operands⟩
  have b_operands := D_operands.fn.binds (ps := ["_law_code"]) rfl fun _ _ _ _ _ _ us hl => match us, hl with | [_], _ => rfl
  have D_Lline_of : Def K mg "_law_line_of" s_Lline_of f_Lline_of _ := ⟨⟨oc_Lline_of, od_Lline_of, .none, kV_Lline_of, dc_Lline_of, pm_Lline_of, an_Lline_of, cd_Lline_of, ct_Lline_of, sl_Lline_of, rfl, l_Lline_of, c_Lline_of⟩, PySem.W.mg_of X G a_Lline_of, k_Lline_of⟩
  have b_Lline_of := D_Lline_of.fn.binds (ps := ["_law_four"]) rfl fun _ _ _ _ _ _ us hl => match us, hl with | [_], _ => rfl
  have D_lines_due : Def K mg "_law_lines_due" s_lines_due f_lines_due _ := ⟨⟨oc_lines_due, od_lines_due, .none, kV_lines_due, dc_lines_due, pm_lines_due, an_lines_due, cd_lines_due, ct_lines_due, sl_lines_due, rfl, l_lines_due, c_lines_due⟩, PySem.W.mg_of X G a_lines_due, k_lines_due⟩
  have b_lines_due := D_lines_due.fn.binds (ps := ["_law_data"]) rfl fun _ _ _ _ _ _ us hl => match us, hl with | [_], _ => rfl
  have D_line_four : Def K mg "_law_line_four" s_line_four f_line_four _ := ⟨⟨oc_line_four, od_line_four, .none, kV_line_four, dc_line_four, pm_line_four, an_line_four, cd_line_four, ct_line_four, sl_line_four, rfl, l_line_four, c_line_four⟩, PySem.W.mg_of X G a_line_four, k_line_four⟩
  have b_line_four := D_line_four.fn.binds (ps := ["_law_script", "_law_at"]) rfl fun _ _ _ _ _ _ us hl => match us, hl with | [_, _], _ => rfl
  have D_any_byte : Def K mg "_law_any_byte" s_any_byte f_any_byte _ := ⟨⟨oc_any_byte, od_any_byte, .none, kV_any_byte, dc_any_byte, pm_any_byte, an_any_byte, cd_any_byte, ct_any_byte, sl_any_byte, rfl, l_any_byte, c_any_byte⟩, PySem.W.mg_of X G a_any_byte, k_any_byte⟩
  have b_any_byte := D_any_byte.fn.binds (ps := ["_law_script", "_law_at", "_law_k"]) rfl fun _ _ _ _ _ _ us hl => match us, hl with | [_, _, _], _ => rfl
  have D_data_changed : Def K mg "_law_data_changed" s_data_changed f_data_changed _ := ⟨⟨oc_data_changed, od_data_changed, .none, kV_data_changed, dc_data_changed, pm_data_changed, an_data_changed, cd_data_changed, ct_data_changed, sl_data_changed, rfl, l_data_changed, c_data_changed⟩, PySem.W.mg_of X G a_data_changed, k_data_changed⟩
  have b_data_changed := D_data_changed.fn.binds (ps := ["_law_script", "_law_turn", "_law_data"]) rfl fun _ _ _ _ _ _ us hl => match us, hl with | [_, _, _], _ => rfl
  have D_lines_told : Def K mg "_law_lines_told" s_lines_told f_lines_told _ := ⟨⟨oc_lines_told, od_lines_told, .none, kV_lines_told, dc_lines_told, pm_lines_told, an_lines_told, cd_lines_told, ct_lines_told, sl_lines_told, rfl, l_lines_told, c_lines_told⟩, PySem.W.mg_of X G a_lines_told, k_lines_told⟩
  have b_lines_told := D_lines_told.fn.binds (ps := ["_law_data"]) rfl fun _ _ _ _ _ _ us hl => match us, hl with | [_], _ => rfl
  have D_lines_hold : Def K mg "_law_lines_hold" s_lines_hold f_lines_hold _ := ⟨⟨oc_lines_hold, od_lines_hold, .none, kV_lines_hold, dc_lines_hold, pm_lines_hold, an_lines_hold, cd_lines_hold, ct_lines_hold, sl_lines_hold, rfl, l_lines_hold, c_lines_hold⟩, PySem.W.mg_of X G a_lines_hold, k_lines_hold⟩
  have b_lines_hold := D_lines_hold.fn.binds (ps := ["_law_data"]) rfl fun _ _ _ _ _ _ us hl => match us, hl with | [_], _ => rfl
  have D_code_family : Def K mg "_law_code_family" s_code_family f_code_family _ := ⟨⟨oc_code_family, od_code_family, .none, kV_code_family, dc_code_family, pm_code_family, an_code_family, cd_code_family, ct_code_family, sl_code_family, rfl, l_code_family, c_code_family⟩, PySem.W.mg_of X G a_code_family, k_code_family⟩
  have b_code_family := D_code_family.fn.binds (ps := ["_law_data"]) rfl fun _ _ _ _ _ _ us hl => match us, hl with | [_], _ => rfl
  have D_law : Def K mg "law" s_law fa _ := ⟨⟨oc_law, od_law, .none, kV_law, dc_law, pm_law, an_law, cd_law, ct_law, sl_law, rfl, l_law, c_law⟩, PySem.W.mg_of X G a_law, k_law⟩
  refine ⟨PySem.W.fnOf "law" "law" (C8.fnArgs s_law) (C8.fnBody s_law) (C8.fnScope s_law) .none kV_law dc_law pm_law an_law cd_law ct_law, fun s v => .of_eq rfl, fun base _ _ => ?_⟩
  have F_BC := ok_BadCode (w := w) (base := base) (F := NF.of s_BadCode_init "__init__" "BadCode.__init__" [("__class__", ccBC)] cBC) U_BC nBC_position
  have c_number := ok_number (P := l.prog) (w := w) (base := base) D_number b_number T
  have c_whole := ok_whole (P := l.prog) (w := w) (base := base) D_is_whole b_is_whole T
  have c_same := ok_same D_same b_same T c_whole 3
  have c_names := ok_names (P := l.prog) (w := w) (base := base) D_names_registers b_names_registers TW
  have c_flds := ok_flds (P := l.prog) (w := w) (base := base) D_fields b_fields TW
  have c_line := ok_line D_line_of b_line_of TW c_names c_flds
  have e_dis := ok_dis F_BC O_BC iCBC tIBC b_BC (PySem.W.mg_of X G aBC) D_disassemble b_disassemble TW c_line
  have c_words := ok_lwords (P := l.prog) (w := w) (base := base) D_words b_words T
  have c_oper := ok_loper (P := l.prog) (w := w) (base := base) D_operands b_operands T
  have c_lline := ok_lline D_Lline_of b_Lline_of T c_words c_oper
  have c_due := ok_ldue D_lines_due b_lines_due T c_lline
  have c_any := ok_lany D_any_byte b_any_byte T c_number
  have c_four := ok_lfour D_line_four b_line_four T c_number c_oper
  have c_chg := ok_lchg D_data_changed b_data_changed T (PySem.W.mg_none_of X G z_max) c_number
  have c_told := ok_told D_lines_told b_lines_told T TE e_dis c_same
  have c_hold := ok_hold D_lines_hold b_lines_hold T c_due c_told c_same
  have c_fam := ok_fam D_code_family b_code_family T TE e_dis
  exact ok_law D_law T c_number c_four c_any c_chg c_hold c_due c_fam

end

end Lw
open PySem PySem.W PyProof.Rows
set_option maxRecDepth 100000 in
set_option maxHeartbeats 0 in
theorem PySem.Challenge.cw_lentpages_k47_disassemble_holds : PySem.Challenge.rw_lentpages_k47_disassemble.Holds := by
  w_on; o_law; k_head; (case hw => w_witness2)
  k_fill
  refine L2.walk_of (l := PySem.Challenge.rw_lentpages_k47_disassemble) (n := 63) (k := 7) (x := "_law_script") (CX := fun _ => C8.CX0) (sp := fun w => Lw.spLaw _) rfl (by decide) rfl ⟨rfl, by decide, by decide⟩ (fun w h Y => by first | exact PySem.W.kIn_of Y | exact PySem.W.km_in_of Y) ?F (fun _ _ a ns hl _ hS => ⟨a, ns, rfl, hS, hl, fun _ => rfl⟩) (fun _ _ _ _ _ h => h)
  case F =>
    intro w mg fa h KX G hmg
    refine' Lw.all_mk KX G hmg ?aREG ?aLEN ?aFM ?lFM ?x_FM ?lfr0 ?x_fr0 ?lfr1 ?x_fr1 ?lfr2 ?x_fr2 ?lfr3 ?x_fr3 ?lfr4 ?x_fr4 ?lfr5 ?x_fr5 ?lfr6 ?x_fr6 ?lfr7 ?x_fr7 ?lfr8 ?x_fr8 ?lfr9 ?x_fr9 ?lfr10 ?x_fr10 ?hgs ?htk ?aBC ?iCBC ?tIBC ?lFBC ?cFBC ?lcBC ?x_hvBC ?x_hfBC ?x_tpBC ?lccBC ?zsuperBC ?lDBC ?x_rbBC ?saBC ?exBC ?tyBC ?kCBC ?mrBC ?x_iniBC ?veBC ?anyBC ?nBC_position ?hgaBC ?hgtBC ?hclBC ?hhdBC ?hobBC ?aCE ?aBL ?aAE ?aLE ?aME ?aFE ?aPgE ?zValueError ?x_eBB ?x_eBC ?x_iB1 ?x_iB2 ?x_iBB ?x_iBP ?x_iBV ?a_names_registers ?l_names_registers ?c_names_registers ?k_names_registers ?a_disassemble ?l_disassemble ?c_disassemble ?k_disassemble ?a_fields ?l_fields ?c_fields ?k_fields ?a_line_of ?l_line_of ?c_line_of ?k_line_of ?a_number ?l_number ?c_number ?k_number ?a_is_whole ?l_is_whole ?c_is_whole ?k_is_whole ?a_same ?l_same ?c_same ?k_same ?a_words ?l_words ?c_words ?k_words ?a_operands ?l_operands ?c_operands ?k_operands ?a_Lline_of ?l_Lline_of ?c_Lline_of ?k_Lline_of ?a_lines_due ?l_lines_due ?c_lines_due ?k_lines_due ?a_line_four ?l_line_four ?c_line_four ?k_line_four ?a_any_byte ?l_any_byte ?c_any_byte ?k_any_byte ?a_data_changed ?l_data_changed ?c_data_changed ?k_data_changed ?a_lines_told ?l_lines_told ?c_lines_told ?k_lines_told ?a_lines_hold ?l_lines_hold ?c_lines_hold ?k_lines_hold ?a_code_family ?l_code_family ?c_code_family ?k_code_family ?a_law ?l_law ?c_law ?k_law ?z_len ?z_abs ?z_int ?z_range ?z_isinstance ?z_bool ?z_str ?z_list ?z_tuple ?z_all ?z_zip ?z_max
    (case aREG => k_is)
    (case aLEN => k_is)
    (case aFM => k_is)
    (case lFM => k_is)
    (case x_FM => first | k_is | rfl | decide +kernel)
    (case lfr0 => k_is)
    (case x_fr0 => first | k_is | rfl | decide +kernel)
    (case lfr1 => k_is)
    (case x_fr1 => first | k_is | rfl | decide +kernel)
    (case lfr2 => k_is)
    (case x_fr2 => first | k_is | rfl | decide +kernel)
    (case lfr3 => k_is)
    (case x_fr3 => first | k_is | rfl | decide +kernel)
    (case lfr4 => k_is)
    (case x_fr4 => first | k_is | rfl | decide +kernel)
    (case lfr5 => k_is)
    (case x_fr5 => first | k_is | rfl | decide +kernel)
    (case lfr6 => k_is)
    (case x_fr6 => first | k_is | rfl | decide +kernel)
    (case lfr7 => k_is)
    (case x_fr7 => first | k_is | rfl | decide +kernel)
    (case lfr8 => k_is)
    (case x_fr8 => first | k_is | rfl | decide +kernel)
    (case lfr9 => k_is)
    (case x_fr9 => first | k_is | rfl | decide +kernel)
    (case lfr10 => k_is)
    (case x_fr10 => first | k_is | rfl | decide +kernel)
    (case hgs => k_is)
    (case htk => k_is)
    (case aBC => k_is)
    (case iCBC => k_is)
    (case tIBC => k_is)
    (case lFBC => k_is)
    (case cFBC => k_is)
    (case lcBC => k_is)
    (case x_hvBC => first | k_is | rfl | decide +kernel)
    (case x_hfBC => first | k_is | rfl | decide +kernel)
    (case x_tpBC => first | k_is | rfl | decide +kernel)
    (case lccBC => k_is)
    (case zsuperBC => k_is)
    (case lDBC => k_is)
    (case x_rbBC => first | k_is | rfl | decide +kernel)
    (case saBC => k_is)
    (case exBC => k_is)
    (case tyBC => k_is)
    (case kCBC => k_is)
    (case mrBC => k_is)
    (case x_iniBC => first | k_is | rfl | decide +kernel)
    (case veBC => k_is)
    (case anyBC => k_is)
    (case nBC_position => k_is)
    (case hgaBC => k_is)
    (case hgtBC => k_is)
    (case hclBC => k_is)
    (case hhdBC => k_is)
    (case hobBC => k_is)
    (case aCE => k_is)
    (case aBL => k_is)
    (case aAE => k_is)
    (case aLE => k_is)
    (case aME => k_is)
    (case aFE => k_is)
    (case aPgE => k_is)
    (case zValueError => k_is)
    (case x_eBB => first | k_is | rfl | decide +kernel)
    (case x_eBC => first | k_is | rfl | decide +kernel)
    (case x_iB1 => first | k_is | rfl | decide +kernel)
    (case x_iB2 => first | k_is | rfl | decide +kernel)
    (case x_iBB => first | k_is | rfl | decide +kernel)
    (case x_iBP => first | k_is | rfl | decide +kernel)
    (case x_iBV => first | k_is | rfl | decide +kernel)
    (case a_names_registers => k_is)
    (case l_names_registers => k_is)
    (case c_names_registers => k_is)
    (case k_names_registers => k_is)
    (case a_disassemble => k_is)
    (case l_disassemble => k_is)
    (case c_disassemble => k_is)
    (case k_disassemble => k_is)
    (case a_fields => k_is)
    (case l_fields => k_is)
    (case c_fields => k_is)
    (case k_fields => k_is)
    (case a_line_of => k_is)
    (case l_line_of => k_is)
    (case c_line_of => k_is)
    (case k_line_of => k_is)
    (case a_number => k_is)
    (case l_number => k_is)
    (case c_number => k_is)
    (case k_number => k_is)
    (case a_is_whole => k_is)
    (case l_is_whole => k_is)
    (case c_is_whole => k_is)
    (case k_is_whole => k_is)
    (case a_same => k_is)
    (case l_same => k_is)
    (case c_same => k_is)
    (case k_same => k_is)
    (case a_words => k_is)
    (case l_words => k_is)
    (case c_words => k_is)
    (case k_words => k_is)
    (case a_operands => k_is)
    (case l_operands => k_is)
    (case c_operands => k_is)
    (case k_operands => k_is)
    (case a_Lline_of => k_is)
    (case l_Lline_of => k_is)
    (case c_Lline_of => k_is)
    (case k_Lline_of => k_is)
    (case a_lines_due => k_is)
    (case l_lines_due => k_is)
    (case c_lines_due => k_is)
    (case k_lines_due => k_is)
    (case a_line_four => k_is)
    (case l_line_four => k_is)
    (case c_line_four => k_is)
    (case k_line_four => k_is)
    (case a_any_byte => k_is)
    (case l_any_byte => k_is)
    (case c_any_byte => k_is)
    (case k_any_byte => k_is)
    (case a_data_changed => k_is)
    (case l_data_changed => k_is)
    (case c_data_changed => k_is)
    (case k_data_changed => k_is)
    (case a_lines_told => k_is)
    (case l_lines_told => k_is)
    (case c_lines_told => k_is)
    (case k_lines_told => k_is)
    (case a_lines_hold => k_is)
    (case l_lines_hold => k_is)
    (case c_lines_hold => k_is)
    (case k_lines_hold => k_is)
    (case a_code_family => k_is)
    (case l_code_family => k_is)
    (case c_code_family => k_is)
    (case k_code_family => k_is)
    (case a_law => k_is)
    (case l_law => k_is)
    (case c_law => k_is)
    (case k_law => k_is)
    (case z_len => k_is)
    (case z_abs => k_is)
    (case z_int => k_is)
    (case z_range => k_is)
    (case z_isinstance => k_is)
    (case z_bool => k_is)
    (case z_str => k_is)
    (case z_list => k_is)
    (case z_tuple => k_is)
    (case z_all => k_is)
    (case z_zip => k_is)
    (case z_max => k_is)
