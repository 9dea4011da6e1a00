import PyProof.Rows.All
import Wide.All
import OpenK.AllK
import Wide.FinOn
import HandS.ForMost
import HandS.Codes
import HandS.IsInst
import HandS.Wide
import HandS.Conv
import HandS.DictTup
import PyProof.DictMoreH
import HandS.TupLen
import HandS.Deep
import HandS.Zip
import HandS.Walk
import HandS.Style
import HandS.Rev
import HandS.DictComp
import KE.SortData
import KE.GoesEnumKw
import HandS.SortKw
import HandS.SortInts
import KE.KeyNested
import KE.KDictWalk
import KE.KDictIter
import KE.KDictKeyed
import HandS.IterNext
import OpenK.KMeth
import PySem.Challenge.RW_lentpages_k78_seam_plan_and_player
set_option Elab.async false
set_option linter.all false
set_option maxRecDepth 100000
set_option maxHeartbeats 4000000
namespace Lw
open PySem PySem.Spec PyProof.Rows L2
open C8 (Def Cal cal0 pe_c)
def topS (i : Nat) : Stmt := PySem.Challenge.pw_lentpages_k78_seam_plan_and_player.main.body.getD i (.Pass ⟨0, 0, 0, 0⟩)

/-! ### data in the heap, tracked -/
mutual
def Dh (H : Hp) : PyData → V → Prop
  | .none, x => x = .non
  | .bool b, x => x = .bl b
  | .int i, x => x = .int i
  | .str s, x => x = .str s
  | .list ds, x => ∃ a xs, x = .ref a ∧ H a = some (.lst xs) ∧ DhAll H ds xs
  | .tuple ds, x => ∃ a xs, x = .ref a ∧ H a = some (.tup xs) ∧ DhAll H ds xs
  | .dict _, _ => False
def DhAll (H : Hp) : List PyData → List V → Prop
  | [], xs => xs = []
  | d :: ds, xs => ∃ v vs, xs = v :: vs ∧ Dh H d v ∧ DhAll H ds vs
end
mutual
theorem Dh.mono {H H' : Hp} (s : Same H H') : ∀ (d : PyData) (x : V), Dh H d x → Dh H' d x
  | .none, x, h => h
  | .bool b, x, h => h
  | .int i, x, h => h
  | .str i, x, h => h
  | .list ds, x, h => by
    obtain ⟨a, xs, e, g, r⟩ := h
    exact ⟨a, xs, e, s _ _ g, DhAll.mono s ds xs r⟩
  | .tuple ds, x, h => by
    obtain ⟨a, xs, e, g, r⟩ := h
    exact ⟨a, xs, e, s _ _ g, DhAll.mono s ds xs r⟩
  | .dict _, x, h => False.elim h
theorem DhAll.mono {H H' : Hp} (s : Same H H') : ∀ (ds : List PyData) (xs : List V), DhAll H ds xs → DhAll H' ds xs
  | [], xs, h => h
  | d :: ds, xs, h => by
    obtain ⟨v, vs, e, g, r⟩ := h
    exact ⟨v, vs, e, Dh.mono s d v g, DhAll.mono s ds vs r⟩
end
theorem DhAll.len {H : Hp} : ∀ {ds : List PyData} {xs : List V}, DhAll H ds xs → xs.length = ds.length
  | [], xs, h => by
    cases (show xs = [] from h)
    rfl
  | d :: ds, xs, h => by
    obtain ⟨v, vs, e, g, r⟩ := h
    rw [e, List.length_cons, List.length_cons, DhAll.len r]
theorem DhAll.get {H : Hp} : ∀ {ds : List PyData} {xs : List V} {i : Nat} {d : PyData}, DhAll H ds xs → ds[i]? = some d → ∃ x, xs[i]? = some x ∧ Dh H d x
  | [], xs, i, d, h, e => by simp at e
  | d' :: ds, xs, 0, d, h, e => by
    obtain ⟨v, vs, e', g, r⟩ := h
    simp at e
    subst e
    exact ⟨v, by rw [e']; rfl, g⟩
  | d' :: ds, xs, i + 1, d, h, e => by
    obtain ⟨v, vs, e', g, r⟩ := h
    obtain ⟨x, h1, h2⟩ := DhAll.get (i := i) (d := d) r (by simpa using e)
    exact ⟨x, by rw [e']; simpa using h1, h2⟩
mutual
theorem Dh.dp {K : PySem.W.Frag} {H : Hp} : ∀ (d : PyData) (x : V), Dh H d x → Dp K H x d
  | .none, x, h => by
    cases (show x = .non from h)
    exact .non
  | .bool b, x, h => by
    cases (show x = .bl b from h)
    exact .bl b
  | .int i, x, h => by
    cases (show x = .int i from h)
    exact .int i
  | .str i, x, h => by
    cases (show x = .str i from h)
    exact .str i
  | .list ds, x, h => by
    obtain ⟨a, xs, e, g, r⟩ := h
    rw [e]
    exact .lst (SqL.of g) (DhAll.dp ds xs r)
  | .tuple ds, x, h => by
    obtain ⟨a, xs, e, g, r⟩ := h
    rw [e]
    exact .tup (SqT.of g) (DhAll.dp ds xs r)
  | .dict _, x, h => False.elim h
theorem DhAll.dp {K : PySem.W.Frag} {H : Hp} : ∀ (ds : List PyData) (xs : List V), DhAll H ds xs → DpAll K H xs ds
  | [], xs, h => by
    cases (show xs = [] from h)
    exact .nil
  | d :: ds, xs, h => by
    obtain ⟨v, vs, e, g, r⟩ := h
    rw [e]
    exact .cons (Dh.dp d v g) (DhAll.dp ds vs r)
end
/-- a datum's type -/
def tyN : PyData → String
  | .none => "NoneType"
  | .bool _ => "bool"
  | .int _ => "int"
  | .str _ => "str"
  | .list _ => "list"
  | .tuple _ => "tuple"
  | .dict _ => "dict"
theorem Dh.ty {K : PySem.W.Frag} {H : Hp} : ∀ {d : PyData} {x : V}, Dh H d x → TyX K H x (.type (tyN d))
  | .none, x, h => by
    cases (show x = .non from h)
    exact .base .non
  | .bool b, x, h => by
    cases (show x = .bl b from h)
    exact .base (.bl b)
  | .int i, x, h => by
    cases (show x = .int i from h)
    exact .base (.int i)
  | .str i, x, h => by
    cases (show x = .str i from h)
    exact .base (.str i)
  | .list ds, x, h => by
    obtain ⟨a, xs, e, g, r⟩ := h
    rw [e]
    exact .base (.lst g)
  | .tuple ds, x, h => by
    obtain ⟨a, xs, e, g, r⟩ := h
    rw [e]
    exact .base (.tup g)
  | .dict _, x, h => False.elim h
/-- at most n lists and tuples in one another, none of them long -/
def Dle : Nat → PyData → Prop
  | 0, _ => False
  | n + 1, .list ds => ds.length ≤ 100000 ∧ ∀ d ∈ ds, Dle n d
  | n + 1, .tuple ds => ds.length ≤ 100000 ∧ ∀ d ∈ ds, Dle n d
  | _, .dict _ => False
  | _, _ => True
theorem same_upd {H : Hp} {p : Addr} {o : HO} (h : H p = none) : Same H (upd H p o) := fun b x e => by
  rw [upd_ne (ne_of_none e h)]
  exact e
theorem same_rfl {H : Hp} : Same H H := fun _ _ e => e
/-- what is asked of the top's names -/
structure Txt (mg : Str → Option Value) : Prop where
  len : mg "len" = none
  abs : mg "abs" = none
  int : mg "int" = none
  range : mg "range" = none
  isinstance : mg "isinstance" = none
  bool : mg "bool" = none
  str : mg "str" = none
  list : mg "list" = none
  tuple : mg "tuple" = none
abbrev sI (i : Int) : Option V := some (.int i)
abbrev sR (a : Addr) : Option V := some (.ref a)
abbrev sS (x : Str) : Option V := some (.str x)
abbrev sB (b : Bool) : Option V := some (.bl b)

/-! ### steps of a reading -/
theorem ifD {p : Prop} [Decidable p] {A B : Prop} (a : p → A) (b : ¬ p → B) : if decide p = true then A else B := by
  by_cases h : p
  · rw [if_pos (decide_eq_true h)]
    exact a h
  · rw [if_neg (fun z => h (of_decide_eq_true z))]
    exact b h
theorem ifEq {x y : Int} {A B : Prop} (a : x = y → A) (b : x ≠ y → B) : if decide (V.int x = V.int y) = true then A else B :=
  ifD (fun h => a (V.int.inj h)) (fun h => b (fun z => h (congrArg V.int z)))
theorem ifT {p : Prop} [Decidable p] {A B : Prop} (h : p) (a : A) : if decide p = true then A else B := by
  rw [if_pos (decide_eq_true h)]
  exact a
theorem ifF {p : Prop} [Decidable p] {A B : Prop} (h : ¬ p) (b : B) : if decide p = true then A else B := by
  rw [if_neg (fun z => h (of_decide_eq_true z))]
  exact b
theorem ifEqT {x y : Int} {A B : Prop} (h : x = y) (a : A) : if decide (V.int x = V.int y) = true then A else B := ifT (congrArg V.int h) a
theorem ifEqF {x y : Int} {A B : Prop} (h : x ≠ y) (b : B) : if decide (V.int x = V.int y) = true then A else B := ifF (fun z => h (V.int.inj z)) b
theorem cmul_l {i j : Int} (h : -(2 ^ 64) < i ∧ i < 2 ^ 64) : CMul i j := .inl h
theorem cmul_r {i j : Int} (h : -(2 ^ 64) < j ∧ j < 2 ^ 64) : CMul i j := .inr h
/-- a statement that the steps stop at -/
@[irreducible] def tMk (t : TS) : TS := t
theorem tMk_eq (t : TS) : tMk t = t := by
  unfold tMk
  rfl
theorem ps_mk {X : Cx} {s : Stmt} {t : TS} (h : PS X s t) : PS X s (tMk t) := by
  rw [tMk_eq]
  exact h
theorem un {t : TS} {D : Ends} {σ : L2.St} {H : Hp} (h : t D σ H) : tMk t D σ H := by
  rw [tMk_eq]
  exact h
/-- what follows, said once -/
theorem jn {t : TS} {D : Ends} {σ : L2.St} {H : Hp} (M : L2.St → Hp → Prop) (h2 : ∀ σ H, M σ H → D.nx σ H) (h1 : ∀ N : L2.St → Hp → Prop, (∀ σ H, M σ H → N σ H) → t { D with nx := N } σ H) : tMk t D σ H := by
  rw [tMk_eq]
  exact h1 D.nx h2
/-- a wish that the steps stop at -/
@[irreducible] def Ob (p : Prop) : Prop := p
theorem ob {p : Prop} (h : p) : Ob p := by
  unfold Ob
  exact h
theorem unob {p : Prop} (h : Ob p) : p := by
  unfold Ob at h
  exact h
theorem atI_getD {ns : List Int} {j : Int} (h0 : 0 ≤ j) (h1 : j < (ns.length : Int)) : atI (ns.map V.int) j = some (.int (ns.getD j.toNat 0)) := by
  have e : j = ((j.toNat : Nat) : Int) := by omega
  have hj : j.toNat < ns.length := by omega
  have q : atI (ns.map V.int) ((j.toNat : Nat) : Int) = some (.int (ns.getD j.toNat 0)) := atI_nat (by
    rw [List.getElem?_map, List.getElem?_eq_getElem hj, List.getD_eq_getElem?_getD, List.getElem?_eq_getElem hj]
    rfl)
  rw [← e] at q
  exact q
theorem sz {n : Nat} (h : n ≤ 1000 := by first | decide | simp) : n ≤ sizeLine := Nat.le_of_lt (small1000 h)
theorem sz5 {n : Nat} (h : n ≤ 1000000) : n < sizeLine := by
  rw [sizeLine_eq]
  omega
theorem take_succ_eq {α : Type} {xs ys : List α} {i : Nat} {x y : α} (hx : xs[i]? = some x) (hy : ys[i]? = some y) : xs.take (i + 1) = ys.take (i + 1) ↔ xs.take i = ys.take i ∧ x = y := by
  rw [List.take_add_one, List.take_add_one, hx, hy]
  constructor
  · intro h
    have h1 := List.append_inj' h rfl
    refine ⟨h1.1, ?_⟩
    have h2 := h1.2
    simpa using h2
  · rintro ⟨h1, rfl⟩
    rw [h1]
-- size2
theorem ifN {b : Bool} {A B : Prop} (h : if b = true then B else A) : if (!b) = true then A else B := by
  cases b
  · exact h
  · exact h
theorem ifNe {x y : Int} {A B : Prop} (a : x ≠ y → A) (b : x = y → B) : if (!decide (V.int x = V.int y)) = true then A else B := ifN (ifEq b a)
theorem ixAny {K : PySem.W.Frag} {H : Hp} {a : Addr} {xs : List V} {i : Int} {v : V} {Q : VK} (h : SqL K H a xs ∨ SqT K H a xs) (e : atI xs i = some v) (q : Q v H) : rIx K (.ref a) (.int i) H Q := by
  rcases h with h | h
  · exact .inl ⟨a, xs, i, v, rfl, rfl, h, e, q⟩
  · exact .inr (.inl ⟨a, xs, i, v, rfl, rfl, h, e, q⟩)
theorem sameT {K : PySem.W.Frag} {H H' : Hp} {a : Addr} {xs : List V} (s : Same H H') (h : SqT K H a xs) : SqT K H' a xs := by
  rcases h with (g | ⟨o, g⟩) | g
  · exact .inl (.inl (s _ _ g))
  · exact .inl (.inr ⟨o, s _ _ g⟩)
  · exact .inr g
theorem sqAny {K : PySem.W.Frag} {H H' : Hp} {a : Addr} {xs : List V} (s : Same H H') (h : SqL K H a xs ∨ SqT K H a xs) : SqL K H' a xs ∨ SqT K H' a xs := h.imp (fun z => s.seq z) (fun z => sameT s z)
theorem same_put {H H1 : Hp} {D : Addr} {o : HO} (s : Same H H1) (h : H D = none) : Same H (upd H1 D o) := fun b x e => by
  rw [upd_ne (ne_of_none e h)]
  exact s b x e

/-! ### rules that say the written part by a letter -/
theorem ixL {X : Cx} (K : PySem.W.Frag) (h : X.K = K) : IxR X (rIxL K) := by
  subst h
  exact ix_list
theorem ixT {X : Cx} (K : PySem.W.Frag) (h : X.K = K) : IxR X (rIxT K) := by
  subst h
  exact ix_tup
theorem ixA {X : Cx} (K : PySem.W.Frag) (h : X.K = K) : IxR X (rIx K) := by
  subst h
  exact ix_seq
def rLen (K : PySem.W.Frag) : List V → Hp → VK → Prop := fun xs H Q => ∃ p ys, xs = [.ref p] ∧ (SqL K H p ys ∨ SqT K H p ys) ∧ Q (.int ys.length) H
theorem lenQ {X : Cx} (K : PySem.W.Frag) (h : X.K = K) : CallR X (.builtin "len") (rLen K) := by
  subst h
  exact call_len_seq
def isB : PyData → Bool
  | .bool _ => true
  | _ => false
def isI : PyData → Bool
  | .int _ => true
  | _ => false
def isS : PyData → Bool
  | .str _ => true
  | _ => false
def isL : PyData → Bool
  | .list _ => true
  | _ => false
def isT : PyData → Bool
  | .tuple _ => true
  | _ => false
theorem kit_B {K : PySem.W.Frag} : ∀ (d : PyData), PySem.W.kitOne K (.type (tyN d)) (.type "bool") = some (isB d)
  | .none => kit_ty (show kitB "NoneType" "bool" = some false by decide +kernel)
  | .bool _ => kit_ty (show kitB "bool" "bool" = some true by decide +kernel)
  | .int _ => kit_ty (show kitB "int" "bool" = some false by decide +kernel)
  | .str _ => kit_ty (show kitB "str" "bool" = some false by decide +kernel)
  | .list _ => kit_ty (show kitB "list" "bool" = some false by decide +kernel)
  | .tuple _ => kit_ty (show kitB "tuple" "bool" = some false by decide +kernel)
  | .dict _ => kit_ty (show kitB "dict" "bool" = some false by decide +kernel)
theorem kit_I {K : PySem.W.Frag} : ∀ (d : PyData), PySem.W.kitOne K (.type (tyN d)) (.type "int") = some (isI d || isB d)
  | .none => kit_ty (show kitB "NoneType" "int" = some false by decide +kernel)
  | .bool _ => kit_ty (show kitB "bool" "int" = some true by decide +kernel)
  | .int _ => kit_ty (show kitB "int" "int" = some true by decide +kernel)
  | .str _ => kit_ty (show kitB "str" "int" = some false by decide +kernel)
  | .list _ => kit_ty (show kitB "list" "int" = some false by decide +kernel)
  | .tuple _ => kit_ty (show kitB "tuple" "int" = some false by decide +kernel)
  | .dict _ => kit_ty (show kitB "dict" "int" = some false by decide +kernel)
theorem kit_S {K : PySem.W.Frag} : ∀ (d : PyData), PySem.W.kitOne K (.type (tyN d)) (.type "str") = some (isS d)
  | .none => kit_ty (show kitB "NoneType" "str" = some false by decide +kernel)
  | .bool _ => kit_ty (show kitB "bool" "str" = some false by decide +kernel)
  | .int _ => kit_ty (show kitB "int" "str" = some false by decide +kernel)
  | .str _ => kit_ty (show kitB "str" "str" = some true by decide +kernel)
  | .list _ => kit_ty (show kitB "list" "str" = some false by decide +kernel)
  | .tuple _ => kit_ty (show kitB "tuple" "str" = some false by decide +kernel)
  | .dict _ => kit_ty (show kitB "dict" "str" = some false by decide +kernel)
theorem kit_L {K : PySem.W.Frag} : ∀ (d : PyData), PySem.W.kitOne K (.type (tyN d)) (.type "list") = some (isL d)
  | .none => kit_ty (show kitB "NoneType" "list" = some false by decide +kernel)
  | .bool _ => kit_ty (show kitB "bool" "list" = some false by decide +kernel)
  | .int _ => kit_ty (show kitB "int" "list" = some false by decide +kernel)
  | .str _ => kit_ty (show kitB "str" "list" = some false by decide +kernel)
  | .list _ => kit_ty (show kitB "list" "list" = some true by decide +kernel)
  | .tuple _ => kit_ty (show kitB "tuple" "list" = some false by decide +kernel)
  | .dict _ => kit_ty (show kitB "dict" "list" = some false by decide +kernel)
theorem kit_T {K : PySem.W.Frag} : ∀ (d : PyData), PySem.W.kitOne K (.type (tyN d)) (.type "tuple") = some (isT d)
  | .none => kit_ty (show kitB "NoneType" "tuple" = some false by decide +kernel)
  | .bool _ => kit_ty (show kitB "bool" "tuple" = some false by decide +kernel)
  | .int _ => kit_ty (show kitB "int" "tuple" = some false by decide +kernel)
  | .str _ => kit_ty (show kitB "str" "tuple" = some false by decide +kernel)
  | .list _ => kit_ty (show kitB "list" "tuple" = some false by decide +kernel)
  | .tuple _ => kit_ty (show kitB "tuple" "tuple" = some true by decide +kernel)
  | .dict _ => kit_ty (show kitB "dict" "tuple" = some false by decide +kernel)
theorem kit_LT {K : PySem.W.Frag} (d : PyData) : PySem.W.kitAny K (.type (tyN d)) [.type "list", .type "tuple"] = some (isL d || isT d) := by
  refine kitAny_cons (kit_L d) (fun h => ?_) (fun h => by rw [h]; rfl)
  rw [h]
  refine kitAny_cons (kit_T d) (fun h => by rw [h]; rfl) (fun h => by rw [h]; rfl)
/-- isinstance of a datum -/
def rIsD (T : String) (g : PyData → Bool) : List V → Hp → VK → Prop := fun xs H Q => ∃ x d, xs = [x, .ty T] ∧ Dh H d x ∧ Q (.bl (g d)) H
theorem isOf {X : Cx} {T : String} {g : PyData → Bool} (h : ∀ d, PySem.W.kitOne X.K (.type (tyN d)) (.type T) = some (g d)) : CallR X (.builtin "isinstance") (rIsD T g) := by
  intro pins s σ H xs us Q I r z
  obtain ⟨x, d, rfl, hx, q⟩ := z
  exact call_isi pins s σ H _ us Q I r ⟨_, _, _, _, _, rfl, .ty T, hx.ty, h d, q⟩
theorem is_bool {X : Cx} : CallR X (.builtin "isinstance") (rIsD "bool" isB) := isOf kit_B
theorem is_int {X : Cx} : CallR X (.builtin "isinstance") (rIsD "int" fun d => isI d || isB d) := isOf kit_I
theorem is_str {X : Cx} : CallR X (.builtin "isinstance") (rIsD "str" isS) := isOf kit_S
theorem is_list {X : Cx} : CallR X (.builtin "isinstance") (rIsD "list" isL) := isOf kit_L
theorem is_tuple {X : Cx} : CallR X (.builtin "isinstance") (rIsD "tuple" isT) := isOf kit_T
/-- isinstance(x, (list, tuple)) of a datum -/
def rIsLT : List V → Hp → VK → Prop := fun xs H Q => ∃ x d p, xs = [x, .ref p] ∧ H p = some (.tup [.ty "list", .ty "tuple"]) ∧ Dh H d x ∧ Q (.bl (isL d || isT d)) H
theorem is_lt {X : Cx} : CallR X (.builtin "isinstance") rIsLT := by
  intro pins s σ H xs us Q I r z
  obtain ⟨x, d, p, rfl, hp, hx, q⟩ := z
  exact call_isiT pins s σ H _ us Q I r ⟨_, _, _, _, _, _, rfl, hp, .cons (.ty "list") (.cons (.ty "tuple") .nil), hx.ty, kit_LT d, q⟩
theorem ifBT {b : Bool} {A B : Prop} (h : b = true) (a : A) : if b = true then A else B := by
  rw [if_pos h]
  exact a
theorem ifBF {b : Bool} {A B : Prop} (h : b = false) (q : B) : if b = true then A else B := by
  rw [h, if_neg Bool.false_ne_true]
  exact q
theorem inQ {X : Cx} (K : PySem.W.Frag) (h : X.K = K) : OpR X (compareOp .In) (rIn K false) := by
  subst h
  exact op_in_seq
theorem notInQ {X : Cx} (K : PySem.W.Frag) (h : X.K = K) : OpR X (compareOp .NotIn) (rIn K true) := by
  subst h
  exact op_notIn_seq
theorem eqQ {X : Cx} (K : PySem.W.Frag) (h : X.K = K) (hu : X.A.units + 64 < cLine) : OpR X (compareOp .Eq) (rEqD K) := by
  subst h
  exact op_eqD hu
theorem neQ {X : Cx} (K : PySem.W.Frag) (h : X.K = K) (hu : X.A.units + 64 < cLine) : OpR X (compareOp .NotEq) (rNeD K) := by
  subst h
  exact op_neD hu
def rLst (K : PySem.W.Frag) : List V → Hp → VK → Prop := fun xs H Q => ∃ p ys, xs = [.ref p] ∧ (SqL K H p ys ∨ SqT K H p ys) ∧ ∀ l, H l = none → Q (.ref l) (upd H l (.lst ys))
theorem listQ {X : Cx} (K : PySem.W.Frag) (h : X.K = K) : CallR X (.type "list") (rLst K) := by
  subst h
  exact call_list_of

/-- what follows a wrapped statement, said once -/
theorem jnS {a b : TS} {D : Ends} {σ : L2.St} {H : Hp} (M : L2.St → Hp → Prop) (h2 : ∀ σ H, M σ H → b D σ H) (h1 : ∀ N : L2.St → Hp → Prop, (∀ σ H, M σ H → N σ H) → a { D with nx := N } σ H) : tSeq (tMk a) b D σ H := by
  rw [tMk_eq]
  exact h1 (b D) h2

mutual
/-- no lists inside -/
def noL : PyData → Bool
  | .list _ => false
  | .dict _ => false
  | .tuple ds => noLs ds
  | _ => true
def noLs : List PyData → Bool
  | [] => true
  | d :: ds => noL d && noLs ds
end
mutual
theorem Dh.tups {H H' : Hp} (s : ∀ a us, H a = some (.tup us) → H' a = some (.tup us)) : ∀ (d : PyData) (x : V), noL d = true → Dh H d x → Dh H' d x
  | .none, x, _, h => h
  | .bool b, x, _, h => h
  | .int i, x, _, h => h
  | .str i, x, _, h => h
  | .list ds, x, n, h => by cases n
  | .tuple ds, x, n, h => by
    obtain ⟨a, xs, e, g, r⟩ := h
    exact ⟨a, xs, e, s _ _ g, DhAll.tups s ds xs n r⟩
  | .dict _, x, n, h => by cases n
theorem DhAll.tups {H H' : Hp} (s : ∀ a us, H a = some (.tup us) → H' a = some (.tup us)) : ∀ (ds : List PyData) (xs : List V), noLs ds = true → DhAll H ds xs → DhAll H' ds xs
  | [], xs, _, h => h
  | d :: ds, xs, n, h => by
    obtain ⟨v, vs, e, g, r⟩ := h
    have n2 : noL d = true ∧ noLs ds = true := Bool.and_eq_true_iff.mp n
    exact ⟨v, vs, e, Dh.tups s d v n2.1 g, DhAll.tups s ds vs n2.2 r⟩
end
theorem DhAll.snoc {H : Hp} : ∀ {ds : List PyData} {xs : List V} {d : PyData} {x : V}, DhAll H ds xs → Dh H d x → DhAll H (ds ++ [d]) (xs ++ [x])
  | [], xs, d, x, h, hx => by
    cases (show xs = [] from h)
    exact ⟨x, [], rfl, hx, rfl⟩
  | d' :: ds, xs, d, x, h, hx => by
    obtain ⟨v, vs, rfl, h1, h2⟩ := h
    exact ⟨v, vs ++ [x], rfl, h1, DhAll.snoc h2 hx⟩

theorem Same.get {H H' : Hp} {a : Addr} {o : HO} (s : Same H H') (g : H a = some o) : H' a = some o := s _ _ g

section

-- a condition of an operator
local macro_rules | `(tactic| walk_at "cond") => `(tactic| first
  | (show (0 : Int) < _; omega)
  | (show CDiv _ _; constructor <;> (first | decide | omega))
  | (show CMul _ _; first | (refine cmul_l ?_; constructor <;> (first | decide | omega)) | (refine cmul_r ?_; constructor <;> (first | decide | omega)))
  | (show CPow _ _; exact (by refine ⟨by decide, by decide, by decide⟩))
  | (show CDivW _ _; exact ⟨by decide, by decide +kernel⟩))
local macro_rules | `(tactic| walk_at "sq") => `(tactic| first | assumption | exact Dh.mono (same_upd (by assumption)) _ _ (by assumption) | exact .inl (.inl (.inl (by assumption))) | exact .inr (.inl (.inl (by assumption))) | exact SqL.of (by assumption) | exact .inl (by assumption) | exact .inl (SqL.of (by assumption)) | exact SqT.of (by assumption) | exact .inr (SqT.of (by assumption)))
local macro_rules | `(tactic| walk_at "st") => `(tactic| first
  | refine ⟨_, rfl, ?_⟩
  | refine ⟨_, _, rfl, rfl, ?_⟩
  | refine .inl ⟨_, rfl, ?_⟩
  | refine ⟨rfl, ?_⟩
  | refine ⟨_, _, rfl, by walk_at "sq", ?_⟩
  | refine ⟨.inl ⟨rfl, _, SqL.of (by assumption)⟩, ?_⟩
  | refine ⟨by walk_at "cond", ?_⟩
  | (refine' ifBT ?hh ?_; (case hh => first | rfl | assumption))
  | (refine' ifBF ?hh ?_; (case hh => first | rfl | assumption)))
local macro_rules | `(tactic| walk_at "go") => `(tactic| repeat walk_at "st")
local macro_rules | `(tactic| walk_at "yes") => `(tactic| (refine' ifT ?hh ?_; (case hh => first | rfl | decide +kernel)))
local macro_rules | `(tactic| walk_at "no") => `(tactic| (refine' ifF ?hh ?_; (case hh => first | decide +kernel | (intro z; cases z; done))))

/-! ### _law_number -/
/-- n times // 1000 -/
def itd : Nat → Int → Int
  | 0, r => r
  | n + 1, r => itd n r / 1000
theorem itd_zero : ∀ n, itd n 0 = 0
  | 0 => rfl
  | n + 1 => by
    show itd n 0 / 1000 = 0
    rw [itd_zero n]
    rfl
theorem itd_add (r : Int) (h : itd n r = 0) : ∀ m, itd (n + m) r = 0
  | 0 => h
  | m + 1 => by
    show itd (n + m) r / 1000 = 0
    rw [itd_add r h m]
    rfl
theorem itd_nn {r : Int} (h : 0 ≤ r) : ∀ n, 0 ≤ itd n r
  | 0 => h
  | n + 1 => Int.ediv_nonneg (itd_nn h n) (by decide)
def nCell (ns : List Int) (i : Int) : Int := if ns.length = 0 then 0 else (ns.getD (i % (ns.length : Int)).toNat 0).natAbs
def nTurn (ns : List Int) (i : Int) : Int := if ns.length = 0 then i else i / (ns.length : Int)
def nPick (ns : List Int) (i k : Int) : Int := k + 16 * nTurn ns i
def nMix (c p : Int) : Int :=
  let a := (c + 7919 * p + 13) % 2147483647
  let b := (a * (a + 48271)) % 2147483629
  (b * (b + 69621) + 31 * p) % 2147483647
def num (ns : List Int) (i k size : Int) : Int :=
  let c := nCell ns i
  let p := nPick ns i k
  if c ≥ 10 ^ 18 then
    if itd p.toNat (c / 10 ^ 18) > 0 then itd p.toNat (c / 10 ^ 18) % 1000 % size else nMix c p / 9 % size
  else nMix c p / 9 % size
theorem num_nn {ns : List Int} {i k size : Int} (h : 0 < size) : 0 ≤ num ns i k size := by
  unfold num
  dsimp only
  split
  · split
    · exact Int.emod_nonneg _ (by omega)
    · exact Int.emod_nonneg _ (by omega)
  · exact Int.emod_nonneg _ (by omega)
theorem num_lt {ns : List Int} {i k size : Int} (h : 0 < size) : num ns i k size < size := by
  unfold num
  dsimp only
  split
  · split
    · exact Int.emod_lt_of_pos _ h
    · exact Int.emod_lt_of_pos _ h
  · exact Int.emod_lt_of_pos _ h
def spNum (K : PySem.W.Frag) : Sp := fun vs H Q _ => ∃ (a : Addr) (ns : List Int) (i k size : Int), vs = [.ref a, .int i, .int k, .int size] ∧ SqL K H a (ns.map V.int) ∧ ns.length ≤ 63 ∧
  0 ≤ i ∧ i ≤ 1000000000 ∧ 0 ≤ k ∧ k ≤ 1000000000 ∧ 0 < size ∧ Q (.int (num ns i k size)) H

abbrev s_number : Stmt := topS 11
theorem sc_number : FnScope ["_law_script", "_law_at", "_law_k", "_law_size", "_law_cell", "_law_turn", "_law_pick", "_law_rest", "_law_step", "_law_mixed"] ["_law_script", "_law_at", "_law_k", "_law_size"] (C8.fnScope s_number) := C8.fnScope_by (by decide +kernel)
section
variable {P : Program} {w : World} {K : PySem.W.Frag} {mg : Str → Option Value} {base : Heap}
theorem ok_number {f : Addr} {fd : FuncData} (D : Def K mg "_law_number" s_number f fd) (b : Binds K fd ["_law_script", "_law_at", "_law_k", "_law_size"] []) (T : Txt mg) : Cal P w K mg base 1 "_law_number" (spNum K) [] := by
  refine cal0 D b .nil sc_number (fun vs H Q E h => ?_) (fun cdv A outer s H vs Q E hr h => ?_)
  · obtain ⟨a, ns, i, k, size, rfl, _⟩ := h
    rfl
  obtain ⟨a, ns, i, k, size, rfl, hS, hl, i0, i1, k0, k1, hz, q⟩ := h
  refine ⟨_, (pss_cons (ps_set (i := 4) sc_number.nd rfl (.inl rfl) pe_int)
      (pss_cons (ps_set (i := 5) sc_number.nd rfl (.inl rfl) (pv 1))
      (pss_cons (ps_mk (ps_if (pt_cmpR op_gt (pe_callB (lenQ K rfl) (by rfl) T.len PySem.boot_len (pa_cons (pv 0) pa_nil)) pe_int (nomark _))
      (pss_cons (ps_set (i := 4) sc_number.nd rfl (.inl rfl) (pe_callB call_abs (by rfl) T.abs (by decide +kernel) (pa_cons (pe_ix (ixL K rfl) (pv 0) (pe_op op_mod (pe_callTy call_int1 (by rfl) T.int (by decide +kernel) (pa_cons (pv 1) pa_nil)) (pe_callB (lenQ K rfl) (by rfl) T.len PySem.boot_len (pa_cons (pv 0) pa_nil))) (fun _ _ => rfl)) pa_nil)))
      (pss_one (ps_set (i := 5) sc_number.nd rfl (.inl rfl) (pe_op op_fdiv (pv 1) (pe_callB (lenQ K rfl) (by rfl) T.len PySem.boot_len (pa_cons (pv 0) pa_nil))))))
      pss_nil))
      (pss_cons (ps_set (i := 6) sc_number.nd rfl (.inl rfl) (pe_op op_add (pv 2) (pe_op op_mul pe_int (pv 5))))
      (pss_cons (ps_mk (ps_if (pt_cmpR op_ge (pv 4) (pe_op op_pow pe_int pe_int) (nomark _))
      (pss_cons (ps_set (i := 7) sc_number.nd rfl (.inl rfl) (pe_op op_fdivW (pv 4) (pe_op op_pow pe_int pe_int)))
      (pss_cons (ps_mk (ps_for PassesOwn.never rfl (pi_range1 (by rfl) T.range (pa_cons (pv 6) pa_nil)) (pg_name (i := 8) sc_number.nd rfl (.inl rfl))
      (pss_cons (ps_mk (ps_if (pt_cmpR op_eq (pv 7) pe_int (nomark _))
      (pss_one ps_break)
      pss_nil))
      (pss_one (ps_set (i := 7) sc_number.nd rfl (.inl rfl) (pe_op op_fdiv (pv 7) pe_int))))))
      (pss_one (ps_mk (ps_if (pt_cmpR op_gt (pv 7) pe_int (nomark _))
      (pss_one (ps_ret (pe_op op_mod (pe_callTy call_int1 (by rfl) T.int (by decide +kernel) (pa_cons (pe_op op_mod (pe_callTy call_int1 (by rfl) T.int (by decide +kernel) (pa_cons (pv 7) pa_nil)) pe_int) pa_nil)) (pv 3))))
      pss_nil)))))
      pss_nil))
      (pss_cons (ps_set (i := 9) sc_number.nd rfl (.inl rfl) (pe_op op_mod (pe_callTy call_int1 (by rfl) T.int (by decide +kernel) (pa_cons (pe_op op_add (pe_op op_add (pv 4) (pe_op op_mul pe_int (pv 6))) pe_int) pa_nil)) pe_int))
      (pss_cons (ps_set (i := 9) sc_number.nd rfl (.inl rfl) (pe_op op_mod (pe_callTy call_int1 (by rfl) T.int (by decide +kernel) (pa_cons (pe_op op_mul (pv 9) (pe_op op_add (pv 9) pe_int)) pa_nil)) pe_int))
      (pss_cons (ps_set (i := 9) sc_number.nd rfl (.inl rfl) (pe_op op_mod (pe_callTy call_int1 (by rfl) T.int (by decide +kernel) (pa_cons (pe_op op_add (pe_op op_mul (pv 9) (pe_op op_add (pv 9) pe_int)) (pe_op op_mul pe_int (pv 6))) pa_nil)) pe_int))
      (pss_one (ps_ret (pe_op op_mod (pe_callTy call_int1 (by rfl) T.int (by decide +kernel) (pa_cons (pe_op op_fdiv (pv 9) pe_int) pa_nil)) (pv 3)))))))))))), ?_⟩
  have hml : (ns.map V.int).length = ns.length := List.length_map _
  have t0 : 0 ≤ nTurn ns i ∧ nTurn ns i ≤ 1000000000 := by
    unfold nTurn
    split
    · exact ⟨i0, i1⟩
    · exact ⟨Int.ediv_nonneg i0 (by omega), Int.le_trans (Int.ediv_le_self _ i0) i1⟩
  have p0 : 0 ≤ nPick ns i k ∧ nPick ns i k ≤ 17000000000 := by
    unfold nPick
    omega
  walk_at "go"
  refine jn (M := fun σ H' => ∃ c t : Int, c = nCell ns i ∧ t = nTurn ns i ∧ H' = H ∧ σ = [sR a, sI i, sI k, sI size, sI c, sI t, none, none, none, none]) ?_ (fun N kk => ?_)
  · rintro σ H' ⟨c, t, ec, et, rfl, rfl⟩
    walk_at "go"
    -- behind the pick
    have ep : k + 16 * t = nPick ns i k := by
      rw [et]
      rfl
    have c0 : 0 ≤ c := by
      rw [ec]
      unfold nCell
      split <;> omega
    have en : c < 10 ^ 18 ∨ ¬ itd (nPick ns i k).toNat (c / 10 ^ 18) > 0 → num ns i k size = nMix c (nPick ns i k) / 9 % size := fun h => by
      unfold num
      dsimp only
      rw [← ec]
      rcases h with h | h
      · rw [if_neg (by omega)]
      · split
        · rfl
        · rfl
    refine jn (M := fun σ H2 => H2 = H' ∧ (c < 10 ^ 18 ∨ ¬ itd (nPick ns i k).toNat (c / 10 ^ 18) > 0) ∧ ∃ y8 y9, σ = [sR a, sI i, sI k, sI size, sI c, sI t, sI (nPick ns i k), y8, y9, none]) ?_ (fun N kk => ?_)
    · rintro σ H2 ⟨rfl, hc, y8, y9, rfl⟩
      walk_at "go"
      have e := en hc
      unfold nMix at e
      dsimp only at e
      rw [e] at q
      exact q
    · walk_at "go"
      refine ifD (fun g => ?_) (fun g => ?_)
      · have g' : c ≥ 10 ^ 18 := g
        walk_at "go"
        have r0 : 0 ≤ c / 10 ^ 18 := Int.ediv_nonneg c0 (by decide)
        refine jn (M := fun σ H2 => H2 = H' ∧ ∃ y9, σ = [sR a, sI i, sI k, sI size, sI c, sI t, sI (nPick ns i k), sI (itd (nPick ns i k).toNat (c / 10 ^ 18)), y9, none]) ?_ (fun N2 k2 => ?_)
        · rintro σ H2 ⟨rfl, y9, rfl⟩
          refine un ?_
          walk_at "go"
          refine ifD (fun g2 => ?_) (fun g2 => ?_)
          · walk_at "go"
            have e : num ns i k size = itd (nPick ns i k).toNat (c / 10 ^ 18) % 1000 % size := by
              unfold num
              dsimp only
              rw [← ec, if_pos g', if_pos g2]
            rw [e] at q
            exact q
          · walk_at "go"
            exact kk _ _ ⟨rfl, .inr g2, _, _, rfl⟩
        · walk_at "go"
          refine ⟨(show -(2 ^ 62) ≤ k + 16 * t by omega), (show k + 16 * t < 2 ^ 62 by omega), for_range (lo := 0) (n := (k + 16 * t).toNat) (fun j σ H2 => Ob (H2 = H' ∧ ∃ y9, σ = [sR a, sI i, sI k, sI size, sI c, sI t, sI (nPick ns i k), sI (itd j (c / 10 ^ 18)), y9, none])) (ob ⟨rfl, none, ?_⟩) ?_ ?_⟩
          · rw [← ep]
            rfl
          · rintro j σ H2 hj h
            obtain ⟨rfl, y9, rfl⟩ := unob h
            refine un ?_
            walk_at "go"
            refine ifEq (fun z => ?_) (fun z => ?_)
            · walk_at "go"
              refine k2 _ _ ⟨rfl, sI (0 + (j : Int)), ?_⟩
              have z2 : itd (nPick ns i k).toNat (c / 10 ^ 18) = 0 := by
                have z3 := itd_add _ z ((nPick ns i k).toNat - j)
                rw [show j + ((nPick ns i k).toNat - j) = (nPick ns i k).toNat by omega] at z3
                exact z3
              rw [z2, ← z]
              rfl
            · walk_at "go"
              exact ob ⟨rfl, _, rfl⟩
          · rintro σ H2 h
            obtain ⟨rfl, y9, rfl⟩ := unob h
            refine k2 _ _ ⟨rfl, y9, ?_⟩
            rw [ep]
      · walk_at "go"
        have g' : ¬ c ≥ 10 ^ 18 := g
        refine kk _ _ ⟨rfl, .inl (by omega), none, none, ?_⟩
        rw [← ep]
        rfl
  · walk_at "go"
    refine ifD (fun c => ?_) (fun c => ?_)
    · walk_at "go"
      rw [hml] at c
      refine ⟨_, _, _, _, rfl, rfl, hS, atI_getD (Int.emod_nonneg _ (by omega)) (by rw [hml]; exact Int.emod_lt_of_pos _ (by omega)), ?_⟩
      walk_at "go"
      refine kk _ _ ⟨_, _, ?_, ?_, rfl, rfl⟩
      · unfold nCell
        rw [if_neg (show ¬ ns.length = 0 by omega)]
        simp only [hml]
        split
        · omega
        · omega
      · unfold nTurn
        rw [if_neg (by omega), hml]
    · walk_at "go"
      rw [hml] at c
      refine kk _ _ ⟨_, _, ?_, ?_, rfl, rfl⟩
      · unfold nCell
        rw [if_pos (by omega)]
      · unfold nTurn
        rw [if_pos (by omega)]
end

/-! ### _law_is_whole, _law_same -/
abbrev s_is_whole : Stmt := topS 12
theorem sc_is_whole : FnScope ["_law_told"] ["_law_told"] (C8.fnScope s_is_whole) := C8.fnScope_by (by decide +kernel)
abbrev s_same : Stmt := topS 13
theorem sc_same : FnScope ["_law_told", "_law_due", "_law_k"] ["_law_told", "_law_due"] (C8.fnScope s_same) := C8.fnScope_by (by decide +kernel)
def spWhole : Sp := fun vs H Q _ => ∃ (x : V) (d : PyData), vs = [x] ∧ Dh H d x ∧ Q (.bl (isI d)) H
def spSame (n : Nat) : Sp := fun vs H Q _ => ∃ (x y : V) (d e : PyData), vs = [x, y] ∧ Dh H d x ∧ Dh H e y ∧ Dle n e ∧ ∀ (b : Bool) (H' : Hp), (b = true ↔ d = e) → Same H H' → Q (.bl b) H'
section
variable {P : Program} {w : World} {K : PySem.W.Frag} {mg : Str → Option Value} {base : Heap}
theorem ok_whole {f : Addr} {fd : FuncData} (D : Def K mg "_law_is_whole" s_is_whole f fd) (b : Binds K fd ["_law_told"] []) (T : Txt mg) : Cal P w K mg base 1 "_law_is_whole" spWhole [] := by
  refine cal0 D b .nil sc_is_whole (fun vs H Q E h => ?_) (fun cdv A outer s H vs Q E hr h => ?_)
  · obtain ⟨x, d, rfl, _⟩ := h
    rfl
  obtain ⟨x, d, rfl, hx, q⟩ := h
  refine ⟨_, (pss_one (ps_ret (pe_and (pe_callB is_int (by rfl) T.isinstance (by decide +kernel) (pa_cons (pv 0) (pa_cons (pe_bltn (v := .ty "int") (by rfl) T.int (by decide +kernel) rfl) pa_nil))) (pe_one (pe_not (pe_callB is_bool (by rfl) T.isinstance (by decide +kernel) (pa_cons (pv 0) (pa_cons (pe_bltn (v := .ty "bool") (by rfl) T.bool (by decide +kernel) rfl) pa_nil)))))))), ?_⟩
  cases d <;> (walk_at "go"; exact q)
theorem ok_same_step {f : Addr} {fd : FuncData} (D : Def K mg "_law_same" s_same f fd) (b : Binds K fd ["_law_told", "_law_due"] []) (T : Txt mg) (c_is_whole : Cal P w K mg base 1 "_law_is_whole" spWhole []) {n : Nat}
    (c_same : Cal P w K mg base (n + 1) "_law_same" (spSame n) []) : Cal P w K mg base (n + 2) "_law_same" (spSame (n + 1)) [] := by
  refine cal0 D b .nil sc_same (fun vs H Q E h => ?_) (fun cdv A outer s H vs Q E hr h => ?_)
  · obtain ⟨x, y, d, e, rfl, _⟩ := h
    rfl
  obtain ⟨x, y, d, e, rfl, hx, hy, he, q⟩ := h
  refine ⟨_, (pss_cons (ps_mk (ps_if (pt_val (pe_callB is_lt (by rfl) T.isinstance (by decide +kernel) (pa_cons (pv 1) (pa_cons (pe_tup (pa_cons (pe_bltn (v := .ty "list") (by rfl) T.list (by decide +kernel) rfl) (pa_cons (pe_bltn (v := .ty "tuple") (by rfl) T.tuple (by decide +kernel) rfl) pa_nil))) pa_nil))))
      (pss_cons (ps_mk (ps_if (PW.pt (pw_or (pt_not (pt_val (pe_callB is_lt (by rfl) T.isinstance (by decide +kernel) (pa_cons (pv 0) (pa_cons (pe_tup (pa_cons (pe_bltn (v := .ty "list") (by rfl) T.list (by decide +kernel) rfl) (pa_cons (pe_bltn (v := .ty "tuple") (by rfl) T.tuple (by decide +kernel) rfl) pa_nil))) pa_nil))))) (pw_or1 (pt_cmpR op_ne (pe_callB is_list (by rfl) T.isinstance (by decide +kernel) (pa_cons (pv 0) (pa_cons (pe_bltn (v := .ty "list") (by rfl) T.list (by decide +kernel) rfl) pa_nil))) (pe_callB is_list (by rfl) T.isinstance (by decide +kernel) (pa_cons (pv 1) (pa_cons (pe_bltn (v := .ty "list") (by rfl) T.list (by decide +kernel) rfl) pa_nil))) (nomark _)))))
      (pss_one (ps_ret pe_bl))
      pss_nil))
      (pss_cons (ps_mk (ps_if (pt_cmpR op_ne (pe_callB (lenQ K rfl) (by rfl) T.len PySem.boot_len (pa_cons (pv 0) pa_nil)) (pe_callB (lenQ K rfl) (by rfl) T.len PySem.boot_len (pa_cons (pv 1) pa_nil)) (nomark _))
      (pss_one (ps_ret pe_bl))
      pss_nil))
      (pss_one (ps_ret (pe_cmpR op_eq (pe_callB (lenQ K rfl) (by rfl) T.len PySem.boot_len (pa_cons (pe_lc (own := [("_law_k", 2)]) (g := gName 2) rfl sc_same.nd (pi_range1 (by rfl) T.range (pa_cons (pe_callB (lenQ K rfl) (by rfl) T.len PySem.boot_len (pa_cons (pv 1) pa_nil)) pa_nil)) (blkOk_by (own := [("_law_k", 2)]) (N := ["_law_told", "_law_due", "_law_k"]) (sc := C8.fnScope s_same) (by decide +kernel)) (fun _ _ _ _ _ => (pg_name (i := 2) sc_same.nd rfl (.inl rfl))) (fun _ _ _ _ _ => (pts_one (pt_not (pt_val (C8.pe_c c_same hr (by omega) (by rfl) (pa_cons (pe_ix (ixA K rfl) (pv 0) (pv 2) (fun _ _ => rfl)) (pa_cons (pe_ix (ixA K rfl) (pv 1) (pv 2) (fun _ _ => rfl)) pa_nil))))))) (fun _ _ _ _ _ => (pv 2))) pa_nil)) pe_int (nomark _))))))
      pss_nil))
      (pss_cons (ps_mk (ps_if (pt_val (pe_callB is_bool (by rfl) T.isinstance (by decide +kernel) (pa_cons (pv 1) (pa_cons (pe_bltn (v := .ty "bool") (by rfl) T.bool (by decide +kernel) rfl) pa_nil))))
      (pss_one (ps_ret (pe_and (pe_callB is_bool (by rfl) T.isinstance (by decide +kernel) (pa_cons (pv 0) (pa_cons (pe_bltn (v := .ty "bool") (by rfl) T.bool (by decide +kernel) rfl) pa_nil))) (pe_one (pe_cmpR op_eq (pv 0) (pv 1) (nomark _))))))
      pss_nil))
      (pss_cons (ps_mk (ps_if (pt_val (pe_callB is_int (by rfl) T.isinstance (by decide +kernel) (pa_cons (pv 1) (pa_cons (pe_bltn (v := .ty "int") (by rfl) T.int (by decide +kernel) rfl) pa_nil))))
      (pss_one (ps_ret (pe_and (C8.pe_c c_is_whole hr (by omega) (by rfl) (pa_cons (pv 0) pa_nil)) (pe_one (pe_cmpR op_eq (pv 0) (pv 1) (nomark _))))))
      pss_nil))
      (pss_cons (ps_mk (ps_if (pt_val (pe_callB is_str (by rfl) T.isinstance (by decide +kernel) (pa_cons (pv 1) (pa_cons (pe_bltn (v := .ty "str") (by rfl) T.str (by decide +kernel) rfl) pa_nil))))
      (pss_one (ps_ret (pe_and (pe_callB is_str (by rfl) T.isinstance (by decide +kernel) (pa_cons (pv 0) (pa_cons (pe_bltn (v := .ty "str") (by rfl) T.str (by decide +kernel) rfl) pa_nil))) (pe_one (pe_cmpR op_eq (pv 0) (pv 1) (nomark _))))))
      pss_nil))
      (pss_one (ps_ret (pe_and (pe_cmpR op_isN (pv 0) pe_non (nomark _)) (pe_one (pe_cmpR op_isN (pv 1) pe_non (nomark _)))))))))), ?_⟩
  refine jn (M := fun σ H' => Same H H' ∧ σ = [some x, some y, none] ∧ (isL e || isT e) = false) ?_ (fun N kk => ?_)
  · rintro σ H1 ⟨s1, rfl, hf⟩
    have hx1 := Dh.mono s1 _ _ hx
    have hy1 := Dh.mono s1 _ _ hy
    clear hx hy he
    cases e with
    | list es => cases hf
    | tuple es => cases hf
    | dict kvs => exact False.elim hy1
    | none =>
      cases (show y = V.non from hy1)
      cases d
      case dict => exact False.elim hx1
      all_goals first | (obtain ⟨_, _, e1, _, _⟩ := id hx1; cases e1) | (cases (show x = _ from hx1))
      all_goals repeat (first | refine un ?_ | walk_at "st")
      all_goals exact q _ _ (by simp) s1
    | bool c =>
      cases (show y = V.bl c from hy1)
      cases d
      case dict => exact False.elim hx1
      all_goals first | (obtain ⟨_, _, e1, _, _⟩ := id hx1; cases e1) | (cases (show x = _ from hx1))
      all_goals repeat (first | refine un ?_ | walk_at "st")
      all_goals exact q _ _ (by simp) s1
    | int c =>
      cases (show y = V.int c from hy1)
      cases d
      case dict => exact False.elim hx1
      all_goals first | (obtain ⟨_, _, e1, _, _⟩ := id hx1; cases e1) | (cases (show x = _ from hx1))
      all_goals repeat (first | refine un ?_ | walk_at "st")
      all_goals first | exact q _ _ (by simp) s1 | skip
      all_goals refine ⟨_, _, rfl, hx1, ?_⟩
      all_goals repeat (first | refine un ?_ | walk_at "st")
      all_goals exact q _ _ (by simp) s1
    | str c =>
      cases (show y = V.str c from hy1)
      cases d
      case dict => exact False.elim hx1
      all_goals first | (obtain ⟨_, _, e1, _, _⟩ := id hx1; cases e1) | (cases (show x = _ from hx1))
      all_goals repeat (first | refine un ?_ | walk_at "st")
      all_goals exact q _ _ (by simp) s1
  · walk_at "go"
    refine ⟨sz, fun p hp => ?_⟩
    refine ⟨_, _, _, rfl, upd_same, Dh.mono (same_upd hp) _ _ hy, ?_⟩
    walk_at "go"
    have s1 : Same H (upd H p (.tup [.ty "list", .ty "tuple"])) := same_upd hp
    have hx1 := Dh.mono s1 _ _ hx
    have hy1 := Dh.mono s1 _ _ hy
    cases hf : (isL e || isT e) with
    | false =>
      refine ifBF rfl ?_
      exact kk _ _ ⟨s1, rfl, hf⟩
    | true =>
      refine ifBT rfl ?_
      generalize upd H p (HO.tup [V.ty "list", V.ty "tuple"]) = H1 at *
      clear hx hy kk hp
      walk_at "go"
      refine jn (M := fun σ H2 => Same H1 H2 ∧ ∃ a c xs ys ds es, σ = [sR a, sR c, none] ∧ (SqL K H2 a xs ∨ SqT K H2 a xs) ∧ (SqL K H2 c ys ∨ SqT K H2 c ys) ∧ DhAll H2 ds xs ∧ DhAll H2 es ys ∧ es.length ≤ 100000 ∧ (∀ e' ∈ es, Dle n e') ∧ (d = e ↔ ds = es)) ?_ (fun N2 k2 => ?_)
      · rintro σ H2 ⟨s2, a, c, xs, ys, ds, es, rfl, hA, hC, hds, hes, hlen, hle, hiff⟩
        have lx := hds.len
        have ly := hes.len
        walk_at "go"
        refine jn (M := fun σ H3 => H3 = H2 ∧ σ = [sR a, sR c, none] ∧ ds.length = es.length) ?_ (fun N3 k3 => ?_)
        · rintro σ H3 ⟨rfl, rfl, el⟩
          walk_at "go"
          refine ⟨by omega, by omega, fun L hL => lc_range (lo := 0) (n := ((ys.length : Nat) : Int).toNat)
            (fun i H' => Ob (Same H3 H' ∧ ∃ acc, H' L = some (.lst acc) ∧ acc.length ≤ i ∧ (acc = [] ↔ ds.take i = es.take i))) (ob ⟨same_upd hL, [], upd_same, Nat.le_refl _, by simp⟩) ?_ ?_⟩
          · intro i H4 hi h4
            obtain ⟨s4, acc, g4, l4, e4⟩ := unob h4
            have hi2 : i < es.length := by omega
            have hi3 : i < ds.length := by omega
            obtain ⟨xv, ex, dx⟩ := hds.get (List.getElem?_eq_getElem hi3)
            obtain ⟨yv, ey, dy⟩ := hes.get (List.getElem?_eq_getElem hi2)
            have tk := take_succ_eq (List.getElem?_eq_getElem hi3) (List.getElem?_eq_getElem hi2)
            have ax : atI xs (0 + (i : Int)) = some xv := by
              rw [Int.zero_add]
              exact atI_nat ex
            have ay : atI ys (0 + (i : Int)) = some yv := by
              rw [Int.zero_add]
              exact atI_nat ey
            refine ⟨rfl, ?_⟩
            walk_at "go"
            refine ixAny (sqAny s4 hA) ax ?_
            walk_at "go"
            refine ixAny (sqAny s4 hC) ay ?_
            walk_at "go"
            refine ⟨_, _, _, _, rfl, Dh.mono s4 _ _ dx, Dh.mono s4 _ _ dy, hle _ (List.getElem_mem hi2), fun b5 H5 hb s5 => ?_⟩
            walk_at "go"
            refine ifN ?_
            cases b5 with
            | true =>
              refine ifBT rfl (ob ⟨s4.trans s5, acc, s5 _ _ g4, Nat.le_succ_of_le l4, ?_⟩)
              rw [e4, tk]
              exact ⟨fun z => ⟨z, hb.mp rfl⟩, fun z => z.1⟩
            | false =>
              refine ifBF rfl ?_
              walk_at "go"
              refine ⟨acc, s5 _ _ g4, sz5 (by omega), ob ⟨same_put (s4.trans s5) hL, _, upd_same, ?_, ?_⟩⟩
              · rw [List.length_append]
                exact Nat.add_le_add_right l4 1
              · constructor
                · intro z
                  exact absurd (congrArg List.length z) (by rw [List.length_append]; simp)
                · intro z
                  exact absurd (hb.mpr (tk.mp z).2) Bool.false_ne_true
          · intro H4 h4
            obtain ⟨s4, acc, g4, l4, e4⟩ := unob h4
            walk_at "go"
            refine q _ _ ?_ ((s1.trans s2).trans s4)
            rw [hiff]
            have et : ((ys.length : Nat) : Int).toNat = es.length := by omega
            rw [et, List.take_of_length_le (by omega), List.take_of_length_le (Nat.le_refl _)] at e4
            rw [← e4, decide_eq_true_iff]
            constructor
            · intro z
              have z2 := V.int.inj z
              exact List.eq_nil_of_length_eq_zero (by omega)
            · intro z
              rw [z]
              rfl
        · walk_at "go"
          refine ifNe (fun z => ?_) (fun z => ?_)
          · walk_at "go"
            refine q _ _ ?_ (s1.trans s2)
            rw [hiff]
            constructor
            · intro h
              cases h
            · intro h
              rw [h] at lx
              omega
          · walk_at "go"
            exact k3 _ _ ⟨rfl, rfl, by omega⟩
      · walk_at "go"
        refine ⟨sz, fun p2 hp2 => ?_⟩
        have s2 : Same H1 (upd H1 p2 (HO.tup [V.ty "list", V.ty "tuple"])) := same_upd hp2
        refine ⟨_, _, _, rfl, upd_same, Dh.mono s2 _ _ hx1, ?_⟩
        have hx2 := Dh.mono s2 _ _ hx1
        have hy2 := Dh.mono s2 _ _ hy1
        walk_at "go"
        generalize upd H1 p2 (HO.tup [V.ty "list", V.ty "tuple"]) = H2 at *
        clear hp2
        cases e with
        | none => cases hf
        | bool _ => cases hf
        | int _ => cases hf
        | str _ => cases hf
        | dict kvs => cases hf
        | list es =>
          obtain ⟨c, ys, rfl, gy, hes⟩ := id hy2
          cases d
          case dict => exact False.elim hx2
          case list ds =>
            obtain ⟨a, xs, rfl, gx, hds⟩ := id hx2
            walk_at "go"
            exact k2 _ _ ⟨s2, _, _, _, _, ds, es, rfl, .inl (.inl (.inl gx)), .inl (.inl (.inl gy)), hds, hes, he.1, he.2, by simp⟩
          all_goals walk_at "go"
          all_goals exact q _ _ (by simp) (s1.trans s2)
        | tuple es =>
          obtain ⟨c, ys, rfl, gy, hes⟩ := id hy2
          cases d
          case dict => exact False.elim hx2
          case tuple ds =>
            obtain ⟨a, xs, rfl, gx, hds⟩ := id hx2
            walk_at "go"
            exact k2 _ _ ⟨s2, _, _, _, _, ds, es, rfl, .inr (.inl (.inl gx)), .inr (.inl (.inl gy)), hds, hes, he.1, he.2, by simp⟩
          all_goals walk_at "go"
          all_goals exact q _ _ (by simp) (s1.trans s2)
theorem ok_same {f : Addr} {fd : FuncData} (D : Def K mg "_law_same" s_same f fd) (b : Binds K fd ["_law_told", "_law_due"] []) (T : Txt mg) (c_is_whole : Cal P w K mg base 1 "_law_is_whole" spWhole []) :
    ∀ n, Cal P w K mg base (n + 1) "_law_same" (spSame n) []
  | 0 => by
    have no : ∀ vs H Q E, ¬ spSame 0 vs H Q E := fun vs H Q E h => by
      obtain ⟨x, y, d, e, _, _, _, h1, _⟩ := h
      exact h1
    exact ⟨f, fd, _, _, ⟨fun vs H Q E h => absurd h (no vs H Q E), fun A outer s H args us vs Q E _ _ _ _ h => absurd h (no vs H Q E)⟩, D.mgf, D.kp, b, .nil⟩
  | n + 1 => ok_same_step D b T c_is_whole (ok_same D b T c_is_whole n)
end

end

section

-- a condition of an operator
local macro_rules | `(tactic| walk_at "cond") => `(tactic| first
  | (show (0 : Int) < _; omega)
  | (show CDiv _ _; constructor <;> (first | decide | omega))
  | (show CMul _ _; first | (refine cmul_l ?_; constructor <;> (first | decide | omega)) | (refine cmul_r ?_; constructor <;> (first | decide | omega)))
  | (show CPow _ _; exact (by refine ⟨by decide, by decide, by decide⟩))
  | (show CDivW _ _; exact ⟨by decide, by decide +kernel⟩))
local macro_rules | `(tactic| walk_at "sq") => `(tactic| first | assumption | exact Dh.mono (same_upd (by assumption)) _ _ (by assumption) | exact .inl (.inl (.inl (by assumption))) | exact .inr (.inl (.inl (by assumption))) | exact SqL.of (by assumption) | exact .inl (by assumption) | exact .inl (SqL.of (by assumption)) | exact SqT.of (by assumption) | exact .inr (SqT.of (by assumption)))
local macro_rules | `(tactic| walk_at "st") => `(tactic| first
  | refine ⟨_, rfl, ?_⟩
  | refine ⟨_, _, rfl, rfl, ?_⟩
  | refine .inl ⟨_, rfl, ?_⟩
  | refine ⟨rfl, ?_⟩
  | refine ⟨_, _, rfl, by walk_at "sq", ?_⟩
  | refine ⟨.inl ⟨rfl, _, SqL.of (by assumption)⟩, ?_⟩
  | refine ⟨by walk_at "cond", ?_⟩
  | (refine' ifBT ?hh ?_; (case hh => first | rfl | assumption))
  | (refine' ifBF ?hh ?_; (case hh => first | rfl | assumption)))
local macro_rules | `(tactic| walk_at "go") => `(tactic| repeat walk_at "st")
local macro_rules | `(tactic| walk_at "yes") => `(tactic| (refine' ifT ?hh ?_; (case hh => first | rfl | decide +kernel)))
local macro_rules | `(tactic| walk_at "no") => `(tactic| (refine' ifF ?hh ?_; (case hh => first | decide +kernel | (intro z; cases z; done))))

local macro_rules | `(tactic| walk_at "st") => `(tactic| refine ⟨_, _, _, _, _, rfl, by assumption, by assumption, by omega, by omega, by omega, by omega, by omega, ?_⟩)
local macro_rules | `(tactic| walk_at "st") => `(tactic| refine ⟨_, _, _, _, _, rfl, Same.seq (by assumption) (by assumption), by assumption, by omega, by omega, by omega, by omega, by omega, ?_⟩)

/-! ### _law_thing, _law_change_of, _law_kinds, _law_safe, change_kind, is_safe -/
abbrev s_thing : Stmt := topS 14
theorem sc_thing : FnScope ["_law_script", "_law_at", "_law_k", "_law_number_here", "_law_kind", "_law_word", "_law_rest", "_law_step"] ["_law_script", "_law_at", "_law_k"] (C8.fnScope s_thing) := C8.fnScope_by (by decide +kernel)
def strOkk (x : Str) : Prop := PyData.canLay0 (.str x) = true
theorem okk_nil : strOkk "" := by
  show PyData.canLay0 (.str "") = true
  decide +kernel
theorem okk_one : strOkk "1" := by
  show PyData.canLay0 (.str "1") = true
  decide +kernel
theorem okk_app {x : Str} {c : Nat} (h : strOkk x) (hc : c < 0x110000) : strOkk (x ++ ⟨#[c]⟩) := by
  have h2 : x.cps.all (· < 0x110000) = true := h
  show (x ++ (⟨#[c]⟩ : Str)).cps.all (· < 0x110000) = true
  rw [Str.cps_append, Array.all_append, h2]
  simpa using hc
/-- what _law_thing may give: ints, texts, tuples of these, never a bool -/
def Flat1 : PyData → Prop
  | .int _ => True
  | .str x => strOkk x
  | _ => False
def Thing : PyData → Prop
  | .int _ => True
  | .str x => strOkk x
  | .tuple ds => ds.length ≤ 3 ∧ ∀ d ∈ ds, Flat1 d
  | _ => False
theorem ab1 (j : Int) (h0 : 0 ≤ j) (h1 : j < 3) : ∃ c, atI ("ab1" : Str).cps.toList j = some c ∧ c < 0x110000 := by
  have h : j = 0 ∨ j = 1 ∨ j = 2 := by omega
  rcases h with rfl | rfl | rfl
  · exact ⟨97, by decide +kernel, by decide⟩
  · exact ⟨98, by decide +kernel, by decide⟩
  · exact ⟨49, by decide +kernel, by decide⟩
def spThing (K : PySem.W.Frag) : Sp := fun vs H Q _ => ∃ (a : Addr) (ns : List Int) (i k : Int), vs = [.ref a, .int i, .int k] ∧ SqL K H a (ns.map V.int) ∧ ns.length ≤ 63 ∧
  0 ≤ i ∧ i ≤ 1000000 ∧ 0 ≤ k ∧ k ≤ 1000000 ∧ ∀ (v : V) (d : PyData) (H' : Hp), Same H H' → Dh H' d v → Thing d → Q v H'
section
variable {P : Program} {w : World} {K : PySem.W.Frag} {mg : Str → Option Value} {base : Heap}
theorem ok_thing {f : Addr} {fd : FuncData} (D : Def K mg "_law_thing" s_thing f fd) (b : Binds K fd ["_law_script", "_law_at", "_law_k"] []) (T : Txt mg) (c_number : Cal P w K mg base 1 "_law_number" (spNum K) []) : Cal P w K mg base 2 "_law_thing" (spThing K) [] := by
  refine cal0 D b .nil sc_thing (fun vs H Q E h => ?_) (fun cdv A outer s H vs Q E hr h => ?_)
  · obtain ⟨a, ns, i, k, rfl, _⟩ := h
    rfl
  obtain ⟨a, ns, i, k, rfl, hS, hl, i0, i1, k0, k1, q⟩ := h
  refine ⟨_, (pss_cons (ps_set (i := 3) sc_thing.nd rfl (.inl rfl) (C8.pe_c c_number hr (by omega) (by rfl) (pa_cons (pv 0) (pa_cons (pv 1) (pa_cons (pv 2) (pa_cons pe_int pa_nil))))))
      (pss_cons (ps_set (i := 4) sc_thing.nd rfl (.inl rfl) (C8.pe_c c_number hr (by omega) (by rfl) (pa_cons (pv 0) (pa_cons (pv 1) (pa_cons (pe_op op_add (pv 2) pe_int) (pa_cons pe_int pa_nil))))))
      (pss_cons (ps_set (i := 5) sc_thing.nd rfl (.inl rfl) pe_str)
      (pss_cons (ps_set (i := 6) sc_thing.nd rfl (.inl rfl) (pe_op op_fdiv (pv 3) pe_int))
      (pss_cons (ps_mk (ps_for PassesOwn.never rfl (pi_range1 (by rfl) T.range (pa_cons (pe_op op_mod (pe_callTy call_int1 (by rfl) T.int (by decide +kernel) (pa_cons (pv 3) pa_nil)) pe_int) pa_nil)) (pg_name (i := 7) sc_thing.nd rfl (.inl rfl))
      (pss_cons (ps_set (i := 5) sc_thing.nd rfl (.inl rfl) (pe_op op_add_str (pv 5) (pe_ix ix_str pe_str (pe_op op_mod (pe_callTy call_int1 (by rfl) T.int (by decide +kernel) (pa_cons (pv 6) pa_nil)) pe_int) (fun _ _ => rfl))))
      (pss_one (ps_set (i := 6) sc_thing.nd rfl (.inl rfl) (pe_op op_fdiv (pv 6) pe_int))))))
      (pss_cons (ps_mk (ps_if (pt_cmpR op_lt (pv 4) pe_int (nomark _))
      (pss_one (ps_ret (pe_op op_mod (pe_callTy call_int1 (by rfl) T.int (by decide +kernel) (pa_cons (pv 3) pa_nil)) pe_int)))
      pss_nil))
      (pss_cons (ps_mk (ps_if (pt_cmpR op_eq (pv 4) pe_int (nomark _))
      (pss_one (ps_ret (pe_op op_add (pe_op op_mul (pv 3) (pe_op op_pow pe_int pe_int)) pe_int)))
      pss_nil))
      (pss_cons (ps_mk (ps_if (pt_cmpR op_eq (pv 4) pe_int (nomark _))
      (pss_one (ps_ret (pe_op op_sub (pe_un un_neg pe_int) (pv 3))))
      pss_nil))
      (pss_cons (ps_mk (ps_if (pt_cmpR op_lt (pv 4) pe_int (nomark _))
      (pss_one (ps_ret (pv 5)))
      pss_nil))
      (pss_cons (ps_mk (ps_if (pt_cmpR op_eq (pv 4) pe_int (nomark _))
      (pss_one (ps_ret (pe_tup (pa_cons (pe_op op_mod (pe_callTy call_int1 (by rfl) T.int (by decide +kernel) (pa_cons (pv 3) pa_nil)) pe_int) pa_nil))))
      pss_nil))
      (pss_cons (ps_mk (ps_if (pt_cmpR op_eq (pv 4) pe_int (nomark _))
      (pss_one (ps_ret (pe_tup (pa_cons (pv 5) (pa_cons (pe_op op_fdiv (pv 3) pe_int) pa_nil)))))
      pss_nil))
      (pss_one (ps_ret (pe_ix (ixL K rfl) (pe_lst (pa_cons (pe_tup pa_nil) (pa_cons (pe_tup (pa_cons (pv 5) pa_nil)) (pa_cons (pe_tup (pa_cons (pv 5) (pa_cons (pv 5) pa_nil))) (pa_cons (pe_tup (pa_cons pe_int (pa_cons pe_str (pa_cons (pv 5) pa_nil)))) pa_nil))))) (pe_op op_mod (pe_callTy call_int1 (by rfl) T.int (by decide +kernel) (pa_cons (pe_op op_fdiv (pv 3) pe_int) pa_nil)) pe_int) (fun _ _ => rfl))))))))))))))), ?_⟩
  have r0 : 0 ≤ num ns i k 1000 := num_nn (by decide)
  have r1 : num ns i k 1000 < 1000 := num_lt (by decide)
  walk_at "go"
  refine jn (M := fun σ H' => H' = H ∧ ∃ z y6 y7, strOkk z ∧ z.length ≤ 3 ∧ σ = [sR a, sI i, sI k, sI (num ns i k 1000), sI (num ns i (k + 1) 9), sS z, y6, y7]) ?_ (fun N kk => ?_)
  · rintro σ H' ⟨rfl, z, y6, y7, ok, hz, rfl⟩
    generalize num ns i k 1000 = r at *
    generalize num ns i (k + 1) 9 = m at *
    walk_at "go"
    refine jn (M := fun σ H2 => H2 = H' ∧ σ = [sR a, sI i, sI k, sI r, sI m, sS z, y6, y7]) ?_ (fun N k2 => ?_)
    rotate_left
    · walk_at "go"
      refine ifD (fun c => ?_) (fun c => ?_)
      · walk_at "go"
        exact q _ (.int _) _ same_rfl rfl trivial
      · walk_at "go"
        exact k2 _ _ ⟨rfl, rfl⟩
    rintro σ H2 ⟨rfl, rfl⟩
    walk_at "go"
    refine jn (M := fun σ H3 => H3 = H2 ∧ σ = [sR a, sI i, sI k, sI r, sI m, sS z, y6, y7]) ?_ (fun N k2 => ?_)
    rotate_left
    · walk_at "go"
      refine ifEq (fun c => ?_) (fun c => ?_)
      · walk_at "go"
        exact q _ (.int _) _ same_rfl rfl trivial
      · walk_at "go"
        exact k2 _ _ ⟨rfl, rfl⟩
    rintro σ H3 ⟨rfl, rfl⟩
    walk_at "go"
    refine jn (M := fun σ H2 => H2 = H3 ∧ σ = [sR a, sI i, sI k, sI r, sI m, sS z, y6, y7]) ?_ (fun N k2 => ?_)
    rotate_left
    · walk_at "go"
      refine ifEq (fun c => ?_) (fun c => ?_)
      · walk_at "go"
        exact q _ (.int _) _ same_rfl rfl trivial
      · walk_at "go"
        exact k2 _ _ ⟨rfl, rfl⟩
    rintro σ H2 ⟨rfl, rfl⟩
    walk_at "go"
    refine jn (M := fun σ H3 => H3 = H2 ∧ σ = [sR a, sI i, sI k, sI r, sI m, sS z, y6, y7]) ?_ (fun N k2 => ?_)
    rotate_left
    · walk_at "go"
      refine ifD (fun c => ?_) (fun c => ?_)
      · walk_at "go"
        exact q _ (.str _) _ same_rfl rfl ok
      · walk_at "go"
        exact k2 _ _ ⟨rfl, rfl⟩
    rintro σ H3 ⟨rfl, rfl⟩
    walk_at "go"
    refine jn (M := fun σ H2 => H2 = H3 ∧ σ = [sR a, sI i, sI k, sI r, sI m, sS z, y6, y7]) ?_ (fun N k2 => ?_)
    rotate_left
    · walk_at "go"
      refine ifEq (fun c => ?_) (fun c => ?_)
      · walk_at "go"
        refine ⟨sz, fun p hp => ?_⟩
        exact q _ (.tuple [.int _]) _ (same_upd hp) ⟨p, _, rfl, upd_same, ⟨_, _, rfl, rfl, rfl⟩⟩ ⟨by simp, by simp [Flat1, ok, okk_one]⟩
      · walk_at "go"
        exact k2 _ _ ⟨rfl, rfl⟩
    rintro σ H2 ⟨rfl, rfl⟩
    walk_at "go"
    refine jn (M := fun σ H3 => H3 = H2 ∧ σ = [sR a, sI i, sI k, sI r, sI m, sS z, y6, y7]) ?_ (fun N k2 => ?_)
    rotate_left
    · walk_at "go"
      refine ifEq (fun c => ?_) (fun c => ?_)
      · walk_at "go"
        refine ⟨sz, fun p hp => ?_⟩
        exact q _ (.tuple [.str _, .int _]) _ (same_upd hp) ⟨p, _, rfl, upd_same, ⟨_, _, rfl, rfl, _, _, rfl, rfl, rfl⟩⟩ ⟨by simp, by simp [Flat1, ok, okk_one]⟩
      · walk_at "go"
        exact k2 _ _ ⟨rfl, rfl⟩
    rintro σ H3 ⟨rfl, rfl⟩
    walk_at "go"
    refine ⟨sz, fun p0 h0 => ?_⟩
    walk_at "go"
    refine ⟨sz, fun p1 h1 => ?_⟩
    walk_at "go"
    refine ⟨sz, fun p2 h2 => ?_⟩
    walk_at "go"
    refine ⟨sz, fun p3 h3 => ?_⟩
    walk_at "go"
    refine ⟨sz, fun p4 h4 => ?_⟩
    walk_at "go"
    have s0 := same_upd (o := HO.tup []) h0
    have s1 := same_upd (o := HO.tup [V.str z]) h1
    have s2 := same_upd (o := HO.tup [V.str z, V.str z]) h2
    have s3 := same_upd (o := HO.tup [V.int 1, V.str "1", V.str z]) h3
    have s4 := same_upd (o := HO.lst [V.ref p0, V.ref p1, V.ref p2, V.ref p3]) h4
    have hS5 := SqL.of (K := K) (xs := [V.ref p0, V.ref p1, V.ref p2, V.ref p3]) (upd_same (H := (upd (upd (upd (upd H3 p0 (HO.tup [])) p1 (HO.tup [V.str z])) p2 (HO.tup [V.str z, V.str z])) p3 (HO.tup [V.int 1, V.str "1", V.str z]))) (a := p4))
    obtain ⟨j, hj⟩ : ∃ j, j = r / 108 % 4 := ⟨_, rfl⟩
    have j4 : j = 0 ∨ j = 1 ∨ j = 2 ∨ j = 3 := by omega
    rcases j4 with e | e | e | e
    · refine ⟨_, _, _, V.ref p0, rfl, rfl, hS5, (by rw [← hj, e]; rfl), ?_⟩
      exact q _ (.tuple []) _ (s0.trans (s1.trans (s2.trans (s3.trans s4)))) ⟨p0, _, rfl, s4 _ _ (s3 _ _ (s2 _ _ (s1 _ _ upd_same))), rfl⟩ ⟨by decide, by simp⟩
    · refine ⟨_, _, _, V.ref p1, rfl, rfl, hS5, (by rw [← hj, e]; rfl), ?_⟩
      exact q _ (.tuple [.str z]) _ (s0.trans (s1.trans (s2.trans (s3.trans s4)))) ⟨p1, _, rfl, s4 _ _ (s3 _ _ (s2 _ _ upd_same)), ⟨_, _, rfl, rfl, rfl⟩⟩ ⟨by simp, by simp [Flat1, ok, okk_one]⟩
    · refine ⟨_, _, _, V.ref p2, rfl, rfl, hS5, (by rw [← hj, e]; rfl), ?_⟩
      exact q _ (.tuple [.str z, .str z]) _ (s0.trans (s1.trans (s2.trans (s3.trans s4)))) ⟨p2, _, rfl, s4 _ _ (s3 _ _ upd_same), ⟨_, _, rfl, rfl, _, _, rfl, rfl, rfl⟩⟩ ⟨by simp, by simp [Flat1, ok, okk_one]⟩
    · refine ⟨_, _, _, V.ref p3, rfl, rfl, hS5, (by rw [← hj, e]; rfl), ?_⟩
      exact q _ (.tuple [.int 1, .str "1", .str z]) _ (s0.trans (s1.trans (s2.trans (s3.trans s4)))) ⟨p3, _, rfl, s4 _ _ upd_same, ⟨_, _, rfl, rfl, _, _, rfl, rfl, _, _, rfl, rfl, rfl⟩⟩ ⟨by simp, by simp [Flat1, ok, okk_one]⟩
  · walk_at "go"
    refine ⟨by omega, by omega, for_range (lo := 0) (n := (num ns i k 1000 % 4).toNat) (fun j σ H' => Ob (H' = H ∧ ∃ z r y7, strOkk z ∧ z.length ≤ j ∧ 0 ≤ r ∧ σ = [sR a, sI i, sI k, sI (num ns i k 1000), sI (num ns i (k + 1) 9), sS z, sI r, y7])) (ob ⟨rfl, _, _, none, okk_nil, Nat.le_refl 0, Int.ediv_nonneg r0 (by decide), rfl⟩) ?_ ?_⟩
    · rintro j σ H' hj h
      obtain ⟨rfl, z, r, y7, ok, hz, hr0, rfl⟩ := unob h
      obtain ⟨c, hc, hc2⟩ := ab1 (r % 3) (by omega) (by omega)
      walk_at "go"
      refine ⟨_, _, c, rfl, rfl, by decide +kernel, hc, ?_⟩
      walk_at "go"
      have l1 : (⟨#[c]⟩ : Str).length = 1 := rfl
      refine ⟨by rw [l1]; exact Nat.le_of_lt (sz5 (by omega)), ?_⟩
      walk_at "go"
      exact ob ⟨rfl, _, _, _, okk_app ok hc2, by rw [Str.length_append, l1]; omega, Int.ediv_nonneg hr0 (by decide), rfl⟩
    · rintro σ H' h
      obtain ⟨rfl, z, r, y7, ok, hz, hr0, rfl⟩ := unob h
      exact kk _ _ ⟨rfl, z, _, _, ok, by omega, rfl⟩
end
/-- a datum or None -/
def Opt (d : PyData) : Prop := d = .none ∨ Thing d
mutual
theorem eqv_flat : ∀ {d e : PyData}, Flat1 d → Flat1 e → (PyData.eqv d e = true ↔ d = e)
  | .int i, .int j, _, _ => by
    show (i == j) = true ↔ _
    simp
  | .str i, .str j, _, _ => by
    show (i == j) = true ↔ _
    simp
  | .int i, .str j, _, _ => by simp [PyData.eqv]
  | .str i, .int j, _, _ => by simp [PyData.eqv]
end
theorem eqv_flats : ∀ {ds es : List PyData}, (∀ d ∈ ds, Flat1 d) → (∀ d ∈ es, Flat1 d) → (PyData.eqvAll ds es = true ↔ ds = es)
  | [], [], _, _ => by simp [PyData.eqvAll]
  | [], _ :: _, _, _ => by simp [PyData.eqvAll]
  | _ :: _, [], _, _ => by simp [PyData.eqvAll]
  | d :: ds, e :: es, h1, h2 => by
    show (PyData.eqv d e && PyData.eqvAll ds es) = true ↔ _
    rw [Bool.and_eq_true, eqv_flat (h1 d List.mem_cons_self) (h2 e List.mem_cons_self), eqv_flats (fun x hx => h1 x (List.mem_cons_of_mem _ hx)) (fun x hx => h2 x (List.mem_cons_of_mem _ hx))]
    simp
theorem eqv_thing {d e : PyData} (h1 : Opt d) (h2 : Opt e) : PyData.eqv d e = true ↔ d = e := by
  cases d with
  | none => cases e <;> simp [PyData.eqv]
  | bool _ => exact (h1.resolve_left (by simp)).elim
  | list _ => exact (h1.resolve_left (by simp)).elim
  | dict _ => exact (h1.resolve_left (by simp)).elim
  | int i =>
    cases e with
    | bool _ => exact (h2.resolve_left (by simp)).elim
    | _ => simp [PyData.eqv]
  | str i =>
    cases e with
    | bool _ => exact (h2.resolve_left (by simp)).elim
    | _ => simp [PyData.eqv]
  | tuple ds =>
    cases e with
    | bool _ => exact (h2.resolve_left (by simp)).elim
    | tuple es =>
      have h3 := h1.resolve_left (by simp)
      have h4 := h2.resolve_left (by simp)
      show PyData.eqvAll ds es = true ↔ _
      rw [eqv_flats h3.2 h4.2]
      simp
    | _ => simp [PyData.eqv]
theorem flat_lay {d : PyData} (h : Flat1 d) : d.canLay0 = true ∧ d.depth = 0 := by
  cases d with
  | int i => exact ⟨rfl, rfl⟩
  | str x => exact ⟨h, rfl⟩
  | _ => exact h.elim
theorem flats_lay : ∀ {ds : List PyData}, (∀ d ∈ ds, Flat1 d) → PyData.canLayAll0 ds = true ∧ PyData.depthAll ds = 0
  | [], _ => ⟨rfl, rfl⟩
  | d :: ds, h => by
    have h1 := flat_lay (h d List.mem_cons_self)
    have h2 := flats_lay (ds := ds) fun x hx => h x (List.mem_cons_of_mem _ hx)
    exact ⟨by show (d.canLay0 && PyData.canLayAll0 ds) = true; rw [h1.1, h2.1]; rfl, by show max d.depth (PyData.depthAll ds) = 0; rw [h1.2, h2.2]; rfl⟩
theorem shaped_opt {d : PyData} (h : Opt d) : SeqAt.shaped d = true := by
  cases d with
  | none => rfl
  | bool _ => exact (h.resolve_left (by simp)).elim
  | list _ => exact (h.resolve_left (by simp)).elim
  | dict _ => exact (h.resolve_left (by simp)).elim
  | int i => rfl
  | str x =>
    have h3 : PyData.canLay0 (.str x) = true := h.resolve_left (by simp)
    show (PyData.canLay0 (.str x) && decide (PyData.depth (.str x) ≤ 64)) = true
    rw [h3]
    rfl
  | tuple ds =>
    have h3 := flats_lay (h.resolve_left (by simp)).2
    show (PyData.canLayAll0 ds && decide (PyData.depthAll ds + 1 ≤ 64)) = true
    rw [h3.1, h3.2]
    rfl
theorem dle_opt {d : PyData} (h : Opt d) : Dle 2 d := by
  cases d with
  | none => trivial
  | bool _ => trivial
  | list _ => exact (h.resolve_left (by simp)).elim
  | dict _ => exact (h.resolve_left (by simp)).elim
  | int i => trivial
  | str x => trivial
  | tuple ds =>
    have h3 := h.resolve_left (by simp)
    refine ⟨Nat.le_trans h3.1 (by decide), fun e he => ?_⟩
    have h4 := h3.2 e he
    cases e with
    | int i => trivial
    | str i => trivial
    | _ => exact h4.elim
theorem dle_strs {ss : List Str} (h : ss.length ≤ 1000) : Dle 2 (.list (ss.map PyData.str)) := by
  refine ⟨by rw [List.length_map]; omega, fun e he => ?_⟩
  obtain ⟨x, _, rfl⟩ := List.mem_map.mp he
  trivial
theorem dh_strs {H : Hp} : ∀ (ss : List Str), DhAll H (ss.map PyData.str) (ss.map V.str)
  | [] => rfl
  | s :: ss => ⟨.str s, ss.map V.str, rfl, rfl, dh_strs ss⟩
theorem Dh.non_iff {H : Hp} : ∀ {d : PyData} {x : V}, Dh H d x → (x = .non ↔ d = .none)
  | .none, x, h => by simp [show x = .non from h]
  | .bool b, x, h => by simp [show x = .bl b from h]
  | .int b, x, h => by simp [show x = .int b from h]
  | .str b, x, h => by simp [show x = .str b from h]
  | .list ds, x, h => by
    obtain ⟨a, xs, e, _⟩ := h
    simp [e]
  | .tuple ds, x, h => by
    obtain ⟨a, xs, e, _⟩ := h
    simp [e]
  | .dict _, x, h => False.elim h

end

/-! ### dictionaries whose keys are whole numbers, texts and tuples of such, in one -/
namespace Mx
open PySem
/-- a row: the key, where it stands, the value -/
abbrev MR := NestedKey × Value × Value
def ent (w : World) (r : MR) : DictEntry := ⟨r.1.hash w, r.2.1, r.2.2⟩
structure Ks (h : Heap) (rs : List MR) : Prop where
  is : ∀ r ∈ rs, NestedIs h r.1 r.2.1 ∧ r.1.depth ≤ 8
  nd : (rs.map (·.1)).Nodup
theorem Ks.one {h : Heap} {rs : List MR} (ks : Ks h rs) {i j : Nat} {k : NestedKey} {p q : Value × Value} (hi : rs[i]? = some (k, p)) (hj : rs[j]? = some (k, q)) : i = j := by
  have e1 : (rs.map (·.1))[i]? = some k := by rw [List.getElem?_map, hi]; rfl
  have e2 : (rs.map (·.1))[j]? = some k := by rw [List.getElem?_map, hj]; rfl
  obtain ⟨l1, _⟩ := List.getElem?_eq_some_iff.mp e1
  exact (List.getElem?_inj l1 ks.nd).mp (e1.trans e2.symm)
section
variable {prog : Program} {w : World} {A : Around} {E : Value → Shared → Prop} {s : Shared}
theorem mx_quiet {k : NestedKey} {key : Value} {st : List Value} {Q : Bool → Shared → Prop} (hk : NestedIs s.heap k key) (dk : k.depth ≤ 8) (hs : ∀ v ∈ st, ∃ k', NestedIs s.heap k' v ∧ k'.depth ≤ 8) (h : Q false s) : wpAny (model prog w) A (tableMayTell key st) Q E s := by
  unfold tableMayTell
  split
  · exact wpAny_pure h
  refine wpAny_bind (quiet_key k key 8 s hk dk A E _ ?_)
  simp only [Bool.not_true, Bool.false_eq_true, if_false]
  refine wpAny_bind ?_
  refine wpAny_forIn_list _ (fun us b s' => b = (none, ()) ∧ s' = s ∧ ∀ v ∈ us, ∃ k', NestedIs s.heap k' v ∧ k'.depth ≤ 8) _ ?_ ?_ _ _ ⟨rfl, rfl, hs⟩
  · rintro v us b s' ⟨rfl, rfl, hv⟩
    obtain ⟨k', h1, h2⟩ := hv v List.mem_cons_self
    refine wpAny_bind (quiet_key k' v 8 s' h1 h2 A E _ ?_)
    simp only [Bool.not_true, Bool.false_eq_true, if_false]
    exact wpAny_pure ⟨rfl, rfl, fun u hu => hv u (List.mem_cons_of_mem _ hu)⟩
  · rintro b s' ⟨rfl, rfl, _⟩
    exact wpAny_pure h
theorem mx_find {d : Addr} {o : Obj} {es : Array DictEntry} {ep : Nat} {rs : List MR} {k : NestedKey} {key : Value} {Q : Option Nat → Shared → Prop} (hu : A.units + 8 < cLine) (hk : NestedIs s.heap k key) (dk : k.depth ≤ 8)
    (ho : s.heap.get? d = some o) (hd : o.data = .dict es ep) (he : es.toList = rs.map (ent w)) (ks : Ks s.heap rs) (hn : (∀ (j : Nat) (p : Value × Value), rs[j]? ≠ some (k, p)) → Q none s) (hy : ∀ (j : Nat) (p : Value × Value), rs[j]? = some (k, p) → Q (some j) s) :
    wpAny (model prog w) A (dictFind d key (k.hash w)) Q E s := by
  have at_ : ∀ j, es[j]? = (rs[j]?).map (ent w) := fun j => by rw [← Array.getElem?_toList, he, List.getElem?_map]
  have sz : es.size = rs.length := by rw [← Array.length_toList, he, List.length_map]
  have row : ∀ j, j < es.size → ∃ k' kv v, rs[j]? = some (k', kv, v) ∧ es[j]? = some ⟨k'.hash w, kv, v⟩ ∧ NestedIs s.heap k' kv ∧ k'.depth ≤ 8 := fun j hj => by
    have hl : j < rs.length := by omega
    have e := List.getElem?_eq_getElem hl
    have m := ks.is _ (List.getElem_mem hl)
    generalize rs[j] = r at *
    exact ⟨r.1, r.2.1, r.2.2, e, by rw [at_, e]; rfl, m.1, m.2⟩
  obtain ⟨ps, hps⟩ : ∃ ps, ps = placesWithHash es.size (fun i => es[i]?.map (·.hash)) (k.hash w) := ⟨_, rfl⟩
  have psI : ∀ i ∈ ps, i < es.size := fun i hi => by
    rw [hps] at hi
    exact List.mem_range.mp (List.mem_filter.mp hi).1
  have psN : ps.Nodup := by
    rw [hps]
    exact List.Pairwise.filter _ List.nodup_range
  have psK : ∀ (j : Nat) (p : Value × Value), rs[j]? = some (k, p) → j ∈ ps := fun j p hj => by
    rw [hps]
    refine List.mem_filter.mpr ⟨List.mem_range.mpr ?_, ?_⟩
    · rw [sz]
      exact (List.getElem?_eq_some_iff.mp hj).1
    · show (es[j]?.map (·.hash) == some (k.hash w)) = true
      rw [at_, hj]
      simp [ent]
  have st : ∀ v ∈ ps.filterMap (fun i => es[i]?.map (·.key)), ∃ k', NestedIs s.heap k' v ∧ k'.depth ≤ 8 := fun v hv => by
    obtain ⟨i, hi, e⟩ := List.mem_filterMap.mp hv
    obtain ⟨k', kv, v', _, e2, q1, q2⟩ := row i (psI i hi)
    rw [e2] at e
    cases e
    exact ⟨k', q1, q2⟩
  -- one entry compared
  have cmp : ∀ {k' kv} {R : Bool → Shared → Prop}, NestedIs s.heap k' kv → k'.depth ≤ 8 → R (decide (k' = k)) s → wpAny (model prog w) A (eqBool kv key) R E s := fun {k' kv R} h1 h2 h3 =>
    eqAt_key k' k A s kv key h1 hk (by omega) _ _ _ _ (by rw [← NestedKey.decide_eq]; exact h3)
  have plain : wpAny (model prog w) A (dictWalkPlain d key (k.hash w) es ps) Q E s := by
    unfold dictWalkPlain
    refine wpAny_bind ?_
    refine wpAny_forIn_list _ (fun us b s' => b = (none, ()) ∧ s' = s ∧ (∀ i ∈ us, i < es.size) ∧ ∀ (j : Nat) (p : Value × Value), rs[j]? = some (k, p) → j ∈ us) _ ?_ ?_ _ _ ⟨rfl, rfl, psI, psK⟩
    · rintro i us b s' ⟨rfl, rfl, h1, h2⟩
      obtain ⟨k', kv, v, r1, r2, r3, r4⟩ := row i (h1 i List.mem_cons_self)
      have off : k' ≠ k → ∀ (j : Nat) (p : Value × Value), rs[j]? = some (k, p) → j ∈ us := fun z j p hj => by
        rcases List.mem_cons.mp (h2 j p hj) with y | y
        · rw [y, r1] at hj
          cases hj
          exact absurd rfl z
        · exact y
      rw [r2]
      dsimp only
      by_cases hh : (k'.hash w == k.hash w) = true
      · rw [if_pos hh]
        refine wpAny_bind (wpAny_dictEpoch ho hd (wpAny_bind (cmp r3 r4 (wpAny_bind (wpAny_dictEpoch ho hd ?_)))))
        show wpAny _ _ (if (ep != ep) = true then _ else _) _ E _
        rw [if_neg (by simp)]
        by_cases z : k' = k
        · rw [decide_eq_true z]
          subst z
          exact wpAny_bind (wpAny_rule (wpAny_pure (wpAny_pure (hy i _ r1))))
        · rw [decide_eq_false z]
          exact wpAny_bind (wpAny_rule (wpAny_pure ⟨rfl, rfl, fun j hj => h1 j (List.mem_cons_of_mem _ hj), off z⟩))
      · rw [if_neg hh]
        exact wpAny_pure ⟨rfl, rfl, fun j hj => h1 j (List.mem_cons_of_mem _ hj), off fun z => hh (by rw [z]; simp)⟩
    · rintro b s' ⟨rfl, rfl, _, h2⟩
      exact wpAny_pure (hn fun j p hj => by cases h2 j p hj)
  unfold dictFind
  try with_reducible refine wpAny_holding ?_
  refine wpAny_bind (wpAny_dictEntries ho hd ?_)
  dsimp only
  rw [← hps]
  have any_ : ¬ (es.any fun e => e.key == key && e.hash != k.hash w) = true := fun z => by
    obtain ⟨j, hj, z2⟩ := Array.any_iff_exists.mp z
    obtain ⟨hjs, _, z2⟩ := z2
    obtain ⟨k', kv, v, r1, r2, r3, r4⟩ := row j hj
    have e : es[j] = ⟨k'.hash w, kv, v⟩ := by
      have := Array.getElem?_eq_getElem hj
      rw [r2] at this
      exact (Option.some.inj this).symm
    rw [e] at z2
    obtain ⟨z3, z4⟩ := Bool.and_eq_true_iff.mp z2
    have z5 : kv = key := eq_of_beq z3
    rw [z5] at r3
    rw [NestedIs.inj _ _ _ r3 hk] at z4
    simp at z4
  generalize hst : ps.filterMap (fun i => es[i]?.map (·.key)) = stored at *
  have byText : ∀ x t, key = .str x t → (es.all fun e => isExactStrKey e.key) = true → wpAny (model prog w) A (foundByValue d key es x) Q E s := fun x t ek _ => by
    subst ek
    cases hk
    unfold foundByValue
    have same : ∀ (j : Nat) (k' : NestedKey) (kv v : Value), rs[j]? = some (k', kv, v) → NestedIs s.heap k' kv → (kv.isStr x = true ↔ k' = .text x) := fun j k' kv v _ h => by
      constructor
      · intro z
        cases h with
        | text y u =>
          have : y = x := by simpa [Value.isStr] using z
          rw [this]
        | _ => simp [Value.isStr] at z
      · rintro rfl
        cases h
        simp [Value.isStr]
    cases hf : es.findIdx? (fun e => e.key.isStr x) with
    | none =>
      refine wpAny_pure (hn fun j p hj => ?_)
      have hjl : j < es.size := by
        rw [sz]
        exact (List.getElem?_eq_some_iff.mp hj).1
      obtain ⟨k', kv, v, r1, r2, r3, _⟩ := row j hjl
      rw [r1] at hj
      cases hj
      have q1 := Array.findIdx?_eq_none_iff.mp hf _ (Array.mem_of_getElem? r2)
      have q2 := (same j _ kv v r1 r3).mpr rfl
      have q1 : kv.isStr x = false := q1
      rw [q2] at q1
      cases q1
    | some i =>
      obtain ⟨hlt, hi, _⟩ := Array.findIdx?_eq_some_iff_getElem.mp hf
      obtain ⟨k', kv, v, r1, r2, r3, _⟩ := row i hlt
      have e : es[i] = ⟨k'.hash w, kv, v⟩ := by
        have := Array.getElem?_eq_getElem hlt
        rw [r2] at this
        exact (Option.some.inj this).symm
      rw [e] at hi
      have kk := (same i k' kv v r1 r3).mp hi
      dsimp only
      rw [r2]
      dsimp only
      refine wpAny_bind (wpAny_dictEpoch ho hd (wpAny_bind (cmp r3 (by assumption) (wpAny_bind (wpAny_dictEpoch ho hd ?_)))))
      show wpAny _ _ (if (ep != ep) = true then _ else _) _ E _
      rw [if_neg (by simp), decide_eq_true kk]
      subst kk
      exact wpAny_bind (wpAny_rule (wpAny_pure (hy i _ r1)))
  have hk2 := id hk
  obtain ⟨HK, hHK⟩ : ∃ HK : Nat → Prop, ∀ j, HK j ↔ ∃ p : Value × Value, rs[j]? = some (k, p) := ⟨_, fun _ => Iff.rfl⟩
  have hn2 : (∀ j, ¬ HK j) → Q none s := fun z => hn fun j p e => z j ((hHK j).mpr ⟨p, e⟩)
  have hy2 : ∀ j, HK j → Q (some j) s := fun j z => by
    obtain ⟨p, e⟩ := (hHK j).mp z
    exact hy j p e
  have one : ∀ i j, HK i → HK j → i = j := fun i j a b => by
    obtain ⟨p, e⟩ := (hHK i).mp a
    obtain ⟨q, f⟩ := (hHK j).mp b
    exact ks.one e f
  have psK2 : ∀ j, HK j → j ∈ ps := fun j z => by
    obtain ⟨p, e⟩ := (hHK j).mp z
    exact psK j p e
  have row2 : ∀ i, i < es.size → ∃ hs kv v, es[i]? = some ⟨hs, kv, v⟩ ∧ (HK i → (hs == k.hash w) = true) ∧ ∀ R : Bool → Shared → Prop, (∀ b, (b = true ↔ HK i) → R b s) → wpAny (model prog w) A (eqBool kv key) R E s := fun i hi => by
    obtain ⟨k', kv, v, r1, r2, r3, r4⟩ := row i hi
    have iff : k' = k ↔ HK i := by
      rw [hHK, r1]
      exact ⟨fun z => ⟨_, by rw [z]⟩, fun ⟨p, e⟩ => by cases e; rfl⟩
    refine ⟨_, kv, v, r2, fun z => by rw [iff.mpr z]; simp, fun R hR => cmp r3 r4 (hR _ ?_)⟩
    rw [decide_eq_true_iff]
    exact iff
  have dk2 := dk
  clear hHK hn hy psK row cmp
  generalize k.hash w = hw at *
  cases hk
  all_goals dsimp only
  all_goals try (refine wpAny_ite_split (fun ha => byText _ _ rfl ha) (fun _ => ?_))
  all_goals refine wpAny_ite_split (fun _ => plain) (fun _ => ?_)
  all_goals try (refine wpAny_ite_split (fun z => absurd z any_) (fun _ => ?_))
  all_goals refine wpAny_ite_split (fun _ => wpAny_bind (wpAny_pure ?_)) (fun _ => wpAny_bind (mx_quiet hk2 dk st ?_))
  all_goals
    clear byText plain any_ hk2 dk2
    refine wpAny_ite_split (fun z => absurd z (by simp)) (fun _ => ?_)
    refine wpAny_bind ?_
    refine wpAny_forIn_list _ (fun us b s' => s' = s ∧ b.1 = none ∧ (∀ i ∈ us, i < es.size) ∧ us.Nodup ∧ ((b.2 = none ∧ ∀ j, HK j → j ∈ us) ∨ ∃ j, b.2 = some j ∧ HK j ∧ j ∉ us)) _ ?_ ?_ _ _ ⟨rfl, rfl, psI, psN, .inl ⟨rfl, psK2⟩⟩
    rotate_left
    · rintro ⟨b1, b2⟩ s' ⟨rfl, e1, _, _, h⟩
      cases (show b1 = none from e1)
      rcases h with ⟨e2, h⟩ | ⟨j, e2, h, _⟩
      · cases (show b2 = none from e2)
        exact wpAny_pure (hn2 fun j z => by cases h j z)
      · cases (show b2 = some j from e2)
        exact wpAny_pure (hy2 j h)
    rintro i us ⟨b1, b2⟩ s' ⟨rfl, e1, h1, h2, h⟩
    cases (show b1 = none from e1)
    obtain ⟨hs, kv, v, r1, r2, r3⟩ := row2 i (h1 i List.mem_cons_self)
    obtain ⟨ni, nu⟩ := List.nodup_cons.mp h2
    have le : ∀ j ∈ us, j < es.size := fun j hj => h1 j (List.mem_cons_of_mem _ hj)
    have stay : ¬ HK i → (b2 = none ∧ ∀ j, HK j → j ∈ us) ∨ ∃ j, b2 = some j ∧ HK j ∧ j ∉ us := fun z => by
      rcases h with ⟨e2, h⟩ | ⟨j, e2, q, nj⟩
      · refine .inl ⟨e2, fun j hj => ?_⟩
        rcases List.mem_cons.mp (h j hj) with y | y
        · rw [y] at hj
          exact absurd hj z
        · exact y
      · exact .inr ⟨j, e2, q, fun y => nj (List.mem_cons_of_mem _ y)⟩
    rw [r1]
    dsimp only
    refine wpAny_ite_split (fun hh => ?_) (fun hh => wpAny_pure ⟨rfl, rfl, le, nu, stay fun z => hh (r2 z)⟩)
    refine wpAny_bind (wpAny_dictEpoch ho hd (wpAny_bind (r3 _ fun b hb => wpAny_bind (wpAny_dictEpoch ho hd ?_))))
    refine wpAny_ite_split (fun z => absurd z (by simp)) (fun _ => ?_)
    refine wpAny_ite_split (fun z => ?_) (fun z => ?_)
    · have hi := hb.mp z
      have b0 : b2 = none := by
        rcases h with ⟨e2, _⟩ | ⟨j, e2, q, nj⟩
        · exact e2
        · rw [one j i q hi] at nj
          exact absurd List.mem_cons_self nj
      subst b0
      refine wpAny_ite_split (fun z => absurd z (by simp)) (fun _ => ?_)
      refine wpAny_bind (wpAny_rule ?_)
      refine wpAny_ite_split (fun _ => wpAny_pure (wpAny_pure (hy2 i hi))) (fun _ => ?_)
      exact wpAny_pure ⟨rfl, rfl, le, nu, .inr ⟨i, rfl, hi, ni⟩⟩
    · have hi : ¬ HK i := fun y => z (hb.mpr y)
      refine wpAny_bind (wpAny_rule ?_)
      refine wpAny_ite_split (fun z => absurd z (by simp)) (fun _ => ?_)
      exact wpAny_pure ⟨rfl, rfl, le, nu, stay hi⟩
end
end Mx

namespace Mx
open PySem
def OfE (w : World) (h : Heap) (d : Addr) (ep : Nat) (rs : List MR) : Prop := ∃ o es, h.get? d = some o ∧ o.ExactDict ∧ o.data = .dict es ep ∧ es.toList = rs.map (ent w)
def Of (w : World) (h : Heap) (d : Addr) (rs : List MR) : Prop := ∃ ep, OfE w h d ep rs
theorem Of.typeIs {w : World} {s : Shared} {d : Addr} {rs : List MR} (h : Of w s.heap d rs) : s.TypeIs (.ref d) "dict" := by
  obtain ⟨ep, o, _, ho, hc, _⟩ := h
  exact ⟨o, ho, hc.1⟩
theorem OfE.at' {w : World} {h h' : Heap} {d : Addr} {ep : Nat} {rs : List MR} (x : OfE w h d ep rs) (k : ∀ o, h.get? d = some o → h'.get? d = some o) : OfE w h' d ep rs := by
  obtain ⟨o, es, ho, r⟩ := x
  exact ⟨o, es, k o ho, r⟩
/-- keys stay while all but the dict stays -/
theorem Ks.but {w : World} {h h' : Heap} {d : Addr} {rs : List MR} (ks : Ks h rs) {o : Obj} {es : Array DictEntry} {ep : Nat} (ho : h.get? d = some o) (hd : o.data = .dict es ep) (sb : Heap.SameBut d h h') : Ks h' rs := by
  refine ⟨fun r hr => ⟨NestedIs.at (fun a ob vs n h1 h2 => (sb.2 a fun e => ?_).trans h1) _ _ (ks.is r hr).1, (ks.is r hr).2⟩, ks.nd⟩
  subst e
  rw [ho] at h1
  cases h1
  rw [hd] at h2
  cases h2
def gets (rs : List MR) (k : NestedKey) : Option Value := (rs.find? fun r => decide (r.1 = k)).map (·.2.2)
def setv (k : NestedKey) (v : Value) (r : MR) : MR := if r.1 = k then (r.1, r.2.1, v) else r
def sets (rs : List MR) (k : NestedKey) (kv v : Value) : List MR := if k ∈ rs.map (·.1) then rs.map (setv k v) else rs ++ [(k, kv, v)]
def dels (rs : List MR) (k : NestedKey) : List MR := rs.filter fun r => decide (r.1 ≠ k)
theorem gets_none {rs : List MR} {k : NestedKey} (h : ∀ (j : Nat) (p : Value × Value), rs[j]? ≠ some (k, p)) : gets rs k = none := by
  unfold gets
  rw [Option.map_eq_none_iff, List.find?_eq_none]
  intro r hr z
  obtain ⟨j, hj⟩ := List.mem_iff_getElem?.mp hr
  have z := of_decide_eq_true z
  subst z
  exact h j r.2 hj
theorem notin_of {rs : List MR} {k : NestedKey} (h : ∀ (j : Nat) (p : Value × Value), rs[j]? ≠ some (k, p)) : k ∉ rs.map (·.1) := fun z => by
  obtain ⟨r, hr, rfl⟩ := List.mem_map.mp z
  obtain ⟨j, hj⟩ := List.mem_iff_getElem?.mp hr
  exact h j r.2 hj
theorem gets_at {h : Heap} {rs : List MR} (ks : Ks h rs) {j : Nat} {k : NestedKey} {p : Value × Value} (e : rs[j]? = some (k, p)) : gets rs k = some p.2 := by
  unfold gets
  cases hf : rs.find? fun r => decide (r.1 = k) with
  | none =>
    have := List.find?_eq_none.mp hf (k, p) (List.mem_of_getElem? e)
    simp at this
  | some r =>
    have z := List.find?_some hf
    have z := of_decide_eq_true z
    obtain ⟨i, hi⟩ := List.mem_iff_getElem?.mp (List.mem_of_find?_eq_some hf)
    obtain ⟨r1, r2⟩ := r
    have z : r1 = k := z
    subst z
    have := ks.one hi e
    subst this
    rw [hi] at e
    cases e
    rfl
theorem dels_at {h : Heap} : ∀ {rs : List MR} {j : Nat} {k : NestedKey} {p : Value × Value}, Ks h rs → rs[j]? = some (k, p) → rs.eraseIdx j = dels rs k
  | [], _, _, _, _, e => by simp at e
  | r :: rs, 0, k, p, ks, e => by
    have e : r = (k, p) := by simpa using e
    subst e
    have nd := List.nodup_cons.mp ks.nd
    show rs = List.filter _ ((k, p) :: rs)
    rw [List.filter_cons_of_neg (by simp)]
    refine (List.filter_eq_self.mpr fun x hx => ?_).symm
    rw [decide_eq_true_iff]
    exact fun z => nd.1 (List.mem_map.mpr ⟨x, hx, z⟩)
  | r :: rs, j + 1, k, p, ks, e => by
    have nd := List.nodup_cons.mp ks.nd
    have e : rs[j]? = some (k, p) := by simpa using e
    have ne : r.1 ≠ k := fun z => nd.1 (List.mem_map.mpr ⟨(k, p), List.mem_of_getElem? e, z.symm⟩)
    show r :: rs.eraseIdx j = List.filter _ (r :: rs)
    rw [List.filter_cons_of_pos (by simpa using ne), dels_at ⟨fun x hx => ks.is x (List.mem_cons_of_mem _ hx), nd.2⟩ e]
    rfl
theorem modify_at {w : World} {h : Heap} {v : Value} : ∀ {rs : List MR} {j : Nat} {k : NestedKey} {p : Value × Value}, Ks h rs → rs[j]? = some (k, p) → (rs.map (ent w)).modify j (fun e => { e with val := v }) = (rs.map (setv k v)).map (ent w)
  | [], _, _, _, _, e => by simp at e
  | r :: rs, 0, k, p, ks, e => by
    have e : r = (k, p) := by simpa using e
    subst e
    have nd := List.nodup_cons.mp ks.nd
    have : rs.map (setv k v) = rs := by
      refine (List.map_congr_left fun x hx => ?_).trans (List.map_id _)
      unfold setv
      rw [if_neg fun z => nd.1 (List.mem_map.mpr ⟨x, hx, z⟩)]
      rfl
    rw [List.map_cons, List.map_cons, List.modify_zero_cons, List.map_cons, this]
    unfold setv ent
    rw [if_pos rfl]
  | r :: rs, j + 1, k, p, ks, e => by
    have nd := List.nodup_cons.mp ks.nd
    have e : rs[j]? = some (k, p) := by simpa using e
    have ne : r.1 ≠ k := fun z => nd.1 (List.mem_map.mpr ⟨(k, p), List.mem_of_getElem? e, z.symm⟩)
    rw [List.map_cons, List.map_cons, List.modify_succ_cons, List.map_cons, modify_at ⟨fun x hx => ks.is x (List.mem_cons_of_mem _ hx), nd.2⟩ e]
    unfold setv
    rw [if_neg ne]
theorem keys_setv {rs : List MR} {k : NestedKey} {v : Value} : (rs.map (setv k v)).map (·.1) = rs.map (·.1) := by
  rw [List.map_map]
  refine List.map_congr_left fun x _ => ?_
  show (setv k v x).1 = x.1
  unfold setv
  split <;> rfl
theorem Ks.sets {h : Heap} {rs : List MR} (ks : Ks h rs) {k : NestedKey} {kv v : Value} (hk : NestedIs h k kv) (dk : k.depth ≤ 8) : Ks h (sets rs k kv v) := by
  unfold Mx.sets
  split
  · refine ⟨fun r hr => ?_, by rw [keys_setv]; exact ks.nd⟩
    obtain ⟨x, hx, rfl⟩ := List.mem_map.mp hr
    have := ks.is x hx
    unfold setv
    split <;> exact this
  · rename_i nk
    refine ⟨fun r hr => ?_, ?_⟩
    · rcases List.mem_append.mp hr with y | y
      · exact ks.is r y
      · rw [List.mem_singleton.mp y]
        exact ⟨hk, dk⟩
    · rw [List.map_append, List.nodup_append]
      exact ⟨ks.nd, by simp, fun a ha b hb e => nk (by
        obtain rfl := e.trans (List.mem_singleton.mp hb)
        exact ha)⟩
theorem Ks.dels {h : Heap} {rs : List MR} (ks : Ks h rs) {k : NestedKey} : Ks h (dels rs k) :=
  ⟨fun r hr => ks.is r (List.mem_filter.mp hr).1, List.Pairwise.sublist (List.Sublist.map _ List.filter_sublist) ks.nd⟩
section
variable {prog : Program} {w : World} {A : Around} {E : Value → Shared → Prop} {s : Shared} {d : Addr} {rs : List MR} {k : NestedKey} {key : Value}
theorem mx_get {Q : Option Value → Shared → Prop} (hu : A.units + 8 < cLine) (hk : NestedIs s.heap k key) (dk : k.depth ≤ 8) (hm : Of w s.heap d rs) (ks : Ks s.heap rs) (h : Q (gets rs k) { s with toks := s.toks + k.draws }) : wpAny (model prog w) A (dictGet d key) Q E s := by
  obtain ⟨ep, o, es, ho, _, hd, he⟩ := hm
  unfold dictGet
  try with_reducible refine wpAny_holding ?_
  refine wpAny_bind (pyHash_key k key A s _ hk (by omega) (wpAny_bind (mx_find (s := { s with toks := s.toks + k.draws }) hu hk dk ho hd he ks (fun z => ?_) fun j p z => ?_)))
  · rw [gets_none z] at h
    exact wpAny_pure h
  · rw [gets_at ks z] at h
    refine wpAny_bind (wpAny_dictEntries (s := { s with toks := s.toks + k.draws }) ho hd ?_)
    rw [← Array.getElem?_toList, he, List.getElem?_map, z]
    exact wpAny_pure h
theorem mx_set {v : Value} {Q : Unit → Shared → Prop} (hu : A.units + 8 < cLine) (hk : NestedIs s.heap k key) (dk : k.depth ≤ 8) (hm : Of w s.heap d rs) (ks : Ks s.heap rs) (hz : rs.length ≤ sizeLine)
    (h : ∀ h', Of w h' d (sets rs k key v) → Ks h' (sets rs k key v) → Heap.SameBut d s.heap h' → Q () { s with heap := h', toks := s.toks + k.draws }) : wpAny (model prog w) A (dictSet d key v) Q E s := by
  obtain ⟨ep, o, es, ho, hc, hd, he⟩ := hm
  have sz : es.size = rs.length := by rw [← Array.length_toList, he, List.length_map]
  unfold dictSet
  try with_reducible refine wpAny_holding ?_
  refine wpAny_bind (pyHash_key k key A s _ hk (by omega) ?_)
  unfold dictSetHashed
  try with_reducible refine wpAny_holding ?_
  have kb : ∀ {h'}, Heap.SameBut d s.heap h' → Ks h' (sets rs k key v) := fun sb => (ks.sets hk dk).but (w := w) ho hd sb
  refine wpAny_bind (mx_find (s := { s with toks := s.toks + k.draws }) hu hk dk ho hd he ks (fun z => ?_) fun j p z => ?_)
  · have e : sets rs k key v = rs ++ [(k, key, v)] := if_neg (notin_of z)
    rw [e] at h kb
    refine wpAny_bind (wpAny_rule (wpAny_updateDictKeys (hz := by omega) (s := { s with toks := s.toks + k.draws }) ho hd (h _ ⟨ep + 1, _, _, Heap.get?_update_self _ ho (Obj.isFreed_of_dict (Obj.data_mapDictKeys hd _)), hc.mapDictKeys _, Obj.data_mapDictKeys hd _, ?_⟩ (kb (Heap.SameBut.update ..)) (Heap.SameBut.update ..))))
    simp [he, ent]
  · have e : sets rs k key v = rs.map (setv k v) := if_pos (List.mem_map.mpr ⟨_, List.mem_of_getElem? z, rfl⟩)
    rw [e] at h kb
    refine wpAny_bind (wpAny_rule (wpAny_bind (wpAny_updateDict (s := { s with toks := s.toks + k.draws }) ho hd (wpAny_point (h _ ⟨ep, _, _, Heap.get?_update_self _ ho (Obj.isFreed_of_dict (Obj.data_mapDict hd _)), hc.mapDict _, Obj.data_mapDict hd _, ?_⟩ (kb (Heap.SameBut.update ..)) (Heap.SameBut.update ..))))))
    rw [← modify_at ks z, ← he]
    simp
theorem mx_take {Q : Option DictEntry → Shared → Prop} (hu : A.units + 8 < cLine) (hk : NestedIs s.heap k key) (dk : k.depth ≤ 8) (hm : Of w s.heap d rs) (ks : Ks s.heap rs) (hz : rs.length ≤ sizeLine)
    (hn : gets rs k = none → Q none { s with toks := s.toks + k.draws })
    (hy : ∀ e v, gets rs k = some v → e.val = v → ∀ h', Of w h' d (dels rs k) → Ks h' (dels rs k) → Heap.SameBut d s.heap h' → Q (some e) { s with heap := h', toks := s.toks + k.draws }) : wpAny (model prog w) A (Builtin.Dict.takeOut d key) Q E s := by
  obtain ⟨ep, o, es, ho, hc, hd, he⟩ := hm
  have sz : es.size = rs.length := by rw [← Array.length_toList, he, List.length_map]
  unfold Builtin.Dict.takeOut
  try with_reducible refine wpAny_holding ?_
  refine wpAny_bind (pyHash_key k key A s _ hk (by omega) ?_)
  refine wpAny_bind (mx_find (s := { s with toks := s.toks + k.draws }) hu hk dk ho hd he ks (fun z => ?_) fun j p z => ?_)
  · exact wpAny_pure (hn (gets_none z))
  · refine wpAny_bind (wpAny_dictEntries (s := { s with toks := s.toks + k.draws }) ho hd ?_)
    rw [← Array.getElem?_toList, he, List.getElem?_map, z]
    refine wpAny_bind (wpAny_updateDictKeys (hz := by omega) (s := { s with toks := s.toks + k.draws }) ho hd (wpAny_pure (hy _ p.2 (gets_at ks z) rfl _ ⟨ep + 1, _, _, Heap.get?_update_self _ ho (Obj.isFreed_of_dict (Obj.data_mapDictKeys hd _)), hc.mapDictKeys _, Obj.data_mapDictKeys hd _, ?_⟩ (ks.dels.but (w := w) ho hd (Heap.SameBut.update ..)) (Heap.SameBut.update ..))))
    rw [DT.eraseA, he, ← dels_at ks z, DT.map_erase]
end
end Mx

namespace Mx
open PySem
section
variable {prog : Program} {w : World} {A : Around} {E : Value → Shared → Prop} {s : Shared} {d : Addr} {rs : List MR} {k : NestedKey} {key : Value}
theorem room1 (h : A.units + 16 < cLine) : A.in1.units + 8 < cLine := by
  rw [Around.in1_units]
  omega
/-- is the key there -/
theorem mx_has {Q : Bool → Shared → Prop} (hu : A.units + 16 < cLine) (hk : NestedIs s.heap k key) (dk : k.depth ≤ 8) (hd : (d == sysModules) = false) (hm : Of w s.heap d rs) (ks : Ks s.heap rs)
    (h : ∀ t, Q (gets rs k).isSome { s with toks := t }) : wpAny (model prog w) A (contains (.ref d) key) Q E s := by
  unfold contains
  try with_reducible refine wpAny_holding ?_
  refine wpAny_bind (wpAny_specialOf hm.typeIs slot_dict_contains.lookup ?_)
  refine wpAny_ite_split (fun z => absurd z (by rw [beq_builtin_none]; exact Bool.false_ne_true)) (fun _ => ?_)
  refine wpAny_bind (wpAny_callSpecialUnlessNone?_slot (name := Str.ofString "__contains__") hm.typeIs slot_dict_contains (wpAny_call_entry slot_dict_contains hm.typeIs entry_dict_contains ?_ (args_dict_contains _ _)))
  show wpAny _ _ (dictGet d key >>= _) _ _ s
  refine wpAny_bind (mx_get (room1 hu) hk dk hm ks ?_)
  cases e : gets rs k with
  | some v =>
    rw [e] at h
    show wpAny _ _ (ret (.bool true)) _ _ _
    exact wpAny_pure ⟨_, rfl, wpAny_truthy_bool (h _)⟩
  | none =>
    rw [e] at h
    show wpAny _ _ (Builtin.Dict.pendingKey? d key >>= _) _ _ _
    exact wpAny_bind (wpAny_pendingKey_other hd (wpAny_pure ⟨_, rfl, wpAny_truthy_bool (h _)⟩))
theorem mx_in {neg : Bool} {Q : Value → Shared → Prop} (hu : A.units + 16 < cLine) (hk : NestedIs s.heap k key) (dk : k.depth ≤ 8) (hd : (d == sysModules) = false) (hm : Of w s.heap d rs) (ks : Ks s.heap rs)
    (h : ∀ t, Q (.bool ((gets rs k).isSome != neg)) { s with toks := t }) : wpAny (model prog w) A (compareOp (if neg then .NotIn else .In) key (.ref d)) Q E s := by
  cases neg with
  | false =>
    show wpAny _ _ (do return .bool (← contains (.ref d) key)) Q E s
    refine wpAny_bind (mx_has hu hk dk hd hm ks fun t => wpAny_pure ?_)
    have := h t
    rw [Bool.bne_false] at this
    exact this
  | true =>
    show wpAny _ _ (do return .bool (!(← contains (.ref d) key))) Q E s
    refine wpAny_bind (mx_has hu hk dk hd hm ks fun t => wpAny_pure ?_)
    have := h t
    rw [Bool.bne_true] at this
    exact this
theorem mx_item {v : Value} {Q : Value → Shared → Prop} (hu : A.units + 16 < cLine) (hk : NestedIs s.heap k key) (dk : k.depth ≤ 8) (hm : Of w s.heap d rs) (ks : Ks s.heap rs) (e : gets rs k = some v)
    (h : ∀ t, Q v { s with toks := t }) : wpAny (model prog w) A (getItem (.ref d) key) Q E s := by
  unfold getItem
  try with_reducible refine wpAny_holding ?_
  refine wpAny_bind (wpAny_sequenceKey hm.typeIs (by decide) ?_)
  refine wpAny_bind (wpAny_callSpecial?_slot (name := Str.ofString "__getitem__") hm.typeIs slot_dict_getitem (wpAny_call_entry slot_dict_getitem hm.typeIs entry_dict_getitem ?_ (args_dict_getitem _ _)))
  show wpAny _ _ (dictGet d key >>= _) _ _ s
  refine wpAny_bind (mx_get (room1 hu) hk dk hm ks ?_)
  rw [e]
  exact wpAny_pure ⟨v, rfl, wpAny_pure (h _)⟩
theorem mx_put {v : Value} {Q : Unit → Shared → Prop} (hu : A.units + 16 < cLine) (hk : NestedIs s.heap k key) (dk : k.depth ≤ 8) (hm : Of w s.heap d rs) (ks : Ks s.heap rs) (hz : rs.length ≤ sizeLine)
    (h : ∀ h' t, Of w h' d (sets rs k key v) → Ks h' (sets rs k key v) → Heap.SameBut d s.heap h' → Q () { s with heap := h', toks := t }) : wpAny (model prog w) A (setItem (.ref d) key v) Q E s := by
  unfold setItem
  try with_reducible refine wpAny_holding ?_
  refine wpAny_bind (wpAny_sequenceKey hm.typeIs (by decide) ?_)
  refine wpAny_bind (wpAny_callSpecial?_slot (name := Str.ofString "__setitem__") hm.typeIs slot_dict_setitem (wpAny_call_entry slot_dict_setitem hm.typeIs entry_dict_setitem ?_ (args_dict_setitem _ _ _)))
  show wpAny _ _ (Builtin.Dict.notOrdered "__setitem__" ⟨[.ref d, key, v], []⟩ >>= _) _ _ s
  refine wpAny_bind (wpAny_notOrdered_dict hm.typeIs ?_)
  show wpAny _ _ (dictSet d key v >>= _) _ _ s
  exact wpAny_bind (mx_set (room1 hu) hk dk hm ks hz fun h' q1 q2 q3 => wpAny_pure ⟨.none, rfl, wpAny_pure (h h' _ q1 q2 q3)⟩)
theorem mx_getM {Q : Value → Shared → Prop} (hu : A.units + 16 < cLine) (hk : NestedIs s.heap k key) (dk : k.depth ≤ 8) (hd : (d == sysModules) = false) (hm : Of w s.heap d rs) (ks : Ks s.heap rs) (ha : argsOk "dict.get" ⟨[.ref d, key], []⟩)
    (h : ∀ t, Q ((gets rs k).getD .none) { s with toks := t }) : wpAny (model prog w) A (call (.builtin "dict.get") [.ref d, key]) Q E s := by
  have mt : MeetsIn prog w (Builtin.«dict.get» ⟨[.ref d, key], []⟩) (fun A R s => A.units + 16 < cLine ∧ ∃ k rs, NestedIs s.heap k key ∧ k.depth ≤ 8 ∧ Of w s.heap d rs ∧ Ks s.heap rs ∧ ∀ t, R (.ok (.ret ((gets rs k).getD .none))) { s with toks := t }) := .of_wp fun A R s ⟨hu, k, rs, hk, dk, hm, ks, h⟩ => by
    show wpAny _ _ (dictGet d key >>= _) _ _ s
    refine wpAny_bind (mx_get (room1 hu) hk dk hm ks ?_)
    cases e : gets rs k with
    | some v =>
      rw [e] at h
      exact wpAny_pure ⟨v, rfl, h _⟩
    | none =>
      rw [e] at h
      show wpAny _ _ (Builtin.Dict.missed d key >>= _) _ _ _
      exact wpAny_bind (wpAny_missed_other hd (wpAny_pure ⟨.none, rfl, h _⟩))
  exact call_meetsIn F.slot_dict_get hm.typeIs F.entry_dict_get ha mt ⟨hu, k, rs, hk, dk, hm, ks, h⟩
theorem mx_del {v : Value} {Q : Unit → Shared → Prop} (hu : A.units + 16 < cLine) (hk : NestedIs s.heap k key) (dk : k.depth ≤ 8) (hd : (d == sysModules) = false) (hm : Of w s.heap d rs) (ks : Ks s.heap rs) (hz : rs.length ≤ sizeLine) (e : gets rs k = some v)
    (h : ∀ h' t, Of w h' d (dels rs k) → Ks h' (dels rs k) → Heap.SameBut d s.heap h' → Q () { s with heap := h', toks := t }) : wpAny (model prog w) A (delItem (.ref d) key) Q E s := by
  have mt : MeetsIn prog w (Builtin.«dict.__delitem__» ⟨[.ref d, key], []⟩) (fun A R s => A.units + 16 < cLine ∧ ∃ k rs v, NestedIs s.heap k key ∧ k.depth ≤ 8 ∧ Of w s.heap d rs ∧ Ks s.heap rs ∧ rs.length ≤ sizeLine ∧ gets rs k = some v ∧ ∀ h' t, Of w h' d (dels rs k) → Ks h' (dels rs k) → Heap.SameBut d s.heap h' → R (.ok (.ret .none)) { s with heap := h', toks := t }) := .of_wp fun A R s ⟨hu, k, rs, v, hk, dk, hm, ks, hz, e, h⟩ => by
    unfold Builtin.«dict.__delitem__»
    refine wpAny_bind ?_
    unfold Builtin.Dict.dictSlotArgs
    refine wpAny_bind (wpAny_notOrdered_dict hm.typeIs ?_)
    show wpAny _ _ (pure (Value.ref d, key)) _ _ s
    refine wpAny_pure ?_
    show wpAny _ _ (Builtin.Dict.takeOut d key >>= _) _ _ s
    refine wpAny_bind (mx_take (room1 hu) hk dk hm ks hz (fun z => by rw [e] at z; cases z) fun ee v' _ _ h' q1 q2 q3 => ?_)
    exact wpAny_bind (wpAny_letGo (wpAny_pure ⟨.none, rfl, h h' _ q1 q2 q3⟩))
  exact wpAny_delItem_slot hm.typeIs (by decide) F.slot_dict_delitem (call_meetsIn F.slot_dict_delitem hm.typeIs F.entry_dict_delitem (F.args_dict_delitem_2 _ _) mt ⟨hu, k, rs, v, hk, dk, hm, ks, hz, e, h⟩)
/-- d.pop(k[, x]) -/
theorem mx_pop {more : List Value} {Q : Value → Shared → Prop} (hmore : more = [] ∨ ∃ x, more = [x]) (ha : argsOk "dict.pop" ⟨.ref d :: key :: more, []⟩) (hu : A.units + 16 < cLine) (hk : NestedIs s.heap k key) (dk : k.depth ≤ 8) (hd : (d == sysModules) = false) (hm : Of w s.heap d rs) (ks : Ks s.heap rs) (hz : rs.length ≤ sizeLine)
    (hy : ∀ v, gets rs k = some v → ∀ h' t, Of w h' d (dels rs k) → Ks h' (dels rs k) → Heap.SameBut d s.heap h' → Q v { s with heap := h', toks := t }) (hn : gets rs k = none → ∃ x, more = [x] ∧ ∀ t, Q x { s with toks := t }) :
    wpAny (model prog w) A (call (.builtin "dict.pop") (.ref d :: key :: more)) Q E s := by
  have mt : MeetsIn prog w (Builtin.«dict.pop» ⟨.ref d :: key :: more, []⟩) (fun A R s => A.units + 16 < cLine ∧ ∃ k rs, NestedIs s.heap k key ∧ k.depth ≤ 8 ∧ Of w s.heap d rs ∧ Ks s.heap rs ∧ rs.length ≤ sizeLine ∧ (∀ v, gets rs k = some v → ∀ h' t, Of w h' d (dels rs k) → Ks h' (dels rs k) → Heap.SameBut d s.heap h' → R (.ok (.ret v)) { s with heap := h', toks := t }) ∧ (gets rs k = none → ∃ x, more = [x] ∧ ∀ t, R (.ok (.ret x)) { s with toks := t })) := .of_wp fun A R s ⟨hu, k, rs, hk, dk, hm, ks, hz, hy, hn⟩ => by
    obtain ⟨ep, o, es, ho, hc, hdat, he⟩ := id hm
    unfold Builtin.«dict.pop»
    refine wpAny_bind ?_
    unfold Builtin.Dict.keyAndDefault
    refine wpAny_bind (wpAny_notOrdered_dict hm.typeIs ?_)
    have sz : es.size = rs.length := by rw [← Array.length_toList, he, List.length_map]
    have emp : es.isEmpty = true → gets rs k = none := fun z => by
      have h0 : es.size = 0 := by simpa using z
      rw [List.length_eq_zero_iff.mp (show rs.length = 0 by omega)]
      rfl
    rcases hmore with rfl | ⟨x, rfl⟩
    · show wpAny _ _ (pure (d, key, none)) _ _ s
      refine wpAny_pure ?_
      dsimp only
      have some_ : gets rs k ≠ none := fun z => by
        obtain ⟨x, e, _⟩ := hn z
        cases e
      refine wpAny_ite_split (fun _ => wpAny_bind (wpAny_pure ?_)) (fun _ => wpAny_bind (wpAny_dictEntries ho hdat (wpAny_bind (wpAny_pure ?_))))
      · refine wpAny_ite_split (fun z => absurd z (by simp)) (fun _ => ?_)
        refine wpAny_bind (mx_take (room1 hu) hk dk hm ks hz (fun z => absurd z some_) fun ee v e1 e2 h' q1 q2 q3 => ?_)
        refine wpAny_ite_split (fun z => absurd z (by simp)) (fun _ => ?_)
        exact wpAny_bind (wpAny_letGo (wpAny_pure ⟨ee.val, rfl, by rw [e2]; exact hy v e1 h' _ q1 q2 q3⟩))
      · refine wpAny_ite_split (fun z => absurd (emp z) some_) (fun _ => ?_)
        refine wpAny_bind (mx_take (room1 hu) hk dk hm ks hz (fun z => absurd z some_) fun ee v e1 e2 h' q1 q2 q3 => ?_)
        refine wpAny_ite_split (fun z => absurd z (by simp)) (fun _ => ?_)
        exact wpAny_bind (wpAny_letGo (wpAny_pure ⟨ee.val, rfl, by rw [e2]; exact hy v e1 h' _ q1 q2 q3⟩))
    · show wpAny _ _ (pure (d, key, some x)) _ _ s
      refine wpAny_pure ?_
      dsimp only
      have out : gets rs k = none → ∀ t, R (.ok (.ret x)) { s with toks := t } := fun z t => by
        obtain ⟨y, e, q⟩ := hn z
        cases e
        exact q t
      refine wpAny_ite_split (fun _ => wpAny_bind (wpAny_pure ?_)) (fun _ => wpAny_bind (wpAny_dictEntries ho hdat (wpAny_bind (wpAny_pure ?_))))
      · refine wpAny_ite_split (fun z => absurd z (by simp)) (fun _ => ?_)
        refine wpAny_bind (mx_take (room1 hu) hk dk hm ks hz (fun z => ?_) fun ee v e1 e2 h' q1 q2 q3 => ?_)
        · refine wpAny_ite_split (fun _ => ?_) (fun y => absurd rfl y)
          refine wpAny_bind (wpAny_missedRemoval_other hd ?_)
          exact wpAny_bind (wpAny_rule (wpAny_pure ⟨x, rfl, out z _⟩))
        · refine wpAny_ite_split (fun z => absurd z (by simp)) (fun _ => ?_)
          exact wpAny_bind (wpAny_letGo (wpAny_pure ⟨ee.val, rfl, by rw [e2]; exact hy v e1 h' _ q1 q2 q3⟩))
      · refine wpAny_ite_split (fun z => ?_) (fun _ => ?_)
        · refine wpAny_bind (wpAny_rule (wpAny_bind (wpAny_pure ?_)))
          refine wpAny_ite_split (fun _ => ?_) (fun y => absurd rfl y)
          refine wpAny_bind (wpAny_missedRemoval_other hd ?_)
          exact wpAny_bind (wpAny_rule (wpAny_pure ⟨x, rfl, out (emp z) _⟩))
        · refine wpAny_bind (mx_take (room1 hu) hk dk hm ks hz (fun z => ?_) fun ee v e1 e2 h' q1 q2 q3 => ?_)
          · refine wpAny_ite_split (fun _ => ?_) (fun y => absurd rfl y)
            refine wpAny_bind (wpAny_missedRemoval_other hd ?_)
            exact wpAny_bind (wpAny_rule (wpAny_pure ⟨x, rfl, out z _⟩))
          · refine wpAny_ite_split (fun z => absurd z (by simp)) (fun _ => ?_)
            exact wpAny_bind (wpAny_letGo (wpAny_pure ⟨ee.val, rfl, by rw [e2]; exact hy v e1 h' _ q1 q2 q3⟩))
  exact call_meetsIn F.slot_dict_pop hm.typeIs F.entry_dict_pop ha mt ⟨hu, k, rs, hk, dk, hm, ks, hz, hy, hn⟩
/-- len(d) -/
theorem mx_len {Q : Value → Shared → Prop} (hd : (d == sysModules) = false) (hm : Of w s.heap d rs) (hz : rs.length ≤ sizeLine) (h : ∀ t u, Q (.int rs.length u) { s with toks := t }) : wpAny (model prog w) A (call (.builtin "len") [.ref d]) Q E s := by
  obtain ⟨ep, o, es, ho, hc, hdat, he⟩ := id hm
  have sz : es.size = rs.length := by rw [← Array.length_toList, he, List.length_map]
  rw [sizeLine_eq] at hz
  exact PyProof.Rows.call_len_slot (n := rs.length) hm.typeIs F.slot_dict_len (fun Q' hq => call_len_raw hd ⟨o, ho, hc, hdat⟩ (by rw [sz]; exact hq)) (by omega) (by omega) (h _ _)
/-- iter(d) -/
theorem mx_iter {ep : Nat} {Q : Value → Shared → Prop} (hd : (d == sysModules) = false) (hm : OfE w s.heap d ep rs)
    (h : Q (.ref s.heap.objs.size) { s with heap := s.heap.push { cls := .type "dict_keyiterator", data := .fields #[.ref d, .int 0 0, .int rs.length 0, .int ep 0] } }) : wpAny (model prog w) A (call (.builtin "iter") [.ref d]) Q E s := by
  obtain ⟨o, es, ho, hc, hdat, he⟩ := hm
  have sz : es.size = rs.length := by rw [← Array.length_toList, he, List.length_map]
  refine Calls.call_function_entry (by decide +kernel) (by decide +kernel) PySem.W.kdk_entry_iter (PySem.W.kdk_args_iter _) ?_
  unfold Builtin.«iter»
  refine wpAny_bind (m := someArgs "iter" 1 2 _) (wpAny_of_eq (a := [Value.ref d]) (by first | rfl | kernel_rfl!) ?_)
  show wpAny _ _ (pyIter (.ref d) >>= _) _ _ _
  refine wpAny_bind (wpAny_pyIter_dict_raw hd ⟨o, ho, hc, hdat⟩ ?_)
  rw [sz]
  exact wpAny_pure ⟨_, rfl, h⟩
/-- next(it, x), an item being left -/
theorem mx_next {it : Addr} {i ep : Nat} {r : MR} {x : Value} {Q : Value → Shared → Prop} (hit : s.heap.IsKeyIter it d i rs.length ep) (hm : OfE w s.heap d ep rs) (hx : rs[i]? = some r)
    (h : ∀ h', h'.IsKeyIter it d (i + 1) rs.length ep → Heap.SameBut it s.heap h' → Q r.2.1 { s with heap := h' }) : wpAny (model prog w) A (call (.builtin "next") [.ref it, x]) Q E s := by
  obtain ⟨o, es, ho, hc, hdat, he⟩ := hm
  have sz : es.size = rs.length := by rw [← Array.length_toList, he, List.length_map]
  have hl : i < es.size := by
    rw [sz]
    exact (List.getElem?_eq_some_iff.mp hx).1
  have ek : es[i].key = r.2.1 := by
    have e : es[i]? = some (ent w r) := by rw [← Array.getElem?_toList, he, List.getElem?_map, hx]; rfl
    rw [Array.getElem?_eq_getElem hl] at e
    rw [Option.some.inj e]
    rfl
  rw [← sz] at hit h
  refine Calls.call_function_entry (by decide +kernel) (by decide +kernel) PySem.W.kdk_entry_next (PySem.W.kdk_args_next2 _ _) ?_
  unfold Builtin.«next»
  refine wpAny_bind (m := someArgs "next" 1 2 _) (wpAny_of_eq (a := [Value.ref it, x]) (by first | rfl | kernel_rfl!) ?_)
  dsimp only
  refine wpAny_bind (wpAny_specialOf (name := Str.ofString "__next__") hit.typeIs PySem.F.slot_dict_keyiterator_next.lookup ?_)
  refine wpAny_ite_split (fun hab => absurd hab (by decide)) (fun _ => ?_)
  refine wpAny_bind (wpAny_pyNext_keys_item_raw hit ⟨o, ho, hc, hdat⟩ hl fun h' q1 q2 => ?_)
  rw [ek]
  exact wpAny_pure ⟨_, rfl, h h' q1 q2⟩
/-- list(d.items()) -/
theorem mx_list {r : Addr} {es : Array DictEntry} {ep : Nat} {Q : Value → Shared → Prop} (hh : A.handled = none) (hv : s.heap.IsItemsView r d) (hm : DT.Raw s.heap d es ep) (hz : es.size ≤ sizeLine)
    (h : ∀ h' t acc c as, (∀ b o, s.heap.get? b = some o → h'.get? b = some o) → h'.get? s.heap.objs.size = some { cls := .type "list", dict := none, data := .seq acc c, slots := #[] } → as.length = es.size → DT.Made es s.heap.objs.size h' as → acc.toList = as.map Value.ref → Q (.ref s.heap.objs.size) { s with heap := h', toks := t }) :
    wpAny (model prog w) A (call (.type "list") [.ref r]) Q E s := by
  have hr : r < s.heap.objs.size := by
    obtain ⟨_, ho, _⟩ := hv
    exact Heap.lt_size ho
  refine callType_codes (Q₁ := fun v s1 => v = .ref s.heap.objs.size ∧ s1 = { s with heap := s.heap.push { cls := .type "list", data := .seq #[] } }) F.called_list (F.typeCall_list_1 _) F.entry_list_init (code_list_new _ ⟨rfl, rfl⟩) fun v s1 ⟨e1, e2⟩ => ?_
  subst e1 e2
  have gS : (s.heap.push { cls := .type "list", data := .seq #[] }).get? s.heap.objs.size = some { cls := .type "list", data := .seq #[] } := Heap.get?_push_size _ rfl
  refine ⟨⟨_, gS, rfl⟩, F.args_list_init_2 _ _, ?_⟩
  show wpAny _ _ (do let old ← Builtin.List.listItems (.ref s.heap.objs.size); Builtin.List.listUpdate (.ref s.heap.objs.size) (fun _ => #[]); letGo old.toList.reverse; Builtin.List.listExtendWith (.ref s.heap.objs.size) (.ref r) .none) _ _ _
  unfold Builtin.List.listItems
  refine wpAny_bind (wpAny_bind (wpAny_seqItems gS rfl (wpAny_pure ?_)))
  show wpAny _ _ (updateSeq s.heap.objs.size (fun _ => #[]) >>= fun _ => letGo (#[] : Array Value).toList.reverse >>= fun _ => Builtin.List.listExtendWith (.ref s.heap.objs.size) (.ref r) .none) _ _ _
  refine wpAny_bind (wpAny_updateSeq gS rfl (wpAny_bind (wpAny_letGo ?_)))
  have gS2 := Heap.get?_update_self (Obj.mapSeq (fun _ => (#[] : Array Value))) gS rfl
  have off : ∀ b o, s.heap.get? b = some o → ((s.heap.push { cls := .type "list", data := .seq #[] }).update s.heap.objs.size (Obj.mapSeq (fun _ => (#[] : Array Value)))).get? b = some o := fun b o e => (Heap.get?_update_other _ _ (Nat.ne_of_gt (Heap.lt_size e))).trans (Heap.get?_push_of_some _ e)
  refine DT.extI (A := A.in1) (es := es) (ep := ep) hh (by
    obtain ⟨o, ho, q⟩ := hv
    exact ⟨o, off r o ho, q⟩) (hm.at' fun o e => off d o e) s.heap.objs.size (Nat.ne_of_gt hr) (Nat.ne_of_lt hm.lt) .none _ gS2 (fun h' tk acc c as q1 q2 q3 q4 q5 => ?_) hz
  exact ⟨rfl, h h' _ acc c as (fun b o e => q1 b o (Nat.ne_of_lt (Heap.lt_size e)) (off b o e)) q2 q3 (q4.low (Nat.le_of_lt (Heap.lt_size gS2))) q5⟩
end
end Mx

/-! ### such a dictionary over the layer -/
mutual
def nk : PyData → NestedKey
  | .int i => .num i
  | .str x => .text x
  | .tuple ds => .tup (nks ds)
  | _ => .none
def nks : List PyData → List NestedKey
  | [] => []
  | d :: ds => nk d :: nks ds
end
theorem nk_flat : ∀ {d e : PyData}, Flat1 d → Flat1 e → nk d = nk e → d = e
  | .int i, .int j, _, _, h => by cases h; rfl
  | .str i, .str j, _, _, h => by cases h; rfl
  | .int i, .str j, _, _, h => by cases h
  | .str i, .int j, _, _, h => by cases h
theorem nks_flat : ∀ {ds es : List PyData}, (∀ d ∈ ds, Flat1 d) → (∀ d ∈ es, Flat1 d) → nks ds = nks es → ds = es
  | [], [], _, _, _ => rfl
  | [], _ :: _, _, _, h => by cases h
  | _ :: _, [], _, _, h => by cases h
  | d :: ds, e :: es, h1, h2, h => by
    obtain ⟨e1, e2⟩ := List.cons.inj (show nk d :: nks ds = nk e :: nks es from h)
    rw [nk_flat (h1 d List.mem_cons_self) (h2 e List.mem_cons_self) e1, nks_flat (fun x hx => h1 x (List.mem_cons_of_mem _ hx)) (fun x hx => h2 x (List.mem_cons_of_mem _ hx)) e2]
theorem nk_inj {d e : PyData} (h1 : Thing d) (h2 : Thing e) (h : nk d = nk e) : d = e := by
  cases d with
  | int i => cases e <;> first | (cases h; rfl) | (exact h2.elim) | cases h
  | str i => cases e <;> first | (cases h; rfl) | (exact h2.elim) | cases h
  | tuple ds =>
    cases e with
    | tuple es => rw [nks_flat h1.2 h2.2 (NestedKey.tup.inj h)]
    | int _ => cases h
    | str _ => cases h
    | _ => exact h2.elim
  | _ => exact h1.elim
theorem flat_noL : ∀ {d : PyData}, Flat1 d → noL d = true
  | .int _, _ => rfl
  | .str _, _ => rfl
theorem flats_noL : ∀ {ds : List PyData}, (∀ d ∈ ds, Flat1 d) → noLs ds = true
  | [], _ => rfl
  | d :: ds, h => by
    show (noL d && noLs ds) = true
    rw [flat_noL (h d List.mem_cons_self), flats_noL fun x hx => h x (List.mem_cons_of_mem _ hx)]
    rfl
theorem opt_noL {d : PyData} (h : Opt d) : noL d = true := by
  rcases h with rfl | h
  · rfl
  · cases d with
    | int _ => rfl
    | str _ => rfl
    | tuple ds => exact flats_noL h.2
    | _ => exact h.elim
/-- an entry: the key, the value, and where they stand -/
structure MEnt where
  kd : PyData
  vd : PyData
  k : V
  v : V
def MEnt.row (e : MEnt) : NestedKey × V × V := (nk e.kd, e.k, e.v)
def PR (r : NestedKey × V × V) (q : Mx.MR) : Prop := r.1 = q.1 ∧ RelV r.2.1 q.2.1 ∧ RelV r.2.2 q.2.2
def mxO (w : World) (d : Addr) (ep : Nat) (rows : List (NestedKey × V × V)) : HO := .ext fun h => rows.length ≤ sizeLine ∧ (d == sysModules) = false ∧ ∃ rs, Mx.OfE w h d ep rs ∧ Paired PR rows rs
theorem mxO_ok {P : Program} {w w' : World} {H : Hp} {h : Heap} {d : Addr} {ep : Nat} {rows : List (NestedKey × V × V)} {rs : List Mx.MR} (z : rows.length ≤ sizeLine) (hd : (d == sysModules) = false) (o : Mx.OfE w h d ep rs) (p : Paired PR rows rs) : ObjOk P w' H h d (mxO w d ep rows) := by
  refine ⟨⟨z, hd, rs, o, p⟩, ?_, fun h1 h2 ⟨a, b, rs', c, e⟩ k => ⟨a, b, rs', c.at' k, e⟩⟩
  obtain ⟨ob, _, ho, _⟩ := o
  exact ⟨ob, ho⟩
structure MxAt (w : World) (H : Hp) (d : Addr) (xs : List MEnt) : Prop where
  g : ∃ ep, H d = some (mxO w d ep (xs.map MEnt.row))
  e : ∀ x ∈ xs, Thing x.kd ∧ Opt x.vd ∧ Dh H x.kd x.k ∧ Dh H x.vd x.v
  nd : (xs.map (·.kd)).Nodup
open Classical in
noncomputable def mget (xs : List MEnt) (kd : PyData) : Option MEnt := xs.find? fun x => decide (x.kd = kd)
open Classical in
noncomputable def mdel (xs : List MEnt) (kd : PyData) : List MEnt := xs.filter fun x => decide (x.kd ≠ kd)
open Classical in
noncomputable def mset (e x : MEnt) : MEnt := if x.kd = e.kd then ⟨x.kd, e.vd, x.k, e.v⟩ else x
open Classical in
noncomputable def mput (xs : List MEnt) (e : MEnt) : List MEnt := if e.kd ∈ xs.map (·.kd) then xs.map (mset e) else xs ++ [e]
/-- tuples stay -/
def Tups (H H' : Hp) : Prop := ∀ a us, H a = some (.tup us) → H' a = some (.tup us)
theorem Tups.same {H H' : Hp} (s : Same H H') : Tups H H' := fun a us g => s a _ g
theorem Tups.trans {H H1 H2 : Hp} (a : Tups H H1) (b : Tups H1 H2) : Tups H H2 := fun c us g => b c us (a c us g)
theorem Tups.put {H : Hp} {d : Addr} {o : HO} (n : ∀ us, H d ≠ some (.tup us)) : Tups H (upd H d o) := fun a us g => by
  rw [upd_ne (fun z => n us (by rw [← z]; exact g))]
  exact g
theorem MxAt.tups {w : World} {H H' : Hp} {d : Addr} {xs : List MEnt} (h : MxAt w H d xs) (t : Tups H H') (k : ∀ o, H d = some o → H' d = some o) : MxAt w H' d xs := by
  obtain ⟨ep, g⟩ := h.g
  refine ⟨⟨ep, k _ g⟩, fun x hx => ?_, h.nd⟩
  obtain ⟨a, b, c, e⟩ := h.e x hx
  exact ⟨a, b, Dh.tups t _ _ (opt_noL (.inr a)) c, Dh.tups t _ _ (opt_noL b) e⟩
theorem MxAt.same {w : World} {H H' : Hp} {d : Addr} {xs : List MEnt} (h : MxAt w H d xs) (s : Same H H') : MxAt w H' d xs := h.tups (Tups.same s) fun o g => s _ _ g
theorem MxAt.noT {w : World} {H : Hp} {d : Addr} {xs : List MEnt} (h : MxAt w H d xs) (us : List V) : H d ≠ some (.tup us) := fun z => by
  obtain ⟨ep, g⟩ := h.g
  rw [z] at g
  cases g
section
variable {X : Cx} {pins : List (Addr × Obj)} {σ : L2.St} {H : Hp} {s : Shared}
theorem flats_nest (I : Inv X pins σ H s) : ∀ {ds : List PyData} {xs : List V} {us : List Value}, (∀ d ∈ ds, Flat1 d) → DhAll H ds xs → Vals xs us → NestedAll s.heap (nks ds) us ∧ NestedKey.depthAll (nks ds) = 0
  | [], xs, us, _, h, r => by
    cases (show xs = [] from h)
    cases r
    exact ⟨.nil, rfl⟩
  | d :: ds, xs, us, hf, h, r => by
    obtain ⟨v, vs, rfl, h1, h2⟩ := h
    cases r with
    | cons r1 r2 =>
      obtain ⟨q1, q2⟩ := flats_nest I (fun x hx => hf x (List.mem_cons_of_mem _ hx)) h2 r2
      have fd := hf d List.mem_cons_self
      cases d with
      | int i =>
        cases (show v = .int i from h1)
        obtain ⟨t, rfl⟩ := r1
        exact ⟨.cons (.int i t) q1, by show max 0 _ = 0; rw [q2]; rfl⟩
      | str x =>
        cases (show v = .str x from h1)
        obtain ⟨t, rfl⟩ := r1
        exact ⟨.cons (.text x t) q1, by show max 0 _ = 0; rw [q2]; rfl⟩
      | _ => exact fd.elim
theorem key_nest (I : Inv X pins σ H s) {d : PyData} {x : V} {u : Value} (ht : Thing d) (h : Dh H d x) (r : RelV x u) : NestedIs s.heap (nk d) u ∧ (nk d).depth ≤ 8 := by
  cases d with
  | int i =>
    cases (show x = .int i from h)
    obtain ⟨t, rfl⟩ := r
    exact ⟨.int i t, Nat.zero_le _⟩
  | str z =>
    cases (show x = .str z from h)
    obtain ⟨t, rfl⟩ := r
    exact ⟨.text z t, Nat.zero_le _⟩
  | tuple ds =>
    obtain ⟨a, xs, rfl, g, hd⟩ := h
    obtain rfl : u = Value.ref a := r
    obtain ⟨_, its, rv, ob, ho, hc, n, hdat⟩ := I.hok a _ g
    obtain ⟨q1, q2⟩ := flats_nest I ht.2 hd rv
    exact ⟨.tup ho hc hdat q1, by show NestedKey.depthAll (nks ds) + 1 ≤ 8; rw [q2]; decide⟩
  | _ => exact ht.elim
/-- what stands there -/
theorem mx_rows (I : Inv X pins σ H s) {d : Addr} {xs : List MEnt} (m : MxAt X.w H d xs) : ∃ rs, Mx.Of X.w s.heap d rs ∧ Mx.Ks s.heap rs ∧ Paired PR (xs.map MEnt.row) rs ∧ rs.length ≤ sizeLine ∧ (d == sysModules) = false := by
  obtain ⟨ep, g⟩ := m.g
  obtain ⟨⟨z, hd, rs, o, p⟩, _⟩ := I.hok d _ g
  refine ⟨rs, ⟨ep, o⟩, ⟨?_, ?_⟩, p, by rw [← Paired.length p]; exact z, hd⟩
  · have gen : ∀ {xs : List MEnt} {rs : List Mx.MR}, (∀ x ∈ xs, Thing x.kd ∧ Opt x.vd ∧ Dh H x.kd x.k ∧ Dh H x.vd x.v) → Paired PR (xs.map MEnt.row) rs → ∀ r ∈ rs, NestedIs s.heap r.1 r.2.1 ∧ r.1.depth ≤ 8 := fun {xs} => by
      induction xs with
      | nil => intro rs _ p r hr; cases p; cases hr
      | cons x xs ih =>
        intro rs he p r hr
        cases p with
        | cons q t =>
          rcases List.mem_cons.mp hr with rfl | hr
          · obtain ⟨a, _, c, _⟩ := he x List.mem_cons_self
            rw [← q.1]
            exact key_nest I a c q.2.1
          · exact ih (fun y hy => he y (List.mem_cons_of_mem _ hy)) t r hr
    exact gen m.e p
  · have e1 : rs.map (·.1) = (xs.map (·.kd)).map nk := by
      have gen : ∀ {xs : List MEnt} {rs : List Mx.MR}, Paired PR (xs.map MEnt.row) rs → rs.map (·.1) = (xs.map (·.kd)).map nk := fun {xs} => by
        induction xs with
        | nil => intro rs p; cases p; rfl
        | cons x xs ih =>
          intro rs p
          cases p with
          | cons q t =>
            rw [List.map_cons, List.map_cons, List.map_cons, ih t, ← q.1]
            rfl
      exact gen p
    rw [e1]
    show List.Pairwise _ _
    rw [List.pairwise_map]
    refine List.Pairwise.imp_of_mem (fun {a b} ha hb ne z => ne ?_) m.nd
    obtain ⟨x, hx, rfl⟩ := List.mem_map.mp ha
    obtain ⟨y, hy, rfl⟩ := List.mem_map.mp hb
    exact nk_inj (m.e x hx).1 (m.e y hy).1 z
end
/-! rows and entries -/
section
variable {xs : List MEnt} {rs : List Mx.MR} {kd : PyData}
theorem pr_get : ∀ {xs : List MEnt} {rs : List Mx.MR}, (∀ x ∈ xs, Thing x.kd) → Thing kd → Paired PR (xs.map MEnt.row) rs → (mget xs kd = none → Mx.gets rs (nk kd) = none) ∧ ∀ x, mget xs kd = some x → ∃ u, Mx.gets rs (nk kd) = some u ∧ RelV x.v u
  | [], rs, _, _, p => by
    cases p
    exact ⟨fun _ => rfl, fun x h => by cases h⟩
  | x :: xs, rs, h, hk, p => by
    cases p with
    | @cons _ q _ rs q1 t =>
      have ih := pr_get (fun y hy => h y (List.mem_cons_of_mem _ hy)) hk t
      have q11 : nk x.kd = q.1 := q1.1
      by_cases e : x.kd = kd
      · have e2 : q.1 = nk kd := by rw [← q11, e]
        refine ⟨fun z => ?_, fun y z => ?_⟩
        · unfold mget at z
          rw [List.find?_cons_of_pos (by simpa using e)] at z
          cases z
        · unfold mget at z
          rw [List.find?_cons_of_pos (by simpa using e)] at z
          cases z
          unfold Mx.gets
          rw [List.find?_cons_of_pos (by simpa using e2)]
          exact ⟨_, rfl, q1.2.2⟩
      · have e2 : ¬ q.1 = nk kd := fun z => e (nk_inj (h x List.mem_cons_self) hk (q11.trans z))
        have e3 : Mx.gets (q :: rs) (nk kd) = Mx.gets rs (nk kd) := by
          unfold Mx.gets
          rw [List.find?_cons_of_neg (by simpa using e2)]
        have e4 : mget (x :: xs) kd = mget xs kd := by
          unfold mget
          rw [List.find?_cons_of_neg (by simpa using e)]
        rw [e3, e4]
        exact ih
theorem pr_del : ∀ {xs : List MEnt} {rs : List Mx.MR}, (∀ x ∈ xs, Thing x.kd) → Thing kd → Paired PR (xs.map MEnt.row) rs → Paired PR ((mdel xs kd).map MEnt.row) (Mx.dels rs (nk kd))
  | [], rs, _, _, p => by
    cases p
    exact .nil
  | x :: xs, rs, h, hk, p => by
    cases p with
    | @cons _ q _ rs q1 t =>
      have ih := pr_del (fun y hy => h y (List.mem_cons_of_mem _ hy)) hk t
      have q11 : nk x.kd = q.1 := q1.1
      by_cases e : x.kd = kd
      · have e2 : q.1 = nk kd := by rw [← q11, e]
        have e3 : Mx.dels (q :: rs) (nk kd) = Mx.dels rs (nk kd) := by
          unfold Mx.dels
          rw [List.filter_cons_of_neg (by simpa using e2)]
        have e4 : mdel (x :: xs) kd = mdel xs kd := by
          unfold mdel
          rw [List.filter_cons_of_neg (by simpa using e)]
        rw [e3, e4]
        exact ih
      · have e2 : ¬ q.1 = nk kd := fun z => e (nk_inj (h x List.mem_cons_self) hk (q11.trans z))
        have e3 : Mx.dels (q :: rs) (nk kd) = q :: Mx.dels rs (nk kd) := by
          unfold Mx.dels
          rw [List.filter_cons_of_pos (by simpa using e2)]
        have e4 : mdel (x :: xs) kd = x :: mdel xs kd := by
          unfold mdel
          rw [List.filter_cons_of_pos (by simpa using e)]
        rw [e3, e4]
        exact .cons q1 ih
theorem pr_keys : ∀ {xs : List MEnt} {rs : List Mx.MR}, (∀ x ∈ xs, Thing x.kd) → Thing kd → Paired PR (xs.map MEnt.row) rs → (kd ∈ xs.map (·.kd) ↔ nk kd ∈ rs.map (·.1))
  | [], rs, _, _, p => by
    cases p
    simp
  | x :: xs, rs, h, hk, p => by
    cases p with
    | @cons _ q _ rs q1 t =>
      have ih := pr_keys (fun y hy => h y (List.mem_cons_of_mem _ hy)) hk t
      have q11 : nk x.kd = q.1 := q1.1
      rw [List.map_cons, List.map_cons, List.mem_cons, List.mem_cons, ih, ← q11]
      refine or_congr ⟨fun z => by rw [z], fun z => nk_inj hk (h x List.mem_cons_self) z⟩ Iff.rfl
theorem pr_set {e : MEnt} {ku vu : Value} (hk : Thing e.kd) (rv : RelV e.v vu) : ∀ {xs : List MEnt} {rs : List Mx.MR}, (∀ x ∈ xs, Thing x.kd) → Paired PR (xs.map MEnt.row) rs → Paired PR ((xs.map (mset e)).map MEnt.row) (rs.map (Mx.setv (nk e.kd) vu))
  | [], rs, _, p => by
    cases p
    exact .nil
  | x :: xs, rs, h, p => by
    cases p with
    | @cons _ q _ rs q1 t =>
      have ih := pr_set (ku := ku) hk rv (fun y hy => h y (List.mem_cons_of_mem _ hy)) t
      have q11 : nk x.kd = q.1 := q1.1
      refine .cons ?_ ih
      by_cases z : x.kd = e.kd
      · have e2 : q.1 = nk e.kd := by rw [← q11, z]
        unfold mset Mx.setv
        rw [if_pos z, if_pos e2]
        exact ⟨q11, q1.2.1, rv⟩
      · have e2 : ¬ q.1 = nk e.kd := fun y => z (nk_inj (h x List.mem_cons_self) hk (q11.trans y))
        unfold mset Mx.setv
        rw [if_neg z, if_neg e2]
        exact q1
theorem pr_app {α β : Type} {R : α → β → Prop} : ∀ {as : List α} {bs : List β} {a : α} {b : β}, Paired R as bs → R a b → Paired R (as ++ [a]) (bs ++ [b])
  | _, _, _, _, .nil, r => .cons r .nil
  | _, _, _, _, .cons q t, r => .cons q (pr_app t r)
theorem pr_put {e : MEnt} {ku vu : Value} (hk : Thing e.kd) (rk : RelV e.k ku) (rv : RelV e.v vu) (h : ∀ x ∈ xs, Thing x.kd) (p : Paired PR (xs.map MEnt.row) rs) : Paired PR ((mput xs e).map MEnt.row) (Mx.sets rs (nk e.kd) ku vu) := by
  unfold mput Mx.sets
  by_cases z : e.kd ∈ xs.map (·.kd)
  · rw [if_pos z, if_pos ((pr_keys h hk p).mp z)]
    exact pr_set (ku := ku) hk rv h p
  · rw [if_neg z, if_neg fun y => z ((pr_keys h hk p).mpr y), List.map_append]
    exact pr_app p ⟨rfl, rk, rv⟩
theorem mput_len (xs : List MEnt) (e : MEnt) : (mput xs e).length ≤ xs.length + 1 := by
  unfold mput
  split
  · rw [List.length_map]
    exact Nat.le_succ _
  · rw [List.length_append]
    exact Nat.le_refl _
theorem mdel_len (xs : List MEnt) (kd : PyData) : (mdel xs kd).length ≤ xs.length := List.length_filter_le _ _
theorem mdel_mem {x : MEnt} (h : x ∈ mdel xs kd) : x ∈ xs := (List.mem_filter.mp h).1
open Classical in
theorem mput_keys (xs : List MEnt) (e : MEnt) : (mput xs e).map (·.kd) = if e.kd ∈ xs.map (·.kd) then xs.map (·.kd) else xs.map (·.kd) ++ [e.kd] := by
  unfold mput
  by_cases z : e.kd ∈ xs.map (·.kd)
  · rw [if_pos z, if_pos z, List.map_map]
    refine List.map_congr_left fun x _ => ?_
    show (mset e x).kd = x.kd
    unfold mset
    split <;> rfl
  · rw [if_neg z, if_neg z, List.map_append]
    rfl
theorem mput_nd {e : MEnt} (h : (xs.map (·.kd)).Nodup) : ((mput xs e).map (·.kd)).Nodup := by
  rw [mput_keys]
  split
  · exact h
  · rename_i z
    rw [List.nodup_append]
    exact ⟨h, by simp, fun a ha b hb y => z (by
      obtain rfl := y.trans (List.mem_singleton.mp hb)
      exact ha)⟩
theorem mdel_nd (h : (xs.map (·.kd)).Nodup) : ((mdel xs kd).map (·.kd)).Nodup := List.Pairwise.sublist (List.Sublist.map _ List.filter_sublist) h
theorem mput_mem {P : MEnt → Prop} {e : MEnt} (h : ∀ x ∈ xs, P x) (he : P e) (hm : ∀ x ∈ xs, P (mset e x)) : ∀ x ∈ mput xs e, P x := fun x hx => by
  unfold mput at hx
  split at hx
  · obtain ⟨y, hy, rfl⟩ := List.mem_map.mp hx
    exact hm y hy
  · rcases List.mem_append.mp hx with z | z
    · exact h x z
    · rw [List.mem_singleton.mp z]
      exact he
end

/-! ### the rules for such a dictionary -/
/-- all but d stays -/
def But (H H' : Hp) (d : Addr) : Prop := ∀ b o, b ≠ d → H b = some o → H' b = some o
theorem But.put {H : Hp} {d : Addr} {o : HO} : But H (upd H d o) d := fun b u n h => by
  rw [upd_ne n]
  exact h
theorem But.trans {H H1 H2 : Hp} {p : Addr} (a : But H H1 p) (b : But H1 H2 p) : But H H2 p := fun c o n e => b c o n (a c o n e)
theorem Same.but {H H' : Hp} {p : Addr} (s : Same H H') : But H H' p := fun c o _ e => s c o e
theorem same_one {H H1 H2 : Hp} {p : Addr} (s : Same H H1) (n : H p = none) (b : But H1 H2 p) : Same H H2 := fun c o e => b c o (ne_of_none e n) (s c o e)
theorem But.tups {H H' : Hp} {d : Addr} (b : But H H' d) (n : ∀ us, H d ≠ some (.tup us)) : Tups H H' := fun a us g => b a _ (fun z => n us (by rw [← z]; exact g)) g
/-- a dictionary is written -/
theorem mx_written {w : World} {H : Hp} {d : Addr} {xs ys : List MEnt} {ep : Nat} (m : MxAt w H d xs) (e : ∀ x ∈ ys, Thing x.kd ∧ Opt x.vd ∧ Dh H x.kd x.k ∧ Dh H x.vd x.v) (nd : (ys.map (·.kd)).Nodup) : MxAt w (upd H d (mxO w d ep (ys.map MEnt.row))) d ys := by
  have t : Tups H (upd H d (mxO w d ep (ys.map MEnt.row))) := Tups.put m.noT
  refine ⟨⟨ep, upd_same⟩, fun x hx => ?_, nd⟩
  obtain ⟨a, b, c, f⟩ := e x hx
  exact ⟨a, b, Dh.tups t _ _ (opt_noL (.inr a)) c, Dh.tups t _ _ (opt_noL b) f⟩
section
variable {X : Cx} {pins : List (Addr × Obj)} {σ : L2.St} {H : Hp} {s : Shared}
theorem mx_inv {d : Addr} {xs ys : List MEnt} {rs : List Mx.MR} {h' : Heap} (I : Inv X pins σ H s) (m : MxAt X.w H d xs) (o : Mx.Of X.w h' d rs) (hl : ys.length ≤ sizeLine) (hd : (d == sysModules) = false) (p : Paired PR (ys.map MEnt.row) rs) (sb : Heap.SameBut d s.heap h')
    (e : ∀ x ∈ ys, Thing x.kd ∧ Opt x.vd ∧ Dh H x.kd x.k ∧ Dh H x.vd x.v) (nd : (ys.map (·.kd)).Nodup) (t : Nat) : ∃ H', Inv X pins σ H' { s with heap := h', toks := t } ∧ MxAt X.w H' d ys ∧ But H H' d := by
  obtain ⟨ep0, g⟩ := m.g
  obtain ⟨ep, oe⟩ := o
  have mu : Mut (H d) := by
    rw [g]
    trivial
  refine ⟨upd H d (mxO X.w d ep (ys.map MEnt.row)), I.write (x := d) (e := d) mu (.inl rfl) (fun b q hb z => (sb.2 b hb).trans z) ?_ (mxO_ok (by rw [List.length_map]; exact hl) hd oe p), mx_written m e nd, But.put⟩
  obtain ⟨ob, _, ho, _⟩ := oe
  exact ⟨ob, ho⟩
end
def rInM (w : World) (neg : Bool) : R2 := fun x y H Q => ∃ (d : Addr) (xs : List MEnt) (kd : PyData), y = .ref d ∧ MxAt w H d xs ∧ Thing kd ∧ Dh H kd x ∧ ((mget xs kd).isSome = true → Q (.bl (!neg)) H) ∧ (mget xs kd = none → Q (.bl neg) H)
def rIxM (w : World) : R2 := fun x y H Q => ∃ (d : Addr) (xs : List MEnt) (kd : PyData) (e : MEnt), x = .ref d ∧ MxAt w H d xs ∧ Thing kd ∧ Dh H kd y ∧ mget xs kd = some e ∧ Q e.v H
def rGetM (w : World) : V → List V → Hp → VK → Prop := fun x xs H Q => ∃ (d : Addr) (es : List MEnt) (kd : PyData) (k : V), x = .ref d ∧ xs = [k] ∧ MxAt w H d es ∧ Thing kd ∧ Dh H kd k ∧ (mget es kd = none → Q .non H) ∧ ∀ e, mget es kd = some e → Q e.v H
def rPopM (w : World) : V → List V → Hp → VK → Prop := fun x xs H Q => ∃ (d : Addr) (es : List MEnt) (kd : PyData) (k : V) (ms : List V), x = .ref d ∧ xs = k :: ms ∧ (ms = [] ∨ ∃ y, ms = [y]) ∧ MxAt w H d es ∧ Thing kd ∧ Dh H kd k ∧ (mget es kd = none → ∃ y, ms = [y] ∧ Q y H) ∧ ∀ e, mget es kd = some e → ∀ H', MxAt w H' d (mdel es kd) → But H H' d → Q e.v H'
def rSetM (w : World) : TSet := fun o i v H Q => ∃ (d : Addr) (xs : List MEnt) (kd vd : PyData), o = .ref d ∧ MxAt w H d xs ∧ Thing kd ∧ Dh H kd i ∧ Opt vd ∧ Dh H vd v ∧ xs.length < sizeLine ∧ ∀ H', MxAt w H' d (mput xs ⟨kd, vd, i, v⟩) → But H H' d → Q H'
def rDelM (w : World) (o i : V) (H : Hp) (Q : Hp → Prop) : Prop := ∃ (d : Addr) (xs : List MEnt) (kd : PyData), o = .ref d ∧ MxAt w H d xs ∧ Thing kd ∧ Dh H kd i ∧ (mget xs kd).isSome = true ∧ ∀ H', MxAt w H' d (mdel xs kd) → But H H' d → Q H'
def rLenM (w : World) : List V → Hp → VK → Prop := fun xs H Q => ∃ (d : Addr) (es : List MEnt), xs = [.ref d] ∧ MxAt w H d es ∧ Q (.int es.length) H
def kitO (it d : Addr) (i n ep : Nat) : HO := .ext fun h => h.IsKeyIter it d i n ep
def rIterM (w : World) : List V → Hp → VK → Prop := fun xs H Q => ∃ (d : Addr) (es : List MEnt), xs = [.ref d] ∧ MxAt w H d es ∧ ∀ it ep, H d = some (mxO w d ep (es.map MEnt.row)) → H it = none → Q (.ref it) (upd H it (kitO it d 0 es.length ep))
def rNextM (w : World) : List V → Hp → VK → Prop := fun xs H Q => ∃ (it d : Addr) (es : List MEnt) (ep i : Nat) (e : MEnt) (y : V), xs = [.ref it, y] ∧ H it = some (kitO it d i es.length ep) ∧ H d = some (mxO w d ep (es.map MEnt.row)) ∧ es[i]? = some e ∧ Q e.k (upd H it (kitO it d (i + 1) es.length ep))
def rItemsM (w : World) : V → List V → Hp → VK → Prop := fun x xs H Q => ∃ (d : Addr) (es : List MEnt), x = .ref d ∧ xs = [] ∧ MxAt w H d es ∧ ∀ p, H p = none → Q (.ref p) (upd H p (L2.DX.itemsO p d))
def pairD (e : MEnt) : PyData := .tuple [e.kd, e.vd]
def rListM (w : World) : List V → Hp → VK → Prop := fun xs H Q => ∃ (p d : Addr) (es : List MEnt), xs = [.ref p] ∧ H p = some (L2.DX.itemsO p d) ∧ MxAt w H d es ∧ ∀ (H' : Hp) (l : Addr) (us : List V), Same H H' → H l = none → H' l = some (.lst us) → DhAll H' (es.map pairD) us → Q (.ref l) H'
def isMx (w : World) (x : V) (H : Hp) : Prop := ∃ (d : Addr) (es : List MEnt), x = .ref d ∧ MxAt w H d es
def tBX (w : World) (r : V → List V → Hp → VK → Prop) (to : TE) (t : TA) : TE := fun σ H Q => to σ H fun x H1 => isMx w x H1 ∧ t σ H1 fun xs H2 => r x xs H2 Q
def tBX0 (w : World) (r : V → List V → Hp → VK → Prop) (to : TE) : TE := fun σ H Q => to σ H fun x H1 => isMx w x H1 ∧ r x [] H1 Q
def tDelM (w : World) (td ty : TE) : TS := fun D σ H => td σ H fun x H1 => ty σ H1 fun y H2 => rDelM w x y H2 fun H3 => D.nx σ H3
def tNewM (w : World) : TE := fun _ H Q => ∀ d H', MxAt w H' d [] → H d = none → Same H H' → (∀ b, b ≠ d → H' b = H b) → Q (.ref d) H'
theorem kitO_ok {P : Program} {w : World} {H : Hp} {h : Heap} {it d : Addr} {i n ep : Nat} (e : h.IsKeyIter it d i n ep) : ObjOk P w H h it (kitO it d i n ep) := by
  obtain ⟨o, ho, hc, hd⟩ := e
  exact ⟨⟨o, ho, hc, hd⟩, ⟨o, ho⟩, fun h1 h2 ⟨o, ho, r⟩ k => ⟨o, k o ho, r⟩⟩
section
variable {X : Cx}
theorem rel_some {xs : List MEnt} {kd : PyData} {rs : List Mx.MR} (p : Paired PR (xs.map MEnt.row) rs) (h : ∀ x ∈ xs, Thing x.kd) (hk : Thing kd) : (Mx.gets rs (nk kd)).isSome = (mget xs kd).isSome := by
  obtain ⟨h1, h2⟩ := pr_get h hk p
  cases e : mget xs kd with
  | none =>
    rw [h1 e]
    rfl
  | some x =>
    obtain ⟨u, e2, _⟩ := h2 x e
    rw [e2]
    rfl
theorem op_inM {w : World} (hw : X.w = w) (hu : X.A.units + 64 < cLine) : OpR X (compareOp .In) (rInM w false) := by
  subst hw
  intro pins s σ H x y v u Q I rx ry h
  obtain ⟨d, xs, kd, rfl, m, hk, hx, q1, q2⟩ := h
  cases ry
  obtain ⟨rs, o, ks, p, z, hd⟩ := mx_rows I m
  obtain ⟨n1, n2⟩ := key_nest I hk hx rx
  have rs' := rel_some p (fun x hx => (m.e x hx).1) hk
  refine Mx.mx_in (neg := false) (by omega) n1 n2 hd o ks fun t => ⟨.bl (mget xs kd).isSome, H, I.tok t, ?_, ?_⟩
  · rw [rs', Bool.bne_false]
    rfl
  · cases e : mget xs kd with
    | none => exact q2 e
    | some _ => exact q1 (by rw [e]; rfl)
theorem op_notinM {w : World} (hw : X.w = w) (hu : X.A.units + 64 < cLine) : OpR X (compareOp .NotIn) (rInM w true) := by
  subst hw
  intro pins s σ H x y v u Q I rx ry h
  obtain ⟨d, xs, kd, rfl, m, hk, hx, q1, q2⟩ := h
  cases ry
  obtain ⟨rs, o, ks, p, z, hd⟩ := mx_rows I m
  obtain ⟨n1, n2⟩ := key_nest I hk hx rx
  have rs' := rel_some p (fun x hx => (m.e x hx).1) hk
  refine Mx.mx_in (neg := true) (by omega) n1 n2 hd o ks fun t => ⟨.bl (!(mget xs kd).isSome), H, I.tok t, ?_, ?_⟩
  · rw [rs', Bool.bne_true]
    rfl
  · cases e : mget xs kd with
    | none => exact q2 e
    | some _ => exact q1 (by rw [e]; rfl)
theorem ix_mx {w : World} (hw : X.w = w) (hu : X.A.units + 64 < cLine) : IxR X (rIxM w) := by
  subst hw
  intro value slice pins s σ H x y v u Q I rx ry h hs
  obtain ⟨d, xs, kd, e, rfl, m, hk, hy, he, q⟩ := h
  cases rx
  obtain ⟨rs, o, ks, p, z, hd⟩ := mx_rows I m
  obtain ⟨n1, n2⟩ := key_nest I hk hy ry
  obtain ⟨u', e1, r1⟩ := (pr_get (fun x hx => (m.e x hx).1) hk p).2 e he
  exact subscriptTail_builtinR (x := u') o.typeIs PySem.F.slot_dict_getitem.lookup (Mx.mx_item (Q := fun r s' => r = u' ∧ EP X pins σ Q r s') (by omega) n1 n2 o ks e1 fun t => ⟨rfl, e.v, H, I.tok t, r1, q⟩) hs
theorem mt_getM {w : World} (hw : X.w = w) (hu : X.A.units + 64 < cLine) : MtR X "dict.get" (rGetM w) := by
  subst hw
  intro pins s σ H x xs v us Q I rx rxs h
  obtain ⟨d, es, kd, k, rfl, rfl, m, hk, hx, q1, q2⟩ := h
  cases rx
  obtain ⟨u, rfl, ru⟩ := vals1 rxs
  obtain ⟨rs, o, ks, p, z, hd⟩ := mx_rows I m
  obtain ⟨n1, n2⟩ := key_nest I hk hx ru
  obtain ⟨g1, g2⟩ := pr_get (fun x hx => (m.e x hx).1) hk p
  refine Mx.mx_getM (by omega) n1 n2 hd o ks (PySem.F.args_dict_get_2 _ _) fun t => ?_
  cases e : mget es kd with
  | none =>
    rw [g1 e]
    exact ⟨.non, H, I.tok t, rfl, q1 e⟩
  | some x =>
    obtain ⟨u', e1, r1⟩ := g2 x e
    rw [e1]
    exact ⟨x.v, H, I.tok t, r1, q2 x e⟩
theorem mt_popM {w : World} (hw : X.w = w) (hu : X.A.units + 64 < cLine) : MtR X "dict.pop" (rPopM w) := by
  subst hw
  intro pins s σ H x xs v us Q I rx rxs h
  obtain ⟨d, es, kd, k, ms, rfl, rfl, hms, m, hk, hx, q1, q2⟩ := h
  cases rx
  cases rxs with
  | @cons _ u _ us ru rs2 =>
    obtain ⟨rs, o, ks, p, z, hd⟩ := mx_rows I m
    obtain ⟨n1, n2⟩ := key_nest I hk hx ru
    obtain ⟨g1, g2⟩ := pr_get (fun x hx => (m.e x hx).1) hk p
    have more : us = [] ∨ ∃ y, us = [y] := by
      rcases hms with rfl | ⟨y, rfl⟩
      · cases rs2
        exact .inl rfl
      · obtain ⟨y', rfl, _⟩ := vals1 rs2
        exact .inr ⟨y', rfl⟩
    have args : argsOk "dict.pop" ⟨.ref d :: u :: us, []⟩ := by
      rcases more with rfl | ⟨y, rfl⟩
      · exact PySem.F.args_dict_pop_2 _ _
      · exact PySem.F.args_dict_pop_3 _ _ _
    refine Mx.mx_pop more args (by omega) n1 n2 hd o ks z (fun v e h' t o' ks' sb => ?_) (fun e => ?_)
    · cases em : mget es kd with
      | none =>
        rw [g1 em] at e
        cases e
      | some x =>
        obtain ⟨u', e1, r1⟩ := g2 x em
        rw [e1] at e
        cases e
        obtain ⟨H', I', m', b'⟩ := mx_inv (ys := mdel es kd) I m o' (by
          have := mdel_len es kd
          have := Paired.length p
          rw [List.length_map] at this
          omega) hd (pr_del (fun x hx => (m.e x hx).1) hk p) sb (fun x hx => m.e x (mdel_mem hx)) (mdel_nd m.nd) t
        exact ⟨x.v, H', I', r1, q2 x em H' m' b'⟩
    · cases em : mget es kd with
      | some x =>
        obtain ⟨u', e1, _⟩ := g2 x em
        rw [e1] at e
        cases e
      | none =>
        obtain ⟨y, rfl, q⟩ := q1 em
        obtain ⟨y', rfl, ry⟩ := vals1 rs2
        exact ⟨y', rfl, fun t => ⟨y, H, I.tok t, ry, q⟩⟩
theorem set_mx {w : World} (hw : X.w = w) (hu : X.A.units + 64 < cLine) : PSet X (rSetM w) := by
  subst hw
  intro pins s σ H o i v ov iv u Q I ro ri rv h
  obtain ⟨d, xs, kd, vd, rfl, m, hk, hx, hv, hxv, hl, q⟩ := h
  cases ro
  obtain ⟨rs, ob, ks, p, z, hd⟩ := mx_rows I m
  obtain ⟨n1, n2⟩ := key_nest I hk hx ri
  refine Mx.mx_put (by omega) n1 n2 ob ks z fun h' t o' ks' sb => ?_
  obtain ⟨H', I', m', b'⟩ := mx_inv (ys := mput xs ⟨kd, vd, i, v⟩) I m o' (by
    have := mput_len xs ⟨kd, vd, i, v⟩
    omega) hd (pr_put (e := ⟨kd, vd, i, v⟩) hk ri rv (fun x hx => (m.e x hx).1) p) sb (mput_mem m.e ⟨hk, hv, hx, hxv⟩ fun x hx => by
      obtain ⟨a, b, c, f⟩ := m.e x hx
      unfold mset
      split
      · exact ⟨a, hv, c, hxv⟩
      · exact ⟨a, b, c, f⟩) (mput_nd m.nd) t
  exact ⟨H', I', q H' m' b'⟩
theorem call_lenM {w : World} (hw : X.w = w) : CallR X (.builtin "len") (rLenM w) := by
  subst hw
  intro pins s σ H xs us Q I r h
  obtain ⟨d, es, rfl, m, q⟩ := h
  rw [Vals.ref1 r]
  obtain ⟨rs, o, ks, p, z, hd⟩ := mx_rows I m
  have e := Paired.length p
  rw [List.length_map] at e
  refine Mx.mx_len hd o z fun t u => ⟨.int es.length, H, I.tok t, ⟨u, by rw [e]⟩, q⟩
theorem call_iterM {w : World} (hw : X.w = w) : CallR X (.builtin "iter") (rIterM w) := by
  subst hw
  intro pins s σ H xs us Q I r h
  obtain ⟨d, es, rfl, m, q⟩ := h
  rw [Vals.ref1 r]
  obtain ⟨ep, g⟩ := m.g
  obtain ⟨⟨z, hd, rs, o, p⟩, _⟩ := I.hok d _ g
  have e := Paired.length p
  rw [List.length_map] at e
  refine Mx.mx_iter hd o ?_
  refine ⟨.ref s.heap.objs.size, _, I.laid (t' := s.toks) (fun b u e => Heap.get?_push_of_some _ e) (Nat.le_refl _) (kitO_ok ?_), rfl, q _ ep g (I.hok.fresh (Nat.le_refl _))⟩
  rw [e]
  exact ⟨_, Heap.get?_push_size _ rfl, rfl, rfl⟩
theorem call_nextM {w : World} (hw : X.w = w) : CallR X (.builtin "next") (rNextM w) := by
  subst hw
  intro pins s σ H xs us Q I r h
  obtain ⟨it, d, es, ep, i, e, y, rfl, gi, gd, he, q⟩ := h
  cases r with
  | @cons _ u1 _ us r1 r2 =>
    obtain ⟨u2, rfl, _⟩ := vals1 r2
    obtain rfl : u1 = Value.ref it := r1
    obtain ⟨⟨z, hd, rs, o, p⟩, _⟩ := I.hok d _ gd
    have kit : s.heap.IsKeyIter it d i es.length ep := (I.hok it _ gi).1
    have el := Paired.length p
    rw [List.length_map] at el
    obtain ⟨r, hr, rr⟩ : ∃ r, rs[i]? = some r ∧ PR e.row r := by
      have gen : ∀ {as : List MEnt} {rs : List Mx.MR} {i : Nat}, Paired PR (as.map MEnt.row) rs → as[i]? = some e → ∃ r, rs[i]? = some r ∧ PR e.row r := fun {as} => by
        induction as with
        | nil => intro rs i _ h; simp at h
        | cons a as ih =>
          intro rs i p h
          cases p with
          | cons qq t =>
            cases i with
            | zero =>
              obtain rfl : a = e := by simpa using h
              exact ⟨_, rfl, qq⟩
            | succ i => exact ih (i := i) t (by simpa using h)
      exact gen p he
    rw [el] at kit
    refine Mx.mx_next kit o hr fun h' k' sb => ?_
    have mu : Mut (H it) := by
      rw [gi]
      trivial
    rw [← el] at k'
    have he' : ∃ u, h'.get? it = some u := by
      obtain ⟨o, ho, _⟩ := k'
      exact ⟨o, ho⟩
    exact ⟨e.k, _, I.write (x := it) (e := it) (t' := s.toks) mu (.inl rfl) (fun b o nb z => (sb.2 b nb).trans z) he' (kitO_ok k'), rr.2.1, q⟩
theorem mt_itemsM {w : World} (hw : X.w = w) : MtR X "dict.items" (rItemsM w) := by
  subst hw
  intro pins s σ H x xs v us Q I rx rxs h
  obtain ⟨d, es, rfl, rfl, m, q⟩ := h
  cases rx
  cases rxs
  obtain ⟨rs, ⟨ep, o, ob, ho, hc, hdat, _⟩, _, _, _, hd⟩ := mx_rows I m
  refine DT.callItems (es := ob) (ep := ep) hd ⟨o, ho, hc, hdat⟩ ?_
  exact ⟨.ref _, upd H _ (L2.DX.itemsO _ d), I.laid (t' := s.toks) (fun b u e => Heap.get?_push_of_some _ e) (Nat.le_refl _) (L2.DX.itemsO_ok (Heap.get?_push_size _ rfl)), rfl, q _ (I.hok.fresh (Nat.le_refl _))⟩
end

/-! ### calls of its methods, del, {}, list(d.items()) -/
theorem pr_at {α β γ : Type} {F : β → γ → Prop} {f : α → β} : ∀ {xs : List α} {ys : List γ}, Paired F (xs.map f) ys → ∀ {j : Nat} {y : γ}, ys[j]? = some y → ∃ x, xs[j]? = some x ∧ F (f x) y
  | [], _, .nil, j, y, h => by simp at h
  | x :: xs, _, .cons r t, 0, y, h => by
    obtain rfl := Option.some.inj h
    exact ⟨x, rfl, r⟩
  | x :: xs, _, .cons r t, j + 1, y, h => pr_at t (by simpa using h)
theorem dhAll_at {H : Hp} : ∀ {ds : List PyData} {as : List Addr}, as.length = ds.length → (∀ (j : Nat) a d, as[j]? = some a → ds[j]? = some d → Dh H d (.ref a)) → DhAll H ds (as.map V.ref)
  | [], [], _, _ => rfl
  | [], _ :: _, h, _ => by cases h
  | _ :: _, [], h, _ => by cases h
  | d :: ds, a :: as, h, g => ⟨.ref a, as.map V.ref, rfl, g 0 a d rfl rfl, dhAll_at (by simpa using h) fun j b e h1 h2 => g (j + 1) b e (by simpa using h1) (by simpa using h2)⟩
section
variable {X : Cx}
theorem isMx_is {pins : List (Addr × Obj)} {σ : L2.St} {H : Hp} {s : Shared} {x : V} {v : Value} (I : Inv X pins σ H s) (rv : RelV x v) (h : isMx X.w x H) : s.TypeIs v "dict" ∧ ∀ a, v = .ref a → ∃ ob, s.heap.get? a = some ob ∧ ob.dict = none := by
  obtain ⟨d, es, rfl, m⟩ := h
  obtain rfl : v = Value.ref d := rv
  obtain ⟨rs, ⟨ep, o, ob, ho, hc, _⟩, _⟩ := mx_rows I m
  refine ⟨⟨o, ho, hc.1⟩, fun a e => ?_⟩
  cases e
  exact ⟨o, ho, hc.2.1⟩
variable {o e : Expr} {es : List Expr} {to : TE} {t : TA} {name : Str} {apos cpos : Pos} {id : String} {r : V → List V → Hp → VK → Prop} {w : World}
theorem pe_bx0 (hw : X.w = w) (pa : PlainAttrs "dict") (slot : Slot "dict" name id) (ty : typeOf (.builtin id) = pure (.type "method_descriptor")) (hm : MtR X id r) (ho : PE X o to) (h1 : attributeBase o name X.env (eval o X.env) = eval o X.env := by rfl) (h2 : (apos.endLine == cpos.line) = true := by rfl) :
    PE X (.Call (.Attribute o name apos) [] [] cpos) (tBX0 w r to) := by
  subst hw
  refine ⟨fun pins s σ H Q I z => wpAny_Call_method0_late h1 h2 (thn (ho.run pins s σ H _ I z) fun v s1 ⟨x, H1, I1, rx, mx, q⟩ => ?_)⟩
  obtain ⟨t1, t2⟩ := isMx_is I1 rx mx
  exact ⟨"dict", id, pa, slot, ty, t1, t2, Calls.callWith_builtin rfl (PySem.evalArgs_none (hm pins s1 σ H1 x [] v [] Q I1 rx .nil q))⟩
theorem pe_bx (hw : X.w = w) (pa : PlainAttrs "dict") (slot : Slot "dict" name id) (ty : typeOf (.builtin id) = pure (.type "method_descriptor")) (hm : MtR X id r) (ho : PE X o to) (ha : PA X (e :: es) t) (h1 : attributeBase o name X.env (eval o X.env) = eval o X.env := by rfl)
    (h2 : ((backTo cpos (starEach (e :: es) X.env)).all (fun x => !x.1) && (backToKw cpos (keywordEach [] X.env)).all (fun x => x.1.isSome) && decide ((e :: es).length + ([] : List Keyword).length + (if ([] : List Keyword).isEmpty then 0 else 1) < 30)) = true := by rfl)
    (h3 : (apos.endLine == cpos.line) = true := by rfl) (h4 : starEach (e :: es) X.env = (false, eval e X.env) :: starEach es X.env := by rfl) (h5 : (backTo cpos (starEach es X.env)).any (·.1) = false := by rfl) :
    PE X (.Call (.Attribute o name apos) (e :: es) [] cpos) (tBX w r to t) := by
  subst hw
  refine ⟨fun pins s σ H Q I z => wpAny_Call_method_late h1 h2 h3 rfl (thn (ho.run pins s σ H _ I z) fun v s1 ⟨x, H1, I1, rx, mx, q⟩ => ?_)⟩
  obtain ⟨t1, t2⟩ := isMx_is I1 rx mx
  refine ⟨"dict", id, pa, slot, ty, t1, t2, ?_⟩
  have run := ha.run cpos pins s1 σ H1 _ I1 q
  rw [h4] at run ⊢
  exact Calls.callWith_builtin (by show (false || (backTo cpos (starEach es X.env)).any (·.1)) = false; rw [h5]; rfl) (Calls.evalArgs_plain (thn run fun us s2 ⟨vs, H2, I2, rs, q2⟩ => hm pins s2 σ H2 x vs v us Q I2 rx rs q2))
theorem ps_delM {i : Expr} {td ty : TE} {tpos pos : Pos} (hw : X.w = w) (hu : X.A.units + 64 < cLine) (ho : PE X o td) (hi : PE X i ty) : PS X (.Delete [.Subscript o i tpos] pos) (tDelM w td ty) := by
  subst hw
  refine ⟨fun pins s σ H D I h => wpAny_Delete (wpAny_deleteEach_cons (wpAny_delete_Subscript (thn (ho.run pins s σ H _ I h) fun u s1 ⟨x, H1, I1, rx, q1⟩ => thn (hi.run pins s1 σ H1 _ I1 q1) fun iv s2 ⟨y, H2, I2, ry, d, xs, kd, e1, m, hk, hy, hs, q2⟩ => ?_)))⟩
  subst e1
  obtain rfl : u = Value.ref d := rx
  obtain ⟨rs, ob, ks, p, z, hd⟩ := mx_rows I2 m
  obtain ⟨n1, n2⟩ := key_nest I2 hk hy ry
  obtain ⟨en, em⟩ := Option.isSome_iff_exists.mp hs
  obtain ⟨vu, ev, _⟩ := (pr_get (fun x hx => (m.e x hx).1) hk p).2 en em
  refine Mx.mx_del (by omega) n1 n2 hd ob ks z ev fun h' tk o' ks' sb => wpAny_deleteEach_nil ?_
  obtain ⟨H', I', m', b'⟩ := mx_inv (ys := mdel xs kd) I2 m o' (by
    have := mdel_len xs kd
    have := Paired.length p
    rw [List.length_map] at this
    omega) hd (pr_del (fun x hx => (m.e x hx).1) hk p) sb (fun x hx => m.e x (mdel_mem hx)) (mdel_nd m.nd) tk
  exact ⟨σ, H', I', q2 H' m' b'⟩
theorem pe_dnewM {pos : Pos} (hw : X.w = w) : PE X (.Dict [] [] pos) (tNewM w) := by
  subst hw
  refine ⟨fun pins s σ H Q I h => wpAny_Dict_empty ?_⟩
  have oe : Mx.OfE X.w (s.heap.push { cls := .type "dict", data := .dict #[] }) s.heap.objs.size 0 [] := ⟨_, #[], Heap.get?_push_size _ rfl, ⟨rfl, rfl, rfl⟩, rfl, rfl⟩
  have ne : (s.heap.objs.size == sysModules) = false := beq_eq_false_iff_ne.mpr (Nat.ne_of_gt I.big)
  have nf := I.hok.fresh (Nat.le_refl s.heap.objs.size)
  exact ⟨.ref s.heap.objs.size, _, I.laid (t' := s.toks) (fun _ _ q => Heap.get?_push_of_some _ q) (Nat.le_refl _) (mxO_ok (w := X.w) (ep := 0) (rows := []) (Nat.zero_le _) ne oe .nil), rfl, h _ _ ⟨⟨0, upd_same⟩, by simp, List.nodup_nil⟩ nf (same_upd nf) fun b hb => upd_ne hb⟩
theorem call_listM (hw : X.w = w) (hc : X.calm = true) : CallR X (.type "list") (rListM w) := by
  subst hw
  intro pins s σ H vs us Q I r h
  obtain ⟨p, d, es, rfl, gp, m, q⟩ := h
  rw [Vals.ref1 r]
  have view : s.heap.IsItemsView p d := (I.hok p _ gp).1
  obtain ⟨rs, ⟨ep, o, ob, ho, hx, hdat, he⟩, ks, pr, z, hd⟩ := mx_rows I m
  have sz : ob.size = rs.length := by rw [← Array.length_toList, he, List.length_map]
  have el := Paired.length pr
  rw [List.length_map] at el
  refine Mx.mx_list (es := ob) (ep := ep) (I.ok.hd hc) view ⟨o, ho, hx, hdat⟩ (by omega) fun h' tk acc c as q1 q2 q3 q4 q5 => ?_
  have nd : as.Nodup := List.Pairwise.imp (fun h => Nat.ne_of_lt h) q4.rise
  have made : ∀ (j : Nat) (t : Addr), as[j]? = some t → ∃ (e : MEnt) (ku vu : Value), es[j]? = some e ∧ h'.get? t = some { cls := .type "tuple", data := .seq #[ku, vu] } ∧ RelV e.k ku ∧ RelV e.v vu ∧ e ∈ es := fun j t hj => by
    obtain ⟨en, h1, h2⟩ := q4.pairs j t hj
    rw [← Array.getElem?_toList, he, List.getElem?_map] at h1
    obtain ⟨r, hr, rfl⟩ := Option.map_eq_some_iff.mp h1
    obtain ⟨e, h3, h4⟩ := pr_at pr hr
    exact ⟨e, _, _, h3, h2, h4.2.1, h4.2.2, List.mem_of_getElem? h3⟩
  have nL : H s.heap.objs.size = none := I.hok.fresh (Nat.le_refl _)
  have I1 : Inv X pins σ H { s with heap := h', toks := tk } := I.kept (t' := tk) q1
  have I2 : Inv X pins σ (upd H s.heap.objs.size (.lst (as.map V.ref))) { s with heap := h', toks := tk } :=
    I1.take (h' := h') (t' := tk) (fun b ob _ e => e) (I.fpOk (Nat.le_refl _) nL) ⟨by rw [List.length_map]; omega, acc.toList, c, by rw [q5]; exact vals_maps V.ref Value.ref as fun _ _ => rfl, q2⟩
  obtain ⟨H2, I3, kH, tH⟩ := L2.DX.takeT (P := fun t ts => ∃ (j : Nat) (e : MEnt), as[j]? = some t ∧ es[j]? = some e ∧ ts = [e.k, e.v] ∧ e ∈ es) I as _ I2 nd fun t ht => by
    obtain ⟨j, hj⟩ := List.mem_iff_getElem?.mp ht
    obtain ⟨e, ku, vu, h1, h2, rk, rv, hm⟩ := made j t hj
    have hb := q4.above t ht
    refine ⟨Nat.le_of_lt hb, ?_, _, ⟨j, e, hj, h1, rfl, hm⟩, fun H3 => ⟨by rw [sizeLine_eq]; show 2 ≤ 16777216; omega, [ku, vu], .cons rk (.cons rv .nil), ⟨_, h2, rfl, 0, rfl⟩⟩⟩
    rw [upd_ne (Nat.ne_of_gt hb)]
    exact I.hok.fresh (Nat.le_of_lt hb)
  have sm : Same H H2 := fun b ob e => kH b ob (by rw [upd_ne (ne_of_none e nL)]; exact e)
  refine ⟨.ref s.heap.objs.size, H2, I3, rfl, q H2 s.heap.objs.size _ sm nL (kH _ _ upd_same) ?_⟩
  refine dhAll_at (by rw [List.length_map]; omega) fun j a dd h1 h2 => ?_
  obtain ⟨ts, ⟨i, e, i1, i2, rfl, hm⟩, hH⟩ := tH a (List.mem_of_getElem? h1)
  obtain rfl : i = j := (List.getElem?_inj (List.getElem?_eq_some_iff.mp i1).1 nd).mp (i1.trans h1.symm)
  rw [List.getElem?_map, i2] at h2
  rw [← Option.some.inj h2]
  obtain ⟨_, _, k1, k2⟩ := m.e e hm
  exact ⟨a, _, rfl, hH, _, _, rfl, Dh.mono sm _ _ k1, _, _, rfl, Dh.mono sm _ _ k2, rfl⟩
end

/-! ### entries as data -/
abbrev DE := PyData × PyData
def MEnt.dat (e : MEnt) : DE := (e.kd, e.vd)
open Classical in
noncomputable def eget (es : List DE) (k : PyData) : Option PyData := (es.find? fun e => decide (e.1 = k)).map (·.2)
open Classical in
noncomputable def edel (es : List DE) (k : PyData) : List DE := es.filter fun e => decide (e.1 ≠ k)
theorem eget_dat (xs : List MEnt) (k : PyData) : (mget xs k).map (·.vd) = eget (xs.map MEnt.dat) k := by
  unfold mget eget
  rw [List.find?_map, Option.map_map]
  rfl
theorem edel_dat (xs : List MEnt) (k : PyData) : (mdel xs k).map MEnt.dat = edel (xs.map MEnt.dat) k := by
  unfold mdel edel
  rw [List.filter_map]
  rfl
theorem keys_dat (xs : List MEnt) : (xs.map MEnt.dat).map (·.1) = xs.map (·.kd) := by
  rw [List.map_map]
  rfl
theorem mget_dat_none {xs : List MEnt} {k : PyData} : mget xs k = none ↔ eget (xs.map MEnt.dat) k = none := by
  rw [← eget_dat, Option.map_eq_none_iff]
theorem mget_dat_some {xs : List MEnt} {k : PyData} {e : MEnt} (h : mget xs k = some e) : eget (xs.map MEnt.dat) k = some e.vd := by
  rw [← eget_dat, h]
  rfl
theorem mget_mem {xs : List MEnt} {k : PyData} {e : MEnt} (h : mget xs k = some e) : e ∈ xs ∧ e.kd = k := by
  unfold mget at h
  refine ⟨List.mem_of_find?_eq_some h, ?_⟩
  have := List.find?_some h
  simpa using this
theorem mget_in {xs : List MEnt} {k : PyData} : (mget xs k).isSome = true ↔ k ∈ xs.map (·.kd) := by
  constructor
  · intro h
    obtain ⟨e, he⟩ := Option.isSome_iff_exists.mp h
    obtain ⟨h1, h2⟩ := mget_mem he
    exact List.mem_map.mpr ⟨e, h1, h2⟩
  · intro h
    obtain ⟨e, h1, h2⟩ := List.mem_map.mp h
    cases z : mget xs k with
    | some _ => rfl
    | none =>
      have := List.find?_eq_none.mp (show xs.find? _ = none from z) e h1
      simp at this
      exact absurd h2 this
theorem mdel_not {xs : List MEnt} {k : PyData} : k ∉ (mdel xs k).map (·.kd) := fun h => by
  obtain ⟨e, h1, h2⟩ := List.mem_map.mp h
  have := (List.mem_filter.mp h1).2
  simp at this
  exact this h2
theorem mdel_none {xs : List MEnt} {k : PyData} (h : mget xs k = none) : mdel xs k = xs := by
  refine List.filter_eq_self.mpr fun x hx => ?_
  have := List.find?_eq_none.mp (show xs.find? _ = none from h) x hx
  simp at this
  simpa using this
theorem mput_new {xs : List MEnt} {e : MEnt} (h : e.kd ∉ xs.map (·.kd)) : mput xs e = xs ++ [e] := by
  unfold mput
  rw [if_neg h]
theorem mdel_head {x : MEnt} {xs : List MEnt} (nd : ((x :: xs).map (·.kd)).Nodup) : mdel (x :: xs) x.kd = xs := by
  have n := List.nodup_cons.mp (show (x.kd :: xs.map (·.kd)).Nodup from nd)
  unfold mdel
  rw [List.filter_cons_of_neg (by simp)]
  refine List.filter_eq_self.mpr fun y hy => ?_
  have : ¬ y.kd = x.kd := fun z => n.1 (List.mem_map.mpr ⟨y, hy, z⟩)
  simpa using this
theorem edel_none {es : List DE} {k : PyData} (h : eget es k = none) : edel es k = es := by
  refine List.filter_eq_self.mpr fun x hx => ?_
  unfold eget at h
  rw [Option.map_eq_none_iff] at h
  have := List.find?_eq_none.mp h x hx
  simp at this
  simpa using this
theorem mdel_same {xs : List MEnt} {k : PyData} {e : MEnt} (h : e.kd = k) : mdel (xs ++ [e]) k = mdel xs k := by
  unfold mdel
  rw [List.filter_append, List.filter_cons_of_neg (by simpa using h)]
  simp
theorem mdel_lt {xs : List MEnt} {k : PyData} (h : (mget xs k).isSome = true) : (mdel xs k).length < xs.length := by
  refine Nat.lt_of_le_of_ne (mdel_len xs k) fun z => ?_
  have z2 : mdel xs k = xs := List.Sublist.eq_of_length List.filter_sublist z
  have := mdel_not (xs := xs) (k := k)
  rw [z2] at this
  exact this (mget_in.mp h)
theorem eget_nil (k : PyData) : eget [] k = none := rfl
theorem eget_pos {e : DE} {es : List DE} {k : PyData} (h : e.1 = k) : eget (e :: es) k = some e.2 := by
  unfold eget
  rw [List.find?_cons_of_pos (by simpa using h)]
  rfl
theorem eget_neg {e : DE} {es : List DE} {k : PyData} (h : ¬ e.1 = k) : eget (e :: es) k = eget es k := by
  unfold eget
  rw [List.find?_cons_of_neg (by simpa using h)]
theorem edel_pos {e : DE} {es : List DE} {k : PyData} (h : e.1 = k) : edel (e :: es) k = edel es k := by
  unfold edel
  rw [List.filter_cons_of_neg (by simpa using h)]
theorem edel_neg {e : DE} {es : List DE} {k : PyData} (h : ¬ e.1 = k) : edel (e :: es) k = e :: edel es k := by
  unfold edel
  rw [List.filter_cons_of_pos (by simpa using h)]
theorem eget_none : ∀ {es : List DE} {k : PyData}, eget es k = none ↔ ∀ e ∈ es, e.1 ≠ k
  | [], k => by simp [eget_nil]
  | e :: es, k => by
    by_cases h : e.1 = k
    · rw [eget_pos h]
      constructor
      · intro z
        cases z
      · intro z
        exact absurd h (z e List.mem_cons_self)
    · rw [eget_neg h, eget_none (es := es)]
      constructor
      · intro z x hx
        rcases List.mem_cons.mp hx with rfl | hx
        · exact h
        · exact z x hx
      · intro z x hx
        exact z x (List.mem_cons_of_mem _ hx)
theorem edel_all {es : List DE} {k : PyData} (h : ∀ e ∈ es, e.1 ≠ k) : edel es k = es := edel_none (eget_none.mpr h)

section

-- a condition of an operator
local macro_rules | `(tactic| walk_at "cond") => `(tactic| first
  | (show (0 : Int) < _; omega)
  | (show CDiv _ _; constructor <;> (first | decide | omega))
  | (show CMul _ _; first | (refine cmul_l ?_; constructor <;> (first | decide | omega)) | (refine cmul_r ?_; constructor <;> (first | decide | omega)))
  | (show CPow _ _; exact (by refine ⟨by decide, by decide, by decide⟩))
  | (show CDivW _ _; exact ⟨by decide, by decide +kernel⟩))
local macro_rules | `(tactic| walk_at "sq") => `(tactic| first | assumption | exact Dh.mono (same_upd (by assumption)) _ _ (by assumption) | exact .inl (.inl (.inl (by assumption))) | exact .inr (.inl (.inl (by assumption))) | exact SqL.of (by assumption) | exact .inl (by assumption) | exact .inl (SqL.of (by assumption)) | exact SqT.of (by assumption) | exact .inr (SqT.of (by assumption)))
local macro_rules | `(tactic| walk_at "st") => `(tactic| first
  | refine ⟨_, rfl, ?_⟩
  | refine ⟨_, _, rfl, rfl, ?_⟩
  | refine .inl ⟨_, rfl, ?_⟩
  | refine ⟨rfl, ?_⟩
  | refine ⟨_, _, rfl, by walk_at "sq", ?_⟩
  | refine ⟨.inl ⟨rfl, _, SqL.of (by assumption)⟩, ?_⟩
  | refine ⟨by walk_at "cond", ?_⟩
  | (refine' ifBT ?hh ?_; (case hh => first | rfl | assumption))
  | (refine' ifBF ?hh ?_; (case hh => first | rfl | assumption)))
local macro_rules | `(tactic| walk_at "go") => `(tactic| repeat walk_at "st")
local macro_rules | `(tactic| walk_at "yes") => `(tactic| (refine' ifT ?hh ?_; (case hh => first | rfl | decide +kernel)))
local macro_rules | `(tactic| walk_at "no") => `(tactic| (refine' ifF ?hh ?_; (case hh => first | decide +kernel | (intro z; cases z; done))))

-- facts carried to the heap at hand, from the facts of the context
local macro_rules | `(tactic| walk_at "lnk") => `(tactic| first | assumption | exact same_upd (by assumption))
local macro_rules | `(tactic| walk_at "sm") => `(tactic| first | walk_at "lnk" | exact same_rfl | (refine Same.trans ?_ (by walk_at "lnk"); walk_at "sm"))
local macro_rules | `(tactic| walk_at "at") => `(tactic| first | assumption | exact upd_same | (refine Same.get (by walk_at "lnk") ?_; walk_at "at"))
local macro_rules | `(tactic| walk_at "ix") => `(tactic| first
  | exact atI_nat (j := 0) rfl | exact atI_nat (j := 1) rfl | exact atI_nat (j := 2) rfl | exact atI_nat (j := 3) rfl
  | exact atI_nat (j := 4) rfl | exact atI_nat (j := 5) rfl | exact atI_nat (j := 6) rfl | assumption)
local macro_rules | `(tactic| walk_at "sT") => `(tactic| first | exact SqT.of (by walk_at "at") | exact SqL.of (by walk_at "at"))
local macro_rules | `(tactic| walk_at "st") => `(tactic| refine ⟨_, _, _, _, rfl, rfl, by walk_at "sT", by walk_at "ix", ?_⟩)
local macro_rules | `(tactic| walk_at "side") => `(tactic| first | rfl | assumption | walk_at "at" | walk_at "sm" | omega | decide)
-- a call: the promise's letters from its arguments, then what is asked from the context
local macro_rules | `(tactic| walk_at "call") => `(tactic| ((repeat (apply Exists.intro)); refine And.intro rfl ?_; repeat (refine And.intro (by walk_at "side") ?_)))

local macro_rules | `(tactic| walk_at "st") => `(tactic| refine ⟨_, _, _, _, _, rfl, by assumption, by assumption, by omega, by omega, by omega, by omega, by omega, ?_⟩)
local macro_rules | `(tactic| walk_at "st") => `(tactic| refine ⟨_, _, _, _, _, rfl, Same.seq (by assumption) (by assumption), by assumption, by omega, by omega, by omega, by omega, by omega, ?_⟩)

/-! ### the program's Cache -/
abbrev s_Cache___init__ : Stmt := inClass (topS 1) 0
theorem sc_Cache___init__ : FnScope ["self", "capacity"] ["self", "capacity"] (C8.fnScope s_Cache___init__) := C8.fnScope_by (by decide +kernel)
abbrev s_Cache_look : Stmt := inClass (topS 1) 1
theorem sc_Cache_look : FnScope ["self", "key", "value"] ["self", "key"] (C8.fnScope s_Cache_look) := C8.fnScope_by (by decide +kernel)
abbrev s_Cache_fill : Stmt := inClass (topS 1) 2
theorem sc_Cache_fill : FnScope ["self", "key", "value", "oldest"] ["self", "key", "value"] (C8.fnScope s_Cache_fill) := C8.fnScope_by (by decide +kernel)
abbrev s_Cache_drop : Stmt := inClass (topS 1) 3
theorem sc_Cache_drop : FnScope ["self", "key"] ["self", "key"] (C8.fnScope s_Cache_drop) := C8.fnScope_by (by decide +kernel)
abbrev s_Cache_clear_all : Stmt := inClass (topS 1) 4
theorem sc_Cache_clear_all : FnScope ["self", "count"] ["self"] (C8.fnScope s_Cache_clear_all) := C8.fnScope_by (by decide +kernel)
theorem kce : ¬ (("_capacity" : Str) = "_entries") := by decide +kernel
def flds (c : Int) (d : Addr) : List (Str × V) := putF "_entries" (.ref d) (putF "_capacity" (.int c) [])
theorem flds_eq (c : Int) (d : Addr) : flds c d = ([("_capacity", V.int c), ("_entries", V.ref d)] : List (Str × V)) := by
  show (if ("_capacity" : Str) = "_entries" then [(("_capacity" : Str), V.ref d)] else (("_capacity" : Str), V.int c) :: putF "_entries" (V.ref d) []) = _
  rw [if_neg kce]
  all_goals rfl
theorem flds_c (c : Int) (d : Addr) : (flds c d).lookup ("_capacity" : Str) = some (.int c) := by
  unfold flds
  rw [lookup_putF, if_neg kce, lookup_putF, if_pos rfl]
theorem flds_e (c : Int) (d : Addr) : (flds c d).lookup ("_entries" : Str) = some (.ref d) := by
  unfold flds
  rw [lookup_putF, if_pos rfl]
theorem flds_no (c : Int) (d : Addr) {m : Str} (h1 : ¬ m = "_entries") (h2 : ¬ m = "_capacity") : (flds c d).lookup m = none := by
  unfold flds
  rw [lookup_putF, if_neg h1, lookup_putF, if_neg h2]
  all_goals rfl
theorem flds_put (c : Int) (d d' : Addr) : putF "_entries" (.ref d') (flds c d) = flds c d' := by
  rw [flds_eq, flds_eq]
  show (if ("_capacity" : Str) = "_entries" then _ else (("_capacity" : Str), V.int c) :: (if ("_entries" : Str) = "_entries" then [(("_entries" : Str), V.ref d')] else _)) = _
  rw [if_neg kce, if_pos rfl]
structure CTxt (K : PySem.W.Frag) (mg : Str → Option Value) (C : Addr) : Prop where
  cl : Cls K C
  nC : NoAttr K C "_capacity"
  nE : NoAttr K C "_entries"
  mgC : mg "Cache" = some (.ref C)
  len : mg "len" = none
  list : mg "list" = none
  next : mg "next" = none
  iter : mg "iter" = none
structure CacheAt (C : Addr) (w : World) (H : Hp) (p d : Addr) (c : Int) (xs : List MEnt) : Prop where
  g : ∃ dx, H p = some (.ins C dx (flds c d))
  m : MxAt w H d xs
  l : xs.length ≤ 100000
theorem CacheAt.ne {C : Addr} {w : World} {H : Hp} {p d : Addr} {c : Int} {xs : List MEnt} (h : CacheAt C w H p d c xs) : p ≠ d := fun z => by
  obtain ⟨dx, g⟩ := h.g
  obtain ⟨ep, g2⟩ := h.m.g
  rw [z, g2] at g
  cases g
theorem CacheAt.behind {C : Addr} {w : World} {H H' : Hp} {p d : Addr} {c : Int} {xs ys : List MEnt} (h : CacheAt C w H p d c xs) (b : But H H' d) (m : MxAt w H' d ys) (l : ys.length ≤ 100000) : CacheAt C w H' p d c ys := by
  obtain ⟨dx, g⟩ := h.g
  exact ⟨⟨dx, b _ _ h.ne g⟩, m, l⟩
theorem CacheAt.same {C : Addr} {w : World} {H H' : Hp} {p d : Addr} {c : Int} {xs : List MEnt} (h : CacheAt C w H p d c xs) (s : Same H H') : CacheAt C w H' p d c xs := by
  obtain ⟨dx, g⟩ := h.g
  exact ⟨⟨dx, s _ _ g⟩, h.m.same s, h.l⟩
def spInit (C : Addr) (w : World) : Sp := fun vs H Q _ => ∃ (p dx : Addr) (c : Int), vs = [.ref p, .int c] ∧ H p = some (.ins C dx []) ∧ ∀ (d : Addr) (H' : Hp), H d = none → CacheAt C w H' p d c [] → But H H' p → Q .non H'
def spLook (C : Addr) (w : World) : Sp := fun vs H Q _ => ∃ (p d : Addr) (k : V) (c : Int) (kd : PyData) (xs : List MEnt), vs = [.ref p, k] ∧ CacheAt C w H p d c xs ∧ Thing kd ∧ Dh H kd k ∧ (mget xs kd = none → Q .non H) ∧ ∀ e, mget xs kd = some e → ∀ H', CacheAt C w H' p d c (mdel xs kd ++ [⟨kd, e.vd, k, e.v⟩]) → But H H' d → Q e.v H'
def spDrop (C : Addr) (w : World) : Sp := fun vs H Q _ => ∃ (p d : Addr) (k : V) (c : Int) (kd : PyData) (xs : List MEnt), vs = [.ref p, k] ∧ CacheAt C w H p d c xs ∧ Thing kd ∧ Dh H kd k ∧ ∀ H', CacheAt C w H' p d c (mdel xs kd) → But H H' d → Q (.bl (mget xs kd).isSome) H'
def spFill (C : Addr) (w : World) : Sp := fun vs H Q _ => ∃ (p d : Addr) (k v : V) (c : Int) (kd vd : PyData) (xs : List MEnt), vs = [.ref p, k, v] ∧ CacheAt C w H p d c xs ∧ xs.length ≤ 90000 ∧ Thing kd ∧ Dh H kd k ∧ Opt vd ∧ Dh H vd v ∧ 0 ≤ c ∧
  (c = 0 → Q .non H) ∧ (c ≠ 0 → (((mdel xs kd).length + 1 : Nat) : Int) ≤ c → ∀ H', CacheAt C w H' p d c (mdel xs kd ++ [MEnt.mk kd vd k v]) → But H H' d → Q .non H') ∧
  (c ≠ 0 → ¬ (((mdel xs kd).length + 1 : Nat) : Int) ≤ c → ∀ y ys, mdel xs kd ++ [MEnt.mk kd vd k v] = y :: ys → ∀ H', CacheAt C w H' p d c ys → But H H' d → Thing y.kd → Dh H' y.kd y.k → Q y.k H')
def spClear (C : Addr) (w : World) : Sp := fun vs H Q _ => ∃ (p d : Addr) (c : Int) (xs : List MEnt), vs = [.ref p] ∧ CacheAt C w H p d c xs ∧ ∀ d' H', H d' = none → CacheAt C w H' p d' c [] → But H H' p → Q (.int xs.length) H'
section
variable {P : Program} {w : World} {K : PySem.W.Frag} {mg : Str → Option Value} {base : Heap} {C : Addr}
theorem ok_init {f : Addr} {fd : FuncData} (F : C8.Fun K "__init__" "Cache.__init__" s_Cache___init__ f fd) (M : Mk K C f) (b : Binds K fd ["self", "capacity"] []) (T : CTxt K mg C) : C8.Mak P w K mg base 1 "Cache" C (spInit C w) [] := by
  refine C8.mak0 M T.mgC F b .nil sc_Cache___init__ (fun vs H Q E h => ?_) (fun cdv A outer s H vs Q E hr h => ?_)
  · obtain ⟨p, dx, c, rfl, _⟩ := h
    rfl
  obtain ⟨p, dx, c, rfl, hp, q⟩ := h
  refine ⟨_, (pss_cons (ps_fld (pv 0) (pv 1) rfl)
      (pss_one (ps_fld (pv 0) (pe_dnewM rfl) rfl))), ?_⟩
  walk_at "go"
  refine ⟨p, C, dx, [], rfl, hp, T.cl, T.nC, (by show 0 < 1000; decide), ?_⟩
  have g1 := upd_same (H := H) (a := p) (o := HO.ins C dx (putF "_capacity" (V.int c) []))
  have b1 := But.put (H := H) (d := p) (o := HO.ins C dx (putF "_capacity" (V.int c) []))
  have fr : ∀ b, b ≠ p → (upd H p (HO.ins C dx (putF "_capacity" (V.int c) []))) b = H b := fun b hb => upd_ne hb
  show _
  generalize upd H p (HO.ins C dx (putF "_capacity" (V.int c) [])) = H1 at *
  intro d H2 m2 nd s2 _
  have np : p ≠ d := ne_of_none g1 nd
  have g2 := s2 _ _ g1
  walk_at "go"
  refine ⟨p, C, dx, _, rfl, g2, T.cl, T.nE, (by show 1 < 1000; decide), ?_⟩
  have m3 : MxAt w (upd H2 p (HO.ins C dx (flds c d))) d [] := m2.tups (Tups.put fun us z => by rw [g2] at z; cases z) fun o ho => by
    rw [upd_ne np.symm]
    exact ho
  exact q d _ (by rw [← fr d np.symm]; exact nd) ⟨⟨dx, upd_same⟩, m3, Nat.zero_le _⟩ (b1.trans ((Same.but s2).trans But.put))
theorem ok_drop {f : Addr} {fd : FuncData} (F : C8.Fun K "drop" "Cache.drop" s_Cache_drop f fd) (M : Meth K C "drop" f) (b : Binds K fd ["self", "key"] []) (T : CTxt K mg C) : C8.Met P w K mg base 1 C "drop" (spDrop C w) [] := by
  refine C8.met0 T.cl M F b sc_Cache_drop (fun vs H Q E h => ?_) (fun cdv A outer s H vs Q E hr h => ?_)
  · obtain ⟨p, d, k, c, kd, xs, rfl, _⟩ := h
    rfl
  obtain ⟨p, d, k, c, kd, xs, rfl, hc, hk, hx, q⟩ := h
  obtain ⟨dx, h1⟩ := hc.g
  refine ⟨_, (pss_cons (ps_mk (ps_if (pt_cmpR (op_notinM rfl hr.units) (pv 1) (pe_fld (pv 0) rfl) (by rfl))
      (pss_one (ps_ret pe_bl))
      pss_nil))
      (pss_cons (ps_delM rfl hr.units (pe_fld (pv 0) rfl) (pv 1))
      (pss_one (ps_ret pe_bl)))), ?_⟩
  have lh := mdel_len xs kd
  have hl := hc.l
  refine un ?_
  walk_at "go"
  refine ⟨_, _, _, _, _, rfl, h1, T.cl, T.nE, flds_e _ _, ?_⟩
  refine ⟨d, xs, kd, rfl, hc.m, hk, hx, fun z => ?_, fun z => ?_⟩
  · walk_at "go"
    refine ⟨_, _, _, _, _, rfl, h1, T.cl, T.nE, flds_e _ _, ?_⟩
    walk_at "go"
    refine ⟨d, xs, kd, rfl, hc.m, hk, hx, z, fun H' m' b' => ?_⟩
    walk_at "go"
    have := q _ (hc.behind b' m' (by omega)) b'
    rw [z] at this
    exact this
  · walk_at "go"
    have := q H (by rw [mdel_none z]; exact hc) fun _ _ _ z => z
    rw [z] at this
    exact this
theorem ok_look {f : Addr} {fd : FuncData} (F : C8.Fun K "look" "Cache.look" s_Cache_look f fd) (M : Meth K C "look" f) (b : Binds K fd ["self", "key"] []) (T : CTxt K mg C) : C8.Met P w K mg base 1 C "look" (spLook C w) [] := by
  refine C8.met0 T.cl M F b sc_Cache_look (fun vs H Q E h => ?_) (fun cdv A outer s H vs Q E hr h => ?_)
  · obtain ⟨p, d, k, c, kd, xs, rfl, _⟩ := h
    rfl
  obtain ⟨p, d, k, c, kd, xs, rfl, hc, hk, hx, q1, q2⟩ := h
  obtain ⟨dx, h1⟩ := hc.g
  refine ⟨_, (pss_cons (ps_mk (ps_if (pt_cmpR (op_notinM rfl hr.units) (pv 1) (pe_fld (pv 0) rfl) (by rfl))
      (pss_one (ps_ret pe_non))
      pss_nil))
      (pss_cons (ps_set (i := 2) sc_Cache_look.nd rfl (.inl rfl) (pe_bx rfl PySem.F.plainAttrs_dict PySem.F.slot_dict_pop PySem.F.type_dict_pop (mt_popM rfl hr.units) (pe_fld (pv 0) rfl) (pa_cons (pv 1) pa_nil)))
      (pss_cons (ps_asg (pv 2) (pg_sub (pe_fld (pv 0) rfl) (pv 1) (set_mx rfl hr.units)))
      (pss_one (ps_ret (pv 2)))))), ?_⟩
  have lh := mdel_len xs kd
  have hl := hc.l
  refine jnS (M := fun σ H' => H' = H ∧ (mget xs kd).isSome = true ∧ σ = [sR p, some k, none]) ?_ (fun N kk => ?_)
  rotate_left
  · walk_at "go"
    refine ⟨_, _, _, _, _, rfl, h1, T.cl, T.nE, flds_e _ _, ?_⟩
    refine ⟨d, xs, kd, rfl, hc.m, hk, hx, fun z => ?_, fun z => ?_⟩
    · walk_at "go"
      exact kk _ _ ⟨rfl, z, rfl⟩
    · walk_at "go"
      exact q1 z
  rintro σ H1 ⟨e1, hs, rfl⟩
  subst e1
  obtain ⟨e, em⟩ := Option.isSome_iff_exists.mp hs
  walk_at "go"
  refine ⟨_, _, _, _, _, rfl, h1, T.cl, T.nE, flds_e _ _, ?_⟩
  refine ⟨⟨d, xs, rfl, hc.m⟩, ?_⟩
  walk_at "go"
  refine ⟨d, xs, kd, k, [], rfl, rfl, .inl rfl, hc.m, hk, hx, fun z => (by rw [em] at z; cases z), fun e' em' H2 m2 b2 => ?_⟩
  rw [em] at em'
  cases em'
  have hc2 := hc.behind b2 m2 (by omega)
  have g2 := b2 _ _ hc.ne h1
  have noT := hc.m.noT
  have hx2 := Dh.tups (But.tups b2 noT) _ _ (opt_noL (.inr hk)) hx
  obtain ⟨_, ov, _, dv⟩ := hc.m.e e (mget_mem em).1
  have dv2 := Dh.tups (But.tups b2 noT) _ _ (opt_noL ov) dv
  walk_at "go"
  refine ⟨_, _, _, _, _, rfl, g2, T.cl, T.nE, flds_e _ _, ?_⟩
  walk_at "go"
  refine ⟨d, _, kd, e.vd, rfl, m2, hk, hx2, ov, dv2, sz5 (by omega), fun H3 m3 b3 => ?_⟩
  have m3 : MxAt w H3 d (mdel xs kd ++ [MEnt.mk kd e.vd k e.v]) := by
    rw [← mput_new (xs := mdel xs kd) (e := ⟨kd, e.vd, k, e.v⟩) mdel_not]
    exact m3
  walk_at "go"
  exact q2 e em H3 (hc2.behind b3 m3 (by
    rw [List.length_append]
    have := mdel_lt hs
    show (mdel xs kd).length + 1 ≤ _
    omega)) (b2.trans b3)
theorem ok_fill {f : Addr} {fd : FuncData} (F : C8.Fun K "fill" "Cache.fill" s_Cache_fill f fd) (M : Meth K C "fill" f) (b : Binds K fd ["self", "key", "value"] []) (T : CTxt K mg C) (m_drop : C8.Met P w K mg base 1 C "drop" (spDrop C w) []) : C8.Met P w K mg base 2 C "fill" (spFill C w) [] := by
  refine C8.met0 T.cl M F b sc_Cache_fill (fun vs H Q E h => ?_) (fun cdv A outer s H vs Q E hr h => ?_)
  · obtain ⟨p, d, k, v, c, kd, vd, xs, rfl, _⟩ := h
    rfl
  obtain ⟨p, d, k, v, c, kd, vd, xs, rfl, hc, hl, hk, hx, ov, hv, c0, q1, q2, q3⟩ := h
  obtain ⟨dx, h1⟩ := hc.g
  refine ⟨_, (pss_cons (ps_mk (ps_if (pt_cmpR op_eq (pe_fld (pv 0) rfl) pe_int (nomark _))
      (pss_one (ps_ret pe_non))
      pss_nil))
      (pss_cons (ps_expr (C8.pe_mt m_drop hr (by omega) (pv 0) (pa_cons (pv 1) pa_nil)))
      (pss_cons (ps_asg (pv 2) (pg_sub (pe_fld (pv 0) rfl) (pv 1) (set_mx rfl hr.units)))
      (pss_cons (ps_mk (ps_if (pt_cmpR op_le (pe_callB (call_lenM rfl) (by rfl) T.len PySem.boot_len (pa_cons (pe_fld (pv 0) rfl) pa_nil)) (pe_fld (pv 0) rfl) (nomark _))
      (pss_one (ps_ret pe_non))
      pss_nil))
      (pss_cons (ps_set (i := 3) sc_Cache_fill.nd rfl (.inl rfl) (pe_callB (call_nextM rfl) (by rfl) T.next (by decide +kernel) (pa_cons (pe_callB (call_iterM rfl) (by rfl) T.iter (by decide +kernel) (pa_cons (pe_fld (pv 0) rfl) pa_nil)) (pa_cons pe_non pa_nil))))
      (pss_cons (ps_expr (C8.pe_mt m_drop hr (by omega) (pv 0) (pa_cons (pv 3) pa_nil)))
      (pss_one (ps_ret (pv 3))))))))), ?_⟩
  have lh := mdel_len xs kd
  have hl0 := hc.l
  refine jnS (M := fun σ H' => H' = H ∧ c ≠ 0 ∧ σ = [sR p, some k, some v, none]) ?_ (fun N kk => ?_)
  rotate_left
  · walk_at "go"
    refine ⟨_, _, _, _, _, rfl, h1, T.cl, T.nC, flds_c _ _, ?_⟩
    walk_at "go"
    refine ifEq (fun z => ?_) (fun z => ?_)
    · walk_at "go"
      exact q1 z
    · walk_at "go"
      exact kk _ _ ⟨rfl, z, rfl⟩
  rintro σ H1 ⟨e1, cz, rfl⟩
  subst e1
  have q2 := q2 cz
  have q3 := q3 cz
  walk_at "go"
  refine ⟨p, dx, _, rfl, h1, flds_no _ _ (by decide +kernel) (by decide +kernel), ?_⟩
  walk_at "go"
  refine ⟨p, d, k, c, kd, xs, rfl, hc, hk, hx, fun H2 hc2 b2 => ?_⟩
  have g2 := b2 _ _ hc.ne h1
  have t2 := But.tups b2 hc.m.noT
  have hx2 := Dh.tups t2 _ _ (opt_noL (.inr hk)) hx
  have hv2 := Dh.tups t2 _ _ (opt_noL ov) hv
  walk_at "go"
  refine ⟨_, _, _, _, _, rfl, g2, T.cl, T.nE, flds_e _ _, ?_⟩
  walk_at "go"
  refine ⟨d, _, kd, vd, rfl, hc2.m, hk, hx2, ov, hv2, sz5 (by omega), fun H3 m3 b3 => ?_⟩
  have m3 : MxAt w H3 d (mdel xs kd ++ [MEnt.mk kd vd k v]) := by
    rw [← mput_new (xs := mdel xs kd) (e := ⟨kd, vd, k, v⟩) mdel_not]
    exact m3
  have hc3 := hc2.behind b3 m3 (by rw [List.length_append]; show (mdel xs kd).length + 1 ≤ _; omega)
  have g3 := b3 _ _ hc2.ne g2
  have b13 := b2.trans b3
  have el : (mdel xs kd ++ [MEnt.mk kd vd k v]).length = (mdel xs kd).length + 1 := by rw [List.length_append]; rfl
  obtain ⟨y, ys, ey⟩ : ∃ y ys, mdel xs kd ++ [MEnt.mk kd vd k v] = y :: ys := by
    cases z : mdel xs kd ++ [MEnt.mk kd vd k v] with
    | nil => rw [z] at el; cases el
    | cons y ys => exact ⟨y, ys, rfl⟩
  have q3 := fun z => q3 z y ys ey
  rw [ey] at m3 hc3 el q2
  have hy := m3.e y List.mem_cons_self
  have nd := m3.nd
  clear hc2 m3 b2 b3 ey
  refine jnS (M := fun σ H' => H' = H3 ∧ ¬ (((mdel xs kd).length + 1 : Nat) : Int) ≤ c ∧ σ = [sR p, some k, some v, none]) ?_ (fun N kk => ?_)
  rotate_left
  · walk_at "go"
    refine ⟨_, _, _, _, _, rfl, g3, T.cl, T.nE, flds_e _ _, ?_⟩
    refine ⟨d, _, rfl, hc3.m, ?_⟩
    rw [el]
    walk_at "go"
    refine ⟨_, _, _, _, _, rfl, g3, T.cl, T.nC, flds_c _ _, ?_⟩
    walk_at "go"
    refine ifD (fun z => ?_) (fun z => ?_)
    · walk_at "go"
      exact q2 z H3 hc3 b13
    · walk_at "go"
      exact kk _ _ ⟨rfl, z, rfl⟩
  rintro σ H4 ⟨e4, hgt, rfl⟩
  subst e4
  have q3 := q3 hgt
  walk_at "go"
  refine ⟨_, _, _, _, _, rfl, g3, T.cl, T.nE, flds_e _ _, ?_⟩
  refine ⟨d, _, rfl, hc3.m, fun it ep gd nit => ?_⟩
  have s5 := same_upd (o := kitO it d 0 (y :: ys).length ep) nit
  have g5 := upd_same (H := H4) (a := it) (o := kitO it d 0 (y :: ys).length ep)
  show _
  generalize upd H4 it (kitO it d 0 (y :: ys).length ep) = H5 at *
  walk_at "go"
  refine ⟨it, d, y :: ys, ep, 0, y, .non, rfl, g5, s5 _ _ gd, rfl, ?_⟩
  have s6 : Same H4 (upd H5 it (kitO it d (0 + 1) (y :: ys).length ep)) := same_put s5 nit
  generalize upd H5 it (kitO it d (0 + 1) (y :: ys).length ep) = H6 at *
  have hc6 := hc3.same s6
  have g6 := s6 _ _ g3
  have dk6 := Dh.mono s6 _ _ hy.2.2.1
  walk_at "go"
  refine ⟨p, dx, _, rfl, g6, flds_no _ _ (by decide +kernel) (by decide +kernel), ?_⟩
  walk_at "go"
  refine ⟨p, d, y.k, c, y.kd, _, rfl, hc6, hy.1, dk6, fun H7 hc7 b7 => ?_⟩
  rw [mdel_head nd] at hc7
  walk_at "go"
  exact q3 H7 hc7 (b13.trans ((Same.but s6).trans b7)) hy.1 (Dh.tups (But.tups b7 hc6.m.noT) _ _ (opt_noL (.inr hy.1)) dk6)
theorem ok_clear {f : Addr} {fd : FuncData} (F : C8.Fun K "clear_all" "Cache.clear_all" s_Cache_clear_all f fd) (M : Meth K C "clear_all" f) (b : Binds K fd ["self"] []) (T : CTxt K mg C) : C8.Met P w K mg base 1 C "clear_all" (spClear C w) [] := by
  refine C8.met0 T.cl M F b sc_Cache_clear_all (fun vs H Q E h => ?_) (fun cdv A outer s H vs Q E hr h => ?_)
  · obtain ⟨p, d, c, xs, rfl, _⟩ := h
    rfl
  obtain ⟨p, d, c, xs, rfl, hc, q⟩ := h
  obtain ⟨dx, h1⟩ := hc.g
  refine ⟨_, (pss_cons (ps_set (i := 1) sc_Cache_clear_all.nd rfl (.inl rfl) (pe_callB (call_lenM rfl) (by rfl) T.len PySem.boot_len (pa_cons (pe_fld (pv 0) rfl) pa_nil)))
      (pss_cons (ps_fld (pv 0) (pe_dnewM rfl) rfl)
      (pss_one (ps_ret (pv 1))))), ?_⟩
  walk_at "go"
  refine ⟨_, _, _, _, _, rfl, h1, T.cl, T.nE, flds_e _ _, ?_⟩
  refine ⟨d, _, rfl, hc.m, ?_⟩
  walk_at "go"
  intro d2 H2 m2 nd s2 _
  have g2 := s2 _ _ h1
  have np : p ≠ d2 := ne_of_none h1 nd
  walk_at "go"
  refine ⟨p, C, dx, _, rfl, g2, T.cl, T.nE, (by rw [flds_eq]; show 2 < 1000; decide), ?_⟩
  rw [flds_put]
  have m3 : MxAt w (upd H2 p (HO.ins C dx (flds c d2))) d2 [] := m2.tups (Tups.put fun us z => by rw [g2] at z; cases z) fun o ho => by
    rw [upd_ne np.symm]
    exact ho
  have b3 : But H (upd H2 p (HO.ins C dx (flds c d2))) p := (Same.but s2).trans But.put
  have g3 := upd_same (H := H2) (a := p) (o := HO.ins C dx (flds c d2))
  generalize upd H2 p (HO.ins C dx (flds c d2)) = H3 at *
  walk_at "go"
  exact q d2 H3 nd ⟨⟨dx, g3⟩, m3, Nat.zero_le _⟩ b3
end

end

section

-- a condition of an operator
local macro_rules | `(tactic| walk_at "cond") => `(tactic| first
  | (show (0 : Int) < _; omega)
  | (show CDiv _ _; constructor <;> (first | decide | omega))
  | (show CMul _ _; first | (refine cmul_l ?_; constructor <;> (first | decide | omega)) | (refine cmul_r ?_; constructor <;> (first | decide | omega)))
  | (show CPow _ _; exact (by refine ⟨by decide, by decide, by decide⟩))
  | (show CDivW _ _; exact ⟨by decide, by decide +kernel⟩))
local macro_rules | `(tactic| walk_at "sq") => `(tactic| first | assumption | exact Dh.mono (same_upd (by assumption)) _ _ (by assumption) | exact .inl (.inl (.inl (by assumption))) | exact .inr (.inl (.inl (by assumption))) | exact SqL.of (by assumption) | exact .inl (by assumption) | exact .inl (SqL.of (by assumption)) | exact SqT.of (by assumption) | exact .inr (SqT.of (by assumption)))
local macro_rules | `(tactic| walk_at "st") => `(tactic| first
  | refine ⟨_, rfl, ?_⟩
  | refine ⟨_, _, rfl, rfl, ?_⟩
  | refine .inl ⟨_, rfl, ?_⟩
  | refine ⟨rfl, ?_⟩
  | refine ⟨_, _, rfl, by walk_at "sq", ?_⟩
  | refine ⟨.inl ⟨rfl, _, SqL.of (by assumption)⟩, ?_⟩
  | refine ⟨by walk_at "cond", ?_⟩
  | (refine' ifBT ?hh ?_; (case hh => first | rfl | assumption))
  | (refine' ifBF ?hh ?_; (case hh => first | rfl | assumption)))
local macro_rules | `(tactic| walk_at "go") => `(tactic| repeat walk_at "st")
local macro_rules | `(tactic| walk_at "yes") => `(tactic| (refine' ifT ?hh ?_; (case hh => first | rfl | decide +kernel)))
local macro_rules | `(tactic| walk_at "no") => `(tactic| (refine' ifF ?hh ?_; (case hh => first | decide +kernel | (intro z; cases z; done))))

-- facts carried to the heap at hand, from the facts of the context
local macro_rules | `(tactic| walk_at "lnk") => `(tactic| first | assumption | exact same_upd (by assumption))
local macro_rules | `(tactic| walk_at "sm") => `(tactic| first | walk_at "lnk" | exact same_rfl | (refine Same.trans ?_ (by walk_at "lnk"); walk_at "sm"))
local macro_rules | `(tactic| walk_at "at") => `(tactic| first | assumption | exact upd_same | (refine Same.get (by walk_at "lnk") ?_; walk_at "at"))
local macro_rules | `(tactic| walk_at "ix") => `(tactic| first
  | exact atI_nat (j := 0) rfl | exact atI_nat (j := 1) rfl | exact atI_nat (j := 2) rfl | exact atI_nat (j := 3) rfl
  | exact atI_nat (j := 4) rfl | exact atI_nat (j := 5) rfl | exact atI_nat (j := 6) rfl | assumption)
local macro_rules | `(tactic| walk_at "sT") => `(tactic| first | exact SqT.of (by walk_at "at") | exact SqL.of (by walk_at "at"))
local macro_rules | `(tactic| walk_at "st") => `(tactic| refine ⟨_, _, _, _, rfl, rfl, by walk_at "sT", by walk_at "ix", ?_⟩)
local macro_rules | `(tactic| walk_at "side") => `(tactic| first | rfl | assumption | walk_at "at" | walk_at "sm" | omega | decide)
-- a call: the promise's letters from its arguments, then what is asked from the context
local macro_rules | `(tactic| walk_at "call") => `(tactic| ((repeat (apply Exists.intro)); refine And.intro rfl ?_; repeat (refine And.intro (by walk_at "side") ?_)))

local macro_rules | `(tactic| walk_at "st") => `(tactic| refine ⟨_, _, _, _, _, rfl, by assumption, by assumption, by omega, by omega, by omega, by omega, by omega, ?_⟩)
local macro_rules | `(tactic| walk_at "st") => `(tactic| refine ⟨_, _, _, _, _, rfl, Same.seq (by assumption) (by assumption), by assumption, by omega, by omega, by omega, by omega, by omega, ?_⟩)

/-! ### the law's list of entries -/
abbrev s_kept_find : Stmt := topS 15
theorem sc_kept_find : FnScope ["_law_kept", "_law_key", "_law_k"] ["_law_kept", "_law_key"] (C8.fnScope s_kept_find) := C8.fnScope_by (by decide +kernel)
structure KeptAt (H : Hp) (L : Addr) (rs : List (Addr × MEnt)) : Prop where
  g : H L = some (.lst (rs.map fun r => V.ref r.1))
  e : ∀ r ∈ rs, H r.1 = some (.lst [r.2.k, r.2.v]) ∧ Thing r.2.kd ∧ Opt r.2.vd ∧ Dh H r.2.kd r.2.k ∧ Dh H r.2.vd r.2.v
  nd : (rs.map fun r => r.2.kd).Nodup
  ad : (rs.map (·.1)).Nodup
  nl : ∀ r ∈ rs, r.1 ≠ L
  l : rs.length ≤ 100000
theorem KeptAt.but {H H' : Hp} {L q : Addr} {rs : List (Addr × MEnt)} (h : KeptAt H L rs) (b : But H H' q) (nt : ∀ us, H q ≠ some (.tup us)) (ne : L ≠ q) (off : ∀ r ∈ rs, r.1 ≠ q) : KeptAt H' L rs := by
  have t := But.tups b nt
  refine ⟨b _ _ ne h.g, fun r hr => ?_, h.nd, h.ad, h.nl, h.l⟩
  obtain ⟨k1, k2, k3, k4, k5⟩ := h.e r hr
  exact ⟨b _ _ (off r hr) k1, k2, k3, Dh.tups t _ _ (opt_noL (.inr k2)) k4, Dh.tups t _ _ (opt_noL k3) k5⟩
theorem KeptAt.same {H H' : Hp} {L : Addr} {rs : List (Addr × MEnt)} (h : KeptAt H L rs) (s : Same H H') : KeptAt H' L rs := by
  refine ⟨s _ _ h.g, fun r hr => ?_, h.nd, h.ad, h.nl, h.l⟩
  obtain ⟨k1, k2, k3, k4, k5⟩ := h.e r hr
  exact ⟨s _ _ k1, k2, k3, Dh.mono s _ _ k4, Dh.mono s _ _ k5⟩
/-- the list is written: entries of the old one, or new ones -/
theorem KeptAt.put {H : Hp} {L : Addr} {rs rs' : List (Addr × MEnt)} (h : KeptAt H L rs) (e : ∀ r ∈ rs', r ∈ rs ∨ (r.1 ≠ L ∧ H r.1 = some (.lst [r.2.k, r.2.v]) ∧ Thing r.2.kd ∧ Opt r.2.vd ∧ Dh H r.2.kd r.2.k ∧ Dh H r.2.vd r.2.v)) (nd : (rs'.map fun r => r.2.kd).Nodup) (ad : (rs'.map (·.1)).Nodup) (l : rs'.length ≤ 100000) : KeptAt (upd H L (.lst (rs'.map fun r => V.ref r.1))) L rs' := by
  have t : Tups H (upd H L (.lst (rs'.map fun r => V.ref r.1))) := Tups.put fun us z => by rw [h.g] at z; cases z
  have e2 : ∀ r ∈ rs', r.1 ≠ L ∧ H r.1 = some (.lst [r.2.k, r.2.v]) ∧ Thing r.2.kd ∧ Opt r.2.vd ∧ Dh H r.2.kd r.2.k ∧ Dh H r.2.vd r.2.v := fun r hr => (e r hr).elim (fun z => ⟨h.nl r z, h.e r z⟩) fun z => z
  refine ⟨upd_same, fun r hr => ?_, nd, ad, fun r hr => (e2 r hr).1, l⟩
  obtain ⟨k0, k1, k2, k3, k4, k5⟩ := e2 r hr
  exact ⟨by rw [upd_ne k0]; exact k1, k2, k3, Dh.tups t _ _ (opt_noL (.inr k2)) k4, Dh.tups t _ _ (opt_noL k3) k5⟩
theorem KeptAt.cut {H : Hp} {L : Addr} {rs : List (Addr × MEnt)} (h : KeptAt H L rs) (i : Nat) : KeptAt (upd H L (.lst ((rs.eraseIdx i).map fun r => V.ref r.1))) L (rs.eraseIdx i) :=
  h.put (fun r hr => .inl (List.mem_of_mem_eraseIdx hr)) (((List.eraseIdx_sublist rs i).map _).nodup h.nd) (((List.eraseIdx_sublist rs i).map _).nodup h.ad) (Nat.le_trans (List.eraseIdx_sublist rs i).length_le h.l)
def kdat (rs : List (Addr × MEnt)) : List DE := rs.map fun r => r.2.dat
theorem KeptAt.no {H : Hp} {L : Addr} {rs : List (Addr × MEnt)} (h : KeptAt H L rs) (us : List V) : H L ≠ some (.tup us) := fun z => by
  rw [h.g] at z
  cases z
/-- where a key stands -/
theorem kept_none {rs : List (Addr × MEnt)} {kd : PyData} : (∀ r ∈ rs, r.2.kd ≠ kd) ↔ eget (kdat rs) kd = none := by
  rw [eget_none]
  constructor
  · intro h x hx
    obtain ⟨r, hr, rfl⟩ := List.mem_map.mp hx
    exact h r hr
  · intro h r hr
    exact h _ (List.mem_map.mpr ⟨r, hr, rfl⟩)
theorem kept_some : ∀ {rs : List (Addr × MEnt)} {i : Nat} {r : Addr × MEnt}, (rs.map fun r => r.2.kd).Nodup → rs[i]? = some r → eget (kdat rs) r.2.kd = some r.2.vd ∧ kdat (rs.eraseIdx i) = edel (kdat rs) r.2.kd
  | [], i, r, _, h => by simp at h
  | x :: rs, 0, r, nd, h => by
    obtain rfl : x = r := by simpa using h
    have n := List.nodup_cons.mp (show (x.2.kd :: rs.map fun r => r.2.kd).Nodup from nd)
    constructor
    · exact eget_pos (e := x.2.dat) (es := kdat rs) rfl
    · refine Eq.trans ?_ (edel_pos (e := x.2.dat) (es := kdat rs) rfl).symm
      refine (edel_all fun y hy z => ?_).symm
      obtain ⟨u, hu, rfl⟩ := List.mem_map.mp hy
      exact n.1 (List.mem_map.mpr ⟨u, hu, z⟩)
  | x :: rs, i + 1, r, nd, h => by
    have n := List.nodup_cons.mp (show (x.2.kd :: rs.map fun r => r.2.kd).Nodup from nd)
    have h : rs[i]? = some r := by simpa using h
    obtain ⟨k1, k2⟩ := kept_some n.2 h
    have ne : ¬ x.2.kd = r.2.kd := fun e => n.1 (List.mem_map.mpr ⟨r, List.mem_of_getElem? h, e.symm⟩)
    constructor
    · rw [← k1]
      exact eget_neg (e := x.2.dat) (es := kdat rs) ne
    · show x.2.dat :: kdat (rs.eraseIdx i) = _
      rw [k2]
      exact (edel_neg (e := x.2.dat) (es := kdat rs) ne).symm
theorem seqI {i n : Nat} (h : i < n) : seqIndex? (i : Int) n = some i := by
  unfold seqIndex?
  rw [if_neg (show ¬ ((i : Int) < 0) by omega)]
  rw [if_pos (by rw [Bool.and_eq_true, decide_eq_true_iff, decide_eq_true_iff]; omega), Int.toNat_natCast]
theorem mv_perm {α : Type} {xs : List α} {i : Nat} {x : α} (h : xs[i]? = some x) : (xs.eraseIdx i ++ [x]).Perm xs := by
  obtain ⟨hi, e⟩ := List.getElem?_eq_some_iff.mp h
  rw [List.eraseIdx_eq_take_drop_succ]
  have : xs = xs.take i ++ x :: xs.drop (i + 1) := by
    rw [← e, List.getElem_cons_drop, List.take_append_drop]
  refine List.Perm.trans ?_ (List.Perm.of_eq this.symm)
  rw [List.append_assoc]
  exact List.Perm.append_left _ (List.perm_append_singleton _ _)
theorem erase_map {α β : Type} (f : α → β) : ∀ (xs : List α) (i : Nat), (xs.map f).eraseIdx i = (xs.eraseIdx i).map f
  | [], _ => rfl
  | _ :: _, 0 => rfl
  | x :: xs, i + 1 => by
    show f x :: (xs.map f).eraseIdx i = f x :: (xs.eraseIdx i).map f
    rw [erase_map f xs i]
theorem find_or (rs : List (Addr × MEnt)) (kd : PyData) : (∀ r ∈ rs, r.2.kd ≠ kd) ∨ ∃ (i : Nat) (r : Addr × MEnt), rs[i]? = some r ∧ r.2.kd = kd := by
  by_cases h : ∀ r ∈ rs, r.2.kd ≠ kd
  · exact .inl h
  · refine .inr ?_
    obtain ⟨r, hr⟩ := Classical.not_forall.mp h
    obtain ⟨h1, h2⟩ := Classical.not_imp.mp hr
    obtain ⟨i, hi⟩ := List.mem_iff_getElem?.mp h1
    exact ⟨i, r, hi, Classical.not_not.mp h2⟩
@[irreducible] def spFind : Sp := fun vs H Q _ => ∃ (L : Addr) (k : V) (kd : PyData) (rs : List (Addr × MEnt)), vs = [.ref L, k] ∧ KeptAt H L rs ∧ Thing kd ∧ Dh H kd k ∧ ((∀ r ∈ rs, r.2.kd ≠ kd) → Q (.int (-1)) H) ∧ ∀ (i : Nat) (r : Addr × MEnt), rs[i]? = some r → r.2.kd = kd → Q (.int i) H
theorem kdat_len (rs : List (Addr × MEnt)) : (kdat rs).length = rs.length := List.length_map _
theorem edel_len (es : List DE) (k : PyData) : (edel es k).length ≤ es.length := List.length_filter_le _ _
theorem edel_mem {es : List DE} {k : PyData} {x : DE} (h : x ∈ edel es k) : x ∈ es ∧ x.1 ≠ k := by
  have := List.mem_filter.mp h
  exact ⟨this.1, by simpa using this.2⟩
theorem find_mk {L : Addr} {k : V} {kd : PyData} {rs : List (Addr × MEnt)} {H : Hp} {Q : VK} {E : XK} (hc : KeptAt H L rs) (hk : Thing kd) (hx : Dh H kd k) (h : ∀ i : Int, ((i = -1 ∧ ∀ r ∈ rs, r.2.kd ≠ kd) ∨ ∃ (n : Nat) (r : Addr × MEnt), i = n ∧ rs[n]? = some r ∧ r.2.kd = kd) → Q (.int i) H) : spFind [.ref L, k] H Q E := by
  unfold spFind
  exact ⟨L, k, kd, rs, rfl, hc, hk, hx, fun z => h _ (.inl ⟨rfl, z⟩), fun i r er z => h _ (.inr ⟨i, r, rfl, er, z⟩)⟩
def spKLook : Sp := fun vs H Q _ => ∃ (L : Addr) (k : V) (kd : PyData) (rs : List (Addr × MEnt)), vs = [.ref L, k] ∧ KeptAt H L rs ∧ Thing kd ∧ Dh H kd k ∧ (eget (kdat rs) kd = none → Q .non H) ∧ ∀ vd, eget (kdat rs) kd = some vd → ∀ v rs' H', Dh H' vd v → KeptAt H' L rs' → kdat rs' = edel (kdat rs) kd ++ [(kd, vd)] → (∀ r ∈ rs', r ∈ rs) → But H H' L → Q v H'
def spKDrop : Sp := fun vs H Q _ => ∃ (L : Addr) (k : V) (kd : PyData) (rs : List (Addr × MEnt)), vs = [.ref L, k] ∧ KeptAt H L rs ∧ Thing kd ∧ Dh H kd k ∧ ∀ rs' H', KeptAt H' L rs' → kdat rs' = edel (kdat rs) kd → (∀ r ∈ rs', r ∈ rs) → But H H' L → Q (.bl (eget (kdat rs) kd).isSome) H'
def spKFill : Sp := fun vs H Q _ => ∃ (L : Addr) (k v : V) (size : Int) (kd vd : PyData) (rs : List (Addr × MEnt)), vs = [.ref L, .int size, k, v] ∧ KeptAt H L rs ∧ rs.length ≤ 90000 ∧ Thing kd ∧ Dh H kd k ∧ Opt vd ∧ Dh H vd v ∧ 0 ≤ size ∧ (rs.length : Int) ≤ size ∧
  (size = 0 → Q .non H) ∧ (size ≠ 0 → (((edel (kdat rs) kd).length + 1 : Nat) : Int) ≤ size → ∀ rs' H', KeptAt H' L rs' → kdat rs' = edel (kdat rs) kd ++ [(kd, vd)] → (∀ r ∈ rs', r ∈ rs ∨ H r.1 = none) → But H H' L → Q .non H') ∧
  (size ≠ 0 → ¬ (((edel (kdat rs) kd).length + 1 : Nat) : Int) ≤ size → ∀ yk yv es, edel (kdat rs) kd ++ [(kd, vd)] = (yk, yv) :: es → ∀ y rs' H', KeptAt H' L rs' → kdat rs' = es → (∀ r ∈ rs', r ∈ rs ∨ H r.1 = none) → But H H' L → Thing yk → Dh H' yk y → Q y H')
section
variable {P : Program} {w : World} {K : PySem.W.Frag} {mg : Str → Option Value} {base : Heap}
theorem ok_find {f : Addr} {fd : FuncData} (Df : Def K mg "_law_kept_find" s_kept_find f fd) (b : Binds K fd ["_law_kept", "_law_key"] []) (T : Txt mg) : Cal P w K mg base 1 "_law_kept_find" spFind [] := by
  refine cal0 Df b .nil sc_kept_find (fun vs H Q E h => ?_) (fun cdv A outer s H vs Q E hr h => ?_)
  · unfold spFind at h
    obtain ⟨L, k, kd, rs, rfl, _⟩ := h
    rfl
  unfold spFind at h
  obtain ⟨L, k, kd, rs, rfl, hc, hk, hx, q1, q2⟩ := h
  refine ⟨_, (pss_cons (ps_mk (ps_for PassesOwn.never rfl (pi_range1 (by rfl) T.range (pa_cons (pe_callB (lenQ K rfl) (by rfl) T.len PySem.boot_len (pa_cons (pv 0) pa_nil)) pa_nil)) (pg_name (i := 2) sc_kept_find.nd rfl (.inl rfl))
      (pss_one (ps_mk (ps_if (pt_cmpR (eqQ K rfl hr.units) (pe_ix (ixL K rfl) (pe_ix (ixL K rfl) (pv 0) (pv 2) (fun _ _ => rfl)) pe_int (fun _ _ => rfl)) (pv 1) (nomark _))
      (pss_one (ps_ret (pv 2)))
      pss_nil)))))
      (pss_one (ps_ret (pe_un un_neg pe_int)))), ?_⟩
  have gL := hc.g
  have hl := hc.l
  refine jnS (M := fun σ H' => H' = H ∧ ∀ r ∈ rs, r.2.kd ≠ kd) (fun σ H1 h => ?_) (fun N kk => ?_)
  · obtain ⟨e, h⟩ := h
    subst e
    walk_at "go"
    exact q1 h
  obtain ⟨vs, evs⟩ : ∃ vs : List V, vs = rs.map fun r => V.ref r.1 := ⟨_, rfl⟩
  have el : vs.length = rs.length := by rw [evs, List.length_map]
  rw [← evs] at gL
  walk_at "go"
  refine ⟨by omega, by omega, for_range (lo := 0) (n := vs.length) (fun i σ H' => Ob (H' = H ∧ (∀ r ∈ rs.take i, r.2.kd ≠ kd) ∧ ∃ y2, σ = [sR L, some k, y2])) (ob ⟨rfl, by simp, _, rfl⟩) ?_ ?_⟩
  · intro i σ H1 hi h
    obtain ⟨e, hno, y2, rfl⟩ := unob h
    subst e
    clear h kk
    rw [el] at hi
    obtain ⟨r, er⟩ : ∃ r, rs[i]? = some r := ⟨_, List.getElem?_eq_getElem hi⟩
    obtain ⟨k1, k2, k3, k4, k5⟩ := hc.e r (List.mem_of_getElem? er)
    have at1 : atI vs ((i : Nat) : Int) = some (.ref r.1) := atI_nat (by rw [evs, List.getElem?_map, er]; rfl)
    rw [Int.zero_add]
    refine un ?_
    walk_at "go"
    refine ⟨r.2.kd, kd, Dh.dp _ _ k4, Dh.dp _ _ hx, shaped_opt (.inr k2), shaped_opt (.inr hk), ?_⟩
    refine ⟨_, rfl, ?_⟩
    by_cases z : r.2.kd = kd
    · refine ifBT ((eqv_thing (.inr k2) (.inr hk)).mpr z) ?_
      walk_at "go"
      exact q2 i r er z
    · refine ifBF (by
        cases hb : PyData.eqv r.2.kd kd with
        | false => rfl
        | true => exact absurd ((eqv_thing (.inr k2) (.inr hk)).mp hb) z) ?_
      walk_at "go"
      refine ob ⟨rfl, fun x hx => ?_, _, rfl⟩
      rw [List.take_add_one, er] at hx
      rcases List.mem_append.mp hx with y | y
      · exact hno x y
      · have : x = r := by simpa using y
        rw [this]
        exact z
  · intro σ H1 h
    obtain ⟨e, hno, y2, rfl⟩ := unob h
    rw [el, List.take_length] at hno
    exact kk _ _ ⟨e, hno⟩
end

end

/-! ### the kind of a change -/
/-- the word for a change -/
def IsKind (d e : PyData) (s : Str) : Prop := (d = e → s = "same") ∧ (d ≠ e → d = .none → s = "gain") ∧ (d ≠ e → d ≠ .none → e = .none → s = "loss") ∧ (d ≠ e → d ≠ .none → e ≠ .none → s = "move")
theorem IsKind.one {d e : PyData} {s t : Str} (h : IsKind d e s) (k : IsKind d e t) : s = t := by
  by_cases h1 : d = e
  · rw [h.1 h1, k.1 h1]
  · by_cases h2 : d = .none
    · rw [h.2.1 h1 h2, k.2.1 h1 h2]
    · by_cases h3 : e = .none
      · rw [h.2.2.1 h1 h2 h3, k.2.2.1 h1 h2 h3]
      · rw [h.2.2.2 h1 h2 h3, k.2.2.2 h1 h2 h3]
def spChange : Sp := fun vs H Q _ => ∃ (x y : V) (d e : PyData), vs = [x, y] ∧ Dh H d x ∧ Dh H e y ∧ Opt d ∧ Opt e ∧ ∀ (s : Str) (H' : Hp), IsKind d e s → Same H H' → Q (.str s) H'
theorem flat_strs (ss : List Str) : (ss.map V.str).all flatV = true := by
  rw [List.all_eq_true]
  intro x hx
  obtain ⟨y, _, rfl⟩ := List.mem_map.mp hx
  rfl

/-! ### promises that do not unfold -/
@[irreducible] def SpI (sp : Sp) : Sp := sp
theorem SpI.eq (sp : Sp) : SpI sp = sp := by unfold SpI; rfl
theorem SpI.mk {sp : Sp} {vs : List V} {H : Hp} {Q : VK} {E : XK} (h : sp vs H Q E) : SpI sp vs H Q E := by
  rw [SpI.eq]
  exact h
@[irreducible] def RmI (r : V → List V → Hp → VK → Prop) : V → List V → Hp → VK → Prop := r
theorem RmI.eq (r : V → List V → Hp → VK → Prop) : RmI r = r := by unfold RmI; rfl
theorem RmI.mk {r : V → List V → Hp → VK → Prop} {x : V} {vs : List V} {H : Hp} {Q : VK} (h : r x vs H Q) : RmI r x vs H Q := by
  rw [RmI.eq]
  exact h
@[irreducible] def R2I (r : R2) : R2 := r
theorem R2I.eq (r : R2) : R2I r = r := by unfold R2I; rfl
theorem R2I.mk {r : R2} {x y : V} {H : Hp} {Q : VK} (h : r x y H Q) : R2I r x y H Q := by
  rw [R2I.eq]
  exact h
@[irreducible] def TSI (r : TSet) : TSet := r
theorem TSI.eq (r : TSet) : TSI r = r := by unfold TSI; rfl
theorem TSI.mk {r : TSet} {o i v : V} {H : Hp} {Q : Hp → Prop} (h : r o i v H Q) : TSI r o i v H Q := by
  rw [TSI.eq]
  exact h
theorem mtI {X : Cx} {id : String} {r : V → List V → Hp → VK → Prop} (h : MtR X id r) : MtR X id (RmI r) := by
  rw [RmI.eq]
  exact h
theorem ixI {X : Cx} {r : R2} (h : IxR X r) : IxR X (R2I r) := by
  rw [R2I.eq]
  exact h
theorem setI {X : Cx} {r : TSet} (h : PSet X r) : PSet X (TSI r) := by
  rw [TSI.eq]
  exact h
theorem calI {P : Program} {w : World} {K : PySem.W.Frag} {mg : Str → Option Value} {base : Heap} {n : Nat} {f : Str} {sp : Sp} (h : Cal P w K mg base n f sp []) : Cal P w K mg base n f (SpI sp) [] := by
  rw [SpI.eq]
  exact h
theorem metI {P : Program} {w : World} {K : PySem.W.Frag} {mg : Str → Option Value} {base : Heap} {C : Addr} {n : Nat} {f : Str} {sp : Sp} (h : C8.Met P w K mg base n C f sp []) : C8.Met P w K mg base n C f (SpI sp) [] := by
  rw [SpI.eq]
  exact h

section

-- a condition of an operator
local macro_rules | `(tactic| walk_at "cond") => `(tactic| first
  | (show (0 : Int) < _; omega)
  | (show CDiv _ _; constructor <;> (first | decide | omega))
  | (show CMul _ _; first | (refine cmul_l ?_; constructor <;> (first | decide | omega)) | (refine cmul_r ?_; constructor <;> (first | decide | omega)))
  | (show CPow _ _; exact (by refine ⟨by decide, by decide, by decide⟩))
  | (show CDivW _ _; exact ⟨by decide, by decide +kernel⟩))
local macro_rules | `(tactic| walk_at "sq") => `(tactic| first | assumption | exact Dh.mono (same_upd (by assumption)) _ _ (by assumption) | exact .inl (.inl (.inl (by assumption))) | exact .inr (.inl (.inl (by assumption))) | exact SqL.of (by assumption) | exact .inl (by assumption) | exact .inl (SqL.of (by assumption)) | exact SqT.of (by assumption) | exact .inr (SqT.of (by assumption)))
local macro_rules | `(tactic| walk_at "st") => `(tactic| first
  | refine ⟨_, rfl, ?_⟩
  | refine ⟨_, _, rfl, rfl, ?_⟩
  | refine .inl ⟨_, rfl, ?_⟩
  | refine ⟨rfl, ?_⟩
  | refine ⟨_, _, rfl, by walk_at "sq", ?_⟩
  | refine ⟨.inl ⟨rfl, _, SqL.of (by assumption)⟩, ?_⟩
  | refine ⟨by walk_at "cond", ?_⟩
  | (refine' ifBT ?hh ?_; (case hh => first | rfl | assumption))
  | (refine' ifBF ?hh ?_; (case hh => first | rfl | assumption)))
local macro_rules | `(tactic| walk_at "go") => `(tactic| repeat walk_at "st")
local macro_rules | `(tactic| walk_at "yes") => `(tactic| (refine' ifT ?hh ?_; (case hh => first | rfl | decide +kernel)))
local macro_rules | `(tactic| walk_at "no") => `(tactic| (refine' ifF ?hh ?_; (case hh => first | decide +kernel | (intro z; cases z; done))))

local macro_rules | `(tactic| walk_at "st") => `(tactic| refine ⟨_, _, _, _, _, rfl, by assumption, by assumption, by omega, by omega, by omega, by omega, by omega, ?_⟩)
local macro_rules | `(tactic| walk_at "st") => `(tactic| refine ⟨_, _, _, _, _, rfl, Same.seq (by assumption) (by assumption), by assumption, by omega, by omega, by omega, by omega, by omega, ?_⟩)

/-! ### change_kind, _law_kinds -/
abbrev s_change_kind : Stmt := topS 3
theorem sc_change_kind : FnScope ["old", "new"] ["old", "new"] (C8.fnScope s_change_kind) := C8.fnScope_by (by decide +kernel)
section
variable {P : Program} {w : World} {K : PySem.W.Frag} {mg : Str → Option Value} {base : Heap}
theorem ok_change {f : Addr} {fd : FuncData} (D : Def K mg "change_kind" s_change_kind f fd) (b : Binds K fd ["old", "new"] []) (T : Txt mg) : Cal P w K mg base 1 "change_kind" spChange [] := by
  refine cal0 D b .nil sc_change_kind (fun vs H Q E h => ?_) (fun cdv A outer s H vs Q E hr h => ?_)
  · obtain ⟨x, y, d, e, rfl, _⟩ := h
    rfl
  obtain ⟨x, y, d, e, rfl, hx, hy, od, oe, q⟩ := h
  refine ⟨_, (pss_cons (ps_mk (ps_if (pt_cmpR (eqQ K rfl hr.units) (pv 0) (pv 1) (nomark _))
      (pss_one (ps_ret pe_str))
      pss_nil))
      (pss_cons (ps_mk (ps_if (pt_cmpR op_isN (pv 0) pe_non (nomark _))
      (pss_one (ps_ret pe_str))
      pss_nil))
      (pss_cons (ps_mk (ps_if (pt_cmpR op_isN (pv 1) pe_non (nomark _))
      (pss_one (ps_ret pe_str))
      pss_nil))
      (pss_one (ps_ret pe_str))))), ?_⟩
  have ev := eqv_thing od oe
  refine un ?_
  walk_at "go"
  refine ⟨d, e, hx.dp, hy.dp, shaped_opt od, shaped_opt oe, ?_⟩
  walk_at "go"
  by_cases c : d = e
  · refine ifBT (ev.mpr c) ?_
    walk_at "go"
    exact q _ _ ⟨fun _ => rfl, fun z => absurd c z, fun z => absurd c z, fun z => absurd c z⟩ same_rfl
  refine ifBF (Bool.eq_false_iff.mpr (fun z => c (ev.mp z))) ?_
  walk_at "go"
  refine un ?_
  walk_at "go"
  refine ifD (fun z => ?_) (fun z => ?_)
  · walk_at "go"
    exact q _ _ ⟨fun z => absurd z c, fun _ _ => rfl, fun _ z2 => absurd (hx.non_iff.mp z) z2, fun _ z2 => absurd (hx.non_iff.mp z) z2⟩ same_rfl
  have z1 : d ≠ .none := fun z2 => z (hx.non_iff.mpr z2)
  walk_at "go"
  refine un ?_
  walk_at "go"
  refine ifD (fun z => ?_) (fun z => ?_)
  · walk_at "go"
    exact q _ _ ⟨fun z => absurd z c, fun _ z2 => absurd z2 z1, fun _ _ _ => rfl, fun _ _ z2 => absurd (hy.non_iff.mp z) z2⟩ same_rfl
  have z2 : e ≠ .none := fun z2 => z (hy.non_iff.mpr z2)
  walk_at "go"
  exact q _ _ ⟨fun z => absurd z c, fun _ z2 => absurd z2 z1, fun _ _ z3 => absurd z3 z2, fun _ _ _ => rfl⟩ same_rfl
end

end

/-! ### events, and how they are played -/
inductive Ev
  | set (k v : PyData)
  | touch (k : PyData)
  | flush
def Ev.dat : Ev → PyData
  | .set k v => .tuple [.str "set", k, v]
  | .touch k => .tuple [.str "touch", k]
  | .flush => .tuple [.str "flush"]
def Ev.ok : Ev → Prop
  | .set k v => Thing k ∧ Opt v
  | .touch k => Thing k
  | .flush => True
open Classical in
/-- the word for a change -/
noncomputable def chg (d e : PyData) : Str := if d = e then "same" else if d = .none then "gain" else if e = .none then "loss" else "move"
def memb (s : Str) (ks : List Str) : Bool := inV (.str s) (ks.map V.str)
abbrev Tb := PyData → PyData
open Classical in
noncomputable def pset (T : Tb) (k v : PyData) : Tb := fun x => if x = k then v else T x
theorem pset_same (T : Tb) (k v : PyData) : pset T k v k = v := by
  unfold pset
  rw [if_pos rfl]
theorem pset_ne {T : Tb} {k v x : PyData} (h : x ≠ k) : pset T k v x = T x := by
  unfold pset
  rw [if_neg h]
noncomputable def efill (c : Int) (es : List DE) (k v : PyData) : List DE :=
  if c = 0 then es else if (((edel es k).length + 1 : Nat) : Int) ≤ c then edel es k ++ [(k, v)] else (edel es k ++ [(k, v)]).tail
noncomputable def elook (es : List DE) (k : PyData) : List DE :=
  match eget es k with
  | some v => edel es k ++ [(k, v)]
  | none => es
noncomputable def eseen (T : Tb) (es : List DE) (k : PyData) : PyData := (eget es k).getD (T k)
open Classical in
noncomputable def etouch (c : Int) (T : Tb) (es : List DE) (k : PyData) : List DE :=
  match eget es k with
  | some v => edel es k ++ [(k, v)]
  | none => if T k = .none then es else efill c es k (T k)
theorem etouch_some {c : Int} {T : Tb} {es : List DE} {k v : PyData} (h : eget es k = some v) : etouch c T es k = edel es k ++ [(k, v)] := by
  unfold etouch
  rw [h]
theorem etouch_none {c : Int} {T : Tb} {es : List DE} {k : PyData} (h : eget es k = none) (z : T k = .none) : etouch c T es k = es := by
  unfold etouch
  rw [h]
  exact if_pos z
theorem etouch_fill {c : Int} {T : Tb} {es : List DE} {k : PyData} (h : eget es k = none) (z : T k ≠ .none) : etouch c T es k = efill c es k (T k) := by
  unfold etouch
  rw [h]
  exact if_neg z
structure PS where
  T : Tb
  es : List DE
noncomputable def play1 (c : Int) (ks : List Str) (S : PS) : Ev → PS
  | .set k v => ⟨pset S.T k v, if memb (chg (S.T k) v) ks = true then edel S.es k else S.es⟩
  | .touch k => ⟨S.T, etouch c S.T S.es k⟩
  | .flush => ⟨S.T, []⟩
noncomputable def out1 (S : PS) : Ev → List DE
  | .touch k => [(eseen S.T S.es k, S.T k)]
  | _ => []
noncomputable def emp (ms : List Int) (j : Nat) (S : PS) : PS := if (j : Int) ∈ ms then ⟨S.T, []⟩ else S
/-- after j events: the state, and what the touches told -/
noncomputable def playN (c : Int) (ks : List Str) (ms : List Int) (evs : List Ev) : Nat → PS × List DE
  | 0 => (⟨fun _ => .none, []⟩, [])
  | j + 1 =>
    match evs[j]? with
    | none => playN c ks ms evs j
    | some e => (play1 c ks (emp ms j (playN c ks ms evs j).1) e, (playN c ks ms evs j).2 ++ out1 (emp ms j (playN c ks ms evs j).1) e)
theorem playN_step {c : Int} {ks : List Str} {ms : List Int} {evs : List Ev} {j : Nat} {e : Ev} (h : evs[j]? = some e) :
    playN c ks ms evs (j + 1) = (play1 c ks (emp ms j (playN c ks ms evs j).1) e, (playN c ks ms evs j).2 ++ out1 (emp ms j (playN c ks ms evs j).1) e) := by
  show (match evs[j]? with
    | none => playN c ks ms evs j
    | some e => (play1 c ks (emp ms j (playN c ks ms evs j).1) e, (playN c ks ms evs j).2 ++ out1 (emp ms j (playN c ks ms evs j).1) e)) = _
  rw [h]
theorem emp_nil (j : Nat) (S : PS) : emp [] j S = S := by
  unfold emp
  rw [if_neg (by simp)]
/-- the entries: things, each key once, no more than the capacity -/
structure EI (c : Int) (es : List DE) : Prop where
  t : ∀ e ∈ es, Thing e.1 ∧ Thing e.2
  nd : (es.map (·.1)).Nodup
  l : (es.length : Int) ≤ c
theorem EI.nil {c : Int} (h : 0 ≤ c) : EI c [] := ⟨(fun _ h => by cases h), .nil, by simpa using h⟩
theorem edel_not (es : List DE) (k : PyData) : k ∉ (edel es k).map (·.1) := fun h => by
  obtain ⟨x, hx, rfl⟩ := List.mem_map.mp h
  exact (edel_mem hx).2 rfl
theorem edel_nd {es : List DE} {k : PyData} (h : (es.map (·.1)).Nodup) : ((edel es k).map (·.1)).Nodup := (List.filter_sublist.map _).nodup h
theorem EI.del {c : Int} {es : List DE} (h : EI c es) (k : PyData) : EI c (edel es k) :=
  ⟨fun e he => h.t e (edel_mem he).1, edel_nd h.nd, by have := edel_len es k; have := h.l; omega⟩
theorem eget_mem {es : List DE} {k v : PyData} (h : eget es k = some v) : (k, v) ∈ es := by
  unfold eget at h
  obtain ⟨x, hx, rfl⟩ := Option.map_eq_some_iff.mp h
  have h1 := List.find?_some hx
  have h2 : x.1 = k := by simpa using h1
  have h3 := List.mem_of_find?_eq_some hx
  rw [← h2]
  exact h3
theorem edel_lt {es : List DE} {k v : PyData} (h : eget es k = some v) : (edel es k).length + 1 ≤ es.length := by
  have hm := eget_mem h
  refine Nat.lt_of_le_of_ne (edel_len es k) fun z => ?_
  have z2 : edel es k = es := List.Sublist.eq_of_length List.filter_sublist z
  rw [← z2] at hm
  exact (edel_mem hm).2 rfl
theorem nd_app {es : List DE} {k v : PyData} (h : (es.map (·.1)).Nodup) : ((edel es k ++ [(k, v)]).map (·.1)).Nodup := by
  rw [List.map_append]
  refine List.nodup_append.mpr ⟨edel_nd h, by simp, fun a ha b hb z => ?_⟩
  have : b = k := by simpa using hb
  have e2 : a = k := z.trans this
  rw [e2] at ha
  exact edel_not es k ha
theorem t_app {es : List DE} {k v : PyData} (h : ∀ e ∈ es, Thing e.1 ∧ Thing e.2) (tk : Thing k) (tv : Thing v) : ∀ e ∈ edel es k ++ [(k, v)], Thing e.1 ∧ Thing e.2 := fun e he => by
  rcases List.mem_append.mp he with z | z
  · exact h e (edel_mem z).1
  · obtain rfl : e = (k, v) := by simpa using z
    exact ⟨tk, tv⟩
theorem EI.look {c : Int} {es : List DE} (h : EI c es) {k v : PyData} (tk : Thing k) (e : eget es k = some v) : EI c (edel es k ++ [(k, v)]) := by
  refine ⟨t_app h.t tk (h.t _ (eget_mem e)).2, nd_app h.nd, ?_⟩
  have := edel_lt e
  have := h.l
  rw [List.length_append]
  show (((edel es k).length + 1 : Nat) : Int) ≤ c
  omega
theorem EI.fill {c : Int} {es : List DE} (h : EI c es) {k v : PyData} (tk : Thing k) (tv : Thing v) : EI c (efill c es k v) := by
  unfold efill
  by_cases z : c = 0
  · rw [if_pos z]
    exact h
  rw [if_neg z]
  have ht := t_app h.t tk tv
  have hn := nd_app (k := k) (v := v) h.nd
  have hl : (edel es k ++ [(k, v)]).length = (edel es k).length + 1 := by
    rw [List.length_append]
    rfl
  by_cases y : (((edel es k).length + 1 : Nat) : Int) ≤ c
  · rw [if_pos y]
    exact ⟨ht, hn, by rw [hl]; exact y⟩
  · rw [if_neg y]
    refine ⟨fun e he => ht e (List.mem_of_mem_tail he), ((List.tail_sublist _).map _).nodup hn, ?_⟩
    have := edel_len es k
    have := h.l
    rw [List.length_tail, hl]
    omega
theorem EI.touch {c : Int} {T : Tb} {es : List DE} (h : EI c es) {k : PyData} (tk : Thing k) (ok : Opt (T k)) : EI c (etouch c T es k) := by
  cases e : eget es k with
  | some v =>
    rw [etouch_some e]
    exact h.look tk e
  | none =>
    by_cases z : T k = .none
    · rw [etouch_none e z]
      exact h
    · rw [etouch_fill e z]
      exact h.fill tk (ok.resolve_left z)
theorem seen_opt {T : Tb} {c : Int} {es : List DE} (h : EI c es) {k : PyData} (ok : Opt (T k)) : Opt (eseen T es k) := by
  unfold eseen
  cases e : eget es k with
  | some v => exact .inr (h.t _ (eget_mem e)).2
  | none => exact ok
structure SI (c : Int) (S : PS) : Prop where
  o : ∀ k, Opt (S.T k)
  e : EI c S.es
theorem SI.emp {c : Int} {S : PS} (h : SI c S) (c0 : 0 ≤ c) (ms : List Int) (j : Nat) : SI c (emp ms j S) := by
  unfold Lw.emp
  by_cases z : (j : Int) ∈ ms
  · rw [if_pos z]
    exact ⟨h.o, EI.nil c0⟩
  · rw [if_neg z]
    exact h
theorem pset_opt {T : Tb} {k v : PyData} (h : ∀ k, Opt (T k)) (hv : Opt v) : ∀ x, Opt (pset T k v x) := fun x => by
  by_cases z : x = k
  · rw [z, pset_same]
    exact hv
  · rw [pset_ne z]
    exact h x
theorem SI.step {c : Int} {ks : List Str} {S : PS} {e : Ev} (h : SI c S) (c0 : 0 ≤ c) (ok : e.ok) : SI c (play1 c ks S e) := by
  cases e with
  | set k v =>
    refine ⟨pset_opt h.o ok.2, ?_⟩
    show EI c (if memb (chg (S.T k) v) ks = true then edel S.es k else S.es)
    by_cases z : memb (chg (S.T k) v) ks = true
    · rw [if_pos z]
      exact h.e.del k
    · rw [if_neg z]
      exact h.e
  | touch k => exact ⟨h.o, h.e.touch ok (h.o k)⟩
  | flush => exact ⟨h.o, EI.nil c0⟩
theorem SI.run {c : Int} {ks : List Str} {ms : List Int} {evs : List Ev} (c0 : 0 ≤ c) (ok : ∀ e ∈ evs, e.ok) : ∀ j, SI c (playN c ks ms evs j).1
  | 0 => ⟨fun _ => .inl rfl, EI.nil c0⟩
  | j + 1 => by
    have ih := SI.run (ks := ks) (ms := ms) c0 ok j
    cases e : evs[j]? with
    | none =>
      have : playN c ks ms evs (j + 1) = playN c ks ms evs j := by
        show (match evs[j]? with
          | none => playN c ks ms evs j
          | some e => (play1 c ks (Lw.emp ms j (playN c ks ms evs j).1) e, (playN c ks ms evs j).2 ++ out1 (Lw.emp ms j (playN c ks ms evs j).1) e)) = _
        rw [e]
      rw [this]
      exact ih
    | some x =>
      rw [playN_step e]
      exact (ih.emp c0 ms j).step c0 (ok x (List.mem_of_getElem? e))
theorem out_ok {c : Int} {S : PS} {e : Ev} (h : SI c S) : ∀ x ∈ out1 S e, Opt x.1 ∧ Opt x.2 := fun x hx => by
  cases e with
  | touch k =>
    obtain rfl : x = (eseen S.T S.es k, S.T k) := by simpa [out1] using hx
    exact ⟨seen_opt h.e (h.o k), h.o k⟩
  | set k v => cases hx
  | flush => cases hx
theorem outs_ok {c : Int} {ks : List Str} {ms : List Int} {evs : List Ev} (c0 : 0 ≤ c) (ok : ∀ e ∈ evs, e.ok) : ∀ j, ∀ x ∈ (playN c ks ms evs j).2, Opt x.1 ∧ Opt x.2
  | 0 => fun _ h => by cases h
  | j + 1 => fun x hx => by
    cases e : evs[j]? with
    | none =>
      have : playN c ks ms evs (j + 1) = playN c ks ms evs j := by
        show (match evs[j]? with
          | none => playN c ks ms evs j
          | some e => (play1 c ks (Lw.emp ms j (playN c ks ms evs j).1) e, (playN c ks ms evs j).2 ++ out1 (Lw.emp ms j (playN c ks ms evs j).1) e)) = _
        rw [e]
      rw [this] at hx
      exact outs_ok c0 ok j x hx
    | some y =>
      rw [playN_step e] at hx
      rcases List.mem_append.mp hx with z | z
      · exact outs_ok c0 ok j x z
      · exact out_ok ((SI.run c0 ok j).emp c0 ms j) x z
theorem outs_len {c : Int} {ks : List Str} {ms : List Int} {evs : List Ev} : ∀ j, (playN c ks ms evs j).2.length ≤ j
  | 0 => Nat.le_refl _
  | j + 1 => by
    have ih := outs_len (c := c) (ks := ks) (ms := ms) (evs := evs) j
    cases e : evs[j]? with
    | none =>
      have : playN c ks ms evs (j + 1) = playN c ks ms evs j := by
        show (match evs[j]? with
          | none => playN c ks ms evs j
          | some e => (play1 c ks (Lw.emp ms j (playN c ks ms evs j).1) e, (playN c ks ms evs j).2 ++ out1 (Lw.emp ms j (playN c ks ms evs j).1) e)) = _
        rw [e]
      rw [this]
      omega
    | some y =>
      rw [playN_step e]
      show ((playN c ks ms evs j).2 ++ out1 (Lw.emp ms j (playN c ks ms evs j).1) y).length ≤ _
      rw [List.length_append]
      have : (out1 (Lw.emp ms j (playN c ks ms evs j).1) y).length ≤ 1 := by cases y <;> simp [out1]
      omega
theorem chg_is {d e : PyData} {s : Str} (h : IsKind d e s) : s = chg d e := by
  unfold chg
  by_cases h1 : d = e
  · rw [if_pos h1, h.1 h1]
  · rw [if_neg h1]
    by_cases h2 : d = .none
    · rw [if_pos h2, h.2.1 h1 h2]
    · rw [if_neg h2]
      by_cases h3 : e = .none
      · rw [if_pos h3, h.2.2.1 h1 h2 h3]
      · rw [if_neg h3, h.2.2.2 h1 h2 h3]
theorem dat_noL {e : Ev} (h : e.ok) : noL e.dat = true := by
  cases e with
  | set k v =>
    show (true && (noL k && (noL v && true))) = true
    rw [opt_noL (.inr h.1), opt_noL h.2]
    rfl
  | touch k =>
    show (true && (noL k && true)) = true
    rw [opt_noL (.inr h)]
    rfl
  | flush => rfl
theorem dats_noL : ∀ {evs : List Ev}, (∀ e ∈ evs, e.ok) → noLs (evs.map Ev.dat) = true
  | [], _ => rfl
  | e :: evs, h => by
    show (noL e.dat && noLs (evs.map Ev.dat)) = true
    rw [dat_noL (h e List.mem_cons_self), dats_noL fun x hx => h x (List.mem_cons_of_mem _ hx)]
    rfl

section

-- a condition of an operator
local macro_rules | `(tactic| walk_at "cond") => `(tactic| first
  | (show (0 : Int) < _; omega)
  | (show CDiv _ _; constructor <;> (first | decide | omega))
  | (show CMul _ _; first | (refine cmul_l ?_; constructor <;> (first | decide | omega)) | (refine cmul_r ?_; constructor <;> (first | decide | omega)))
  | (show CPow _ _; exact (by refine ⟨by decide, by decide, by decide⟩))
  | (show CDivW _ _; exact ⟨by decide, by decide +kernel⟩))
local macro_rules | `(tactic| walk_at "sq") => `(tactic| first | assumption | exact Dh.mono (same_upd (by assumption)) _ _ (by assumption) | exact .inl (.inl (.inl (by assumption))) | exact .inr (.inl (.inl (by assumption))) | exact SqL.of (by assumption) | exact .inl (by assumption) | exact .inl (SqL.of (by assumption)) | exact SqT.of (by assumption) | exact .inr (SqT.of (by assumption)))
local macro_rules | `(tactic| walk_at "st") => `(tactic| first
  | refine ⟨_, rfl, ?_⟩
  | refine ⟨_, _, rfl, rfl, ?_⟩
  | refine .inl ⟨_, rfl, ?_⟩
  | refine ⟨rfl, ?_⟩
  | refine ⟨_, _, rfl, by walk_at "sq", ?_⟩
  | refine ⟨.inl ⟨rfl, _, SqL.of (by assumption)⟩, ?_⟩
  | refine ⟨by walk_at "cond", ?_⟩
  | (refine' ifBT ?hh ?_; (case hh => first | rfl | assumption))
  | (refine' ifBF ?hh ?_; (case hh => first | rfl | assumption)))
local macro_rules | `(tactic| walk_at "go") => `(tactic| repeat walk_at "st")
local macro_rules | `(tactic| walk_at "yes") => `(tactic| (refine' ifT ?hh ?_; (case hh => first | rfl | decide +kernel)))
local macro_rules | `(tactic| walk_at "no") => `(tactic| (refine' ifF ?hh ?_; (case hh => first | decide +kernel | (intro z; cases z; done))))

-- facts carried to the heap at hand, from the facts of the context
local macro_rules | `(tactic| walk_at "lnk") => `(tactic| first | assumption | exact same_upd (by assumption))
local macro_rules | `(tactic| walk_at "sm") => `(tactic| first | walk_at "lnk" | exact same_rfl | (refine Same.trans ?_ (by walk_at "lnk"); walk_at "sm"))
local macro_rules | `(tactic| walk_at "at") => `(tactic| first | assumption | exact upd_same | (refine Same.get (by walk_at "lnk") ?_; walk_at "at"))
local macro_rules | `(tactic| walk_at "ix") => `(tactic| first
  | exact atI_nat (j := 0) rfl | exact atI_nat (j := 1) rfl | exact atI_nat (j := 2) rfl | exact atI_nat (j := 3) rfl
  | exact atI_nat (j := 4) rfl | exact atI_nat (j := 5) rfl | exact atI_nat (j := 6) rfl | assumption)
local macro_rules | `(tactic| walk_at "sT") => `(tactic| first | exact SqT.of (by walk_at "at") | exact SqL.of (by walk_at "at"))
local macro_rules | `(tactic| walk_at "st") => `(tactic| refine ⟨_, _, _, _, rfl, rfl, by walk_at "sT", by walk_at "ix", ?_⟩)
local macro_rules | `(tactic| walk_at "side") => `(tactic| first | rfl | assumption | walk_at "at" | walk_at "sm" | omega | decide)
-- a call: the promise's letters from its arguments, then what is asked from the context
local macro_rules | `(tactic| walk_at "call") => `(tactic| ((repeat (apply Exists.intro)); refine And.intro rfl ?_; repeat (refine And.intro (by walk_at "side") ?_)))

local macro_rules | `(tactic| walk_at "st") => `(tactic| refine ⟨_, _, _, _, _, rfl, by assumption, by assumption, by omega, by omega, by omega, by omega, by omega, ?_⟩)
local macro_rules | `(tactic| walk_at "st") => `(tactic| refine ⟨_, _, _, _, _, rfl, Same.seq (by assumption) (by assumption), by assumption, by omega, by omega, by omega, by omega, by omega, ?_⟩)

/-! ### the law's table: a list of [key, value] -/
abbrev s_table_get : Stmt := topS 16
theorem sc_table_get : FnScope ["_law_table", "_law_key", "_law_at"] ["_law_table", "_law_key"] (C8.fnScope s_table_get) := C8.fnScope_by (by decide +kernel)
abbrev s_table_set : Stmt := topS 17
theorem sc_table_set : FnScope ["_law_table", "_law_key", "_law_value", "_law_at"] ["_law_table", "_law_key", "_law_value"] (C8.fnScope s_table_set) := C8.fnScope_by (by decide +kernel)
theorem eget_app : ∀ {es : List DE} {k v : PyData}, k ∉ es.map (·.1) → ∀ x, (eget (es ++ [(k, v)]) x).getD .none = pset (fun x => (eget es x).getD .none) k v x
  | [], k, v, _, x => by
    show (eget [(k, v)] x).getD .none = _
    by_cases z : x = k
    · rw [z, pset_same, eget_pos (e := (k, v)) rfl]
      rfl
    · rw [pset_ne z, eget_neg (e := (k, v)) fun y => z y.symm]
  | e :: es, k, v, h, x => by
    have h1 : k ≠ e.1 := fun z => h (List.mem_map.mpr ⟨e, List.mem_cons_self, z.symm⟩)
    have ih := eget_app (v := v) (fun z => h (List.mem_cons_of_mem (a := k) e.1 z)) x
    show (eget (e :: (es ++ [(k, v)])) x).getD .none = _
    by_cases z : e.1 = x
    · rw [eget_pos z, pset_ne fun y => h1 (y.symm.trans z.symm), eget_pos z]
    · rw [eget_neg z, ih]
      by_cases y : x = k
      · rw [y, pset_same, pset_same]
      · rw [pset_ne y, pset_ne y, eget_neg z]
theorem eget_rep : ∀ {es : List DE} {i : Nat} {k o v : PyData}, (es.map (·.1)).Nodup → es[i]? = some (k, o) → ∀ x, (eget (es.set i (k, v)) x).getD .none = pset (fun x => (eget es x).getD .none) k v x
  | [], i, k, o, v, _, h, x => by simp at h
  | e :: es, 0, k, o, v, nd, h, x => by
    obtain rfl : e = (k, o) := by simpa using h
    show (eget ((k, v) :: es) x).getD .none = _
    by_cases z : x = k
    · rw [z, pset_same, eget_pos (e := (k, v)) rfl]
      rfl
    · rw [pset_ne z, eget_neg (e := (k, v)) fun y => z y.symm, eget_neg (e := (k, o)) fun y => z y.symm]
  | e :: es, i + 1, k, o, v, nd, h, x => by
    have n := List.nodup_cons.mp (show (e.1 :: es.map (·.1)).Nodup from nd)
    have h2 : es[i]? = some (k, o) := by simpa using h
    have ih := eget_rep (v := v) n.2 h2 x
    show (eget (e :: es.set i (k, v)) x).getD .none = _
    have nk : e.1 ≠ k := fun y => n.1 (List.mem_map.mpr ⟨_, List.mem_of_getElem? h2, y.symm⟩)
    by_cases z : e.1 = x
    · rw [eget_pos z, pset_ne fun y => nk (z.trans y), eget_pos z]
    · rw [eget_neg z, ih]
      by_cases y : x = k
      · rw [y, pset_same, pset_same]
      · rw [pset_ne y, pset_ne y, eget_neg z]
theorem set_same_map {α β : Type} (f : α → β) : ∀ {xs : List α} {i : Nat} {x y : α}, xs[i]? = some x → f y = f x → (xs.set i y).map f = xs.map f
  | [], i, x, y, h, _ => by simp at h
  | a :: xs, 0, x, y, h, e => by
    obtain rfl : a = x := by simpa using h
    show f y :: xs.map f = f a :: xs.map f
    rw [e]
  | a :: xs, i + 1, x, y, h, e => by
    have h2 : xs[i]? = some x := by simpa using h
    show f a :: (xs.set i y).map f = f a :: xs.map f
    rw [set_same_map f h2 e]
theorem nd_at {α β : Type} {f : α → β} : ∀ {xs : List α} {i : Nat} {x y z : α}, (xs.map f).Nodup → xs[i]? = some x → z ∈ xs.set i y → z = y ∨ (z ∈ xs ∧ f z ≠ f x)
  | [], i, x, y, z, _, h, _ => by simp at h
  | a :: xs, 0, x, y, z, nd, h, m => by
    obtain rfl : a = x := by simpa using h
    have n := List.nodup_cons.mp (show (f a :: xs.map f).Nodup from nd)
    rcases List.mem_cons.mp (show z ∈ y :: xs from m) with e | e
    · exact .inl e
    · exact .inr ⟨List.mem_cons_of_mem _ e, fun q => n.1 (List.mem_map.mpr ⟨z, e, q⟩)⟩
  | a :: xs, i + 1, x, y, z, nd, h, m => by
    have n := List.nodup_cons.mp (show (f a :: xs.map f).Nodup from nd)
    have h2 : xs[i]? = some x := by simpa using h
    rcases List.mem_cons.mp (show z ∈ a :: xs.set i y from m) with e | e
    · subst e
      exact .inr ⟨List.mem_cons_self, fun q => n.1 (List.mem_map.mpr ⟨x, List.mem_of_getElem? h2, q.symm⟩)⟩
    · exact (nd_at n.2 h2 e).imp id fun q => ⟨List.mem_cons_of_mem _ q.1, q.2⟩
theorem KeptAt.rep {H : Hp} {L : Addr} {rs : List (Addr × MEnt)} {i : Nat} {r : Addr × MEnt} {v : V} {vd : PyData} (h : KeptAt H L rs) (er : rs[i]? = some r) (ov : Opt vd) (hv : Dh H vd v) : KeptAt (upd H r.1 (.lst [r.2.k, v])) L (rs.set i (r.1, ⟨r.2.kd, vd, r.2.k, v⟩)) := by
  have hm := List.mem_of_getElem? er
  obtain ⟨k1, k2, k3, k4, k5⟩ := h.e r hm
  have t : Tups H (upd H r.1 (.lst [r.2.k, v])) := Tups.put fun us z => by rw [k1] at z; cases z
  have m1 : (rs.set i (r.1, ⟨r.2.kd, vd, r.2.k, v⟩)).map (fun r => V.ref r.1) = rs.map fun r => V.ref r.1 := set_same_map _ er rfl
  have m2 : (rs.set i (r.1, ⟨r.2.kd, vd, r.2.k, v⟩)).map (fun r => r.2.kd) = rs.map fun r => r.2.kd := set_same_map _ er rfl
  have m3 : (rs.set i (r.1, ⟨r.2.kd, vd, r.2.k, v⟩)).map (·.1) = rs.map (·.1) := set_same_map _ er rfl
  refine ⟨by rw [upd_ne (h.nl r hm).symm, m1]; exact h.g, fun x hx => ?_, by rw [m2]; exact h.nd, by rw [m3]; exact h.ad, fun x hx => ?_, by rw [List.length_set]; exact h.l⟩
  · rcases nd_at h.ad er hx with rfl | ⟨h1, h2⟩
    · exact ⟨upd_same, k2, ov, Dh.tups t _ _ (opt_noL (.inr k2)) k4, Dh.tups t _ _ (opt_noL ov) hv⟩
    · obtain ⟨j1, j2, j3, j4, j5⟩ := h.e x h1
      exact ⟨by rw [upd_ne h2]; exact j1, j2, j3, Dh.tups t _ _ (opt_noL (.inr j2)) j4, Dh.tups t _ _ (opt_noL j3) j5⟩
  · rcases nd_at h.ad er hx with rfl | ⟨h1, h2⟩
    · exact h.nl r hm
    · exact h.nl x h1
noncomputable def ktab (rs : List (Addr × MEnt)) : Tb := fun x => (eget (kdat rs) x).getD .none
def spTGet : Sp := fun vs H Q _ => ∃ (L : Addr) (k : V) (kd : PyData) (rs : List (Addr × MEnt)), vs = [.ref L, k] ∧ KeptAt H L rs ∧ Thing kd ∧ Dh H kd k ∧ ∀ v, Dh H (ktab rs kd) v → Q v H
def spTSet : Sp := fun vs H Q _ => ∃ (L : Addr) (k v : V) (kd vd : PyData) (rs : List (Addr × MEnt)), vs = [.ref L, k, v] ∧ KeptAt H L rs ∧ rs.length ≤ 90000 ∧ Thing kd ∧ Dh H kd k ∧ Opt vd ∧ Dh H vd v ∧
  ∀ rs' H', KeptAt H' L rs' → ktab rs' = pset (ktab rs) kd vd → rs'.length ≤ rs.length + 1 → (∀ r ∈ rs', r.1 ∈ rs.map (·.1) ∨ H r.1 = none) → (∀ b o, b ≠ L → b ∉ rs.map (·.1) → H b = some o → H' b = some o) → Q .non H'
theorem ktab_opt {H : Hp} {L : Addr} {rs : List (Addr × MEnt)} (h : KeptAt H L rs) (k : PyData) : Opt (ktab rs k) := by
  unfold ktab
  cases e : eget (kdat rs) k with
  | none => exact .inl rfl
  | some v =>
    obtain ⟨r, hr, z⟩ := List.mem_map.mp (eget_mem e)
    have := (h.e r hr).2.2.1
    have z2 : r.2.vd = v := congrArg Prod.snd z
    rw [z2] at this
    exact this
section
variable {P : Program} {w : World} {K : PySem.W.Frag} {mg : Str → Option Value} {base : Heap}
theorem ok_tget {f : Addr} {fd : FuncData} (Df : Def K mg "_law_table_get" s_table_get f fd) (b : Binds K fd ["_law_table", "_law_key"] []) (T : Txt mg) (c_kept_find : Cal P w K mg base 1 "_law_kept_find" spFind []) : Cal P w K mg base 2 "_law_table_get" spTGet [] := by
  refine cal0 Df b .nil sc_table_get (fun vs H Q E h => ?_) (fun cdv A outer s H vs Q E hr h => ?_)
  · obtain ⟨L, k, kd, rs, rfl, _⟩ := h
    rfl
  obtain ⟨L, k, kd, rs, rfl, hc, hk, hx, q⟩ := h
  refine ⟨_, (pss_cons (ps_set (i := 2) sc_table_get.nd rfl (.inl rfl) (C8.pe_c c_kept_find hr (by omega) (by rfl) (pa_cons (pv 0) (pa_cons (pv 1) pa_nil))))
      (pss_cons (ps_mk (ps_if (pt_cmpR op_lt (pv 2) pe_int (nomark _))
      (pss_one (ps_ret pe_non))
      pss_nil))
      (pss_one (ps_ret (pe_ix (ixL K rfl) (pe_ix (ixL K rfl) (pv 0) (pv 2) (fun _ _ => rfl)) pe_int (fun _ _ => rfl)))))), ?_⟩
  have gL := hc.g
  have hl := hc.l
  walk_at "go"
  refine find_mk hc hk hx fun i hi => ?_
  rcases hi with ⟨rfl, hno⟩ | ⟨i, r, rfl, er, hkd⟩
  · walk_at "go"
    refine un ?_
    walk_at "go"
    refine q _ ?_
    unfold ktab
    rw [kept_none.mp hno]
    rfl
  obtain ⟨e1, _⟩ := kept_some hc.nd er
  rw [hkd] at e1
  obtain ⟨k1, k2, k3, k4, k5⟩ := hc.e r (List.mem_of_getElem? er)
  have at1 : atI (rs.map fun r => V.ref r.1) ((i : Nat) : Int) = some (.ref r.1) := atI_nat (by rw [List.getElem?_map, er]; rfl)
  walk_at "go"
  refine un ?_
  walk_at "go"
  refine q _ ?_
  unfold ktab
  rw [e1]
  exact k5
theorem ok_tset {f : Addr} {fd : FuncData} (Df : Def K mg "_law_table_set" s_table_set f fd) (b : Binds K fd ["_law_table", "_law_key", "_law_value"] []) (T : Txt mg) (c_kept_find : Cal P w K mg base 1 "_law_kept_find" spFind []) : Cal P w K mg base 2 "_law_table_set" spTSet [] := by
  refine cal0 Df b .nil sc_table_set (fun vs H Q E h => ?_) (fun cdv A outer s H vs Q E hr h => ?_)
  · obtain ⟨L, k, v, kd, vd, rs, rfl, _⟩ := h
    rfl
  obtain ⟨L, k, v, kd, vd, rs, rfl, hc, hl0, hk, hx, ov, hv, q⟩ := h
  refine ⟨_, (pss_cons (ps_set (i := 3) sc_table_set.nd rfl (.inl rfl) (C8.pe_c c_kept_find hr (by omega) (by rfl) (pa_cons (pv 0) (pa_cons (pv 1) pa_nil))))
      (pss_one (ps_mk (ps_if (pt_cmpR op_lt (pv 3) pe_int (nomark _))
      (pss_one (ps_expr (pe_bm PySem.F.plainAttrs_list PySem.F.slot_list_append PySem.F.type_list_append mt_append (pv 0) (pa_cons (pe_lst (pa_cons (pv 1) (pa_cons (pv 2) pa_nil))) pa_nil))))
      (pss_one (ps_asg (pv 2) (pg_sub (pe_ix (ixL K rfl) (pv 0) (pv 3) (fun _ _ => rfl)) pe_int set_list))))))), ?_⟩
  have gL := hc.g
  have hl := hc.l
  walk_at "go"
  refine find_mk hc hk hx fun i hi => ?_
  rcases hi with ⟨rfl, hno⟩ | ⟨i, r, rfl, er, hkd⟩
  · walk_at "go"
    refine un ?_
    walk_at "go"
    refine ⟨sz, fun p hp => ?_⟩
    have s2 := same_upd (o := HO.lst [k, v]) hp
    have gp := upd_same (H := H) (a := p) (o := HO.lst [k, v])
    show _
    generalize upd H p (HO.lst [k, v]) = H2 at *
    have hc2 := hc.same s2
    have g2 := hc2.g
    have np : p ≠ L := (ne_of_none gL hp).symm
    walk_at "go"
    refine ⟨L, _, _, rfl, rfl, g2, sz5 (by rw [List.length_map]; omega), ?_⟩
    have ep : rs.map (fun r => V.ref r.1) ++ [V.ref p] = ((rs ++ [(p, MEnt.mk kd vd k v)]).map fun r => V.ref r.1) := by rw [List.map_append]; rfl
    rw [ep]
    walk_at "go"
    have nad : ∀ r ∈ rs, r.1 ≠ p := fun r hr z => by
      have := (hc.e r hr).1
      rw [z, hp] at this
      cases this
    have hc3 : KeptAt (upd H2 L (.lst ((rs ++ [(p, MEnt.mk kd vd k v)]).map fun r => V.ref r.1))) L (rs ++ [(p, MEnt.mk kd vd k v)]) := by
      refine hc2.put (fun x hx2 => ?_) ?_ ?_ (by rw [List.length_append]; show rs.length + 1 ≤ _; omega)
      · rcases List.mem_append.mp hx2 with y | y
        · exact .inl y
        · obtain rfl : x = (p, MEnt.mk kd vd k v) := by simpa using y
          exact .inr ⟨np, gp, hk, ov, Dh.mono s2 _ _ hx, Dh.mono s2 _ _ hv⟩
      · rw [List.map_append]
        refine List.nodup_append.mpr ⟨hc2.nd, by simp, fun a ha b hb z => ?_⟩
        obtain ⟨r, hr, rfl⟩ := List.mem_map.mp ha
        have : b = kd := by simpa using hb
        exact hno r hr (z.trans this)
      · rw [List.map_append]
        refine List.nodup_append.mpr ⟨hc2.ad, by simp, fun a ha b hb z => ?_⟩
        obtain ⟨r, hr, rfl⟩ := List.mem_map.mp ha
        have : b = p := by simpa using hb
        exact nad r hr (z.trans this)
    refine q _ _ hc3 ?_ (by rw [List.length_append]; exact Nat.le_refl _) (fun r hr => ?_) (fun b o n1 _ e => by rw [upd_ne n1]; exact s2 _ _ e)
    · funext x
      unfold ktab
      have : kdat (rs ++ [(p, MEnt.mk kd vd k v)]) = kdat rs ++ [(kd, vd)] := by
        show List.map _ _ = _
        rw [List.map_append]
        rfl
      rw [this]
      refine eget_app (fun z => ?_) x
      obtain ⟨y, hy, rfl⟩ := List.mem_map.mp z
      obtain ⟨r, hr, rfl⟩ := List.mem_map.mp hy
      exact hno r hr rfl
    · rcases List.mem_append.mp hr with y | y
      · exact .inl (List.mem_map_of_mem y)
      · obtain rfl : r = (p, MEnt.mk kd vd k v) := by simpa using y
        exact .inr hp
  obtain ⟨k1, k2, k3, k4, k5⟩ := hc.e r (List.mem_of_getElem? er)
  have at1 : atI (rs.map fun r => V.ref r.1) ((i : Nat) : Int) = some (.ref r.1) := atI_nat (by rw [List.getElem?_map, er]; rfl)
  walk_at "go"
  refine un ?_
  walk_at "go"
  refine ⟨r.1, _, 1, 1, rfl, rfl, k1, rfl, ?_⟩
  have hr2 := hc.rep er ov hv
  have md : kdat (rs.set i (r.1, ⟨r.2.kd, vd, r.2.k, v⟩)) = (kdat rs).set i (kd, vd) := by
    show List.map _ _ = _
    rw [List.map_set]
    show (List.map _ rs).set i (r.2.kd, vd) = _
    rw [hkd]
    rfl
  have eo : (kdat rs)[i]? = some (kd, r.2.vd) := by
    show (List.map _ rs)[i]? = _
    rw [List.getElem?_map, er, ← hkd]
    rfl
  walk_at "go"
  refine q _ _ hr2 ?_ (by rw [List.length_set]; omega) (fun x hx => ?_) (fun a o n1 n2 e => ?_)
  · funext x
    unfold ktab
    rw [md]
    refine eget_rep ?_ eo x
    show ((rs.map fun r => r.2.dat).map (·.1)).Nodup
    rw [List.map_map]
    exact hc.nd
  · rcases nd_at hc.ad er hx with rfl | ⟨h1, _⟩
    · exact .inl (List.mem_map.mpr ⟨r, List.mem_of_getElem? er, rfl⟩)
    · exact .inl (List.mem_map_of_mem h1)
  · rw [upd_ne fun z => n2 (List.mem_map.mpr ⟨r, List.mem_of_getElem? er, z.symm⟩)]
    exact e
end
theorem tget_mk {L : Addr} {k : V} {kd : PyData} {rs : List (Addr × MEnt)} {H : Hp} {Q : VK} {E : XK} (hc : KeptAt H L rs) (hk : Thing kd) (hx : Dh H kd k) (q : ∀ v, Dh H (ktab rs kd) v → Q v H) : spTGet [.ref L, k] H Q E := ⟨L, k, kd, rs, rfl, hc, hk, hx, q⟩
theorem tset_mk {L : Addr} {k v : V} {kd vd : PyData} {rs : List (Addr × MEnt)} {H : Hp} {Q : VK} {E : XK} (hc : KeptAt H L rs) (l : rs.length ≤ 90000) (hk : Thing kd) (hx : Dh H kd k) (ov : Opt vd) (dv : Dh H vd v)
    (q : ∀ rs' H', KeptAt H' L rs' → ktab rs' = pset (ktab rs) kd vd → rs'.length ≤ rs.length + 1 → (∀ r ∈ rs', r.1 ∈ rs.map (·.1) ∨ H r.1 = none) → (∀ b o, b ≠ L → b ∉ rs.map (·.1) → H b = some o → H' b = some o) → Q .non H') : spTSet [.ref L, k, v] H Q E := ⟨L, k, v, kd, vd, rs, rfl, hc, l, hk, hx, ov, dv, q⟩

end

/-! ### pairs as data -/
def pr2 (x : DE) : PyData := .tuple [x.1, x.2]
theorem pr2_dat (xs : List MEnt) : xs.map pairD = (xs.map MEnt.dat).map pr2 := by
  rw [List.map_map]
  rfl
theorem pr2_noL {x : DE} (h : Thing x.1) (o : Opt x.2) : noL (pr2 x) = true := by
  show (noL x.1 && (noL x.2 && true)) = true
  rw [opt_noL (.inr h), opt_noL o]
  rfl
theorem pr2s_noL : ∀ {xs : List DE}, (∀ x ∈ xs, Thing x.1 ∧ Opt x.2) → noLs (xs.map pr2) = true
  | [], _ => rfl
  | x :: xs, h => by
    show (noL (pr2 x) && noLs (xs.map pr2)) = true
    rw [pr2_noL (h x List.mem_cons_self).1 (h x List.mem_cons_self).2, pr2s_noL fun y hy => h y (List.mem_cons_of_mem _ hy)]
    rfl
theorem dle_up : ∀ {n : Nat} {d : PyData}, Dle n d → Dle (n + 1) d
  | 0, _, h => h.elim
  | n + 1, .list ds, h => ⟨h.1, fun d hd => dle_up (h.2 d hd)⟩
  | n + 1, .tuple ds, h => ⟨h.1, fun d hd => dle_up (h.2 d hd)⟩
  | n + 1, .none, _ => trivial
  | n + 1, .bool _, _ => trivial
  | n + 1, .int _, _ => trivial
  | n + 1, .str _, _ => trivial
  | n + 1, .dict _, h => h.elim
theorem dle_prO {xs : List DE} (l : xs.length ≤ 100000) (h : ∀ x ∈ xs, Opt x.1 ∧ Opt x.2) : Dle 5 (.list (xs.map pr2)) := by
  refine ⟨by rw [List.length_map]; exact l, fun d hd => ?_⟩
  obtain ⟨x, hx, rfl⟩ := List.mem_map.mp hd
  refine ⟨(by decide : 2 ≤ 100000), fun e he => ?_⟩
  rcases List.mem_cons.mp he with rfl | he
  · exact dle_up (dle_opt (h x hx).1)
  · obtain rfl : e = x.2 := by simpa using he
    exact dle_up (dle_opt (h x hx).2)
theorem pr2s_noLO : ∀ {xs : List DE}, (∀ x ∈ xs, Opt x.1 ∧ Opt x.2) → noLs (xs.map pr2) = true
  | [], _ => rfl
  | x :: xs, h => by
    show ((noL x.1 && (noL x.2 && true)) && noLs (xs.map pr2)) = true
    rw [opt_noL (h x List.mem_cons_self).1, opt_noL (h x List.mem_cons_self).2, pr2s_noLO fun y hy => h y (List.mem_cons_of_mem _ hy)]
    rfl
theorem dle5 {d : PyData} (h : Opt d) : Dle 5 d := dle_up (dle_up (dle_up (dle_opt h)))
theorem same_eq {n : Nat} {x y : V} {d : PyData} {H : Hp} {Q : VK} {E : XK} (hx : Dh H d x) (hy : Dh H d y) (hd : Dle n d) (q : ∀ H', Same H H' → Q (.bl true) H') : spSame n [x, y] H Q E :=
  ⟨x, y, d, d, rfl, hx, hy, hd, fun b H' hb s => by
    rw [hb.mpr rfl]
    exact q H' s⟩
theorem dle_pr {xs : List DE} (l : xs.length ≤ 100000) (h : ∀ x ∈ xs, Thing x.1 ∧ Opt x.2) : Dle 5 (.list (xs.map pr2)) := by
  refine ⟨by rw [List.length_map]; exact l, fun d hd => ?_⟩
  obtain ⟨x, hx, rfl⟩ := List.mem_map.mp hd
  refine ⟨(by decide : 2 ≤ 100000), fun e he => ?_⟩
  rcases List.mem_cons.mp he with rfl | he
  · exact dle_up (dle_opt (.inr (h x hx).1))
  · obtain rfl : e = x.2 := by simpa using he
    exact dle_up (dle_opt (h x hx).2)

/-! ### a trace -/
def TrAt (H : Hp) (tr : Addr) (evs : List Ev) : Prop := ∃ us, H tr = some (.lst us) ∧ DhAll H (evs.map Ev.dat) us
theorem TrAt.same {H H' : Hp} {tr : Addr} {evs : List Ev} (h : TrAt H tr evs) (s : Same H H') : TrAt H' tr evs := by
  obtain ⟨us, g, d⟩ := h
  exact ⟨us, s _ _ g, DhAll.mono s _ _ d⟩
/-- the event at a place -/
theorem ev_at {H : Hp} {evs : List Ev} {us : List V} {i : Nat} {e : Ev} (d : DhAll H (evs.map Ev.dat) us) (h : evs[i]? = some e) : ∃ t, us[i]? = some (.ref t) ∧ Dh H e.dat (.ref t) := by
  obtain ⟨v, ev, dv⟩ := d.get (show (evs.map Ev.dat)[i]? = some e.dat by rw [List.getElem?_map, h]; rfl)
  cases e with
  | set k v =>
    obtain ⟨t, us, rfl, g, r⟩ := dv
    exact ⟨t, ev, t, us, rfl, g, r⟩
  | touch k =>
    obtain ⟨t, us, rfl, g, r⟩ := dv
    exact ⟨t, ev, t, us, rfl, g, r⟩
  | flush =>
    obtain ⟨t, us, rfl, g, r⟩ := dv
    exact ⟨t, ev, t, us, rfl, g, r⟩
def Ev.nm : Ev → Str
  | .set _ _ => "set"
  | .touch _ => "touch"
  | .flush => "flush"
def Ev.isF : Ev → Bool
  | .flush => true
  | _ => false
theorem Ev.nm_f (e : Ev) : decide (V.str e.nm = V.str "flush") = e.isF := by
  cases e
  · exact decide_eq_false fun z => absurd (show ("set" : Str) = "flush" from V.str.inj z) (by decide +kernel)
  · exact decide_eq_false fun z => absurd (show ("touch" : Str) = "flush" from V.str.inj z) (by decide +kernel)
  · exact decide_eq_true rfl
theorem ev_word {H : Hp} {e : Ev} {t : Addr} (d : Dh H e.dat (.ref t)) : ∃ vs, H t = some (.tup (.str e.nm :: vs)) := by
  cases e with
  | set k v =>
    obtain ⟨_, us, et, g, x, _, rfl, rfl, _⟩ := d
    cases et
    exact ⟨_, g⟩
  | touch k =>
    obtain ⟨_, us, et, g, x, _, rfl, rfl, _⟩ := d
    cases et
    exact ⟨_, g⟩
  | flush =>
    obtain ⟨_, us, et, g, x, _, rfl, rfl, _⟩ := d
    cases et
    exact ⟨_, g⟩
theorem elook_some {es : List DE} {k v : PyData} (h : eget es k = some v) : elook es k = edel es k ++ [(k, v)] := by
  unfold elook
  rw [h]
theorem elook_none {es : List DE} {k : PyData} (h : eget es k = none) : elook es k = es := by
  unfold elook
  rw [h]

section

-- a condition of an operator
local macro_rules | `(tactic| walk_at "cond") => `(tactic| first
  | (show (0 : Int) < _; omega)
  | (show CDiv _ _; constructor <;> (first | decide | omega))
  | (show CMul _ _; first | (refine cmul_l ?_; constructor <;> (first | decide | omega)) | (refine cmul_r ?_; constructor <;> (first | decide | omega)))
  | (show CPow _ _; exact (by refine ⟨by decide, by decide, by decide⟩))
  | (show CDivW _ _; exact ⟨by decide, by decide +kernel⟩))
local macro_rules | `(tactic| walk_at "sq") => `(tactic| first | assumption | exact Dh.mono (same_upd (by assumption)) _ _ (by assumption) | exact .inl (.inl (.inl (by assumption))) | exact .inr (.inl (.inl (by assumption))) | exact SqL.of (by assumption) | exact .inl (by assumption) | exact .inl (SqL.of (by assumption)) | exact SqT.of (by assumption) | exact .inr (SqT.of (by assumption)))
local macro_rules | `(tactic| walk_at "st") => `(tactic| first
  | refine ⟨_, rfl, ?_⟩
  | refine ⟨_, _, rfl, rfl, ?_⟩
  | refine .inl ⟨_, rfl, ?_⟩
  | refine ⟨rfl, ?_⟩
  | refine ⟨_, _, rfl, by walk_at "sq", ?_⟩
  | refine ⟨.inl ⟨rfl, _, SqL.of (by assumption)⟩, ?_⟩
  | refine ⟨by walk_at "cond", ?_⟩
  | (refine' ifBT ?hh ?_; (case hh => first | rfl | assumption))
  | (refine' ifBF ?hh ?_; (case hh => first | rfl | assumption)))
local macro_rules | `(tactic| walk_at "go") => `(tactic| repeat walk_at "st")
local macro_rules | `(tactic| walk_at "yes") => `(tactic| (refine' ifT ?hh ?_; (case hh => first | rfl | decide +kernel)))
local macro_rules | `(tactic| walk_at "no") => `(tactic| (refine' ifF ?hh ?_; (case hh => first | decide +kernel | (intro z; cases z; done))))

-- facts carried to the heap at hand, from the facts of the context
local macro_rules | `(tactic| walk_at "lnk") => `(tactic| first | assumption | exact same_upd (by assumption))
local macro_rules | `(tactic| walk_at "sm") => `(tactic| first | walk_at "lnk" | exact same_rfl | (refine Same.trans ?_ (by walk_at "lnk"); walk_at "sm"))
local macro_rules | `(tactic| walk_at "at") => `(tactic| first | assumption | exact upd_same | (refine Same.get (by walk_at "lnk") ?_; walk_at "at"))
local macro_rules | `(tactic| walk_at "ix") => `(tactic| first
  | exact atI_nat (j := 0) rfl | exact atI_nat (j := 1) rfl | exact atI_nat (j := 2) rfl | exact atI_nat (j := 3) rfl
  | exact atI_nat (j := 4) rfl | exact atI_nat (j := 5) rfl | exact atI_nat (j := 6) rfl | assumption)
local macro_rules | `(tactic| walk_at "sT") => `(tactic| first | exact SqT.of (by walk_at "at") | exact SqL.of (by walk_at "at"))
local macro_rules | `(tactic| walk_at "st") => `(tactic| refine ⟨_, _, _, _, rfl, rfl, by walk_at "sT", by walk_at "ix", ?_⟩)
local macro_rules | `(tactic| walk_at "side") => `(tactic| first | rfl | assumption | walk_at "at" | walk_at "sm" | omega | decide)
-- a call: the promise's letters from its arguments, then what is asked from the context
local macro_rules | `(tactic| walk_at "call") => `(tactic| ((repeat (apply Exists.intro)); refine And.intro rfl ?_; repeat (refine And.intro (by walk_at "side") ?_)))

local macro_rules | `(tactic| walk_at "st") => `(tactic| refine ⟨_, _, _, _, _, rfl, by assumption, by assumption, by omega, by omega, by omega, by omega, by omega, ?_⟩)
local macro_rules | `(tactic| walk_at "st") => `(tactic| refine ⟨_, _, _, _, _, rfl, Same.seq (by assumption) (by assumption), by assumption, by omega, by omega, by omega, by omega, by omega, ?_⟩)

/-! ### touch -/
abbrev s_touch : Stmt := topS 5
theorem sc_touch : FnScope ["table", "cache", "key", "actual", "seen"] ["table", "cache", "key"] (C8.fnScope s_touch) := C8.fnScope_by (by decide +kernel)
structure TabM (w : World) (H : Hp) (t : Addr) (xs : List MEnt) (T : Tb) : Prop where
  m : MxAt w H t xs
  e : ∀ k, ((mget xs k).map (·.vd)).getD .none = T k
theorem TabM.same {w : World} {H H' : Hp} {t : Addr} {xs : List MEnt} {T : Tb} (h : TabM w H t xs T) (s : Same H H') : TabM w H' t xs T := ⟨h.m.same s, h.e⟩
theorem TabM.off {w : World} {H H' : Hp} {t d : Addr} {xs : List MEnt} {T : Tb} (h : TabM w H t xs T) (b : But H H' d) (n : t ≠ d) (nt : ∀ us, H d ≠ some (.tup us)) : TabM w H' t xs T := ⟨h.m.tups (But.tups b nt) fun o g => b _ _ n g, h.e⟩
theorem TabM.opt {w : World} {H : Hp} {t : Addr} {xs : List MEnt} {T : Tb} (h : TabM w H t xs T) (k : PyData) : Opt (T k) := by
  rw [← h.e k]
  cases z : mget xs k with
  | none => exact .inl rfl
  | some e => exact (h.m.e e (mget_mem z).1).2.1
theorem TabM.got {w : World} {H : Hp} {t : Addr} {xs : List MEnt} {T : Tb} (h : TabM w H t xs T) {k : PyData} {e : MEnt} (z : mget xs k = some e) : Dh H (T k) e.v := by
  rw [← h.e k, z]
  exact (h.m.e e (mget_mem z).1).2.2.2
theorem TabM.not {w : World} {H : Hp} {t : Addr} {xs : List MEnt} {T : Tb} (h : TabM w H t xs T) {k : PyData} (z : mget xs k = none) : T k = .none := by
  rw [← h.e k, z]
  rfl
theorem getM_mk {w : World} {H : Hp} {t : Addr} {xs : List MEnt} {T : Tb} {k : V} {kd : PyData} {Q : VK} (h : TabM w H t xs T) (hk : Thing kd) (hx : Dh H kd k) (q : ∀ v, Dh H (T kd) v → Q v H) : rGetM w (.ref t) [k] H Q :=
  ⟨t, xs, kd, k, rfl, rfl, h.m, hk, hx, fun z => q .non (by rw [h.not z]; rfl), fun e z => q e.v (h.got z)⟩
theorem look_mk {C : Addr} {w : World} {p d : Addr} {k : V} {c : Int} {kd : PyData} {xs : List MEnt} {H : Hp} {Q : VK} {E : XK} (hc : CacheAt C w H p d c xs) (hk : Thing kd) (hx : Dh H kd k)
    (h : ∀ v xs' H', Dh H' ((eget (xs.map MEnt.dat) kd).getD .none) v → CacheAt C w H' p d c xs' → xs'.map MEnt.dat = elook (xs.map MEnt.dat) kd → But H H' d → Q v H') : spLook C w [.ref p, k] H Q E := by
  refine ⟨p, d, k, c, kd, xs, rfl, hc, hk, hx, fun z => ?_, fun e z H' k1 b1 => ?_⟩
  · have z2 := mget_dat_none.mp z
    refine h .non xs H ?_ hc (elook_none z2).symm (fun _ _ _ e => e)
    rw [z2]
    rfl
  · have z2 := mget_dat_some z
    refine h e.v _ H' ?_ k1 ?_ b1
    · rw [z2]
      obtain ⟨_, ov, _, dv⟩ := hc.m.e e (mget_mem z).1
      exact Dh.tups (But.tups b1 hc.m.noT) _ _ (opt_noL ov) dv
    · rw [elook_some z2, List.map_append, edel_dat]
      rfl
theorem fill_mk {C : Addr} {w : World} {p d : Addr} {k v : V} {c : Int} {kd vd : PyData} {xs : List MEnt} {H : Hp} {Q : VK} {E : XK} (hc : CacheAt C w H p d c xs) (hl : xs.length ≤ 90000) (hk : Thing kd) (hx : Dh H kd k) (ov : Opt vd) (hv : Dh H vd v) (c0 : 0 ≤ c)
    (h : ∀ y xs' H', CacheAt C w H' p d c xs' → xs'.map MEnt.dat = efill c (xs.map MEnt.dat) kd vd → But H H' d → Q y H') : spFill C w [.ref p, k, v] H Q E := by
  have ml : (mdel xs kd).length = (edel (xs.map MEnt.dat) kd).length := by rw [← edel_dat, List.length_map]
  refine ⟨p, d, k, v, c, kd, vd, xs, rfl, hc, hl, hk, hx, ov, hv, c0, fun z => ?_, fun z z2 H' k1 b1 => ?_, fun z z2 y ys ey H' k1 b1 _ _ => ?_⟩
  · exact h .non xs H hc (by unfold efill; rw [if_pos z]) (fun _ _ _ e => e)
  · refine h .non _ H' k1 ?_ b1
    unfold efill
    rw [if_neg z, if_pos (by rw [← ml]; exact z2), List.map_append, edel_dat]
    rfl
  · refine h y.k ys H' k1 ?_ b1
    have e1 := congrArg (List.map MEnt.dat) ey
    rw [List.map_append, edel_dat] at e1
    unfold efill
    rw [if_neg z, if_neg (by rw [← ml]; exact z2), show edel (xs.map MEnt.dat) kd ++ [(kd, vd)] = (y :: ys).map MEnt.dat from e1]
    rfl
def spTouch (C : Addr) (w : World) : Sp := fun vs H Q _ => ∃ (t p d : Addr) (k : V) (c : Int) (kd : PyData) (T : Tb) (xs ys : List MEnt), vs = [.ref t, .ref p, k] ∧ TabM w H t xs T ∧ CacheAt C w H p d c ys ∧ t ≠ d ∧ Thing kd ∧ Dh H kd k ∧ EI c (ys.map MEnt.dat) ∧ 0 ≤ c ∧ c ≤ 80000 ∧
  ∀ r x y ys' H', H r = none → H' r = some (.tup [x, y]) → Dh H' (eseen T (ys.map MEnt.dat) kd) x → Dh H' (T kd) y → CacheAt C w H' p d c ys' → ys'.map MEnt.dat = etouch c T (ys.map MEnt.dat) kd → But H H' d → Q (.ref r) H'
theorem CacheAt.fresh {C : Addr} {w : World} {H H' : Hp} {p d r : Addr} {c : Int} {xs : List MEnt} (h : CacheAt C w H' p d c xs) (b : But H H' d) (n : H' r = none) : H r = none := by
  cases e : H r with
  | none => rfl
  | some o =>
    by_cases z : r = d
    · obtain ⟨ep, g⟩ := h.m.g
      rw [z, g] at n
      cases n
    · have := b _ _ z e
      rw [n] at this
      cases this
section
variable {P : Program} {w : World} {K : PySem.W.Frag} {mg : Str → Option Value} {base : Heap} {C : Addr}
theorem ok_touch {f : Addr} {fd : FuncData} (Df : Def K mg "touch" s_touch f fd) (b : Binds K fd ["table", "cache", "key"] []) (T : CTxt K mg C) (m_look : C8.Met P w K mg base 1 C "look" (spLook C w) []) (m_fill : C8.Met P w K mg base 2 C "fill" (spFill C w) []) : Cal P w K mg base 3 "touch" (spTouch C w) [] := by
  refine cal0 Df b .nil sc_touch (fun vs H Q E h => ?_) (fun cdv A outer s H vs Q E hr h => ?_)
  · obtain ⟨t, p, d, k, c, kd, Tb, xs, ys, rfl, _⟩ := h
    rfl
  obtain ⟨t, p, d, k, c, kd, Tb, xs, ys, rfl, ht, hc, htd, tk, dk, ei, c0, c8, q⟩ := h
  have m_look := metI m_look
  have m_fill := metI m_fill
  refine ⟨_, (pss_cons (ps_set (i := 3) sc_touch.nd rfl (.inl rfl) (pe_bx rfl PySem.F.plainAttrs_dict PySem.F.slot_dict_get PySem.F.type_dict_get (mtI (mt_getM rfl hr.units)) (pv 0) (pa_cons (pv 2) pa_nil)))
      (pss_cons (ps_set (i := 4) sc_touch.nd rfl (.inl rfl) (C8.pe_mt m_look hr (by omega) (pv 1) (pa_cons (pv 2) pa_nil)))
      (pss_cons (ps_mk (ps_if (pt_cmpR op_isN (pv 4) pe_non (nomark _))
      (pss_cons (ps_set (i := 4) sc_touch.nd rfl (.inl rfl) (pv 3))
      (pss_one (ps_mk (ps_if (pt_cmpR op_notN (pv 3) pe_non (nomark _))
      (pss_one (ps_expr (C8.pe_mt m_fill hr (by omega) (pv 1) (pa_cons (pv 2) (pa_cons (pv 3) pa_nil)))))
      pss_nil))))
      pss_nil))
      (pss_one (ps_ret (pe_tup (pa_cons (pv 4) (pa_cons (pv 3) pa_nil)))))))), ?_⟩
  obtain ⟨dx, gp⟩ := hc.g
  have nT := hc.m.noT
  walk_at "go"
  refine ⟨⟨t, xs, rfl, ht.m⟩, ?_⟩
  walk_at "go"
  refine RmI.mk (getM_mk ht tk dk fun v0 dv0 => ?_)
  walk_at "go"
  refine ⟨p, dx, _, rfl, gp, flds_no _ _ (by decide +kernel) (by decide +kernel), ?_⟩
  walk_at "go"
  refine SpI.mk (look_mk hc tk dk fun v1 ys1 H1 dv1 c1 e1 b1 => ?_)
  have ot := ht.opt kd
  have dv01 := Dh.tups (But.tups b1 nT) _ _ (opt_noL ot) dv0
  have dk1 := Dh.tups (But.tups b1 nT) _ _ (opt_noL (.inr tk)) dk
  obtain ⟨dx1, gp1⟩ := c1.g
  generalize ees : ys.map MEnt.dat = es at *
  walk_at "go"
  refine jnS (M := fun σ H' => ∃ v ys', Dh H' (eseen Tb es kd) v ∧ Dh H' (Tb kd) v0 ∧ CacheAt C w H' p d c ys' ∧ ys'.map MEnt.dat = etouch c Tb es kd ∧ But H H' d ∧ σ = [sR t, sR p, some k, some v0, some v]) ?_ (fun N kk => ?_)
  rotate_left
  · cases eg : eget es kd with
    | some v =>
      have nn : v1 ≠ .non := fun z => by
        have tv := (ei.t _ (eget_mem eg)).2
        rw [eg] at dv1
        have this : v = .none := dv1.non_iff.mp z
        subst this
        exact tv
      walk_at "go"
      refine ifF nn ?_
      walk_at "go"
      refine kk _ _ ⟨v1, ys1, ?_, dv01, c1, ?_, b1, rfl⟩
      · unfold eseen
        rw [eg] at dv1 ⊢
        exact dv1
      · rw [etouch_some eg, ← elook_some eg]
        exact e1
    | none =>
      rw [eg] at dv1
      have e2 : v1 = .non := dv1
      subst e2
      rw [elook_none eg] at e1
      have esn : eseen Tb es kd = Tb kd := by
        unfold eseen
        rw [eg]
        rfl
      walk_at "go"
      by_cases z : Tb kd = .none
      · have zz : v0 = .non := dv01.non_iff.mpr z
        refine un ?_
        walk_at "go"
        refine ifBF (by rw [decide_eq_true zz]; rfl) ?_
        walk_at "go"
        refine kk _ _ ⟨v0, ys1, by rw [esn]; exact dv01, dv01, c1, by rw [etouch_none eg z]; exact e1, b1, rfl⟩
      · have zz : ¬ v0 = .non := fun y => z (dv01.non_iff.mp y)
        refine un ?_
        walk_at "go"
        refine ifBT (by rw [decide_eq_false zz]; rfl) ?_
        walk_at "go"
        refine ⟨p, dx1, _, rfl, gp1, flds_no _ _ (by decide +kernel) (by decide +kernel), ?_⟩
        walk_at "go"
        have ll := ei.l
        rw [← e1, List.length_map] at ll
        refine SpI.mk (fill_mk c1 (by omega) tk dk1 ot dv01 c0 fun y ys2 H2 c2 e3 b2 => ?_)
        walk_at "go"
        have dv02 := Dh.tups (But.tups b2 c1.m.noT) _ _ (opt_noL ot) dv01
        refine kk _ _ ⟨v0, ys2, by rw [esn]; exact dv02, dv02, c2, by rw [etouch_fill eg z, ← e1]; exact e3, b1.trans b2, rfl⟩
  rintro σ H2 ⟨v, ys2, dv, d0, c2, e2, b2, rfl⟩
  walk_at "go"
  refine ⟨sz, fun r nr => ?_⟩
  have s3 := same_upd (o := HO.tup [v, v0]) nr
  exact q r v v0 ys2 _ (c2.fresh b2 nr) upd_same (Dh.mono s3 _ _ dv) (Dh.mono s3 _ _ d0) (c2.same s3) e2 (b2.trans (Same.but s3))
end
theorem touch_mk {C : Addr} {w : World} {t p d : Addr} {k : V} {c : Int} {kd : PyData} {T : Tb} {xs ys : List MEnt} {H : Hp} {Q : VK} {E : XK} (tb : TabM w H t xs T) (ca : CacheAt C w H p d c ys) (td : t ≠ d) (tk : Thing kd) (dk : Dh H kd k) (ei : EI c (ys.map MEnt.dat)) (c0 : 0 ≤ c) (c8 : c ≤ 80000)
    (q : ∀ r x y ys' H', H r = none → H' r = some (.tup [x, y]) → Dh H' (eseen T (ys.map MEnt.dat) kd) x → Dh H' (T kd) y → CacheAt C w H' p d c ys' → ys'.map MEnt.dat = etouch c T (ys.map MEnt.dat) kd → But H H' d → Q (.ref r) H') : spTouch C w [.ref t, .ref p, k] H Q E :=
  ⟨t, p, d, k, c, kd, T, xs, ys, rfl, tb, ca, td, tk, dk, ei, c0, c8, q⟩

end

/-! ### a table that is written -/
theorem eget_edel_same : ∀ (es : List DE) (k : PyData), eget (edel es k) k = none := fun es k => by
  rw [eget_none]
  exact fun x hx => (edel_mem hx).2
theorem eget_edel_ne : ∀ {es : List DE} {k x : PyData}, x ≠ k → eget (edel es k) x = eget es x
  | [], _, _, _ => rfl
  | e :: es, k, x, h => by
    have ih := eget_edel_ne (es := es) h
    by_cases z : e.1 = k
    · rw [edel_pos z, ih, eget_neg fun y => h (y.symm.trans z)]
    · rw [edel_neg z]
      by_cases y : e.1 = x
      · rw [eget_pos y, eget_pos y]
      · rw [eget_neg y, eget_neg y, ih]
open Classical in
noncomputable def repE (k v : PyData) (x : DE) : DE := if x.1 = k then (x.1, v) else x
theorem repE_1 (k v : PyData) (x : DE) : (repE k v x).1 = x.1 := by
  unfold repE
  by_cases z : x.1 = k
  · rw [if_pos z]
  · rw [if_neg z]
theorem eget_rep_ne : ∀ {es : List DE} {k v x : PyData}, x ≠ k → eget (es.map (repE k v)) x = eget es x
  | [], _, _, _, _ => rfl
  | e :: es, k, v, x, h => by
    have ih := eget_rep_ne (es := es) (v := v) h
    show eget (repE k v e :: es.map (repE k v)) x = _
    by_cases y : e.1 = x
    · have ny : ¬ e.1 = k := fun z => h (y.symm.trans z)
      have e2 : repE k v e = e := by
        unfold repE
        rw [if_neg ny]
      rw [e2, eget_pos y, eget_pos y]
    · rw [eget_neg (by rw [repE_1]; exact y), eget_neg y, ih]
theorem eget_rep_same : ∀ {es : List DE} {k v : PyData}, k ∈ es.map (·.1) → eget (es.map (repE k v)) k = some v
  | [], _, _, h => by cases h
  | e :: es, k, v, h => by
    show eget (repE k v e :: es.map (repE k v)) k = _
    by_cases y : e.1 = k
    · have e2 : repE k v e = (e.1, v) := by
        unfold repE
        rw [if_pos y]
      rw [e2, eget_pos (e := (e.1, v)) y]
    · rw [eget_neg (by rw [repE_1]; exact y)]
      refine eget_rep_same ?_
      rcases List.mem_cons.mp h with z | z
      · exact absurd z.symm y
      · exact z
theorem tab_at (xs : List MEnt) (k : PyData) : ((mget xs k).map (·.vd)).getD .none = (eget (xs.map MEnt.dat) k).getD .none := by rw [eget_dat]
theorem TabM.del {w : World} {H H' : Hp} {t : Addr} {xs : List MEnt} {T : Tb} {k : PyData} (h : TabM w H t xs T) (m : MxAt w H' t (mdel xs k)) : TabM w H' t (mdel xs k) (pset T k .none) := by
  refine ⟨m, fun x => ?_⟩
  rw [tab_at, edel_dat]
  by_cases z : x = k
  · rw [z, pset_same, eget_edel_same]
    rfl
  · rw [pset_ne z, eget_edel_ne z, ← h.e x, tab_at]
theorem TabM.skip {w : World} {H : Hp} {t : Addr} {xs : List MEnt} {T : Tb} {k : PyData} (h : TabM w H t xs T) (z : mget xs k = none) : TabM w H t xs (pset T k .none) := by
  refine ⟨h.m, fun x => ?_⟩
  by_cases y : x = k
  · rw [y, pset_same, z]
    rfl
  · rw [pset_ne y, h.e x]
theorem TabM.put {w : World} {H H' : Hp} {t : Addr} {xs : List MEnt} {T : Tb} {e : MEnt} (h : TabM w H t xs T) (m : MxAt w H' t (mput xs e)) : TabM w H' t (mput xs e) (pset T e.kd e.vd) := by
  refine ⟨m, fun x => ?_⟩
  rw [tab_at]
  by_cases hin : e.kd ∈ xs.map (·.kd)
  · have ed : (mput xs e).map MEnt.dat = (xs.map MEnt.dat).map (repE e.kd e.vd) := by
      unfold mput
      rw [if_pos hin, List.map_map, List.map_map]
      refine List.map_congr_left fun y _ => ?_
      show (mset e y).dat = repE e.kd e.vd y.dat
      unfold mset repE
      by_cases z : y.kd = e.kd
      · rw [if_pos z, if_pos (show y.dat.1 = e.kd from z)]
        rfl
      · rw [if_neg z, if_neg (show ¬ y.dat.1 = e.kd from z)]
    rw [ed]
    by_cases z : x = e.kd
    · rw [z, pset_same, eget_rep_same (by rw [keys_dat]; exact hin)]
      rfl
    · rw [pset_ne z, eget_rep_ne z, ← tab_at, h.e x]
  · rw [mput_new hin, List.map_append]
    have : (eget (xs.map MEnt.dat ++ [(e.kd, e.vd)]) x).getD .none = pset (fun x => (eget (xs.map MEnt.dat) x).getD .none) e.kd e.vd x := eget_app (by rw [keys_dat]; exact hin) x
    refine this.trans ?_
    by_cases z : x = e.kd
    · rw [z, pset_same, pset_same]
    · rw [pset_ne z, pset_ne z, ← tab_at, h.e x]
theorem CacheAt.offM {C : Addr} {w : World} {H H' : Hp} {p d t : Addr} {c : Int} {xs ys : List MEnt} (h : CacheAt C w H p d c xs) (m : MxAt w H t ys) (b : But H H' t) (n : t ≠ d) : CacheAt C w H' p d c xs := by
  obtain ⟨dx, g⟩ := h.g
  obtain ⟨ep, gt⟩ := m.g
  exact ⟨⟨dx, b _ _ (fun z => by rw [z, gt] at g; cases g) g⟩, h.m.tups (But.tups b m.noT) fun o ho => b _ _ n.symm ho, h.l⟩
theorem drop_mk {C : Addr} {w : World} {p d : Addr} {k : V} {c : Int} {kd : PyData} {xs : List MEnt} {H : Hp} {Q : VK} {E : XK} (hc : CacheAt C w H p d c xs) (hk : Thing kd) (hx : Dh H kd k)
    (h : ∀ y xs' H', CacheAt C w H' p d c xs' → xs'.map MEnt.dat = edel (xs.map MEnt.dat) kd → But H H' d → Q y H') : spDrop C w [.ref p, k] H Q E :=
  ⟨p, d, k, c, kd, xs, rfl, hc, hk, hx, fun H' k1 b1 => h _ _ H' k1 (edel_dat _ _) b1⟩
theorem popM_mk {w : World} {H : Hp} {t : Addr} {xs : List MEnt} {T : Tb} {k : V} {kd : PyData} {Q : VK} (h : TabM w H t xs T) (hk : Thing kd) (hx : Dh H kd k) (q : ∀ y xs' H', TabM w H' t xs' (pset T kd .none) → xs'.length ≤ xs.length → But H H' t → Q y H') : rPopM w (.ref t) [k, .non] H Q :=
  ⟨t, xs, kd, k, [.non], rfl, rfl, .inr ⟨_, rfl⟩, h.m, hk, hx, fun z => ⟨.non, rfl, q .non xs H (h.skip z) (Nat.le_refl _) fun _ _ _ e => e⟩, fun e _ H' m b => q e.v _ H' (h.del m) (mdel_len xs kd) b⟩
theorem setM_mk {w : World} {H : Hp} {t : Addr} {xs : List MEnt} {T : Tb} {k v : V} {kd vd : PyData} {Q : Hp → Prop} (h : TabM w H t xs T) (hk : Thing kd) (hx : Dh H kd k) (ov : Opt vd) (hv : Dh H vd v) (l : xs.length ≤ 90000) (q : ∀ xs' H', TabM w H' t xs' (pset T kd vd) → xs'.length ≤ xs.length + 1 → But H H' t → Q H') : rSetM w (.ref t) k v H Q :=
  ⟨t, xs, kd, vd, rfl, h.m, hk, hx, ov, hv, sz5 (by omega), fun H' m b => q _ H' (h.put m) (mput_len _ _) b⟩

/-! ### what is no list, what is no dictionary -/
theorem MxAt.neL {w : World} {H : Hp} {d L : Addr} {xs : List MEnt} {us : List V} (m : MxAt w H d xs) (g : H L = some (.lst us)) : L ≠ d := fun z => by
  obtain ⟨ep, gd⟩ := m.g
  rw [z, gd] at g
  cases g
theorem CacheAt.neL {C : Addr} {w : World} {H : Hp} {p d L : Addr} {c : Int} {xs : List MEnt} {us : List V} (h : CacheAt C w H p d c xs) (g : H L = some (.lst us)) : L ≠ p := fun z => by
  obtain ⟨dx, gp⟩ := h.g
  rw [z, gp] at g
  cases g
theorem CacheAt.neM {C : Addr} {w : World} {H : Hp} {p d t : Addr} {c : Int} {xs ys : List MEnt} (h : CacheAt C w H p d c xs) (m : MxAt w H t ys) : t ≠ p := fun z => by
  obtain ⟨dx, gp⟩ := h.g
  obtain ⟨ep, gt⟩ := m.g
  rw [z, gp] at gt
  cases gt

section

-- a condition of an operator
local macro_rules | `(tactic| walk_at "cond") => `(tactic| first
  | (show (0 : Int) < _; omega)
  | (show CDiv _ _; constructor <;> (first | decide | omega))
  | (show CMul _ _; first | (refine cmul_l ?_; constructor <;> (first | decide | omega)) | (refine cmul_r ?_; constructor <;> (first | decide | omega)))
  | (show CPow _ _; exact (by refine ⟨by decide, by decide, by decide⟩))
  | (show CDivW _ _; exact ⟨by decide, by decide +kernel⟩))
local macro_rules | `(tactic| walk_at "sq") => `(tactic| first | assumption | exact Dh.mono (same_upd (by assumption)) _ _ (by assumption) | exact .inl (.inl (.inl (by assumption))) | exact .inr (.inl (.inl (by assumption))) | exact SqL.of (by assumption) | exact .inl (by assumption) | exact .inl (SqL.of (by assumption)) | exact SqT.of (by assumption) | exact .inr (SqT.of (by assumption)))
local macro_rules | `(tactic| walk_at "st") => `(tactic| first
  | refine ⟨_, rfl, ?_⟩
  | refine ⟨_, _, rfl, rfl, ?_⟩
  | refine .inl ⟨_, rfl, ?_⟩
  | refine ⟨rfl, ?_⟩
  | refine ⟨_, _, rfl, by walk_at "sq", ?_⟩
  | refine ⟨.inl ⟨rfl, _, SqL.of (by assumption)⟩, ?_⟩
  | refine ⟨by walk_at "cond", ?_⟩
  | (refine' ifBT ?hh ?_; (case hh => first | rfl | assumption))
  | (refine' ifBF ?hh ?_; (case hh => first | rfl | assumption)))
local macro_rules | `(tactic| walk_at "go") => `(tactic| repeat walk_at "st")
local macro_rules | `(tactic| walk_at "yes") => `(tactic| (refine' ifT ?hh ?_; (case hh => first | rfl | decide +kernel)))
local macro_rules | `(tactic| walk_at "no") => `(tactic| (refine' ifF ?hh ?_; (case hh => first | decide +kernel | (intro z; cases z; done))))

-- facts carried to the heap at hand, from the facts of the context
local macro_rules | `(tactic| walk_at "lnk") => `(tactic| first | assumption | exact same_upd (by assumption))
local macro_rules | `(tactic| walk_at "sm") => `(tactic| first | walk_at "lnk" | exact same_rfl | (refine Same.trans ?_ (by walk_at "lnk"); walk_at "sm"))
local macro_rules | `(tactic| walk_at "at") => `(tactic| first | assumption | exact upd_same | (refine Same.get (by walk_at "lnk") ?_; walk_at "at"))
local macro_rules | `(tactic| walk_at "ix") => `(tactic| first
  | exact atI_nat (j := 0) rfl | exact atI_nat (j := 1) rfl | exact atI_nat (j := 2) rfl | exact atI_nat (j := 3) rfl
  | exact atI_nat (j := 4) rfl | exact atI_nat (j := 5) rfl | exact atI_nat (j := 6) rfl | assumption)
local macro_rules | `(tactic| walk_at "sT") => `(tactic| first | exact SqT.of (by walk_at "at") | exact SqL.of (by walk_at "at"))
local macro_rules | `(tactic| walk_at "st") => `(tactic| refine ⟨_, _, _, _, rfl, rfl, by walk_at "sT", by walk_at "ix", ?_⟩)
local macro_rules | `(tactic| walk_at "side") => `(tactic| first | rfl | assumption | walk_at "at" | walk_at "sm" | omega | decide)
-- a call: the promise's letters from its arguments, then what is asked from the context
local macro_rules | `(tactic| walk_at "call") => `(tactic| ((repeat (apply Exists.intro)); refine And.intro rfl ?_; repeat (refine And.intro (by walk_at "side") ?_)))

local macro_rules | `(tactic| walk_at "st") => `(tactic| refine ⟨_, _, _, _, _, rfl, by assumption, by assumption, by omega, by omega, by omega, by omega, by omega, ?_⟩)
local macro_rules | `(tactic| walk_at "st") => `(tactic| refine ⟨_, _, _, _, _, rfl, Same.seq (by assumption) (by assumption), by assumption, by omega, by omega, by omega, by omega, by omega, ?_⟩)

/-! ### _set_value, play_trace -/
abbrev s_set_value : Stmt := topS 6
theorem sc_set_value : FnScope ["table", "cache", "entry", "kinds", "key", "value"] ["table", "cache", "entry", "kinds"] (C8.fnScope s_set_value) := C8.fnScope_by (by decide +kernel)
abbrev s_play_trace : Stmt := topS 4
theorem sc_play_trace : FnScope ["trace", "capacity", "kinds", "table", "cache", "pairs", "event"] ["trace", "capacity", "kinds"] (C8.fnScope s_play_trace) := C8.fnScope_by (by decide +kernel)
def spSetV (C : Addr) (w : World) : Sp := fun vs H Q _ => ∃ (t p en kl d : Addr) (k v : V) (ks : List Str) (c : Int) (kd vd : PyData) (T : Tb) (xs ys : List MEnt), vs = [.ref t, .ref p, .ref en, .ref kl] ∧ TabM w H t xs T ∧ CacheAt C w H p d c ys ∧ t ≠ d ∧
  H en = some (.tup [k, v]) ∧ Thing kd ∧ Dh H kd k ∧ Opt vd ∧ Dh H vd v ∧ H kl = some (.lst (ks.map V.str)) ∧ xs.length ≤ 90000 ∧
  ∀ xs' ys' H', TabM w H' t xs' (pset T kd vd) → xs'.length ≤ xs.length + 1 → CacheAt C w H' p d c ys' → ys'.map MEnt.dat = (if memb (chg (T kd) vd) ks = true then edel (ys.map MEnt.dat) kd else ys.map MEnt.dat) → (∀ b o, b ≠ t → b ≠ d → H b = some o → H' b = some o) → Q .non H'
section
variable {P : Program} {w : World} {K : PySem.W.Frag} {mg : Str → Option Value} {base : Heap} {C : Addr}
theorem ok_setv {f : Addr} {fd : FuncData} (Df : Def K mg "_set_value" s_set_value f fd) (b : Binds K fd ["table", "cache", "entry", "kinds"] []) (T : CTxt K mg C) (m_drop : C8.Met P w K mg base 1 C "drop" (spDrop C w) []) (c_change_kind : Cal P w K mg base 1 "change_kind" spChange []) : Cal P w K mg base 2 "_set_value" (spSetV C w) [] := by
  refine cal0 Df b .nil sc_set_value (fun vs H Q E h => ?_) (fun cdv A outer s H vs Q E hr h => ?_)
  · obtain ⟨t, p, en, kl, d, k, v, ks, c, kd, vd, Tb, xs, ys, rfl, _⟩ := h
    rfl
  obtain ⟨t, p, en, kl, d, k, v, ks, c, kd, vd, Tb, xs, ys, rfl, ht, hc, htd, gen, tk, dk, ov, dv, gkl, lx, q⟩ := h
  have m_drop := metI m_drop
  refine ⟨_, (pss_cons (ps_asg (pv 2) (pg_tup rfl (pgs_cons (pg_name (i := 4) sc_set_value.nd rfl (.inl rfl)) (pgs_cons (pg_name (i := 5) sc_set_value.nd rfl (.inl rfl)) pgs_nil))))
      (pss_cons (ps_mk (ps_if (pt_cmpR (inQ K rfl) (C8.pe_c c_change_kind hr (by omega) (by rfl) (pa_cons (pe_bx rfl PySem.F.plainAttrs_dict PySem.F.slot_dict_get PySem.F.type_dict_get (mtI (mt_getM rfl hr.units)) (pv 0) (pa_cons (pv 4) pa_nil)) (pa_cons (pv 5) pa_nil))) (pv 3) (by rfl))
      (pss_one (ps_expr (C8.pe_mt m_drop hr (by omega) (pv 1) (pa_cons (pv 4) pa_nil))))
      pss_nil))
      (pss_one (ps_mk (ps_if (pt_cmpR op_isN (pv 5) pe_non (nomark _))
      (pss_one (ps_expr (pe_bx rfl PySem.F.plainAttrs_dict PySem.F.slot_dict_pop PySem.F.type_dict_pop (mtI (mt_popM rfl hr.units)) (pv 0) (pa_cons (pv 4) (pa_cons pe_non pa_nil)))))
      (pss_one (ps_asg (pv 5) (pg_sub (pv 0) (pv 4) (setI (set_mx rfl hr.units)))))))))), ?_⟩
  obtain ⟨dx, gp⟩ := hc.g
  walk_at "go"
  have nT := hc.m.noT
  have ot := ht.opt kd
  generalize ees : ys.map MEnt.dat = es at *
  refine jnS (M := fun σ H' => ∃ ys', TabM w H' t xs Tb ∧ CacheAt C w H' p d c ys' ∧ ys'.map MEnt.dat = (if memb (chg (Tb kd) vd) ks = true then edel es kd else es) ∧ But H H' d ∧ Dh H' kd k ∧ Dh H' vd v ∧ σ = [sR t, sR p, sR en, sR kl, some k, some v]) ?_ (fun N kk => ?_)
  rotate_left
  · walk_at "go"
    refine ⟨⟨t, xs, rfl, ht.m⟩, ?_⟩
    walk_at "go"
    refine RmI.mk (getM_mk ht tk dk fun v0 dv0 => ?_)
    walk_at "go"
    refine ⟨v0, v, Tb kd, vd, rfl, dv0, dv, ot, ov, fun wd H1 hw s1 => ?_⟩
    obtain rfl := chg_is hw
    have gkl1 := s1 _ _ gkl
    have c1 := hc.same s1
    have t1 := ht.same s1
    walk_at "go"
    refine ⟨flat_strs ks, ?_⟩
    walk_at "go"
    cases hm : memb (chg (Tb kd) vd) ks with
    | false =>
      refine ifBF hm ?_
      walk_at "go"
      exact kk _ _ ⟨ys, t1, c1, by rw [hm, if_neg Bool.false_ne_true]; exact ees, Same.but s1, Dh.mono s1 _ _ dk, Dh.mono s1 _ _ dv, rfl⟩
    | true =>
      refine ifBT hm ?_
      have gp1 := s1 _ _ gp
      walk_at "go"
      refine ⟨p, dx, _, rfl, gp1, flds_no _ _ (by decide +kernel) (by decide +kernel), ?_⟩
      walk_at "go"
      refine SpI.mk (drop_mk c1 tk (Dh.mono s1 _ _ dk) fun y ys' H2 c2 e2 b2 => ?_)
      walk_at "go"
      have tu := But.tups b2 c1.m.noT
      exact kk _ _ ⟨ys', t1.off b2 htd c1.m.noT, c2, by rw [hm, if_pos rfl, ← ees]; exact e2, (Same.but s1).trans b2, Dh.tups tu _ _ (opt_noL (.inr tk)) (Dh.mono s1 _ _ dk), Dh.tups tu _ _ (opt_noL ov) (Dh.mono s1 _ _ dv), rfl⟩
  rintro σ H2 ⟨ys2, t2, c2, e2, b2, dk2, dv2, rfl⟩
  refine un ?_
  walk_at "go"
  refine ifD (fun z => ?_) (fun z => ?_)
  · have hv : vd = .none := dv2.non_iff.mp z
    subst hv
    walk_at "go"
    refine ⟨⟨t, xs, rfl, t2.m⟩, ?_⟩
    walk_at "go"
    refine RmI.mk (popM_mk t2 tk dk2 fun y xs' H3 t3 l3 b3 => ?_)
    walk_at "go"
    exact q xs' ys2 H3 t3 (by omega) (c2.offM t2.m b3 htd) e2 fun a o n1 n2 z => b3 _ _ n1 (b2 _ _ n2 z)
  · walk_at "go"
    refine TSI.mk (setM_mk t2 tk dk2 ov dv2 lx fun xs' H3 t3 l3 b3 => ?_)
    walk_at "go"
    exact q xs' ys2 H3 t3 l3 (c2.offM t2.m b3 htd) e2 fun a o n1 n2 z => b3 _ _ n1 (b2 _ _ n2 z)
end

end

section

-- a condition of an operator
local macro_rules | `(tactic| walk_at "cond") => `(tactic| first
  | (show (0 : Int) < _; omega)
  | (show CDiv _ _; constructor <;> (first | decide | omega))
  | (show CMul _ _; first | (refine cmul_l ?_; constructor <;> (first | decide | omega)) | (refine cmul_r ?_; constructor <;> (first | decide | omega)))
  | (show CPow _ _; exact (by refine ⟨by decide, by decide, by decide⟩))
  | (show CDivW _ _; exact ⟨by decide, by decide +kernel⟩))
local macro_rules | `(tactic| walk_at "sq") => `(tactic| first | assumption | exact Dh.mono (same_upd (by assumption)) _ _ (by assumption) | exact .inl (.inl (.inl (by assumption))) | exact .inr (.inl (.inl (by assumption))) | exact SqL.of (by assumption) | exact .inl (by assumption) | exact .inl (SqL.of (by assumption)) | exact SqT.of (by assumption) | exact .inr (SqT.of (by assumption)))
local macro_rules | `(tactic| walk_at "st") => `(tactic| first
  | refine ⟨_, rfl, ?_⟩
  | refine ⟨_, _, rfl, rfl, ?_⟩
  | refine .inl ⟨_, rfl, ?_⟩
  | refine ⟨rfl, ?_⟩
  | refine ⟨_, _, rfl, by walk_at "sq", ?_⟩
  | refine ⟨.inl ⟨rfl, _, SqL.of (by assumption)⟩, ?_⟩
  | refine ⟨by walk_at "cond", ?_⟩
  | (refine' ifBT ?hh ?_; (case hh => first | rfl | assumption))
  | (refine' ifBF ?hh ?_; (case hh => first | rfl | assumption)))
local macro_rules | `(tactic| walk_at "go") => `(tactic| repeat walk_at "st")
local macro_rules | `(tactic| walk_at "yes") => `(tactic| (refine' ifT ?hh ?_; (case hh => first | rfl | decide +kernel)))
local macro_rules | `(tactic| walk_at "no") => `(tactic| (refine' ifF ?hh ?_; (case hh => first | decide +kernel | (intro z; cases z; done))))

-- facts carried to the heap at hand, from the facts of the context
local macro_rules | `(tactic| walk_at "lnk") => `(tactic| first | assumption | exact same_upd (by assumption))
local macro_rules | `(tactic| walk_at "sm") => `(tactic| first | walk_at "lnk" | exact same_rfl | (refine Same.trans ?_ (by walk_at "lnk"); walk_at "sm"))
local macro_rules | `(tactic| walk_at "at") => `(tactic| first | assumption | exact upd_same | (refine Same.get (by walk_at "lnk") ?_; walk_at "at"))
local macro_rules | `(tactic| walk_at "ix") => `(tactic| first
  | exact atI_nat (j := 0) rfl | exact atI_nat (j := 1) rfl | exact atI_nat (j := 2) rfl | exact atI_nat (j := 3) rfl
  | exact atI_nat (j := 4) rfl | exact atI_nat (j := 5) rfl | exact atI_nat (j := 6) rfl | assumption)
local macro_rules | `(tactic| walk_at "sT") => `(tactic| first | exact SqT.of (by walk_at "at") | exact SqL.of (by walk_at "at"))
local macro_rules | `(tactic| walk_at "st") => `(tactic| refine ⟨_, _, _, _, rfl, rfl, by walk_at "sT", by walk_at "ix", ?_⟩)
local macro_rules | `(tactic| walk_at "side") => `(tactic| first | rfl | assumption | walk_at "at" | walk_at "sm" | omega | decide)
-- a call: the promise's letters from its arguments, then what is asked from the context
local macro_rules | `(tactic| walk_at "call") => `(tactic| ((repeat (apply Exists.intro)); refine And.intro rfl ?_; repeat (refine And.intro (by walk_at "side") ?_)))

local macro_rules | `(tactic| walk_at "st") => `(tactic| refine ⟨_, _, _, _, _, rfl, by assumption, by assumption, by omega, by omega, by omega, by omega, by omega, ?_⟩)
local macro_rules | `(tactic| walk_at "st") => `(tactic| refine ⟨_, _, _, _, _, rfl, Same.seq (by assumption) (by assumption), by assumption, by omega, by omega, by omega, by omega, by omega, ?_⟩)

/-! ### play_trace itself -/
def spPlay (C : Addr) (w : World) : Sp := fun vs H Q _ => ∃ (tr kl : Addr) (ks : List Str) (c : Int) (evs : List Ev), vs = [.ref tr, .int c, .ref kl] ∧ TrAt H tr evs ∧ (∀ e ∈ evs, e.ok) ∧ evs.length ≤ 10000 ∧ H kl = some (.lst (ks.map V.str)) ∧ 0 ≤ c ∧ c ≤ 80000 ∧
  ∀ r H', Same H H' → H r = none → Dh H' (.list ((playN c ks [] evs evs.length).2.map pr2)) (.ref r) → Q (.ref r) H'
structure PPl (C : Addr) (w : World) (H0 H : Hp) (c : Int) (S : PS) (os : List DE) (t p d L : Addr) (xs ys : List MEnt) (us : List V) : Prop where
  s : Same H0 H
  tb : TabM w H t xs S.T
  ca : CacheAt C w H p d c ys
  eK : ys.map MEnt.dat = S.es
  td : t ≠ d
  nd : H0 d = none
  nt : H0 t = none
  np : H0 p = none
  nL : H0 L = none
  g : H L = some (.lst us)
  o : DhAll H (os.map pr2) us
  oo : ∀ x ∈ os, Opt x.1 ∧ Opt x.2
section
variable {C : Addr} {w : World} {H0 H H' : Hp} {c : Int} {S : PS} {os : List DE} {t p d L : Addr} {xs ys : List MEnt} {us : List V}
theorem PPl.same (h : PPl C w H0 H c S os t p d L xs ys us) (s : Same H H') : PPl C w H0 H' c S os t p d L xs ys us :=
  ⟨h.s.trans s, h.tb.same s, h.ca.same s, h.eK, h.td, h.nd, h.nt, h.np, h.nL, s _ _ h.g, DhAll.mono s _ _ h.o, h.oo⟩
/-- only the cache's dictionary is written -/
theorem PPl.kput {ys' : List MEnt} {es : List DE} (h : PPl C w H0 H c S os t p d L xs ys us) (k : CacheAt C w H' p d c ys') (e : ys'.map MEnt.dat = es) (b : But H H' d) : PPl C w H0 H' c ⟨S.T, es⟩ os t p d L xs ys' us :=
  ⟨fun a o z => b _ _ (fun y => by rw [y, h.nd] at z; cases z) (h.s _ _ z), h.tb.off b h.td h.ca.m.noT, k, e, h.td, h.nd, h.nt, h.np, h.nL, b _ _ (h.ca.m.neL h.g) h.g, DhAll.tups (But.tups b h.ca.m.noT) _ _ (pr2s_noLO h.oo) h.o, h.oo⟩
/-- both dictionaries are written -/
theorem PPl.both {xs' ys' : List MEnt} {T : Tb} {es : List DE} (h : PPl C w H0 H c S os t p d L xs ys us) (tb : TabM w H' t xs' T) (k : CacheAt C w H' p d c ys') (e : ys'.map MEnt.dat = es) (b : ∀ b o, b ≠ t → b ≠ d → H b = some o → H' b = some o) : PPl C w H0 H' c ⟨T, es⟩ os t p d L xs' ys' us := by
  have tu : Tups H H' := fun a vs g => b a _ (fun z => h.tb.m.noT vs (by rw [← z]; exact g)) (fun z => h.ca.m.noT vs (by rw [← z]; exact g)) g
  exact ⟨fun a o z => b _ _ (fun y => by rw [y, h.nt] at z; cases z) (fun y => by rw [y, h.nd] at z; cases z) (h.s _ _ z), tb, k, e, h.td, h.nd, h.nt, h.np, h.nL, b _ _ (h.tb.m.neL h.g) (h.ca.m.neL h.g) h.g, DhAll.tups tu _ _ (pr2s_noLO h.oo) h.o, h.oo⟩
/-- the cache is emptied -/
theorem PPl.clear {d' : Addr} (h : PPl C w H0 H c S os t p d L xs ys us) (n : H d' = none) (k : CacheAt C w H' p d' c []) (b : But H H' p) : PPl C w H0 H' c ⟨S.T, []⟩ os t p d' L xs [] us := by
  have np : ∀ vs, H p ≠ some (.tup vs) := fun vs z => by
    obtain ⟨dx, g⟩ := h.ca.g
    rw [g] at z
    cases z
  obtain ⟨ep, gt⟩ := h.tb.m.g
  exact ⟨fun a o z => b _ _ (fun y => by rw [y, h.np] at z; cases z) (h.s _ _ z), h.tb.off b (h.ca.neM h.tb.m) np, k, rfl, ne_of_none gt n, h.s.free n, h.nt, h.np, h.nL, b _ _ (h.ca.neL h.g) h.g, DhAll.tups (But.tups b np) _ _ (pr2s_noLO h.oo) h.o, h.oo⟩
theorem PPl.told {x : DE} {r : Addr} {a b : V} (h : PPl C w H0 H c S os t p d L xs ys us) (gr : H r = some (.tup [a, b])) (da : Dh H x.1 a) (db : Dh H x.2 b) (o1 : Opt x.1) (o2 : Opt x.2) : PPl C w H0 (upd H L (.lst (us ++ [.ref r]))) c S (os ++ [x]) t p d L xs ys (us ++ [.ref r]) := by
  have bt : But H (upd H L (.lst (us ++ [.ref r]))) L := But.put
  have no : ∀ vs, H L ≠ some (.tup vs) := fun vs z => by rw [h.g] at z; cases z
  have oo : ∀ y ∈ os ++ [x], Opt y.1 ∧ Opt y.2 := fun y hy => by
    rcases List.mem_append.mp hy with z | z
    · exact h.oo y z
    · obtain rfl : y = x := by simpa using z
      exact ⟨o1, o2⟩
  obtain ⟨dx, gp⟩ := h.ca.g
  refine ⟨fun a o z => bt _ _ (fun y => by rw [y, h.nL] at z; cases z) (h.s _ _ z), h.tb.off bt (h.tb.m.neL h.g).symm no, ⟨⟨dx, bt _ _ (h.ca.neL h.g).symm gp⟩, h.ca.m.tups (But.tups bt no) fun o ho => bt _ _ (h.ca.m.neL h.g).symm ho, h.ca.l⟩, h.eK, h.td, h.nd, h.nt, h.np, h.nL, upd_same, DhAll.tups (But.tups bt no) _ _ (pr2s_noLO oo) ?_, oo⟩
  rw [List.map_append]
  exact DhAll.snoc h.o ⟨r, _, rfl, gr, _, _, rfl, da, _, _, rfl, db, rfl⟩
end
theorem setv_mk {C : Addr} {w : World} {t p en kl d : Addr} {k v : V} {ks : List Str} {c : Int} {kd vd : PyData} {T : Tb} {xs ys : List MEnt} {H : Hp} {Q : VK} {E : XK} (tb : TabM w H t xs T) (ca : CacheAt C w H p d c ys) (td : t ≠ d) (ge : H en = some (.tup [k, v])) (tk : Thing kd) (dk : Dh H kd k) (ov : Opt vd) (dv : Dh H vd v) (gk : H kl = some (.lst (ks.map V.str))) (lx : xs.length ≤ 90000)
    (q : ∀ xs' ys' H', TabM w H' t xs' (pset T kd vd) → xs'.length ≤ xs.length + 1 → CacheAt C w H' p d c ys' → ys'.map MEnt.dat = (if memb (chg (T kd) vd) ks = true then edel (ys.map MEnt.dat) kd else ys.map MEnt.dat) → (∀ b o, b ≠ t → b ≠ d → H b = some o → H' b = some o) → Q .non H') : spSetV C w [.ref t, .ref p, .ref en, .ref kl] H Q E :=
  ⟨t, p, en, kl, d, k, v, ks, c, kd, vd, T, xs, ys, rfl, tb, ca, td, ge, tk, dk, ov, dv, gk, lx, q⟩
section
variable {P : Program} {w : World} {K : PySem.W.Frag} {mg : Str → Option Value} {base : Heap} {C : Addr}
theorem ok_play {f : Addr} {fd : FuncData} (Df : Def K mg "play_trace" s_play_trace f fd) (b : Binds K fd ["trace", "capacity", "kinds"] []) (T : CTxt K mg C) (c_Cache : C8.Mak P w K mg base 1 "Cache" C (spInit C w) []) (m_clear_all : C8.Met P w K mg base 1 C "clear_all" (spClear C w) [])
    (c__set_value : Cal P w K mg base 2 "_set_value" (spSetV C w) []) (c_touch : Cal P w K mg base 3 "touch" (spTouch C w) []) : Cal P w K mg base 4 "play_trace" (spPlay C w) [] := by
  refine cal0 Df b .nil sc_play_trace (fun vs H Q E h => ?_) (fun cdv A outer s H vs Q E hr h => ?_)
  · obtain ⟨tr, kl, ks, c, evs, rfl, _⟩ := h
    rfl
  obtain ⟨tr, kl, ks, c, evs, rfl, hT, ok, hl, gkl, c0, c8, q⟩ := h
  have c__set_value := calI c__set_value
  have c_touch := calI c_touch
  refine ⟨_, (pss_cons (ps_set (i := 3) sc_play_trace.nd rfl (.inl rfl) (pe_dnewM rfl))
      (pss_cons (ps_set (i := 4) sc_play_trace.nd rfl (.inl rfl) (C8.pe_mk c_Cache hr (by omega) (by rfl) (pa_cons (pv 1) pa_nil)))
      (pss_cons (ps_set (i := 5) sc_play_trace.nd rfl (.inl rfl) (pe_lst pa_nil))
      (pss_cons (ps_mk (ps_for PassesOwn.never rfl (pi_list (pv 0)) (pg_name (i := 6) sc_play_trace.nd rfl (.inl rfl))
      (pss_one (ps_mk (ps_if (pt_cmpR op_eq (pe_ix (ixT K rfl) (pv 6) pe_int (fun _ _ => rfl)) pe_str (nomark _))
      (pss_one (ps_expr (C8.pe_c c__set_value hr (by omega) (by rfl) (pa_cons (pv 3) (pa_cons (pv 4) (pa_cons (pe_slice sl_tup (pv 6) (po_some pe_int) po_none) (pa_cons (pv 2) pa_nil)))))))
      (pss_one (ps_mk (ps_if (pt_cmpR op_eq (pe_ix (ixT K rfl) (pv 6) pe_int (fun _ _ => rfl)) pe_str (nomark _))
      (pss_one (ps_expr (pe_bm PySem.F.plainAttrs_list PySem.F.slot_list_append PySem.F.type_list_append mt_append (pv 5) (pa_cons (C8.pe_c c_touch hr (by omega) (by rfl) (pa_cons (pv 3) (pa_cons (pv 4) (pa_cons (pe_ix (ixT K rfl) (pv 6) pe_int (fun _ _ => rfl)) pa_nil)))) pa_nil))))
      (pss_one (ps_expr (C8.pe_mt0 m_clear_all hr (by omega) (pv 4) )))))))))))
      (pss_one (ps_ret (pv 5))))))), ?_⟩
  walk_at "go"
  intro t H1 m1 nt s1 _
  walk_at "go"
  intro p dx np ndx npx
  have sI := (same_upd (o := HO.own p) ndx).trans (same_upd (o := HO.ins C dx []) (by rw [upd_ne npx.symm]; exact np))
  refine ⟨p, dx, c, rfl, upd_same, fun d H2 nd hc b2 => ⟨rfl, ?_⟩⟩
  have s2 : Same H1 H2 := same_one sI np b2
  have nd1 : H1 d = none := sI.free nd
  walk_at "go"
  refine ⟨sz, fun L nL => ?_⟩
  have s3 := same_upd (o := HO.lst []) nL
  have gL := upd_same (H := H2) (a := L) (o := HO.lst [])
  obtain ⟨ep, gt1⟩ := m1.g
  have st0 : PPl C w H (upd H2 L (.lst [])) c ⟨fun _ => .none, []⟩ [] t p d L [] [] [] :=
    ⟨s1.trans (s2.trans s3), ⟨(m1.same s2).same s3, fun _ => rfl⟩, hc.same s3, rfl, ne_of_none gt1 nd1, s1.free nd1, nt, s1.free np, s1.free (s2.free nL), gL, rfl, fun _ h => by cases h⟩
  show _
  generalize upd H2 L (HO.lst []) = H3 at *
  clear m1 s1 np ndx npx sI nd hc b2 s2 nd1 nL s3 gL gt1 nt
  obtain ⟨us, gt, dt⟩ := hT
  have lus := dt.len
  rw [List.length_map] at lus
  have gt3 := st0.s _ _ gt
  refine jnS (M := fun σ H' => ∃ S d xs ys vs y6, PPl C w H H' c S (playN c ks [] evs evs.length).2 t p d L xs ys vs ∧ σ = [sR tr, sI c, sR kl, sR t, sR p, sR L, y6]) ?_ (fun N kk => ?_)
  · rintro σ H4 ⟨S, d, xs, ys, vs, y6, st, rfl⟩
    walk_at "go"
    exact q L H4 st.s st.nL ⟨L, vs, rfl, st.g, st.o⟩
  walk_at "go"
  refine ⟨⟨_, SqL.of gt3⟩, for_list (K := K) (a := tr) (xs := us) (fun j σ H' => Ob (∃ d xs ys vs y6, PPl C w H H' c (playN c ks [] evs j).1 (playN c ks [] evs j).2 t p d L xs ys vs ∧ xs.length ≤ j ∧ σ = [sR tr, sI c, sR kl, sR t, sR p, sR L, y6])) (ob ⟨d, [], [], [], none, st0, Nat.le_refl _, rfl⟩) (fun j σ H' _ h => by
    obtain ⟨d, xs, ys, vs, y6, st, _⟩ := unob h
    exact SqL.of (st.s _ _ gt)) ?_ ?_⟩
  rotate_left
  · intro σ H4 h
    obtain ⟨d, xs, ys, vs, y6, st, _, rfl⟩ := unob h
    rw [lus] at st
    exact kk _ _ ⟨_, d, xs, ys, vs, y6, st, rfl⟩
  intro j v σ H4 hv h
  obtain ⟨d, xs, ys, vs, y6, st, lx, rfl⟩ := unob h
  clear h st0 gt3 kk
  have hj : j < evs.length := by
    rw [← lus]
    exact (List.getElem?_eq_some_iff.mp hv).1
  obtain ⟨ev, hev⟩ : ∃ ev, evs[j]? = some ev := ⟨_, List.getElem?_eq_getElem hj⟩
  obtain ⟨e1, et, dt2⟩ := ev_at dt hev
  rw [hv] at et
  cases et
  have oke := ok ev (List.mem_of_getElem? hev)
  have si := SI.run (ks := ks) (ms := []) c0 ok j
  have ol := outs_len (c := c) (ks := ks) (ms := []) (evs := evs) j
  rw [playN_step hev, emp_nil]
  generalize playN c ks [] evs j = st1 at *
  obtain ⟨S, os⟩ := st1
  dsimp only at st si ol
  have gkl4 := st.s _ _ gkl
  have dt2 := Dh.mono st.s _ _ dt2
  cases ev with
  | flush =>
    obtain ⟨_, us2, et2, gw, _, _, rfl, rfl, rfl⟩ := dt2
    cases et2
    obtain ⟨dx, gp⟩ := st.ca.g
    walk_at "go"
    refine un ?_
    walk_at "go"
    refine un ?_
    walk_at "go"
    refine ⟨p, dx, _, rfl, gp, flds_no _ _ (by decide +kernel) (by decide +kernel), ?_⟩
    walk_at "go"
    refine ⟨p, d, c, ys, rfl, st.ca, fun d' H5 nd h5 b5 => ?_⟩
    walk_at "go"
    refine ob ⟨d', xs, [], vs, _, ?_, by omega, rfl⟩
    show PPl C w H H5 c ⟨S.T, []⟩ (os ++ []) t p d' L xs [] vs
    rw [List.append_nil]
    exact st.clear nd h5 b5
  | set kd vd =>
    obtain ⟨_, us2, et2, gw, _, _, rfl, rfl, k, _, rfl, dk, v, _, rfl, dv, rfl⟩ := dt2
    cases et2
    obtain ⟨tk, ov⟩ := oke
    walk_at "go"
    refine un ?_
    walk_at "go"
    refine ⟨fun z => absurd z.1 (show ¬ HT.sIx 3 0 (some 1) = 0 by decide), fun en nen => ?_⟩
    have ecut : cutV [V.str "set", k, v] (some 1) none = [k, v] := rfl
    rw [ecut]
    have s5 := same_upd (o := HO.tup [k, v]) nen
    have g5 := upd_same (H := H4) (a := en) (o := HO.tup [k, v])
    have st5 := st.same s5
    have dk5 := Dh.mono s5 _ _ dk
    have dv5 := Dh.mono s5 _ _ dv
    have gkl5 := s5 _ _ gkl4
    show _
    generalize upd H4 en (HO.tup [k, v]) = H5 at *
    walk_at "go"
    refine SpI.mk (setv_mk st5.tb st5.ca st5.td g5 tk dk5 ov dv5 gkl5 (by omega) fun xs' ys' H6 tb6 lx6 ca6 e6 b6 => ?_)
    walk_at "go"
    refine ob ⟨d, xs', ys', vs, _, ?_, by omega, rfl⟩
    show PPl C w H H6 c ⟨pset S.T kd vd, if memb (chg (S.T kd) vd) ks = true then edel S.es kd else S.es⟩ (os ++ []) t p d L xs' ys' vs
    rw [List.append_nil]
    refine st5.both tb6 ca6 ?_ b6
    rw [e6, st5.eK]
  | touch kd =>
    obtain ⟨_, us2, et2, gw, _, _, rfl, rfl, k, _, rfl, dk, rfl⟩ := dt2
    cases et2
    have tk : Thing kd := oke
    walk_at "go"
    refine un ?_
    walk_at "go"
    refine un ?_
    walk_at "go"
    refine ⟨.inl ⟨rfl, vs, SqL.of st.g⟩, ?_⟩
    walk_at "go"
    refine SpI.mk (touch_mk st.tb st.ca st.td tk dk (by rw [st.eK]; exact si.e) c0 c8 fun r x y ys' H5 nr gr dx dy ca5 e5 b5 => ?_)
    have st5 := st.kput ca5 e5 b5
    rw [st.eK] at dx st5
    walk_at "go"
    have lvs := st5.o.len
    rw [List.length_map] at lvs
    refine ⟨L, vs, _, rfl, rfl, st5.g, sz5 (by omega), ?_⟩
    walk_at "go"
    exact ob ⟨d, xs, ys', _, _, st5.told (x := (eseen S.T S.es kd, S.T kd)) gr dx dy (seen_opt si.e (si.o kd)) (si.o kd), by omega, rfl⟩
end

end

/-! ### the plan -/
structure QS where
  T : Tb
  es : List DE
  L : Tb
  ps : List DE
/-- a touch would not see the actual value -/
def stale (T : Tb) (es : List DE) (k : PyData) : Prop := ∃ v, eget es k = some v ∧ v ≠ T k
open Classical in
noncomputable def qtouch (c : Int) (j : Nat) (S : QS) (k : PyData) : QS :=
  if stale S.T S.es k then ⟨S.T, etouch c S.T [] k, pset S.L k (.int j), S.ps ++ [(S.L k, .int j)]⟩ else ⟨S.T, etouch c S.T S.es k, pset S.L k (.int j), S.ps⟩
theorem qtouch_st {c : Int} {j : Nat} {S : QS} {k : PyData} (h : stale S.T S.es k) : qtouch c j S k = ⟨S.T, etouch c S.T [] k, pset S.L k (.int j), S.ps ++ [(S.L k, .int j)]⟩ := by
  unfold qtouch
  rw [if_pos h]
theorem qtouch_no {c : Int} {j : Nat} {S : QS} {k : PyData} (h : ¬ stale S.T S.es k) : qtouch c j S k = ⟨S.T, etouch c S.T S.es k, pset S.L k (.int j), S.ps⟩ := by
  unfold qtouch
  rw [if_neg h]
noncomputable def q1 (c : Int) (j : Nat) (S : QS) : Ev → QS
  | .set k v => ⟨pset S.T k v, S.es, S.L, S.ps⟩
  | .touch k => qtouch c j S k
  | .flush => S
noncomputable def qN (c : Int) (evs : List Ev) : Nat → QS
  | 0 => ⟨fun _ => .none, [], fun _ => .none, []⟩
  | j + 1 => match evs[j]? with
    | none => qN c evs j
    | some e => q1 c j (qN c evs j) e
theorem qN_step {c : Int} {evs : List Ev} {j : Nat} {e : Ev} (h : evs[j]? = some e) : qN c evs (j + 1) = q1 c j (qN c evs j) e := by
  show (match evs[j]? with
    | none => qN c evs j
    | some e => q1 c j (qN c evs j) e) = _
  rw [h]
theorem qN_stop {c : Int} {evs : List Ev} {j : Nat} (h : evs[j]? = none) : qN c evs (j + 1) = qN c evs j := by
  show (match evs[j]? with
    | none => qN c evs j
    | some e => q1 c j (qN c evs j) e) = _
  rw [h]
/-- a moment is a position, or none -/
def Mo (j : Nat) (d : PyData) : Prop := d = .none ∨ ∃ i : Nat, i < j ∧ d = .int i
theorem Mo.up {j : Nat} {d : PyData} (h : Mo j d) : Mo (j + 1) d := h.imp id fun ⟨i, hi, e⟩ => ⟨i, by omega, e⟩
theorem Mo.opt {j : Nat} {d : PyData} (h : Mo j d) : Opt d := by
  rcases h with rfl | ⟨i, _, rfl⟩
  · exact .inl rfl
  · exact .inr trivial
structure QI (c : Int) (j : Nat) (S : QS) : Prop where
  o : ∀ k, Opt (S.T k)
  e : EI c S.es
  l : ∀ k, Mo j (S.L k)
  k : ∀ x ∈ S.es, S.L x.1 ≠ .none
  p : ∀ x ∈ S.ps, (∃ a b : Nat, x = (.int a, .int b) ∧ a < b ∧ b < j)
  n : S.ps.length ≤ j
theorem eget_in {es : List DE} {k v : PyData} (h : eget es k = some v) : ∃ x ∈ es, x.1 = k := ⟨_, eget_mem h, rfl⟩
theorem efill_sub {c : Int} {es : List DE} {k v : PyData} : ∀ x ∈ efill c es k v, x ∈ es ∨ x = (k, v) := fun x hx => by
  unfold efill at hx
  by_cases z : c = 0
  · rw [if_pos z] at hx
    exact .inl hx
  rw [if_neg z] at hx
  have h2 : x ∈ edel es k ++ [(k, v)] → x ∈ es ∨ x = (k, v) := fun h => by
    rcases List.mem_append.mp h with y | y
    · exact .inl (edel_mem y).1
    · exact .inr (by simpa using y)
  by_cases y : (((edel es k).length + 1 : Nat) : Int) ≤ c
  · rw [if_pos y] at hx
    exact h2 hx
  · rw [if_neg y] at hx
    exact h2 (List.mem_of_mem_tail hx)
theorem etouch_sub {c : Int} {T : Tb} {es : List DE} {k : PyData} : ∀ x ∈ etouch c T es k, x ∈ es ∨ x.1 = k := fun x hx => by
  cases e : eget es k with
  | some v =>
    rw [etouch_some e] at hx
    rcases List.mem_append.mp hx with y | y
    · exact .inl (edel_mem y).1
    · obtain rfl : x = (k, v) := by simpa using y
      exact .inr rfl
  | none =>
    by_cases z : T k = .none
    · rw [etouch_none e z] at hx
      exact .inl hx
    · rw [etouch_fill e z] at hx
      rcases efill_sub x hx with y | rfl
      · exact .inl y
      · exact .inr rfl
theorem QI.step {c : Int} {j : Nat} {S : QS} {e : Ev} (h : QI c j S) (c0 : 0 ≤ c) (ok : e.ok) : QI c (j + 1) (q1 c j S e) := by
  have pu : ∀ x ∈ S.ps, (∃ a b : Nat, x = (.int a, .int b) ∧ a < b ∧ b < j + 1) := fun x hx => by
    obtain ⟨a, b, e, h1, h2⟩ := h.p x hx
    exact ⟨a, b, e, h1, by omega⟩
  cases e with
  | set k v => exact ⟨pset_opt h.o ok.2, h.e, fun x => (h.l x).up, h.k, pu, by have := h.n; show S.ps.length ≤ _; omega⟩
  | flush => exact ⟨h.o, h.e, fun x => (h.l x).up, h.k, pu, by have := h.n; show S.ps.length ≤ _; omega⟩
  | touch k =>
    have tk : Thing k := ok
    have hl : ∀ x, Mo (j + 1) (pset S.L k (.int j) x) := fun x => by
      by_cases z : x = k
      · rw [z, pset_same]
        exact .inr ⟨j, by omega, rfl⟩
      · rw [pset_ne z]
        exact (h.l x).up
    have hk : ∀ es, (∀ x ∈ es, S.L x.1 ≠ .none) → ∀ x ∈ etouch c S.T es k, pset S.L k (.int j) x.1 ≠ .none := fun es he x hx => by
      by_cases z : x.1 = k
      · rw [z, pset_same]
        intro y
        cases y
      · rw [pset_ne z]
        exact he x ((etouch_sub x hx).resolve_right z)
    show QI c (j + 1) (qtouch c j S k)
    by_cases st : stale S.T S.es k
    · rw [qtouch_st st]
      refine ⟨h.o, (EI.nil c0).touch tk (h.o k), hl, hk [] (fun _ h => by cases h), fun x hx => ?_, ?_⟩
      · rcases List.mem_append.mp hx with y | y
        · exact pu x y
        · obtain rfl : x = (S.L k, .int j) := by simpa using y
          obtain ⟨v, ev, _⟩ := st
          rcases h.l k with z | ⟨i, hi, z⟩
          · exact absurd z (h.k _ (eget_mem ev))
          · rw [z]
            exact ⟨i, j, rfl, hi, by omega⟩
      · have := h.n
        rw [List.length_append]
        show S.ps.length + 1 ≤ _
        omega
    · rw [qtouch_no st]
      exact ⟨h.o, h.e.touch tk (h.o k), hl, hk S.es h.k, pu, by have := h.n; show S.ps.length ≤ _; omega⟩
theorem QI.run {c : Int} {evs : List Ev} (c0 : 0 ≤ c) (ok : ∀ e ∈ evs, e.ok) : ∀ j, QI c j (qN c evs j)
  | 0 => ⟨fun _ => .inl rfl, EI.nil c0, fun _ => .inl rfl, (fun _ h => by cases h), (fun _ h => by cases h), Nat.le_refl _⟩
  | j + 1 => by
    have ih := QI.run c0 ok j
    cases e : evs[j]? with
    | none =>
      rw [qN_stop e]
      exact ⟨ih.o, ih.e, fun k => (ih.l k).up, ih.k, fun x hx => by obtain ⟨a, b, e, h1, h2⟩ := ih.p x hx; exact ⟨a, b, e, h1, by omega⟩, by have := ih.n; omega⟩
    | some x =>
      rw [qN_step e]
      exact ih.step c0 (ok x (List.mem_of_getElem? e))
/-- the positions of the plan -/
def posI : List DE → List Int
  | [] => []
  | x :: xs => (match x.2 with
    | .int i => i
    | _ => 0) :: posI xs
theorem posI_app (xs ys : List DE) : posI (xs ++ ys) = posI xs ++ posI ys := by
  induction xs with
  | nil => rfl
  | cons x xs ih =>
    show _ :: posI (xs ++ ys) = _ :: (posI xs ++ posI ys)
    rw [ih]
theorem posI_len (xs : List DE) : (posI xs).length = xs.length := by
  induction xs with
  | nil => rfl
  | cons x xs ih =>
    show (posI xs).length + 1 = xs.length + 1
    rw [ih]
theorem posI_dat : ∀ {xs : List DE}, (∀ x ∈ xs, ∃ a b : Nat, x = (.int a, .int b)) → (posI xs).map PyData.int = xs.map (·.2)
  | [], _ => rfl
  | x :: xs, h => by
    obtain ⟨a, b, rfl⟩ := h x List.mem_cons_self
    show PyData.int _ :: (posI xs).map PyData.int = _ :: _
    rw [posI_dat fun y hy => h y (List.mem_cons_of_mem _ hy)]
theorem posI_mem : ∀ {xs : List DE}, (∀ x ∈ xs, ∃ a b : Nat, x = (.int a, .int b)) → ∀ i : Int, i ∈ posI xs ↔ ∃ a, (a, PyData.int i) ∈ xs
  | [], _, i => ⟨(fun h => by cases h), (fun ⟨_, h⟩ => by cases h)⟩
  | x :: xs, h, i => by
    obtain ⟨a, b, rfl⟩ := h x List.mem_cons_self
    have ih := posI_mem (fun y hy => h y (List.mem_cons_of_mem _ hy)) i
    have e : posI ((PyData.int a, PyData.int b) :: xs) = (b : Int) :: posI xs := rfl
    rw [e, List.mem_cons, ih]
    constructor
    · rintro (z | ⟨y, hy⟩)
      · exact ⟨.int a, by rw [z]; exact List.mem_cons_self⟩
      · exact ⟨y, List.mem_cons_of_mem _ hy⟩
    · rintro ⟨y, hy⟩
      rcases List.mem_cons.mp hy with z | z
      · exact .inl (PyData.int.inj (congrArg Prod.snd z))
      · exact .inr ⟨y, z⟩
/-- positions that a longer run adds are not below -/
theorem qN_ps {c : Int} {evs : List Ev} (c0 : 0 ≤ c) (ok : ∀ e ∈ evs, e.ok) {i : Nat} : ∀ {n : Nat}, i ≤ n → ∃ ys, (qN c evs n).ps = (qN c evs i).ps ++ ys ∧ ∀ y ∈ ys, ∃ a b : Nat, y = (.int a, .int b) ∧ i ≤ b
  | 0, h => by
    obtain rfl : i = 0 := by omega
    exact ⟨[], by simp, fun _ h => by cases h⟩
  | n + 1, h => by
    by_cases z : i = n + 1
    · exact ⟨[], by rw [z]; simp, fun _ h => by cases h⟩
    obtain ⟨ys, e1, h1⟩ := qN_ps c0 ok (i := i) (n := n) (by omega)
    have inv := QI.run c0 ok n
    have inv2 := QI.run c0 ok (n + 1)
    cases e : evs[n]? with
    | none => exact ⟨ys, by rw [qN_stop e]; exact e1, h1⟩
    | some x =>
      rw [qN_step e] at inv2 ⊢
      cases x with
      | set k v => exact ⟨ys, e1, h1⟩
      | flush => exact ⟨ys, e1, h1⟩
      | touch k =>
        by_cases st : stale (qN c evs n).T (qN c evs n).es k
        · have e3 : (q1 c n (qN c evs n) (.touch k)).ps = (qN c evs n).ps ++ [((qN c evs n).L k, .int n)] := by
            show (qtouch c n (qN c evs n) k).ps = _
            rw [qtouch_st st]
          have m := inv2.p ((qN c evs n).L k, .int n) (by rw [e3]; exact List.mem_append_right _ List.mem_cons_self)
          obtain ⟨a, b, e4, _, _⟩ := m
          refine ⟨ys ++ [((qN c evs n).L k, .int n)], by rw [e3, e1, List.append_assoc], fun y hy => ?_⟩
          rcases List.mem_append.mp hy with y1 | y1
          · exact h1 y y1
          · obtain rfl : y = ((qN c evs n).L k, .int n) := by simpa using y1
            refine ⟨a, b, e4, ?_⟩
            have : (n : Int) = b := PyData.int.inj (congrArg Prod.snd e4)
            omega
        · have e3 : (q1 c n (qN c evs n) (.touch k)).ps = (qN c evs n).ps := by
            show (qtouch c n (qN c evs n) k).ps = _
            rw [qtouch_no st]
          exact ⟨ys, by rw [e3]; exact e1, h1⟩
/-- a position of the plan is one whose touch is stale -/
theorem pos_iff {c : Int} {evs : List Ev} (c0 : 0 ≤ c) (ok : ∀ e ∈ evs, e.ok) {j : Nat} {e : Ev} (h : evs[j]? = some e) {n : Nat} (hn : j < n) : (j : Int) ∈ posI (qN c evs n).ps ↔ ∃ k, e = .touch k ∧ stale (qN c evs j).T (qN c evs j).es k := by
  have sh : ∀ n, ∀ x ∈ (qN c evs n).ps, ∃ a b : Nat, x = (.int a, .int b) := fun n x hx => by
    obtain ⟨a, b, e, _⟩ := (QI.run c0 ok n).p x hx
    exact ⟨a, b, e⟩
  rw [posI_mem (sh n)]
  obtain ⟨ys, e1, h1⟩ := qN_ps c0 ok (i := j + 1) (n := n) (by omega)
  have no : ∀ a, (a, PyData.int j) ∉ (qN c evs j).ps := fun a z => by
    obtain ⟨x, y, e2, _, h2⟩ := (QI.run c0 ok j).p _ z
    have : (j : Int) = y := PyData.int.inj (congrArg Prod.snd e2)
    omega
  have no2 : ∀ a, (a, PyData.int j) ∉ ys := fun a z => by
    obtain ⟨x, y, e2, h2⟩ := h1 _ z
    have : (j : Int) = y := PyData.int.inj (congrArg Prod.snd e2)
    omega
  rw [e1, qN_step h]
  constructor
  · rintro ⟨a, ha⟩
    have ha := (List.mem_append.mp ha).resolve_right (no2 a)
    cases e with
    | set k v => exact absurd ha (no a)
    | flush => exact absurd ha (no a)
    | touch k =>
      refine ⟨k, rfl, ?_⟩
      by_cases st : stale (qN c evs j).T (qN c evs j).es k
      · exact st
      · have e3 : (q1 c j (qN c evs j) (.touch k)).ps = (qN c evs j).ps := by
          show (qtouch c j (qN c evs j) k).ps = _
          rw [qtouch_no st]
        rw [e3] at ha
        exact absurd ha (no a)
  · rintro ⟨k, rfl, st⟩
    refine ⟨(qN c evs j).L k, List.mem_append_left _ ?_⟩
    have e3 : (q1 c j (qN c evs j) (.touch k)).ps = (qN c evs j).ps ++ [((qN c evs j).L k, .int j)] := by
      show (qtouch c j (qN c evs j) k).ps = _
      rw [qtouch_st st]
    rw [e3]
    exact List.mem_append_right _ List.mem_cons_self
theorem memb_nil (s : Str) : memb s [] = false := rfl
/-- the trace played with the plan's emptyings goes as the plan -/
theorem play_plan {c : Int} {evs : List Ev} (c0 : 0 ≤ c) (ok : ∀ e ∈ evs, e.ok) (nf : ∀ e ∈ evs, e.isF = false) {n : Nat} : ∀ j, j ≤ n → (playN c [] (posI (qN c evs n).ps) evs j).1 = ⟨(qN c evs j).T, (qN c evs j).es⟩ ∧ ∀ x ∈ (playN c [] (posI (qN c evs n).ps) evs j).2, x.1 = x.2
  | 0, _ => ⟨rfl, fun _ h => by cases h⟩
  | j + 1, hj => by
    obtain ⟨i1, i2⟩ := play_plan (n := n) c0 ok nf j (by omega)
    cases e : evs[j]? with
    | none =>
      rw [qN_stop e]
      have : ∀ ms, playN c [] ms evs (j + 1) = playN c [] ms evs j := fun ms => by
        show (match evs[j]? with
          | none => playN c [] ms evs j
          | some e => (play1 c [] (emp ms j (playN c [] ms evs j).1) e, (playN c [] ms evs j).2 ++ out1 (emp ms j (playN c [] ms evs j).1) e)) = _
        rw [e]
      rw [this]
      exact ⟨i1, i2⟩
    | some x =>
      have pi := pos_iff (j := j) c0 ok e (n := n) (by omega)
      rw [playN_step e, qN_step e, i1]
      have hx := nf x (List.mem_of_getElem? e)
      cases x with
      | flush => cases hx
      | set k v =>
        have nm : ¬ (j : Int) ∈ posI (qN c evs n).ps := fun z => by
          obtain ⟨k, z, _⟩ := pi.mp z
          cases z
        have e2 : emp (posI (qN c evs n).ps) j ⟨(qN c evs j).T, (qN c evs j).es⟩ = ⟨(qN c evs j).T, (qN c evs j).es⟩ := by
          unfold emp
          rw [if_neg nm]
        rw [e2]
        refine ⟨?_, fun x hx => i2 x (by simpa [out1] using hx)⟩
        show PS.mk (pset (qN c evs j).T k v) (if memb (chg ((qN c evs j).T k) v) [] = true then edel (qN c evs j).es k else (qN c evs j).es) = _
        rw [memb_nil, if_neg Bool.false_ne_true]
        rfl
      | touch k =>
        by_cases st : stale (qN c evs j).T (qN c evs j).es k
        · have m : (j : Int) ∈ posI (qN c evs n).ps := pi.mpr ⟨k, rfl, st⟩
          have e2 : emp (posI (qN c evs n).ps) j ⟨(qN c evs j).T, (qN c evs j).es⟩ = ⟨(qN c evs j).T, []⟩ := by
            unfold emp
            rw [if_pos m]
          rw [e2]
          constructor
          · show PS.mk (qN c evs j).T (etouch c (qN c evs j).T [] k) = ⟨(qtouch c j (qN c evs j) k).T, (qtouch c j (qN c evs j) k).es⟩
            rw [qtouch_st st]
          · intro x hx
            rcases List.mem_append.mp hx with z | z
            · exact i2 x z
            · obtain rfl : x = (eseen (qN c evs j).T [] k, (qN c evs j).T k) := by simpa [out1] using z
              rfl
        · have nm : ¬ (j : Int) ∈ posI (qN c evs n).ps := fun z => by
            obtain ⟨k2, z, s2⟩ := pi.mp z
            cases z
            exact st s2
          have e2 : emp (posI (qN c evs n).ps) j ⟨(qN c evs j).T, (qN c evs j).es⟩ = ⟨(qN c evs j).T, (qN c evs j).es⟩ := by
            unfold emp
            rw [if_neg nm]
          rw [e2]
          constructor
          · show PS.mk (qN c evs j).T (etouch c (qN c evs j).T (qN c evs j).es k) = ⟨(qtouch c j (qN c evs j) k).T, (qtouch c j (qN c evs j) k).es⟩
            rw [qtouch_no st]
          · intro x hx
            rcases List.mem_append.mp hx with z | z
            · exact i2 x z
            · obtain rfl : x = (eseen (qN c evs j).T (qN c evs j).es k, (qN c evs j).T k) := by simpa [out1] using z
              show eseen _ _ _ = _
              unfold eseen
              cases eg : eget (qN c evs j).es k with
              | none => rfl
              | some v =>
                show v = _
                by_cases y : v = (qN c evs j).T k
                · exact y
                · exact absurd ⟨v, eg, y⟩ st
theorem elook_touch {c : Int} {T : Tb} {es : List DE} {k v : PyData} (h : eget es k = some v) : etouch c T (elook es k) k = etouch c T es k := by
  rw [elook_some h, etouch_some h]
  have e2 : eget (edel es k ++ [(k, v)]) k = some v := by
    have : eget (edel es k) k = none := by
      rw [eget_none]
      exact fun x hx => (edel_mem hx).2
    unfold eget at this ⊢
    rw [List.find?_append, Option.map_eq_none_iff.mp this]
    simp
  rw [etouch_some e2]
  have e3 : edel (edel es k ++ [(k, v)]) k = edel es k := by
    unfold edel
    rw [List.filter_append, List.filter_filter]
    simp
  rw [e3]

/-! ### a plan's pairs: what each of them shows -/
noncomputable def tabN (evs : List Ev) : Nat → Tb
  | 0 => fun _ => .none
  | j + 1 => match evs[j]? with
    | some (.set k v) => pset (tabN evs j) k v
    | _ => tabN evs j
theorem tabN_set {evs : List Ev} {j : Nat} {k v : PyData} (h : evs[j]? = some (.set k v)) : tabN evs (j + 1) = pset (tabN evs j) k v := by
  show (match evs[j]? with
    | some (.set k v) => pset (tabN evs j) k v
    | _ => tabN evs j) = _
  rw [h]
theorem tabN_no {evs : List Ev} {j : Nat} (h : ∀ k v, evs[j]? ≠ some (.set k v)) : tabN evs (j + 1) = tabN evs j := by
  show (match evs[j]? with
    | some (.set k v) => pset (tabN evs j) k v
    | _ => tabN evs j) = _
  split
  · exact absurd ‹_› (h _ _)
  · rfl
theorem tabN_opt {evs : List Ev} (ok : ∀ e ∈ evs, e.ok) : ∀ j k, Opt (tabN evs j k)
  | 0, _ => .inl rfl
  | j + 1, k => by
    cases e : evs[j]? with
    | none =>
      rw [tabN_no fun k v z => by rw [e] at z; cases z]
      exact tabN_opt ok j k
    | some x =>
      cases x with
      | set k2 v =>
        rw [tabN_set e]
        exact pset_opt (fun x => tabN_opt ok j x) (ok _ (List.mem_of_getElem? e)).2 k
      | touch k2 =>
        rw [tabN_no fun k v z => by rw [e] at z; cases z]
        exact tabN_opt ok j k
      | flush =>
        rw [tabN_no fun k v z => by rw [e] at z; cases z]
        exact tabN_opt ok j k
theorem qN_T {c : Int} {evs : List Ev} : ∀ j, (qN c evs j).T = tabN evs j
  | 0 => rfl
  | j + 1 => by
    have ih := qN_T (c := c) (evs := evs) j
    cases e : evs[j]? with
    | none =>
      rw [qN_stop e, tabN_no fun k v z => by rw [e] at z; cases z]
      exact ih
    | some x =>
      rw [qN_step e]
      cases x with
      | set k v =>
        rw [tabN_set e, ← ih]
        rfl
      | touch k =>
        rw [tabN_no (fun k v z => by rw [e] at z; cases z), ← ih]
        show (qtouch c j (qN c evs j) k).T = _
        unfold qtouch
        split <;> rfl
      | flush =>
        rw [tabN_no (fun k v z => by rw [e] at z; cases z), ← ih]
        rfl
/-- a key that is touched with a value between two moments -/
def Wth (evs : List Ev) (a j : Nat) (x : PyData) : Prop := ∃ t, a < t ∧ t < j ∧ evs[t]? = some (.touch x) ∧ tabN evs t x ≠ .none
theorem Wth.up {evs : List Ev} {a j : Nat} {x : PyData} (h : Wth evs a j x) : Wth evs a (j + 1) x := by
  obtain ⟨t, h1, h2, h3, h4⟩ := h
  exact ⟨t, h1, by omega, h3, h4⟩
/-- two touches that follow each other of one key, and that force an emptying between them -/
structure Frc (c : Int) (evs : List Ev) (k : PyData) (a b : Nat) : Prop where
  lt : a < b
  ea : evs[a]? = some (.touch k)
  eb : evs[b]? = some (.touch k)
  no : ∀ t, a < t → t < b → evs[t]? ≠ some (.touch k)
  n : tabN evs a k ≠ .none
  ne : tabN evs b k ≠ tabN evs a k
  few : ∀ ks : List PyData, ks.Nodup → (∀ x ∈ ks, x ≠ k ∧ Wth evs a b x) → (ks.length : Int) < c
/-- the last moment of a key -/
def lm (d : PyData) : Int := match d with
  | .int i => i
  | _ => -1
/-- what holds of the entries on the way of a plan -/
structure PJ (c : Int) (evs : List Ev) (j : Nat) : Prop where
  b : ∀ k (a : Nat), (qN c evs j).L k = .int a → evs[a]? = some (.touch k) ∧ a < j ∧ ∀ t, a < t → t < j → evs[t]? ≠ some (.touch k)
  a : ∀ x ∈ (qN c evs j).es, ∃ a : Nat, (qN c evs j).L x.1 = .int a ∧ tabN evs a x.1 = x.2
  s : (qN c evs j).es.Pairwise fun x y => lm ((qN c evs j).L x.1) < lm ((qN c evs j).L y.1)
  d : ∀ x ∈ (qN c evs j).es, ∀ (a : Nat), (qN c evs j).L x.1 = .int a → ∀ y, Wth evs a j y → y ∈ (qN c evs j).es.map (·.1)
  e : ∀ x ∈ (qN c evs j).es, ∀ p ∈ (qN c evs j).ps, ∃ b : Nat, p.2 = .int b ∧ (b : Int) ≤ lm ((qN c evs j).L x.1)
  f : ∀ p ∈ (qN c evs j).ps, ∃ (a b : Nat) (k : PyData), p = (.int a, .int b) ∧ Frc c evs k a b
  o : (qN c evs j).ps.Pairwise fun p q => ∃ a b : Nat, p.2 = .int b ∧ q.1 = .int a ∧ b ≤ a
theorem map_edel {es : List DE} {k y : PyData} (h : y ∈ es.map (·.1)) (n : y ≠ k) : y ∈ (edel es k).map (·.1) := by
  obtain ⟨x, hx, rfl⟩ := List.mem_map.mp h
  refine List.mem_map.mpr ⟨x, ?_, rfl⟩
  unfold edel
  exact List.mem_filter.mpr ⟨hx, by simpa using n⟩
theorem nodup_sub_len {α : Type} [DecidableEq α] : ∀ {ks l : List α}, ks.Nodup → ks ⊆ l → ks.length ≤ l.length
  | [], _, _, _ => Nat.zero_le _
  | k :: ks, l, nd, h => by
    have n := List.nodup_cons.mp nd
    have hk : k ∈ l := h List.mem_cons_self
    have sub : ks ⊆ l.erase k := fun x hx => (List.mem_erase_of_ne (show x ≠ k from fun z => n.1 (by rw [← z]; exact hx))).mpr (h (List.mem_cons_of_mem _ hx))
    have ih := nodup_sub_len n.2 sub
    rw [List.length_erase_of_mem hk] at ih
    have := List.length_pos_of_mem hk
    show ks.length + 1 ≤ _
    omega
section
variable {c : Int} {evs : List Ev}
/-- the entries after a touch: the key's at the end, the others as they were, or without the oldest one -/
theorem touch_form {T : Tb} {es : List DE} {k : PyData} (ei : EI c es) (ns : ¬ stale T es k) : (etouch c T es k = es ∧ (T k = .none ∨ c = 0) ∧ eget es k = none) ∨ (T k ≠ .none ∧ etouch c T es k = edel es k ++ [(k, T k)]) ∨ (T k ≠ .none ∧ ∃ x r, edel es k = x :: r ∧ es = x :: r ∧ etouch c T es k = r ++ [(k, T k)]) := by
  cases e : eget es k with
  | some v =>
    have ev : v = T k := by
      by_cases z : v = T k
      · exact z
      · exact absurd ⟨v, e, z⟩ ns
    subst ev
    have tv := (ei.t _ (eget_mem e)).2
    exact .inr (.inl ⟨fun z => by rw [z] at tv; exact tv, etouch_some e⟩)
  | none =>
    by_cases z : T k = .none
    · exact .inl ⟨etouch_none e z, .inl z, rfl⟩
    rw [etouch_fill e z]
    have ed := edel_none e
    unfold efill
    by_cases z0 : c = 0
    · rw [if_pos z0]
      exact .inl ⟨rfl, .inr z0, rfl⟩
    rw [if_neg z0]
    by_cases y : (((edel es k).length + 1 : Nat) : Int) ≤ c
    · rw [if_pos y]
      exact .inr (.inl ⟨z, rfl⟩)
    · rw [if_neg y]
      refine .inr (.inr ⟨z, ?_⟩)
      cases es with
      | nil =>
        have l := ei.l
        have e0 : (edel ([] : List DE) k).length = 0 := rfl
        rw [e0] at y
        have l0 : (0 : Int) ≤ c := by simpa using l
        omega
      | cons x r => exact ⟨x, r, ed, rfl, by rw [ed]; rfl⟩
theorem PJ.zero : PJ c evs 0 :=
  ⟨(fun k a h => by cases h), (fun _ h => by cases h), .nil, (fun _ h => by cases h), (fun _ h => by cases h), (fun _ h => by cases h), .nil⟩
theorem Wth.step {a j : Nat} {y : PyData} (h : Wth evs a (j + 1) y) : Wth evs a j y ∨ (evs[j]? = some (.touch y) ∧ tabN evs j y ≠ .none) := by
  obtain ⟨t, h1, h2, h3, h4⟩ := h
  by_cases z : t = j
  · subst z
    exact .inr ⟨h3, h4⟩
  · exact .inl ⟨t, h1, by omega, h3, h4⟩
theorem PJ.step (c0 : 0 ≤ c) (ok : ∀ e ∈ evs, e.ok) {j : Nat} (h : PJ c evs j) : PJ c evs (j + 1) := by
  have qi := QI.run c0 ok j
  have hT := qN_T (c := c) (evs := evs) j
  -- an event that is no touch, or none: nothing changes
  have still : ∀ S, qN c evs (j + 1) = S → S.es = (qN c evs j).es → S.L = (qN c evs j).L → S.ps = (qN c evs j).ps → (∀ k, evs[j]? ≠ some (.touch k)) → PJ c evs (j + 1) := fun S e e1 e2 e3 n => by
    have wt : ∀ {a y}, Wth evs a (j + 1) y → Wth evs a j y := fun w => w.step.resolve_right fun z => n _ z.1
    refine ⟨?_, ?_, ?_, ?_, ?_, ?_, ?_⟩ <;> rw [e] <;> simp only [e1, e2, e3]
    · intro k a hk
      obtain ⟨b1, b2, b3⟩ := h.b k a hk
      exact ⟨b1, by omega, fun t t1 t2 => by
        by_cases z : t = j
        · rw [z]
          exact n k
        · exact b3 t t1 (by omega)⟩
    · exact h.a
    · exact h.s
    · exact fun x hx a ha y w => h.d x hx a ha y (wt w)
    · exact h.e
    · exact h.f
    · exact h.o
  cases ev : evs[j]? with
  | none => exact still _ (qN_stop ev) rfl rfl rfl fun k z => by rw [ev] at z; cases z
  | some x =>
    cases x with
    | set k v => exact still _ (qN_step ev) rfl rfl rfl fun k z => by rw [ev] at z; cases z
    | flush => exact still _ (qN_step ev) rfl rfl rfl fun k z => by rw [ev] at z; cases z
    | touch k =>
      have tk : Thing k := ok _ (List.mem_of_getElem? ev)
      -- the last moments
      have hb : ∀ x (a : Nat), pset (qN c evs j).L k (.int j) x = .int a → evs[a]? = some (.touch x) ∧ a < j + 1 ∧ ∀ t, a < t → t < j + 1 → evs[t]? ≠ some (.touch x) := fun x a hx => by
        by_cases z : x = k
        · rw [z, pset_same] at hx
          have e : (j : Int) = a := PyData.int.inj hx
          have e2 : j = a := by omega
          subst e2
          exact ⟨by rw [z]; exact ev, by omega, fun t t1 t2 => by omega⟩
        · rw [pset_ne z] at hx
          obtain ⟨b1, b2, b3⟩ := h.b x a hx
          refine ⟨b1, by omega, fun t t1 t2 => ?_⟩
          by_cases y : t = j
          · rw [y, ev]
            exact fun w => z (Ev.touch.inj (Option.some.inj w)).symm
          · exact b3 t t1 (by omega)
      have lmk : lm (pset (qN c evs j).L k (.int j) k) = j := by rw [pset_same]; rfl
      have lml : ∀ x, lm ((qN c evs j).L x) < j := fun x => by
        rcases qi.l x with z | ⟨i, hi, z⟩ <;> rw [z]
        · show (-1 : Int) < j
          omega
        · show (i : Int) < j
          omega
      -- any entries made of old ones (in their order) and the touched key's at the end
      have mk : ∀ r S, qN c evs (j + 1) = S → S.L = pset (qN c evs j).L k (.int j) → S.ps = (qN c evs j).ps → S.es = r ++ [(k, tabN evs j k)] → List.Sublist r (qN c evs j).es → (∀ x ∈ r, x.1 ≠ k) → (∀ x ∈ r, ∀ y ∈ (qN c evs j).es.map (·.1), (∀ a : Nat, (qN c evs j).L x.1 = .int a → Wth evs a j y) → y ≠ k → y ∈ r.map (·.1)) → PJ c evs (j + 1) := fun r S e e1 e2 e3 sub nk up => by
        refine ⟨?_, ?_, ?_, ?_, ?_, ?_, ?_⟩ <;> rw [e] <;> simp only [e1, e2, e3]
        · exact hb
        · intro x hx
          rcases List.mem_append.mp hx with m | m
          · rw [pset_ne (nk x m)]
            exact h.a x (sub.subset m)
          · obtain rfl : x = (k, tabN evs j k) := by simpa using m
            exact ⟨j, pset_same _ _ _, rfl⟩
        · refine List.pairwise_append.mpr ⟨?_, List.pairwise_singleton _ _, fun x hx y hy => ?_⟩
          · refine (h.s.sublist sub).imp_of_mem fun {x y} hx hy hxy => ?_
            rw [pset_ne (nk x hx), pset_ne (nk y hy)]
            exact hxy
          · obtain rfl : y = (k, tabN evs j k) := by simpa using hy
            rw [pset_ne (nk x hx), lmk]
            exact lml _
        · intro x hx a ha y w
          rw [List.map_append]
          by_cases yk : y = k
          · exact List.mem_append_right _ (by rw [yk]; simp)
          refine List.mem_append_left _ ?_
          have w2 : Wth evs a j y := w.step.resolve_right fun z => yk (by
            have := z.1
            rw [ev] at this
            exact (Ev.touch.inj (Option.some.inj this)).symm)
          rcases List.mem_append.mp hx with m | m
          · rw [pset_ne (nk x m)] at ha
            refine up x m y (h.d x (sub.subset m) a ha y w2) (fun a2 h2 => ?_) yk
            have e5 : (a : Int) = a2 := PyData.int.inj (ha.symm.trans h2)
            have e6 : a = a2 := by omega
            rw [← e6]
            exact w2
          · obtain rfl : x = (k, tabN evs j k) := by simpa using m
            rw [pset_same] at ha
            have e5 : (j : Int) = a := PyData.int.inj ha
            obtain ⟨t, t1, t2, _⟩ := w2
            omega
        · intro x hx p hp
          rcases List.mem_append.mp hx with m | m
          · rw [pset_ne (nk x m)]
            exact h.e x (sub.subset m) p hp
          · obtain rfl : x = (k, tabN evs j k) := by simpa using m
            obtain ⟨a, b, e5, _, lb⟩ := qi.p p hp
            refine ⟨b, by rw [e5], ?_⟩
            show (b : Int) ≤ lm (pset (qN c evs j).L k (.int j) k)
            rw [lmk]
            omega
        · exact h.f
        · exact h.o
      have st1 := qN_step (c := c) ev
      by_cases ss : stale (qN c evs j).T (qN c evs j).es k
      · -- the pair
        have e1 : q1 c j (qN c evs j) (.touch k) = _ := qtouch_st ss
        rw [e1] at st1
        obtain ⟨v, gv, nv⟩ := ss
        have mv := eget_mem gv
        obtain ⟨a, La, Ta⟩ := h.a _ mv
        obtain ⟨b1, b2, b3⟩ := h.b k a La
        have Ta : tabN evs a k = v := Ta
        have tv := (qi.e.t _ mv).2
        have fr : Frc c evs k a j := by
          refine ⟨b2, b1, ev, b3, fun z => ?_, fun z => nv ?_, fun ks nd hks => ?_⟩
          · rw [Ta] at z
            rw [show ((k, v) : DE).2 = v from rfl, z] at tv
            exact tv
          · rw [hT, z, Ta]
          · have sub : ks ⊆ (edel (qN c evs j).es k).map (·.1) := fun y hy => map_edel (h.d _ mv a La y (hks y hy).2) (hks y hy).1
            have l1 := by classical exact nodup_sub_len nd sub
            rw [List.length_map] at l1
            have l2 := edel_lt gv
            have l3 := qi.e.l
            omega
        have cpos : c ≠ 0 := fun z => by
          have := fr.few [] .nil (fun _ h => by cases h)
          rw [z] at this
          exact absurd this (by simp)
        have eT : etouch c (qN c evs j).T [] k = [] ∨ etouch c (qN c evs j).T [] k = [(k, tabN evs j k)] := by
          by_cases z : (qN c evs j).T k = .none
          · exact .inl (etouch_none rfl z)
          · refine .inr ?_
            rw [etouch_fill rfl z]
            unfold efill
            rw [if_neg cpos, if_pos (by show ((0 + 1 : Nat) : Int) ≤ c; omega), hT]
            rfl
        have sm : ∀ x ∈ etouch c (qN c evs j).T [] k, x = (k, tabN evs j k) := fun x hx => by
          rcases eT with z | z <;> rw [z] at hx
          · cases hx
          · simpa using hx
        have po : ∀ p ∈ (qN c evs j).ps, ∃ b : Nat, p.2 = .int b ∧ b ≤ a := fun p hp => by
          obtain ⟨b, h1, h2⟩ := h.e _ mv p hp
          rw [show ((k, v) : DE).1 = k from rfl, La] at h2
          have : (b : Int) ≤ a := h2
          exact ⟨b, h1, by omega⟩
        refine ⟨?_, ?_, ?_, ?_, ?_, ?_, ?_⟩ <;> rw [st1] <;> dsimp only
        · exact hb
        · intro x hx
          rw [sm x hx]
          exact ⟨j, pset_same _ _ _, rfl⟩
        · rcases eT with z | z <;> rw [z]
          · exact .nil
          · exact List.pairwise_singleton _ _
        · intro x hx a2 ha2 y w
          rw [sm x hx] at ha2
          have ha3 : pset (qN c evs j).L k (.int j) k = .int a2 := ha2
          rw [pset_same] at ha3
          have e5 : (j : Int) = a2 := PyData.int.inj ha3
          obtain ⟨t, t1, t2, _⟩ := w
          omega
        · intro x hx p hp
          rw [sm x hx]
          have lk : lm (pset (qN c evs j).L k (.int j) (k, tabN evs j k).1) = j := lmk
          rcases List.mem_append.mp hp with m | m
          · obtain ⟨b, h1, h2⟩ := po p m
            exact ⟨b, h1, by rw [lk]; omega⟩
          · obtain rfl : p = ((qN c evs j).L k, .int j) := by simpa using m
            exact ⟨j, rfl, by rw [lk]; exact Int.le_refl _⟩
        · intro p hp
          rcases List.mem_append.mp hp with m | m
          · exact h.f p m
          · obtain rfl : p = ((qN c evs j).L k, .int j) := by simpa using m
            exact ⟨a, j, k, by rw [La], fr⟩
        · refine List.pairwise_append.mpr ⟨h.o, List.pairwise_singleton _ _, fun p hp q hq => ?_⟩
          obtain rfl : q = ((qN c evs j).L k, .int j) := by simpa using hq
          obtain ⟨b, h1, h2⟩ := po p hp
          exact ⟨a, b, h1, La, h2⟩
      · have e1 : q1 c j (qN c evs j) (.touch k) = _ := qtouch_no ss
        rw [e1] at st1
        rcases touch_form qi.e ss with ⟨f1, f2, f3⟩ | ⟨f2, f1⟩ | ⟨f2, x, r, f3, f4, f1⟩
        · -- nothing is filled
          rw [f1] at st1
          have nk : ∀ x ∈ (qN c evs j).es, x.1 ≠ k := fun x hx => eget_none.mp f3 x hx
          have wt : ∀ x ∈ (qN c evs j).es, ∀ {a y}, Wth evs a (j + 1) y → Wth evs a j y := fun x hx a y w => w.step.resolve_right fun z => by
            have e5 := z.1
            rw [ev] at e5
            have e6 : k = y := Ev.touch.inj (Option.some.inj e5)
            rcases f2 with f2 | f2
            · refine z.2 ?_
              rw [← e6, ← hT]
              exact f2
            · have l := qi.e.l
              have := List.length_pos_of_mem hx
              omega
          refine ⟨?_, ?_, ?_, ?_, ?_, ?_, ?_⟩ <;> rw [st1] <;> dsimp only
          · exact hb
          · intro x hx
            rw [pset_ne (nk x hx)]
            exact h.a x hx
          · refine h.s.imp_of_mem fun {x y} hx hy hxy => ?_
            rw [pset_ne (nk x hx), pset_ne (nk y hy)]
            exact hxy
          · intro x hx a ha y w
            rw [pset_ne (nk x hx)] at ha
            exact h.d x hx a ha y (wt x hx w)
          · intro x hx p hp
            rw [pset_ne (nk x hx)]
            exact h.e x hx p hp
          · exact h.f
          · exact h.o
        · rw [f1] at st1
          refine mk (edel (qN c evs j).es k) _ st1 rfl rfl (by show edel (qN c evs j).es k ++ [(k, (qN c evs j).T k)] = _; rw [hT]) List.filter_sublist (fun x hx => (edel_mem hx).2) fun x hx y hy _ yk => map_edel hy yk
        · rw [f1] at st1
          have nd := qi.e.nd
          rw [f4] at nd
          have nd2 := List.nodup_cons.mp (show (x.1 :: r.map (·.1)).Nodup from nd)
          have sub : List.Sublist r (qN c evs j).es := by
            rw [f4]
            exact List.sublist_cons_self _ _
          refine mk r _ st1 rfl rfl (by show r ++ [(k, (qN c evs j).T k)] = _; rw [hT]) sub (fun y hy => (edel_mem (k := k) (by rw [f3]; exact List.mem_cons_of_mem _ hy)).2) fun y hy z hz w zk => ?_
          rw [f4] at hz
          rcases List.mem_cons.mp (show z ∈ x.1 :: r.map (·.1) from hz) with zx | zr
          · -- the oldest one was not touched later than another one
            exfalso
            obtain ⟨ay, Ly, _⟩ := h.a y (sub.subset hy)
            obtain ⟨ax, Lx, _⟩ := h.a x (by rw [f4]; exact List.mem_cons_self)
            have s := h.s
            rw [f4] at s
            have lt := (List.pairwise_cons.mp s).1 y hy
            rw [Lx, Ly] at lt
            have lt2 : (ax : Int) < ay := lt
            obtain ⟨t, t1, t2, t3, _⟩ := w ay Ly
            obtain ⟨_, _, b3⟩ := h.b x.1 ax Lx
            refine b3 t (by omega) t2 ?_
            rw [← zx]
            exact t3
          · exact zr
theorem PJ.run (c0 : 0 ≤ c) (ok : ∀ e ∈ evs, e.ok) : ∀ j, PJ c evs j
  | 0 => .zero
  | j + 1 => (PJ.run c0 ok j).step c0 ok
end

/-! ### fewer emptyings are too few -/
/-- disjoint stretches with a moment in each -/
theorem pigeon : ∀ {ps : List (Int × Int)} {ms : List Int}, ps.Pairwise (fun p q => p.2 ≤ q.1) → (∀ p ∈ ps, p.1 < p.2 ∧ ∃ m ∈ ms, p.1 < m ∧ m ≤ p.2) → ps.length ≤ ms.length
  | [], _, _, _ => Nat.zero_le _
  | p :: ps, ms, o, h => by
    obtain ⟨o1, o2⟩ := List.pairwise_cons.mp o
    obtain ⟨_, m, hm, m1, m2⟩ := h p List.mem_cons_self
    have ih := pigeon (ps := ps) (ms := ms.filter fun x => decide (p.2 < x)) o2 fun q hq => by
      obtain ⟨q0, x, hx, x1, x2⟩ := h q (List.mem_cons_of_mem _ hq)
      have := o1 q hq
      exact ⟨q0, x, List.mem_filter.mpr ⟨hx, by simpa using (show p.2 < x by omega)⟩, x1, x2⟩
    have lt : (ms.filter fun x => decide (p.2 < x)).length < ms.length := by
      refine Nat.lt_of_le_of_ne (List.length_filter_le _ _) fun z => ?_
      have e := List.Sublist.eq_of_length (List.filter_sublist (p := fun x => decide (p.2 < x)) (l := ms)) z
      rw [← e] at hm
      have := (List.mem_filter.mp hm).2
      have : p.2 < m := by simpa using this
      omega
    show ps.length + 1 ≤ _
    omega
theorem play_T {c : Int} {ms : List Int} {evs : List Ev} : ∀ j, (playN c [] ms evs j).1.T = tabN evs j
  | 0 => rfl
  | j + 1 => by
    have ih := play_T (c := c) (ms := ms) (evs := evs) j
    cases e : evs[j]? with
    | none =>
      rw [tabN_no (fun k v z => by rw [e] at z; cases z), ← ih]
      show (match evs[j]? with
        | none => playN c [] ms evs j
        | some e => (play1 c [] (emp ms j (playN c [] ms evs j).1) e, (playN c [] ms evs j).2 ++ out1 (emp ms j (playN c [] ms evs j).1) e)).1.T = _
      rw [e]
    | some x =>
      rw [playN_step e]
      cases x with
      | set k v =>
        rw [tabN_set e, ← ih]
        show pset (emp ms j (playN c [] ms evs j).1).T k v = _
        rw [show (emp ms j (playN c [] ms evs j).1).T = (playN c [] ms evs j).1.T by unfold emp; split <;> rfl]
      | touch k =>
        rw [tabN_no (fun k v z => by rw [e] at z; cases z), ← ih]
        show (emp ms j (playN c [] ms evs j).1).T = _
        unfold emp
        split <;> rfl
      | flush =>
        rw [tabN_no (fun k v z => by rw [e] at z; cases z), ← ih]
        show (emp ms j (playN c [] ms evs j).1).T = _
        unfold emp
        split <;> rfl
/-- what a longer run told, a shorter one told too -/
theorem play_more {c : Int} {ms : List Int} {evs : List Ev} {i : Nat} : ∀ {n : Nat}, i ≤ n → ∃ ys, (playN c [] ms evs n).2 = (playN c [] ms evs i).2 ++ ys
  | 0, h => by
    obtain rfl : i = 0 := by omega
    exact ⟨[], by simp⟩
  | n + 1, h => by
    by_cases z : i = n + 1
    · exact ⟨[], by rw [z]; simp⟩
    obtain ⟨ys, e1⟩ := play_more (c := c) (ms := ms) (evs := evs) (i := i) (n := n) (by omega)
    cases e : evs[n]? with
    | none =>
      refine ⟨ys, ?_⟩
      rw [← e1]
      show (match evs[n]? with
        | none => playN c [] ms evs n
        | some e => (play1 c [] (emp ms n (playN c [] ms evs n).1) e, (playN c [] ms evs n).2 ++ out1 (emp ms n (playN c [] ms evs n).1) e)).2 = _
      rw [e]
    | some x =>
      rw [playN_step e]
      exact ⟨ys ++ out1 (emp ms n (playN c [] ms evs n).1) x, by rw [← List.append_assoc, ← e1]⟩
section
variable {c : Int} {ms : List Int} {evs : List Ev}
/-- every touch sees the actual value -/
def Sees (c : Int) (ms : List Int) (evs : List Ev) : Prop := ∀ x ∈ (playN c [] ms evs evs.length).2, x.1 = x.2
theorem Sees.at (h : Sees c ms evs) {j : Nat} {k : PyData} (e : evs[j]? = some (.touch k)) : eseen (tabN evs j) (emp ms j (playN c [] ms evs j).1).es k = tabN evs j k := by
  have hj : j + 1 ≤ evs.length := (List.getElem?_eq_some_iff.mp e).1
  obtain ⟨ys, e1⟩ := play_more (c := c) (ms := ms) (evs := evs) hj
  have hT : (emp ms j (playN c [] ms evs j).1).T = tabN evs j := by
    rw [← play_T (c := c) (ms := ms) j]
    unfold emp
    split <;> rfl
  have m : (eseen (tabN evs j) (emp ms j (playN c [] ms evs j).1).es k, tabN evs j k) ∈ (playN c [] ms evs evs.length).2 := by
    rw [e1, playN_step e]
    refine List.mem_append_left _ (List.mem_append_right _ ?_)
    show _ ∈ [(eseen (emp ms j (playN c [] ms evs j).1).T _ k, (emp ms j (playN c [] ms evs j).1).T k)]
    rw [hT]
    exact List.mem_cons_self
  exact h _ m
/-- the entry of the first touch stays -/
theorem stays (c0 : 0 ≤ c) (ok : ∀ e ∈ evs, e.ok) (nf : ∀ e ∈ evs, e.isF = false) (h : Sees c ms evs) {k : PyData} {a b : Nat} (f : Frc c evs k a b) (nm : ∀ m ∈ ms, ¬ ((a : Int) < m ∧ m ≤ (b : Int))) : ∀ j, a < j → j ≤ b → ∃ pre post, (playN c [] ms evs j).1.es = pre ++ (k, tabN evs a k) :: post ∧ ∀ x ∈ post, x.1 ≠ k ∧ Wth evs a j x.1
  | 0, h1, _ => by omega
  | j + 1, h1, h2 => by
    have cpos : 0 < c := by
      have := f.few [] .nil (fun _ h => by cases h)
      simpa using this
    have hT : (emp ms j (playN c [] ms evs j).1).T = tabN evs j := by
      rw [← play_T (c := c) (ms := ms) j]
      unfold emp
      split <;> rfl
    have si := (SI.run (c := c) (ks := []) (ms := ms) c0 ok j)
    have se := si.emp c0 ms j
    by_cases ja : j = a
    · -- the first touch itself
      subst ja
      have sn := h.at f.ea
      rw [playN_step f.ea]
      generalize emp ms j (playN c [] ms evs j).1 = S at *
      have ns : ¬ stale S.T S.es k := fun ⟨v, z, n⟩ => by
        unfold eseen at sn
        rw [z] at sn
        refine n ?_
        rw [hT]
        exact sn
      refine ⟨if S.es.length + 1 ≤ 0 then [] else (etouch c S.T S.es k).dropLast, [], ?_, (fun _ h => by cases h)⟩
      rw [if_neg (by omega)]
      show etouch c S.T S.es k = _
      rcases touch_form se.e ns with ⟨_, z | z, _⟩ | ⟨_, z⟩ | ⟨_, x, r, _, _, z⟩
      · rw [hT] at z
        exact absurd z f.n
      · omega
      · rw [z, hT, List.dropLast_concat]
      · rw [z, hT, List.dropLast_concat]
    · obtain ⟨pre, post, e1, w1⟩ := stays c0 ok nf h f nm j (by omega) (by omega)
      have e2 : emp ms j (playN c [] ms evs j).1 = (playN c [] ms evs j).1 := by
        unfold emp
        rw [if_neg fun z => nm _ z ⟨by omega, by omega⟩]
      have wu : ∀ x ∈ post, x.1 ≠ k ∧ Wth evs a (j + 1) x.1 := fun x hx => ⟨(w1 x hx).1, (w1 x hx).2.up⟩
      cases ev : evs[j]? with
      | none =>
        have hb := (List.getElem?_eq_some_iff.mp f.eb).1
        have := List.getElem?_eq_none_iff.mp ev
        omega
      | some x =>
        have nx := nf x (List.mem_of_getElem? ev)
        cases x with
        | flush => cases nx
        | set k2 v =>
          rw [playN_step ev, e2]
          refine ⟨pre, post, ?_, wu⟩
          show (if memb (chg ((playN c [] ms evs j).1.T k2) v) [] = true then edel (playN c [] ms evs j).1.es k2 else (playN c [] ms evs j).1.es) = _
          rw [memb_nil, if_neg Bool.false_ne_true]
          exact e1
        | touch y =>
          have yk : y ≠ k := fun z => by
            rw [z] at ev
            exact f.no j (by omega) (by omega) ev
          have sn := h.at ev
          rw [playN_step ev]
          rw [e2] at sn hT se ⊢
          have ei := se.e
          generalize (playN c [] ms evs j).1 = S at *
          have ns : ¬ stale S.T S.es y := fun ⟨v, z, n⟩ => by
            unfold eseen at sn
            rw [z] at sn
            refine n ?_
            rw [hT]
            exact sn
          show ∃ pre post, etouch c S.T S.es y = pre ++ (k, tabN evs a k) :: post ∧ _
          rcases touch_form ei ns with ⟨z, _, _⟩ | ⟨nz, z⟩ | ⟨nz, x, r, _, z3, z⟩
          · exact ⟨pre, post, by rw [z]; exact e1, wu⟩
          · have wy : Wth evs a (j + 1) y := ⟨j, by omega, by omega, ev, by rw [← hT]; exact nz⟩
            refine ⟨edel pre y, edel post y ++ [(y, S.T y)], ?_, fun x hx => ?_⟩
            · rw [z, e1]
              unfold edel
              rw [List.filter_append, List.filter_cons_of_pos (by simpa using yk.symm), List.append_assoc]
              rfl
            · rcases List.mem_append.mp hx with m | m
              · exact wu x (edel_mem m).1
              · obtain rfl : x = (y, S.T y) := by simpa using m
                exact ⟨yk, wy⟩
          · have wy : Wth evs a (j + 1) y := ⟨j, by omega, by omega, ev, by rw [← hT]; exact nz⟩
            have wn : ∀ x ∈ post ++ [(y, S.T y)], x.1 ≠ k ∧ Wth evs a (j + 1) x.1 := fun x hx => by
              rcases List.mem_append.mp hx with m | m
              · exact wu x m
              · obtain rfl : x = (y, S.T y) := by simpa using m
                exact ⟨yk, wy⟩
            cases pre with
            | cons p pre =>
              have e5 : x :: r = p :: (pre ++ (k, tabN evs a k) :: post) := z3.symm.trans e1
              obtain ⟨_, e6⟩ := List.cons.inj e5
              exact ⟨pre, post ++ [(y, S.T y)], by rw [z, e6]; simp, wn⟩
            | nil =>
              exfalso
              have e5 : x :: r = (k, tabN evs a k) :: post := z3.symm.trans e1
              obtain ⟨_, e6⟩ := List.cons.inj e5
              have nd := (ei.touch (T := S.T) (ok _ (List.mem_of_getElem? ev)) (se.o y)).nd
              rw [z, e6] at nd
              have fw := f.few ((post ++ [(y, S.T y)]).map (·.1)) nd fun w hw => by
                obtain ⟨v, hv, rfl⟩ := List.mem_map.mp hw
                obtain ⟨q1, t, q2, q3, q4, q5⟩ := wn v hv
                exact ⟨q1, t, q2, by omega, q4, q5⟩
              rw [List.length_map, List.length_append] at fw
              have fw : ((post.length + 1 : Nat) : Int) < c := fw
              -- the list was not full
              have le : ((edel S.es y).length + 1 : Nat) ≤ c := by
                have e7 : (edel S.es y).length ≤ S.es.length := edel_len S.es y
                rw [e1] at e7
                have e8 : (edel S.es y).length ≤ post.length + 1 := by simpa [e1] using e7
                omega
              have e9 : eget S.es y = none := by
                rw [eget_none]
                intro w hw zz
                rw [e1] at hw
                rcases List.mem_cons.mp (show w ∈ (k, tabN evs a k) :: post from hw) with m | m
                · rw [m] at zz
                  exact yk zz.symm
                · have q := nd
                  rw [List.map_append] at q
                  exact (List.nodup_append.mp q).2.2 w.1 (List.mem_map_of_mem m) y (by simp) zz
              have e10 := etouch_fill (c := c) e9 nz
              unfold efill at e10
              rw [if_neg (by omega), if_pos le, z] at e10
              have e11 := congrArg List.length e10
              rw [List.length_append, List.length_append, edel_none e9, z3] at e11
              simp at e11
/-- a list of moments that lets every touch see the actual value has one in each of the plan's stretches -/
theorem sees_in (c0 : 0 ≤ c) (ok : ∀ e ∈ evs, e.ok) (nf : ∀ e ∈ evs, e.isF = false) (h : Sees c ms evs) {k : PyData} {a b : Nat} (f : Frc c evs k a b) : ∃ m ∈ ms, (a : Int) < m ∧ m ≤ (b : Int) := by
  by_cases nm : ∃ m ∈ ms, (a : Int) < m ∧ m ≤ (b : Int)
  · exact nm
  exfalso
  have nm : ∀ m ∈ ms, ¬ ((a : Int) < m ∧ m ≤ (b : Int)) := fun m hm z => nm ⟨m, hm, z⟩
  obtain ⟨pre, post, e1, w1⟩ := stays c0 ok nf h f nm b f.lt (Nat.le_refl _)
  have e2 : emp ms b (playN c [] ms evs b).1 = (playN c [] ms evs b).1 := by
    unfold emp
    rw [if_neg fun z => nm _ z ⟨by have := f.lt; omega, by omega⟩]
  have sn := h.at f.eb
  rw [e2] at sn
  have nd := ((SI.run (c := c) (ks := []) (ms := ms) c0 ok b).e).nd
  rw [e1] at sn nd
  have g : eget (pre ++ (k, tabN evs a k) :: post) k = some (tabN evs a k) := by
    have np : ∀ x ∈ pre, x.1 ≠ k := fun x hx z => by
      rw [List.map_append] at nd
      exact (List.nodup_append.mp nd).2.2 x.1 (List.mem_map_of_mem hx) k (by simp) z
    unfold eget
    rw [List.find?_append, List.find?_eq_none.mpr fun x hx => by simpa using np x hx]
    simp
  unfold eseen at sn
  rw [g] at sn
  exact f.ne sn.symm
theorem sees_many (c0 : 0 ≤ c) (ok : ∀ e ∈ evs, e.ok) (nf : ∀ e ∈ evs, e.isF = false) (h : Sees c ms evs) (n : Nat) : (qN c evs n).ps.length ≤ ms.length := by
  have po := (PJ.run (c := c) c0 ok n).o
  have pf := (PJ.run (c := c) c0 ok n).f
  generalize (qN c evs n).ps = ps at *
  have h1 := pigeon (ps := ps.map fun p => (lm p.1, lm p.2)) (ms := ms) (by
    rw [List.pairwise_map]
    refine po.imp fun {p q} z => ?_
    obtain ⟨a, b, e1, e2, l⟩ := z
    show lm p.2 ≤ lm q.1
    rw [e1, e2]
    show (b : Int) ≤ a
    omega) (fun x hx => by
    obtain ⟨p, hp, rfl⟩ := List.mem_map.mp hx
    obtain ⟨a, b, k, rfl, f⟩ := pf p hp
    exact ⟨by have := f.lt; show (a : Int) < b; omega, sees_in c0 ok nf h f⟩)
  rw [List.length_map] at h1
  exact h1
end

section

-- a condition of an operator
local macro_rules | `(tactic| walk_at "cond") => `(tactic| first
  | (show (0 : Int) < _; omega)
  | (show CDiv _ _; constructor <;> (first | decide | omega))
  | (show CMul _ _; first | (refine cmul_l ?_; constructor <;> (first | decide | omega)) | (refine cmul_r ?_; constructor <;> (first | decide | omega)))
  | (show CPow _ _; exact (by refine ⟨by decide, by decide, by decide⟩))
  | (show CDivW _ _; exact ⟨by decide, by decide +kernel⟩))
local macro_rules | `(tactic| walk_at "sq") => `(tactic| first | assumption | exact Dh.mono (same_upd (by assumption)) _ _ (by assumption) | exact .inl (.inl (.inl (by assumption))) | exact .inr (.inl (.inl (by assumption))) | exact SqL.of (by assumption) | exact .inl (by assumption) | exact .inl (SqL.of (by assumption)) | exact SqT.of (by assumption) | exact .inr (SqT.of (by assumption)))
local macro_rules | `(tactic| walk_at "st") => `(tactic| first
  | refine ⟨_, rfl, ?_⟩
  | refine ⟨_, _, rfl, rfl, ?_⟩
  | refine .inl ⟨_, rfl, ?_⟩
  | refine ⟨rfl, ?_⟩
  | refine ⟨_, _, rfl, by walk_at "sq", ?_⟩
  | refine ⟨.inl ⟨rfl, _, SqL.of (by assumption)⟩, ?_⟩
  | refine ⟨by walk_at "cond", ?_⟩
  | (refine' ifBT ?hh ?_; (case hh => first | rfl | assumption))
  | (refine' ifBF ?hh ?_; (case hh => first | rfl | assumption)))
local macro_rules | `(tactic| walk_at "go") => `(tactic| repeat walk_at "st")
local macro_rules | `(tactic| walk_at "yes") => `(tactic| (refine' ifT ?hh ?_; (case hh => first | rfl | decide +kernel)))
local macro_rules | `(tactic| walk_at "no") => `(tactic| (refine' ifF ?hh ?_; (case hh => first | decide +kernel | (intro z; cases z; done))))

-- facts carried to the heap at hand, from the facts of the context
local macro_rules | `(tactic| walk_at "lnk") => `(tactic| first | assumption | exact same_upd (by assumption))
local macro_rules | `(tactic| walk_at "sm") => `(tactic| first | walk_at "lnk" | exact same_rfl | (refine Same.trans ?_ (by walk_at "lnk"); walk_at "sm"))
local macro_rules | `(tactic| walk_at "at") => `(tactic| first | assumption | exact upd_same | (refine Same.get (by walk_at "lnk") ?_; walk_at "at"))
local macro_rules | `(tactic| walk_at "ix") => `(tactic| first
  | exact atI_nat (j := 0) rfl | exact atI_nat (j := 1) rfl | exact atI_nat (j := 2) rfl | exact atI_nat (j := 3) rfl
  | exact atI_nat (j := 4) rfl | exact atI_nat (j := 5) rfl | exact atI_nat (j := 6) rfl | assumption)
local macro_rules | `(tactic| walk_at "sT") => `(tactic| first | exact SqT.of (by walk_at "at") | exact SqL.of (by walk_at "at"))
local macro_rules | `(tactic| walk_at "st") => `(tactic| refine ⟨_, _, _, _, rfl, rfl, by walk_at "sT", by walk_at "ix", ?_⟩)
local macro_rules | `(tactic| walk_at "side") => `(tactic| first | rfl | assumption | walk_at "at" | walk_at "sm" | omega | decide)
-- a call: the promise's letters from its arguments, then what is asked from the context
local macro_rules | `(tactic| walk_at "call") => `(tactic| ((repeat (apply Exists.intro)); refine And.intro rfl ?_; repeat (refine And.intro (by walk_at "side") ?_)))

local macro_rules | `(tactic| walk_at "st") => `(tactic| refine ⟨_, _, _, _, _, rfl, by assumption, by assumption, by omega, by omega, by omega, by omega, by omega, ?_⟩)
local macro_rules | `(tactic| walk_at "st") => `(tactic| refine ⟨_, _, _, _, _, rfl, Same.seq (by assumption) (by assumption), by assumption, by omega, by omega, by omega, by omega, by omega, ?_⟩)

/-! ### _is_stale -/
abbrev s_is_stale : Stmt := topS 9
theorem sc_is_stale : FnScope ["table", "cache", "key", "seen"] ["table", "cache", "key"] (C8.fnScope s_is_stale) := C8.fnScope_by (by decide +kernel)
def spStale (C : Addr) (w : World) : Sp := fun vs H Q _ => ∃ (t p d : Addr) (k : V) (c : Int) (kd : PyData) (T : Tb) (xs ys : List MEnt), vs = [.ref t, .ref p, k] ∧ TabM w H t xs T ∧ CacheAt C w H p d c ys ∧ t ≠ d ∧ Thing kd ∧ Dh H kd k ∧ EI c (ys.map MEnt.dat) ∧
  ∀ b ys' H', (b = true ↔ stale T (ys.map MEnt.dat) kd) → CacheAt C w H' p d c ys' → ys'.map MEnt.dat = elook (ys.map MEnt.dat) kd → But H H' d → Q (.bl b) H'
section
variable {P : Program} {w : World} {K : PySem.W.Frag} {mg : Str → Option Value} {base : Heap} {C : Addr}
theorem ok_stale {f : Addr} {fd : FuncData} (Df : Def K mg "_is_stale" s_is_stale f fd) (b : Binds K fd ["table", "cache", "key"] []) (T : CTxt K mg C) (m_look : C8.Met P w K mg base 1 C "look" (spLook C w) []) : Cal P w K mg base 2 "_is_stale" (spStale C w) [] := by
  refine cal0 Df b .nil sc_is_stale (fun vs H Q E h => ?_) (fun cdv A outer s H vs Q E hr h => ?_)
  · obtain ⟨t, p, d, k, c, kd, Tb, xs, ys, rfl, _⟩ := h
    rfl
  obtain ⟨t, p, d, k, c, kd, Tb, xs, ys, rfl, ht, hc, htd, tk, dk, ei, q⟩ := h
  have m_look := metI m_look
  refine ⟨_, (pss_cons (ps_set (i := 3) sc_is_stale.nd rfl (.inl rfl) (C8.pe_mt m_look hr (by omega) (pv 1) (pa_cons (pv 2) pa_nil)))
      (pss_one (ps_ret (pe_and (pe_cmpR op_notN (pv 3) pe_non (nomark _)) (pe_one (pe_cmpR (neQ K rfl hr.units) (pv 3) (pe_bx rfl PySem.F.plainAttrs_dict PySem.F.slot_dict_get PySem.F.type_dict_get (mtI (mt_getM rfl hr.units)) (pv 0) (pa_cons (pv 2) pa_nil)) (nomark _))))))), ?_⟩
  obtain ⟨dx, gp⟩ := hc.g
  have nT := hc.m.noT
  walk_at "go"
  refine ⟨p, dx, _, rfl, gp, flds_no _ _ (by decide +kernel) (by decide +kernel), ?_⟩
  walk_at "go"
  refine SpI.mk (look_mk hc tk dk fun v1 ys1 H1 dv1 c1 e1 b1 => ?_)
  have ot := ht.opt kd
  have t1 := ht.off b1 htd nT
  have dk1 := Dh.tups (But.tups b1 nT) _ _ (opt_noL (.inr tk)) dk
  generalize ees : ys.map MEnt.dat = es at *
  walk_at "go"
  cases eg : eget es kd with
  | none =>
    rw [eg] at dv1
    have e2 : v1 = .non := dv1
    subst e2
    refine ifBF (by rw [decide_eq_true rfl]; rfl) ?_
    walk_at "go"
    refine q false ys1 H1 ⟨(fun z => by cases z), (fun ⟨v, z, _⟩ => by rw [eg] at z; cases z)⟩ c1 e1 b1
  | some v =>
    have tv := (ei.t _ (eget_mem eg)).2
    rw [eg] at dv1
    have nn : v1 ≠ .non := fun z => by
      have this : v = .none := dv1.non_iff.mp z
      subst this
      exact tv
    refine ifBT (by rw [decide_eq_false nn]; rfl) ?_
    walk_at "go"
    refine ⟨⟨t, xs, rfl, t1.m⟩, ?_⟩
    walk_at "go"
    refine RmI.mk (getM_mk t1 tk dk1 fun v0 dv0 => ?_)
    walk_at "go"
    have ev := eqv_thing (.inr tv) ot
    refine ⟨v, Tb kd, dv1.dp, dv0.dp, shaped_opt (.inr tv), shaped_opt ot, ?_⟩
    walk_at "go"
    refine q _ ys1 H1 ?_ c1 e1 b1
    by_cases z : v = Tb kd
    · rw [ev.mpr z]
      exact ⟨(fun y => by cases y), (fun ⟨u, y, n⟩ => by rw [eg] at y; cases y; exact absurd z n)⟩
    · rw [Bool.eq_false_iff.mpr fun y => z (ev.mp y)]
      exact ⟨fun _ => ⟨v, eg, z⟩, fun _ => rfl⟩
end

end

/-! ### the state of flush_plan -/
structure FPl (C : Addr) (w : World) (H0 H : Hp) (c : Int) (S : QS) (t l p d L : Addr) (xs ls ys : List MEnt) (us : List V) : Prop where
  s : Same H0 H
  tb : TabM w H t xs S.T
  la : TabM w H l ls S.L
  ca : CacheAt C w H p d c ys
  eK : ys.map MEnt.dat = S.es
  td : t ≠ d
  ld : l ≠ d
  tl : t ≠ l
  nd : H0 d = none
  nt : H0 t = none
  nl : H0 l = none
  np : H0 p = none
  nL : H0 L = none
  g : H L = some (.lst us)
  o : DhAll H (S.ps.map pr2) us
  oo : ∀ x ∈ S.ps, Opt x.1 ∧ Opt x.2
theorem FPl.same {C : Addr} {w : World} {H0 H H' : Hp} {c : Int} {S : QS} {t l p d L : Addr} {xs ls ys : List MEnt} {us : List V} (h : FPl C w H0 H c S t l p d L xs ls ys us) (s : Same H H') : FPl C w H0 H' c S t l p d L xs ls ys us :=
  ⟨h.s.trans s, h.tb.same s, h.la.same s, h.ca.same s, h.eK, h.td, h.ld, h.tl, h.nd, h.nt, h.nl, h.np, h.nL, s _ _ h.g, DhAll.mono s _ _ h.o, h.oo⟩
section
variable {C : Addr} {w : World} {H0 H H' : Hp} {c : Int} {S : QS} {t l p d L : Addr} {xs ls ys : List MEnt} {us : List V}
theorem FPl.tput {xs' : List MEnt} {T : Tb} (h : FPl C w H0 H c S t l p d L xs ls ys us) (k : TabM w H' t xs' T) (b : But H H' t) : FPl C w H0 H' c ⟨T, S.es, S.L, S.ps⟩ t l p d L xs' ls ys us :=
  ⟨fun a o z => b _ _ (fun y => by rw [y, h.nt] at z; cases z) (h.s _ _ z), k, h.la.off b h.tl.symm h.tb.m.noT, h.ca.offM h.tb.m b h.td, h.eK, h.td, h.ld, h.tl, h.nd, h.nt, h.nl, h.np, h.nL, b _ _ (h.tb.m.neL h.g) h.g, DhAll.tups (But.tups b h.tb.m.noT) _ _ (pr2s_noLO h.oo) h.o, h.oo⟩
theorem FPl.lput {ls' : List MEnt} {T : Tb} (h : FPl C w H0 H c S t l p d L xs ls ys us) (k : TabM w H' l ls' T) (b : But H H' l) : FPl C w H0 H' c ⟨S.T, S.es, T, S.ps⟩ t l p d L xs ls' ys us :=
  ⟨fun a o z => b _ _ (fun y => by rw [y, h.nl] at z; cases z) (h.s _ _ z), h.tb.off b h.tl h.la.m.noT, k, h.ca.offM h.la.m b h.ld, h.eK, h.td, h.ld, h.tl, h.nd, h.nt, h.nl, h.np, h.nL, b _ _ (h.la.m.neL h.g) h.g, DhAll.tups (But.tups b h.la.m.noT) _ _ (pr2s_noLO h.oo) h.o, h.oo⟩
theorem FPl.kput {ys' : List MEnt} {es : List DE} (h : FPl C w H0 H c S t l p d L xs ls ys us) (k : CacheAt C w H' p d c ys') (e : ys'.map MEnt.dat = es) (b : But H H' d) : FPl C w H0 H' c ⟨S.T, es, S.L, S.ps⟩ t l p d L xs ls ys' us :=
  ⟨fun a o z => b _ _ (fun y => by rw [y, h.nd] at z; cases z) (h.s _ _ z), h.tb.off b h.td h.ca.m.noT, h.la.off b h.ld h.ca.m.noT, k, e, h.td, h.ld, h.tl, h.nd, h.nt, h.nl, h.np, h.nL, b _ _ (h.ca.m.neL h.g) h.g, DhAll.tups (But.tups b h.ca.m.noT) _ _ (pr2s_noLO h.oo) h.o, h.oo⟩
theorem FPl.clear {d' : Addr} (h : FPl C w H0 H c S t l p d L xs ls ys us) (n : H d' = none) (k : CacheAt C w H' p d' c []) (b : But H H' p) : FPl C w H0 H' c ⟨S.T, [], S.L, S.ps⟩ t l p d' L xs ls [] us := by
  have np : ∀ vs, H p ≠ some (.tup vs) := fun vs z => by
    obtain ⟨dx, g⟩ := h.ca.g
    rw [g] at z
    cases z
  obtain ⟨ep, gt⟩ := h.tb.m.g
  obtain ⟨ep2, gl⟩ := h.la.m.g
  exact ⟨fun a o z => b _ _ (fun y => by rw [y, h.np] at z; cases z) (h.s _ _ z), h.tb.off b (h.ca.neM h.tb.m) np, h.la.off b (h.ca.neM h.la.m) np, k, rfl, ne_of_none gt n, ne_of_none gl n, h.tl, h.s.free n, h.nt, h.nl, h.np, h.nL, b _ _ (h.ca.neL h.g) h.g, DhAll.tups (But.tups b np) _ _ (pr2s_noLO h.oo) h.o, h.oo⟩
theorem FPl.told {x : DE} {r : Addr} {a b : V} (h : FPl C w H0 H c S t l p d L xs ls ys us) (gr : H r = some (.tup [a, b])) (da : Dh H x.1 a) (db : Dh H x.2 b) (o1 : Opt x.1) (o2 : Opt x.2) : FPl C w H0 (upd H L (.lst (us ++ [.ref r]))) c ⟨S.T, S.es, S.L, S.ps ++ [x]⟩ t l p d L xs ls ys (us ++ [.ref r]) := by
  have bt : But H (upd H L (.lst (us ++ [.ref r]))) L := But.put
  have no : ∀ vs, H L ≠ some (.tup vs) := fun vs z => by rw [h.g] at z; cases z
  have oo : ∀ y ∈ S.ps ++ [x], Opt y.1 ∧ Opt y.2 := fun y hy => by
    rcases List.mem_append.mp hy with z | z
    · exact h.oo y z
    · obtain rfl : y = x := by simpa using z
      exact ⟨o1, o2⟩
  obtain ⟨dx, gp⟩ := h.ca.g
  refine ⟨fun a o z => bt _ _ (fun y => by rw [y, h.nL] at z; cases z) (h.s _ _ z), h.tb.off bt (h.tb.m.neL h.g).symm no, h.la.off bt (h.la.m.neL h.g).symm no, ⟨⟨dx, bt _ _ (h.ca.neL h.g).symm gp⟩, h.ca.m.tups (But.tups bt no) fun o ho => bt _ _ (h.ca.m.neL h.g).symm ho, h.ca.l⟩, h.eK, h.td, h.ld, h.tl, h.nd, h.nt, h.nl, h.np, h.nL, upd_same, DhAll.tups (But.tups bt no) _ _ (pr2s_noLO oo) ?_, oo⟩
  rw [List.map_append]
  exact DhAll.snoc h.o ⟨r, _, rfl, gr, _, _, rfl, da, _, _, rfl, db, rfl⟩
end

section

-- a condition of an operator
local macro_rules | `(tactic| walk_at "cond") => `(tactic| first
  | (show (0 : Int) < _; omega)
  | (show CDiv _ _; constructor <;> (first | decide | omega))
  | (show CMul _ _; first | (refine cmul_l ?_; constructor <;> (first | decide | omega)) | (refine cmul_r ?_; constructor <;> (first | decide | omega)))
  | (show CPow _ _; exact (by refine ⟨by decide, by decide, by decide⟩))
  | (show CDivW _ _; exact ⟨by decide, by decide +kernel⟩))
local macro_rules | `(tactic| walk_at "sq") => `(tactic| first | assumption | exact Dh.mono (same_upd (by assumption)) _ _ (by assumption) | exact .inl (.inl (.inl (by assumption))) | exact .inr (.inl (.inl (by assumption))) | exact SqL.of (by assumption) | exact .inl (by assumption) | exact .inl (SqL.of (by assumption)) | exact SqT.of (by assumption) | exact .inr (SqT.of (by assumption)))
local macro_rules | `(tactic| walk_at "st") => `(tactic| first
  | refine ⟨_, rfl, ?_⟩
  | refine ⟨_, _, rfl, rfl, ?_⟩
  | refine .inl ⟨_, rfl, ?_⟩
  | refine ⟨rfl, ?_⟩
  | refine ⟨_, _, rfl, by walk_at "sq", ?_⟩
  | refine ⟨.inl ⟨rfl, _, SqL.of (by assumption)⟩, ?_⟩
  | refine ⟨by walk_at "cond", ?_⟩
  | (refine' ifBT ?hh ?_; (case hh => first | rfl | assumption))
  | (refine' ifBF ?hh ?_; (case hh => first | rfl | assumption)))
local macro_rules | `(tactic| walk_at "go") => `(tactic| repeat walk_at "st")
local macro_rules | `(tactic| walk_at "yes") => `(tactic| (refine' ifT ?hh ?_; (case hh => first | rfl | decide +kernel)))
local macro_rules | `(tactic| walk_at "no") => `(tactic| (refine' ifF ?hh ?_; (case hh => first | decide +kernel | (intro z; cases z; done))))

-- facts carried to the heap at hand, from the facts of the context
local macro_rules | `(tactic| walk_at "lnk") => `(tactic| first | assumption | exact same_upd (by assumption))
local macro_rules | `(tactic| walk_at "sm") => `(tactic| first | walk_at "lnk" | exact same_rfl | (refine Same.trans ?_ (by walk_at "lnk"); walk_at "sm"))
local macro_rules | `(tactic| walk_at "at") => `(tactic| first | assumption | exact upd_same | (refine Same.get (by walk_at "lnk") ?_; walk_at "at"))
local macro_rules | `(tactic| walk_at "ix") => `(tactic| first
  | exact atI_nat (j := 0) rfl | exact atI_nat (j := 1) rfl | exact atI_nat (j := 2) rfl | exact atI_nat (j := 3) rfl
  | exact atI_nat (j := 4) rfl | exact atI_nat (j := 5) rfl | exact atI_nat (j := 6) rfl | assumption)
local macro_rules | `(tactic| walk_at "sT") => `(tactic| first | exact SqT.of (by walk_at "at") | exact SqL.of (by walk_at "at"))
local macro_rules | `(tactic| walk_at "st") => `(tactic| refine ⟨_, _, _, _, rfl, rfl, by walk_at "sT", by walk_at "ix", ?_⟩)
local macro_rules | `(tactic| walk_at "side") => `(tactic| first | rfl | assumption | walk_at "at" | walk_at "sm" | omega | decide)
-- a call: the promise's letters from its arguments, then what is asked from the context
local macro_rules | `(tactic| walk_at "call") => `(tactic| ((repeat (apply Exists.intro)); refine And.intro rfl ?_; repeat (refine And.intro (by walk_at "side") ?_)))

local macro_rules | `(tactic| walk_at "st") => `(tactic| refine ⟨_, _, _, _, _, rfl, by assumption, by assumption, by omega, by omega, by omega, by omega, by omega, ?_⟩)
local macro_rules | `(tactic| walk_at "st") => `(tactic| refine ⟨_, _, _, _, _, rfl, Same.seq (by assumption) (by assumption), by assumption, by omega, by omega, by omega, by omega, by omega, ?_⟩)

/-! ### flush_plan -/
abbrev s_flush_plan : Stmt := topS 8
theorem sc_flush_plan : FnScope ["trace", "capacity", "table", "cache", "last", "pairs", "at", "event", "key", "pair"] ["trace", "capacity"] (C8.fnScope s_flush_plan) := C8.fnScope_by (by decide +kernel)
def planD (S : QS) : PyData := .tuple [.list (S.ps.map (·.2)), .list (S.ps.map pr2)]
structure CTxtE (K : PySem.W.Frag) (mg : Str → Option Value) (C : Addr) : Prop extends CTxt K mg C where
  enumerate : mg "enumerate" = none
theorem stale_mk {C : Addr} {w : World} {t p d : Addr} {k : V} {c : Int} {kd : PyData} {T : Tb} {xs ys : List MEnt} {H : Hp} {Q : VK} {E : XK} (tb : TabM w H t xs T) (ca : CacheAt C w H p d c ys) (td : t ≠ d) (tk : Thing kd) (dk : Dh H kd k) (ei : EI c (ys.map MEnt.dat))
    (q : ∀ b ys' H', (b = true ↔ stale T (ys.map MEnt.dat) kd) → CacheAt C w H' p d c ys' → ys'.map MEnt.dat = elook (ys.map MEnt.dat) kd → But H H' d → Q (.bl b) H') : spStale C w [.ref t, .ref p, k] H Q E :=
  ⟨t, p, d, k, c, kd, T, xs, ys, rfl, tb, ca, td, tk, dk, ei, q⟩
theorem ixM_mk {w : World} {H : Hp} {t : Addr} {xs : List MEnt} {T : Tb} {k : V} {kd : PyData} {Q : VK} (h : TabM w H t xs T) (hk : Thing kd) (hx : Dh H kd k) (n : T kd ≠ .none) (q : ∀ v, Dh H (T kd) v → Q v H) : rIxM w (.ref t) k H Q := by
  cases z : mget xs kd with
  | none => exact absurd (h.not z) n
  | some e => exact ⟨t, xs, kd, e, rfl, h.m, hk, hx, z, q e.v (h.got z)⟩
def spPlan (C : Addr) (w : World) : Sp := fun vs H Q _ => ∃ (tr : Addr) (c : Int) (evs : List Ev), vs = [.ref tr, .int c] ∧ TrAt H tr evs ∧ (∀ e ∈ evs, e.ok) ∧ (∀ e ∈ evs, e.isF = false) ∧ evs.length ≤ 10000 ∧ 0 ≤ c ∧ c ≤ 80000 ∧
  ∀ r a b H', Same H H' → H r = none → H a = none → H b = none → a ≠ b → H' r = some (.tup [.ref a, .ref b]) → H' a = some (.lst ((posI (qN c evs evs.length).ps).map V.int)) → Dh H' (.list ((qN c evs evs.length).ps.map pr2)) (.ref b) → Q (.ref r) H'
section
variable {P : Program} {w : World} {K : PySem.W.Frag} {mg : Str → Option Value} {base : Heap} {C : Addr}
theorem ok_plan {f : Addr} {fd : FuncData} (Df : Def K mg "flush_plan" s_flush_plan f fd) (b : Binds K fd ["trace", "capacity"] []) (T : CTxtE K mg C) (c_Cache : C8.Mak P w K mg base 1 "Cache" C (spInit C w) []) (m_clear_all : C8.Met P w K mg base 1 C "clear_all" (spClear C w) [])
    (c__is_stale : Cal P w K mg base 2 "_is_stale" (spStale C w) []) (c_touch : Cal P w K mg base 3 "touch" (spTouch C w) []) : Cal P w K mg base 4 "flush_plan" (spPlan C w) [] := by
  refine cal0 Df b .nil sc_flush_plan (fun vs H Q E h => ?_) (fun cdv A outer s H vs Q E hr h => ?_)
  · obtain ⟨tr, c, evs, rfl, _⟩ := h
    rfl
  obtain ⟨tr, c, evs, rfl, hT, ok, nf, hl, c0, c8, q⟩ := h
  have c_touch := calI c_touch
  have c__is_stale := calI c__is_stale
  refine ⟨_, (pss_cons (ps_set (i := 2) sc_flush_plan.nd rfl (.inl rfl) (pe_dnewM rfl))
      (pss_cons (ps_set (i := 3) sc_flush_plan.nd rfl (.inl rfl) (C8.pe_mk c_Cache hr (by omega) (by rfl) (pa_cons (pv 1) pa_nil)))
      (pss_cons (ps_set (i := 4) sc_flush_plan.nd rfl (.inl rfl) (pe_dnewM rfl))
      (pss_cons (ps_set (i := 5) sc_flush_plan.nd rfl (.inl rfl) (pe_lst pa_nil))
      (pss_cons (ps_mk (ps_for PassesOwn.never rfl (pi_enum (by rfl) T.enumerate (pa_cons (pv 0) pa_nil)) (pg_tup rfl (pgs_cons (pg_name (i := 6) sc_flush_plan.nd rfl (.inl rfl)) (pgs_cons (pg_name (i := 7) sc_flush_plan.nd rfl (.inl rfl)) pgs_nil)))
      (pss_cons (ps_set (i := 8) sc_flush_plan.nd rfl (.inl rfl) (pe_ix (ixT K rfl) (pv 7) pe_int (fun _ _ => rfl)))
      (pss_one (ps_mk (ps_if (pt_cmpR op_eq (pe_ix (ixT K rfl) (pv 7) pe_int (fun _ _ => rfl)) pe_str (nomark _))
      (pss_one (ps_asg (pe_ix (ixT K rfl) (pv 7) pe_int (fun _ _ => rfl)) (pg_sub (pv 2) (pv 8) (setI (set_mx rfl hr.units)))))
      (pss_cons (ps_mk (ps_if (pt_val (C8.pe_c c__is_stale hr (by omega) (by rfl) (pa_cons (pv 2) (pa_cons (pv 3) (pa_cons (pv 8) pa_nil)))))
      (pss_cons (ps_expr (C8.pe_mt0 m_clear_all hr (by omega) (pv 3) ))
      (pss_one (ps_expr (pe_bm PySem.F.plainAttrs_list PySem.F.slot_list_append PySem.F.type_list_append mt_append (pv 5) (pa_cons (pe_tup (pa_cons (pe_ix (ixI (ix_mx rfl hr.units)) (pv 4) (pv 8) (fun _ _ => rfl)) (pa_cons (pv 6) pa_nil))) pa_nil)))))
      pss_nil))
      (pss_cons (ps_expr (C8.pe_c c_touch hr (by omega) (by rfl) (pa_cons (pv 2) (pa_cons (pv 3) (pa_cons (pv 8) pa_nil)))))
      (pss_one (ps_asg (pv 6) (pg_sub (pv 4) (pv 8) (setI (set_mx rfl hr.units)))))))))))))
      (pss_one (ps_ret (pe_tup (pa_cons (pe_lc (own := [("pair", 9)]) (g := gName 9) (tt := tYes) rfl sc_flush_plan.nd (pi_list (pv 5)) (blkOk_by (own := [("pair", 9)]) (N := ["trace", "capacity", "table", "cache", "last", "pairs", "at", "event", "key", "pair"]) (sc := C8.fnScope s_flush_plan) (by decide +kernel)) (fun _ _ _ _ _ => (pg_name (i := 9) sc_flush_plan.nd rfl (.inl rfl))) (fun _ _ _ _ _ => pts_nil) (fun _ _ _ _ _ => (pe_ix (ixT K rfl) (pv 9) pe_int (fun _ _ => rfl)))) (pa_cons (pv 5) pa_nil)))))))))), ?_⟩
  walk_at "go"
  intro t H1 m1 nt s1 _
  walk_at "go"
  intro p dx np ndx npx
  have sI := (same_upd (o := HO.own p) ndx).trans (same_upd (o := HO.ins C dx []) (by rw [upd_ne npx.symm]; exact np))
  refine ⟨p, dx, c, rfl, upd_same, fun d H2 nd hc b2 => ⟨rfl, ?_⟩⟩
  have s2 : Same H1 H2 := same_one sI np b2
  have nd1 : H1 d = none := sI.free nd
  walk_at "go"
  intro l H3 m3 nl s3 _
  walk_at "go"
  refine ⟨sz, fun L nL => ?_⟩
  have s4 := same_upd (o := HO.lst []) nL
  have gL := upd_same (H := H3) (a := L) (o := HO.lst [])
  obtain ⟨ep1, gt1⟩ := m1.g
  obtain ⟨ep2, gd2⟩ := hc.m.g
  have st0 : FPl C w H (upd H3 L (.lst [])) c ⟨fun _ => .none, [], fun _ => .none, []⟩ t l p d L [] [] [] [] :=
    ⟨s1.trans (s2.trans (s3.trans s4)), ⟨((m1.same s2).same s3).same s4, fun _ => rfl⟩, ⟨m3.same s4, fun _ => rfl⟩, (hc.same s3).same s4, rfl, ne_of_none gt1 nd1, (ne_of_none gd2 nl).symm, ne_of_none (s2 _ _ gt1) nl, s1.free nd1, nt, (s1.trans s2).free nl, s1.free np, (s1.trans (s2.trans s3)).free nL, gL, rfl, fun _ h => by cases h⟩
  show _
  generalize upd H3 L (HO.lst []) = H4 at *
  clear m1 s1 np ndx npx sI nd hc b2 s2 nd1 nL s3 gL gt1 gd2 nt nl m3 s4
  obtain ⟨us, gt, dt⟩ := hT
  have lus := dt.len
  rw [List.length_map] at lus
  have gt4 := st0.s _ _ gt
  refine jnS (M := fun σ H' => ∃ d xs ls ys vs y6 y7 y8, FPl C w H H' c (qN c evs evs.length) t l p d L xs ls ys vs ∧ σ = [sR tr, sI c, sR t, sR p, sR l, sR L, y6, y7, y8, none]) ?_ (fun N kk => ?_)
  · rintro σ H5 ⟨d, xs, ls, ys, vs, y6, y7, y8, st, rfl⟩
    walk_at "go"
    have pi := (QI.run c0 ok evs.length).p
    have np := (QI.run c0 ok evs.length).n
    generalize qN c evs evs.length = S at *
    have lvs := st.o.len
    rw [List.length_map] at lvs
    have sh : ∀ x ∈ S.ps, ∃ a b : Nat, x = (.int a, .int b) := fun x hx => by
      obtain ⟨a, b, e, _⟩ := pi x hx
      exact ⟨a, b, e⟩
    refine ⟨⟨_, SqL.of st.g⟩, fun N1 nN => lc_list (K := K) (a := L) (xs := vs) (fun i H' => Ob (Same H5 H' ∧ H' N1 = some (.lst ((posI (S.ps.take i)).map V.int)))) (ob ⟨same_upd nN, upd_same⟩) (fun i H' _ h => SqL.of ((unob h).1 _ _ st.g)) ?_ ?_⟩
    · intro i v H' hi h
      obtain ⟨s6, g6⟩ := unob h
      clear h
      have hil : i < S.ps.length := by
        rw [← lvs]
        exact (List.getElem?_eq_some_iff.mp hi).1
      obtain ⟨v', ev', dv'⟩ := st.o.get (show (S.ps.map pr2)[i]? = some (pr2 S.ps[i]) by rw [List.getElem?_map, List.getElem?_eq_getElem hil]; rfl)
      obtain rfl : v = v' := Option.some.inj (hi.symm.trans ev')
      obtain ⟨a, b, eab⟩ := sh S.ps[i] (List.getElem_mem hil)
      rw [eab] at dv'
      obtain ⟨r, us2, rfl, gr, x0, _, rfl, dx0, x1, _, rfl, dx1, rfl⟩ := Dh.mono s6 _ _ dv'
      cases dx0
      cases dx1
      walk_at "go"
      refine ⟨_, g6, sz5 ?_, ob ⟨same_put s6 nN, ?_⟩⟩
      · rw [List.length_map, posI_len, List.length_take]
        omega
      · rw [upd_same, List.take_add_one, List.getElem?_eq_getElem hil, posI_app, eab, List.map_append]
        rfl
    intro H6 h
    obtain ⟨s6, g6⟩ := unob h
    clear h
    rw [lvs, List.take_length] at g6
    have st6 := st.same s6
    try dsimp only
    walk_at "go"
    refine ⟨sz, fun r nr => ?_⟩
    have s7 := same_upd (o := HO.tup [V.ref N1, V.ref L]) nr
    walk_at "go"
    exact q r N1 L _ (st6.s.trans s7) (st6.s.free nr) (st.s.free nN) st.nL (ne_of_none st.g nN).symm upd_same (s7 _ _ g6) ⟨L, vs, rfl, s7 _ _ st6.g, DhAll.mono s7 _ _ st6.o⟩
  walk_at "go"
  refine for_it (walk_enum (K := K) (a := tr) (xs := us)) (fun j σ H' => Ob (∃ d xs ls ys vs y6 y7 y8, FPl C w H H' c (qN c evs j) t l p d L xs ls ys vs ∧ xs.length ≤ j ∧ ls.length ≤ j ∧ σ = [sR tr, sI c, sR t, sR p, sR l, sR L, y6, y7, y8, none])) (ob ⟨d, [], [], [], [], none, none, none, st0, Nat.le_refl _, Nat.le_refl _, rfl⟩) (fun j σ H' _ h => ?_) ?_ ?_
  · obtain ⟨d, xs, ls, ys, vs, y6, y7, y8, st, _⟩ := unob h
    exact SqL.of (st.s _ _ gt)
  rotate_left
  · intro σ H5 h
    obtain ⟨d, xs, ls, ys, vs, y6, y7, y8, st, _, _, rfl⟩ := unob h
    rw [lus] at st
    exact kk _ _ ⟨d, xs, ls, ys, vs, y6, y7, y8, st, rfl⟩
  · intro j v σ H5 H6 hj h hy
    obtain ⟨TT, x1, x2, rfl, nT, rfl, e1, e2⟩ := hy
    cases e1
    obtain ⟨d, xs, ls, ys, vs, y6, y7, y8, st, lx, ll, rfl⟩ := unob h
    clear h st0 gt4 kk q
    rw [lus] at hj
    obtain ⟨ev, hev⟩ : ∃ ev, evs[j]? = some ev := ⟨_, List.getElem?_eq_getElem hj⟩
    obtain ⟨e1, et, dt2⟩ := ev_at dt hev
    have e3 : x2 = V.ref e1 := Option.some.inj ((show us[j]? = some x2 from e2).symm.trans et)
    subst e3
    have oke := ok ev (List.mem_of_getElem? hev)
    have nfe := nf ev (List.mem_of_getElem? hev)
    have qi := QI.run c0 ok j
    rw [qN_step hev]
    generalize qN c evs j = S at *
    have s6 := same_upd (o := HO.tup [V.int (j : Nat), V.ref e1]) nT
    have gT := upd_same (H := H5) (a := TT) (o := HO.tup [V.int (j : Nat), V.ref e1])
    have st := st.same s6
    have dt2 := Dh.mono st.s _ _ dt2
    generalize upd H5 TT (HO.tup [V.int (j : Nat), V.ref e1]) = H6 at *
    clear s6 nT e2 et
    refine ⟨TT, _, rfl, SqT.of gT, rfl, ?_⟩
    refine ⟨_, _, rfl, ?_⟩
    refine ⟨_, _, rfl, ?_⟩
    cases ev with
    | flush => cases nfe
    | set kd vd =>
      obtain ⟨_, us2, et2, gw, _, _, rfl, rfl, k, _, rfl, dk, v, _, rfl, dv, rfl⟩ := dt2
      cases et2
      obtain ⟨tk, ov⟩ := oke
      walk_at "go"
      refine un ?_
      walk_at "go"
      refine TSI.mk (setM_mk st.tb tk dk ov dv (by omega) fun xs' H7 t7 l7 b7 => ?_)
      walk_at "go"
      exact ob ⟨d, xs', ls, ys, vs, _, _, _, st.tput t7 b7, by omega, by omega, rfl⟩
    | touch kd =>
      obtain ⟨_, us2, et2, gw, _, _, rfl, rfl, k, _, rfl, dk, rfl⟩ := dt2
      cases et2
      have tk : Thing kd := oke
      walk_at "go"
      refine un ?_
      walk_at "go"
      refine jnS (M := fun σ H' => ∃ d ys vs es ps, FPl C w H H' c ⟨S.T, es, S.L, ps⟩ t l p d L xs ls ys vs ∧ Dh H' kd k ∧ EI c es ∧ (⟨S.T, etouch c S.T es kd, pset S.L kd (.int j), ps⟩ : QS) = qtouch c j S kd ∧ σ = [sR tr, sI c, sR t, sR p, sR l, sR L, sI j, sR e1, some k, none]) ?_ (fun N kk => ?_)
      rotate_left
      · walk_at "go"
        refine SpI.mk (stale_mk st.tb st.ca st.td tk dk (by rw [st.eK]; exact qi.e) fun b ys' H7 hb ca7 e7 b7 => ?_)
        rw [st.eK] at hb e7
        have st7 := st.kput ca7 e7 b7
        have dk7 := Dh.tups (But.tups b7 st.ca.m.noT) _ _ (opt_noL (.inr tk)) dk
        cases b with
        | false =>
          have ns : ¬ stale S.T S.es kd := fun z => by cases hb.mpr z
          walk_at "go"
          have eT : etouch c S.T (elook S.es kd) kd = etouch c S.T S.es kd := by
            cases eg : eget S.es kd with
            | none => rw [elook_none eg]
            | some v => exact elook_touch eg
          have eI : EI c (elook S.es kd) := by
            cases eg : eget S.es kd with
            | none => rw [elook_none eg]; exact qi.e
            | some v => rw [elook_some eg]; exact qi.e.look tk eg
          exact kk _ _ ⟨d, ys', vs, _, _, st7, dk7, eI, by rw [eT, qtouch_no ns], rfl⟩
        | true =>
          have ss := hb.mp rfl
          obtain ⟨v0, ev0, _⟩ := id ss
          have nl : S.L kd ≠ .none := qi.k _ (eget_mem ev0)
          obtain ⟨dx, gp⟩ := st7.ca.g
          walk_at "go"
          refine ⟨p, dx, _, rfl, gp, flds_no _ _ (by decide +kernel) (by decide +kernel), ?_⟩
          walk_at "go"
          refine ⟨p, d, c, ys', rfl, st7.ca, fun d' H8 nd h8 b8 => ?_⟩
          have st8 := st7.clear nd h8 b8
          have dk8 := Dh.tups (But.tups b8 (fun us z => by rw [gp] at z; cases z)) _ _ (opt_noL (.inr tk)) dk7
          walk_at "go"
          refine ⟨.inl ⟨rfl, vs, SqL.of st8.g⟩, ?_⟩
          walk_at "go"
          refine R2I.mk (ixM_mk st8.la tk dk8 nl fun v dv => ?_)
          walk_at "go"
          refine ⟨sz, fun r nr => ?_⟩
          have s9 := same_upd (o := HO.tup [v, V.int (j : Nat)]) nr
          have gr := upd_same (H := H8) (a := r) (o := HO.tup [v, V.int (j : Nat)])
          have st9 := st8.same s9
          have dv9 := Dh.mono s9 _ _ dv
          have dk9 := Dh.mono s9 _ _ dk8
          show _
          generalize upd H8 r (HO.tup [v, V.int (j : Nat)]) = H9 at *
          have lvs : vs.length = (S.ps.map pr2).length := st9.o.len
          rw [List.length_map] at lvs
          have lps := qi.n
          walk_at "go"
          refine ⟨L, vs, _, rfl, rfl, st9.g, sz5 (by omega), ?_⟩
          walk_at "go"
          refine kk _ _ ⟨d', [], _, [], _, st9.told (x := (S.L kd, .int j)) gr dv9 rfl (qi.l kd).opt (.inr trivial), ?_, EI.nil c0, (qtouch_st ss).symm, rfl⟩
          exact Dh.tups (Tups.put fun us z => by rw [st9.g] at z; cases z) _ _ (opt_noL (.inr tk)) dk9
      rintro σ H7 ⟨d, ys, vs, es, ps, st7, dk7, ei, eq, rfl⟩
      walk_at "go"
      refine SpI.mk (touch_mk st7.tb st7.ca st7.td tk dk7 (by rw [st7.eK]; exact ei) c0 c8 fun r x y ys' H8 nr gr dx dy ca8 e8 b8 => ?_)
      rw [st7.eK] at e8
      have st8 := st7.kput ca8 e8 b8
      have dk8 := Dh.tups (But.tups b8 st7.ca.m.noT) _ _ (opt_noL (.inr tk)) dk7
      walk_at "go"
      refine TSI.mk (setM_mk (vd := .int j) st8.la tk dk8 (.inr trivial) rfl (by omega) fun ls' H9 t9 l9 b9 => ?_)
      walk_at "go"
      have st9 := st8.lput t9 b9
      rw [show (⟨S.T, etouch c S.T es kd, pset S.L kd (.int j), ps⟩ : QS) = q1 c j S (.touch kd) from eq] at st9
      exact ob ⟨d, xs, ls', ys', vs, _, _, _, st9, by omega, by omega, rfl⟩
end

end

section

-- a condition of an operator
local macro_rules | `(tactic| walk_at "cond") => `(tactic| first
  | (show (0 : Int) < _; omega)
  | (show CDiv _ _; constructor <;> (first | decide | omega))
  | (show CMul _ _; first | (refine cmul_l ?_; constructor <;> (first | decide | omega)) | (refine cmul_r ?_; constructor <;> (first | decide | omega)))
  | (show CPow _ _; exact (by refine ⟨by decide, by decide, by decide⟩))
  | (show CDivW _ _; exact ⟨by decide, by decide +kernel⟩))
local macro_rules | `(tactic| walk_at "sq") => `(tactic| first | assumption | exact Dh.mono (same_upd (by assumption)) _ _ (by assumption) | exact .inl (.inl (.inl (by assumption))) | exact .inr (.inl (.inl (by assumption))) | exact SqL.of (by assumption) | exact .inl (by assumption) | exact .inl (SqL.of (by assumption)) | exact SqT.of (by assumption) | exact .inr (SqT.of (by assumption)))
local macro_rules | `(tactic| walk_at "st") => `(tactic| first
  | refine ⟨_, rfl, ?_⟩
  | refine ⟨_, _, rfl, rfl, ?_⟩
  | refine .inl ⟨_, rfl, ?_⟩
  | refine ⟨rfl, ?_⟩
  | refine ⟨_, _, rfl, by walk_at "sq", ?_⟩
  | refine ⟨.inl ⟨rfl, _, SqL.of (by assumption)⟩, ?_⟩
  | refine ⟨by walk_at "cond", ?_⟩
  | (refine' ifBT ?hh ?_; (case hh => first | rfl | assumption))
  | (refine' ifBF ?hh ?_; (case hh => first | rfl | assumption)))
local macro_rules | `(tactic| walk_at "go") => `(tactic| repeat walk_at "st")
local macro_rules | `(tactic| walk_at "yes") => `(tactic| (refine' ifT ?hh ?_; (case hh => first | rfl | decide +kernel)))
local macro_rules | `(tactic| walk_at "no") => `(tactic| (refine' ifF ?hh ?_; (case hh => first | decide +kernel | (intro z; cases z; done))))

-- facts carried to the heap at hand, from the facts of the context
local macro_rules | `(tactic| walk_at "lnk") => `(tactic| first | assumption | exact same_upd (by assumption))
local macro_rules | `(tactic| walk_at "sm") => `(tactic| first | walk_at "lnk" | exact same_rfl | (refine Same.trans ?_ (by walk_at "lnk"); walk_at "sm"))
local macro_rules | `(tactic| walk_at "at") => `(tactic| first | assumption | exact upd_same | (refine Same.get (by walk_at "lnk") ?_; walk_at "at"))
local macro_rules | `(tactic| walk_at "ix") => `(tactic| first
  | exact atI_nat (j := 0) rfl | exact atI_nat (j := 1) rfl | exact atI_nat (j := 2) rfl | exact atI_nat (j := 3) rfl
  | exact atI_nat (j := 4) rfl | exact atI_nat (j := 5) rfl | exact atI_nat (j := 6) rfl | assumption)
local macro_rules | `(tactic| walk_at "sT") => `(tactic| first | exact SqT.of (by walk_at "at") | exact SqL.of (by walk_at "at"))
local macro_rules | `(tactic| walk_at "st") => `(tactic| refine ⟨_, _, _, _, rfl, rfl, by walk_at "sT", by walk_at "ix", ?_⟩)
local macro_rules | `(tactic| walk_at "side") => `(tactic| first | rfl | assumption | walk_at "at" | walk_at "sm" | omega | decide)
-- a call: the promise's letters from its arguments, then what is asked from the context
local macro_rules | `(tactic| walk_at "call") => `(tactic| ((repeat (apply Exists.intro)); refine And.intro rfl ?_; repeat (refine And.intro (by walk_at "side") ?_)))

local macro_rules | `(tactic| walk_at "st") => `(tactic| refine ⟨_, _, _, _, _, rfl, by assumption, by assumption, by omega, by omega, by omega, by omega, by omega, ?_⟩)
local macro_rules | `(tactic| walk_at "st") => `(tactic| refine ⟨_, _, _, _, _, rfl, Same.seq (by assumption) (by assumption), by assumption, by omega, by omega, by omega, by omega, by omega, ?_⟩)

/-! ### _law_trace_events -/
abbrev s_trace_events : Stmt := topS 18
theorem sc_trace_events : FnScope ["_law_script", "_law_keys", "_law_values", "_law_many", "_law_flushing", "_law_trace", "_law_at", "_law_kind", "_law_key"] ["_law_script", "_law_keys", "_law_values", "_law_many", "_law_flushing"] (C8.fnScope s_trace_events) := C8.fnScope_by (by decide +kernel)
def LA (H : Hp) (A : Addr) (ds : List PyData) : Prop := ∃ xs, H A = some (.lst xs) ∧ DhAll H ds xs
theorem LA.same {H H' : Hp} {A : Addr} {ds : List PyData} (h : LA H A ds) (s : Same H H') : LA H' A ds := by
  obtain ⟨xs, g, d⟩ := h
  exact ⟨xs, s _ _ g, DhAll.mono s _ _ d⟩
theorem pick_of {H : Hp} {ds : List PyData} {us : List V} {j : Int} (h : DhAll H ds us) (h0 : 0 ≤ j) (h1 : j < (us.length : Nat)) : ∃ v d, atI us j = some v ∧ d ∈ ds ∧ Dh H d v := by
  have e : j = ((j.toNat : Nat) : Int) := by omega
  have hj : j.toNat < ds.length := by
    rw [← h.len]
    omega
  obtain ⟨v, ev, dv⟩ := h.get (List.getElem?_eq_getElem hj)
  refine ⟨v, _, ?_, List.getElem_mem hj, dv⟩
  rw [e]
  exact atI_nat ev
/-- a list that is being filled with events -/
structure Fil (H0 H : Hp) (L : Addr) (evs : List Ev) : Prop where
  s : Same H0 H
  n : H0 L = none
  t : TrAt H L evs
  ok : ∀ e ∈ evs, e.ok
theorem Fil.same {H0 H H' : Hp} {L : Addr} {evs : List Ev} (h : Fil H0 H L evs) (s : Same H H') : Fil H0 H' L evs := ⟨h.s.trans s, h.n, h.t.same s, h.ok⟩
theorem Fil.snoc {H0 H : Hp} {L : Addr} {evs : List Ev} {us : List V} {e : Ev} {v : V} (h : Fil H0 H L evs) (g : H L = some (.lst us)) (d : DhAll H (evs.map Ev.dat) us) (oe : e.ok) (de : Dh H e.dat v) : Fil H0 (upd H L (.lst (us ++ [v]))) L (evs ++ [e]) := by
  have tu : Tups H (upd H L (.lst (us ++ [v]))) := Tups.put fun vs z => by rw [g] at z; cases z
  refine ⟨fun a o z => ?_, h.n, ⟨us ++ [v], upd_same, ?_⟩, fun x hx => ?_⟩
  · rw [upd_ne fun y => by rw [y, h.n] at z; cases z]
    exact h.s _ _ z
  · rw [List.map_append]
    exact DhAll.snoc (DhAll.tups tu _ _ (dats_noL h.ok) d) (Dh.tups tu _ _ (dat_noL oe) de)
  · rcases List.mem_append.mp hx with z | z
    · exact h.ok x z
    · obtain rfl : x = e := by simpa using z
      exact oe
def NoF (evs : List Ev) : Prop := ∀ e ∈ evs, e.isF = false
theorem NoF.snoc {evs : List Ev} {e : Ev} (h : NoF evs) (z : e.isF = false) : NoF (evs ++ [e]) := fun x hx => by
  rcases List.mem_append.mp hx with y | y
  · exact h x y
  · obtain rfl : x = e := by simpa using y
    exact z
def spTEv (K : PySem.W.Frag) : Sp := fun vs H Q _ => ∃ (a KS VS : Addr) (m : Int) (b : Bool) (ns : List Int) (kds vds : List PyData), vs = [.ref a, .ref KS, .ref VS, .int m, .bl b] ∧ SqL K H a (ns.map V.int) ∧ ns.length ≤ 63 ∧ LA H KS kds ∧ LA H VS vds ∧ (∀ k ∈ kds, Thing k) ∧ (∀ v ∈ vds, Opt v) ∧ 1 ≤ kds.length ∧ kds.length ≤ 80 ∧ 1 ≤ vds.length ∧ vds.length ≤ 4 ∧ 0 ≤ m ∧ m ≤ 40 ∧
  ∀ (tr : Addr) (evs : List Ev) H', Same H H' → H tr = none → TrAt H' tr evs → evs.length ≤ 40 → (∀ e ∈ evs, e.ok) → (b = false → NoF evs) → Q (.ref tr) H'
section
variable {P : Program} {w : World} {K : PySem.W.Frag} {mg : Str → Option Value} {base : Heap}
theorem ok_tev {f : Addr} {fd : FuncData} (Df : Def K mg "_law_trace_events" s_trace_events f fd) (b : Binds K fd ["_law_script", "_law_keys", "_law_values", "_law_many", "_law_flushing"] []) (T : Txt mg) (c_number : Cal P w K mg base 1 "_law_number" (spNum K) []) : Cal P w K mg base 2 "_law_trace_events" (spTEv K) [] := by
  refine cal0 Df b .nil sc_trace_events (fun vs H Q E h => ?_) (fun cdv A outer s H vs Q E hr h => ?_)
  · obtain ⟨a, KS, VS, m, bb, ns, kds, vds, rfl, _⟩ := h
    rfl
  obtain ⟨a, KS, VS, m, bb, ns, kds, vds, rfl, hS, hl, hK, hV, tk, tv, k1, k2, v1, v2, m0, m1, q⟩ := h
  refine ⟨_, (pss_cons (ps_set (i := 5) sc_trace_events.nd rfl (.inl rfl) (pe_lst pa_nil))
      (pss_cons (ps_mk (ps_for PassesOwn.never rfl (pi_range2 (by rfl) T.range (pa_cons pe_int (pa_cons (pe_op op_add pe_int (pv 3)) pa_nil))) (pg_name (i := 6) sc_trace_events.nd rfl (.inl rfl))
      (pss_cons (ps_set (i := 7) sc_trace_events.nd rfl (.inl rfl) (C8.pe_c c_number hr (by omega) (by rfl) (pa_cons (pv 0) (pa_cons (pv 6) (pa_cons pe_int (pa_cons pe_int pa_nil))))))
      (pss_cons (ps_set (i := 8) sc_trace_events.nd rfl (.inl rfl) (pe_ix (ixL K rfl) (pv 1) (C8.pe_c c_number hr (by omega) (by rfl) (pa_cons (pv 0) (pa_cons (pv 6) (pa_cons pe_int (pa_cons (pe_callB (lenQ K rfl) (by rfl) T.len PySem.boot_len (pa_cons (pv 1) pa_nil)) pa_nil))))) (fun _ _ => rfl)))
      (pss_one (ps_mk (ps_if (PW.pt (pw_and (pt_cmpR op_eq (pv 7) pe_int (nomark _)) (pw_and1 (pt_val (pv 4)))))
      (pss_one (ps_expr (pe_bm PySem.F.plainAttrs_list PySem.F.slot_list_append PySem.F.type_list_append mt_append (pv 5) (pa_cons (pe_tup (pa_cons pe_str pa_nil)) pa_nil))))
      (pss_one (ps_mk (ps_if (pt_cmpR op_lt (pv 7) pe_int (nomark _))
      (pss_one (ps_expr (pe_bm PySem.F.plainAttrs_list PySem.F.slot_list_append PySem.F.type_list_append mt_append (pv 5) (pa_cons (pe_tup (pa_cons pe_str (pa_cons (pv 8) (pa_cons (pe_ix (ixL K rfl) (pv 2) (C8.pe_c c_number hr (by omega) (by rfl) (pa_cons (pv 0) (pa_cons (pv 6) (pa_cons pe_int (pa_cons (pe_callB (lenQ K rfl) (by rfl) T.len PySem.boot_len (pa_cons (pv 2) pa_nil)) pa_nil))))) (fun _ _ => rfl)) pa_nil)))) pa_nil))))
      (pss_one (ps_expr (pe_bm PySem.F.plainAttrs_list PySem.F.slot_list_append PySem.F.type_list_append mt_append (pv 5) (pa_cons (pe_tup (pa_cons pe_str (pa_cons (pv 8) pa_nil))) pa_nil))))))))))))))
      (pss_one (ps_ret (pv 5))))), ?_⟩
  walk_at "go"
  refine ⟨sz, fun L nL => ?_⟩
  have f0 : Fil H (upd H L (.lst [])) L [] := ⟨same_upd nL, nL, ⟨[], upd_same, rfl⟩, fun _ h => by cases h⟩
  show _
  generalize upd H L (HO.lst []) = H1 at *
  refine jnS (M := fun σ H' => ∃ evs y6 y7 y8, Fil H H' L evs ∧ evs.length ≤ 40 ∧ (bb = false → NoF evs) ∧ σ = [sR a, sR KS, sR VS, sI m, some (.bl bb), sR L, y6, y7, y8]) ?_ (fun N kk => ?_)
  · rintro σ H2 ⟨evs, y6, y7, y8, f2, l2, nf, rfl⟩
    walk_at "go"
    exact q L evs H2 f2.s nL f2.t l2 f2.ok nf
  walk_at "go"
  refine ⟨_, _, rfl, ⟨by omega, by omega, by omega, by omega⟩, for_range (lo := 1) (n := (1 + m - 1).toNat) (fun j σ H' => Ob (∃ evs y6 y7 y8, Fil H H' L evs ∧ evs.length = j ∧ (bb = false → NoF evs) ∧ σ = [sR a, sR KS, sR VS, sI m, some (.bl bb), sR L, y6, y7, y8])) (ob ⟨[], none, none, none, f0, rfl, (fun _ _ h => by cases h), rfl⟩) ?_ ?_⟩
  rotate_left
  · intro σ H2 h
    obtain ⟨evs, y6, y7, y8, f2, l2, nf, rfl⟩ := unob h
    exact kk _ _ ⟨evs, y6, y7, y8, f2, by omega, nf, rfl⟩
  intro j σ H2 hj h
  obtain ⟨evs, y6, y7, y8, f2, l2, nf, rfl⟩ := unob h
  have hS2 := f2.s.seq hS
  obtain ⟨us, gk, dk⟩ := hK.same f2.s
  obtain ⟨ws, gv, dv⟩ := hV.same f2.s
  have lus := dk.len
  have lws := dv.len
  have jb : 0 ≤ 1 + (j : Int) ∧ 1 + (j : Int) ≤ 41 := by omega
  obtain ⟨i, ei⟩ : ∃ i, i = 1 + (j : Int) := ⟨_, rfl⟩
  rw [← ei] at jb ⊢
  obtain ⟨i0, i41⟩ := jb
  have x2 : 0 ≤ num ns i 1 (us.length : Nat) := num_nn (by omega)
  have x3 : num ns i 1 (us.length : Nat) < (us.length : Nat) := num_lt (by omega)
  walk_at "go"
  obtain ⟨kv, kd, ekv, mkd, dkv⟩ := pick_of dk x2 x3
  have tkd := tk kd mkd
  refine ⟨_, _, _, _, rfl, rfl, SqL.of gk, ekv, ?_⟩
  clear x2 x3 ekv
  obtain ⟨vs, gL, dL⟩ := f2.t
  have lvs := dL.len
  rw [List.length_map] at lvs
  generalize num ns i 0 8 = kn at *
  walk_at "go"
  refine un ?_
  walk_at "go"
  refine ifEq (fun c7 => ?_) (fun c7 => ?_)
  · walk_at "go"
    cases bb with
    | true =>
      refine ifBT rfl ?_
      walk_at "go"
      refine ⟨sz, fun p hp => ?_⟩
      have s3 := same_upd (o := HO.tup [V.str "flush"]) hp
      have gp := upd_same (H := H2) (a := p) (o := HO.tup [V.str "flush"])
      have gL3 := s3 _ _ gL
      have dL3 := DhAll.mono s3 _ _ dL
      have f3 := f2.same s3
      show _
      generalize upd H2 p (HO.tup [V.str "flush"]) = H3 at *
      walk_at "go"
      refine ⟨L, vs, _, rfl, rfl, gL3, sz5 (by omega), ?_⟩
      walk_at "go"
      exact ob ⟨evs ++ [.flush], _, _, _, f3.snoc (e := .flush) gL3 dL3 trivial ⟨p, _, rfl, gp, _, _, rfl, rfl, rfl⟩, by rw [List.length_append, l2]; rfl, (fun z => by cases z), rfl⟩
    | false =>
      refine ifBF rfl ?_
      walk_at "go"
      refine un ?_
      walk_at "go"
      refine ifF (show ¬ kn < 3 by omega) ?_
      walk_at "go"
      refine ⟨sz, fun p hp => ?_⟩
      have s3 := same_upd (o := HO.tup [V.str "touch", kv]) hp
      have gp := upd_same (H := H2) (a := p) (o := HO.tup [V.str "touch", kv])
      have gL3 := s3 _ _ gL
      have dL3 := DhAll.mono s3 _ _ dL
      have f3 := f2.same s3
      have dkv3 := Dh.mono s3 _ _ dkv
      show _
      generalize upd H2 p (HO.tup [V.str "touch", kv]) = H3 at *
      walk_at "go"
      refine ⟨L, vs, _, rfl, rfl, gL3, sz5 (by omega), ?_⟩
      walk_at "go"
      exact ob ⟨evs ++ [.touch kd], _, _, _, f3.snoc (e := .touch kd) gL3 dL3 tkd ⟨p, _, rfl, gp, _, _, rfl, rfl, _, _, rfl, dkv3, rfl⟩, by rw [List.length_append, l2]; rfl, (fun z => (nf z).snoc rfl), rfl⟩
  · walk_at "go"
    refine un ?_
    walk_at "go"
    refine ifD (fun c3 => ?_) (fun c3 => ?_)
    · have x2 : 0 ≤ num ns i 2 (ws.length : Nat) := num_nn (by omega)
      have x3 : num ns i 2 (ws.length : Nat) < (ws.length : Nat) := num_lt (by omega)
      walk_at "go"
      obtain ⟨vv, vd, evv, mvd, dvv⟩ := pick_of dv x2 x3
      have ovd := tv vd mvd
      refine ⟨_, _, _, _, rfl, rfl, SqL.of gv, evv, ?_⟩
      clear x2 x3 evv
      walk_at "go"
      refine ⟨sz, fun p hp => ?_⟩
      have s3 := same_upd (o := HO.tup [V.str "set", kv, vv]) hp
      have gp := upd_same (H := H2) (a := p) (o := HO.tup [V.str "set", kv, vv])
      have gL3 := s3 _ _ gL
      have dL3 := DhAll.mono s3 _ _ dL
      have f3 := f2.same s3
      have dkv3 := Dh.mono s3 _ _ dkv
      have dvv3 := Dh.mono s3 _ _ dvv
      show _
      generalize upd H2 p (HO.tup [V.str "set", kv, vv]) = H3 at *
      walk_at "go"
      refine ⟨L, vs, _, rfl, rfl, gL3, sz5 (by omega), ?_⟩
      walk_at "go"
      exact ob ⟨evs ++ [.set kd vd], _, _, _, f3.snoc (e := .set kd vd) gL3 dL3 ⟨tkd, ovd⟩ ⟨p, _, rfl, gp, _, _, rfl, rfl, _, _, rfl, dkv3, _, _, rfl, dvv3, rfl⟩, by rw [List.length_append, l2]; rfl, (fun z => (nf z).snoc rfl), rfl⟩
    · walk_at "go"
      refine ⟨sz, fun p hp => ?_⟩
      have s3 := same_upd (o := HO.tup [V.str "touch", kv]) hp
      have gp := upd_same (H := H2) (a := p) (o := HO.tup [V.str "touch", kv])
      have gL3 := s3 _ _ gL
      have dL3 := DhAll.mono s3 _ _ dL
      have f3 := f2.same s3
      have dkv3 := Dh.mono s3 _ _ dkv
      show _
      generalize upd H2 p (HO.tup [V.str "touch", kv]) = H3 at *
      walk_at "go"
      refine ⟨L, vs, _, rfl, rfl, gL3, sz5 (by omega), ?_⟩
      walk_at "go"
      exact ob ⟨evs ++ [.touch kd], _, _, _, f3.snoc (e := .touch kd) gL3 dL3 tkd ⟨p, _, rfl, gp, _, _, rfl, rfl, _, _, rfl, dkv3, rfl⟩, by rw [List.length_append, l2]; rfl, (fun z => (nf z).snoc rfl), rfl⟩
end

end

/-! ### lists of data -/
theorem noLs_of : ∀ {ds : List PyData}, (∀ d ∈ ds, Opt d) → noLs ds = true
  | [], _ => rfl
  | d :: ds, h => by
    show (noL d && noLs ds) = true
    rw [opt_noL (h d List.mem_cons_self), noLs_of fun x hx => h x (List.mem_cons_of_mem _ hx)]
    rfl
theorem DhAll.put {H : Hp} {L : Addr} {o : HO} {ds : List PyData} {us xs : List V} (d : DhAll H ds us) (g : H L = some (.lst xs)) (t : ∀ k ∈ ds, Thing k) : DhAll (upd H L o) ds us :=
  DhAll.tups (Tups.put fun vs z => by rw [g] at z; cases z) _ _ (noLs_of fun k hk => .inr (t k hk)) d
theorem dh_app {H : Hp} : ∀ {ds es : List PyData} {us vs : List V}, DhAll H ds us → DhAll H es vs → DhAll H (ds ++ es) (us ++ vs)
  | [], es, us, vs, h, h2 => by
    cases (show us = [] from h)
    exact h2
  | d :: ds, es, us, vs, h, h2 => by
    obtain ⟨v, ws, rfl, h3, h4⟩ := h
    exact ⟨v, ws ++ vs, rfl, h3, dh_app h4 h2⟩
theorem dh_ints {H : Hp} : ∀ (ns : List Int), DhAll H (ns.map PyData.int) (ns.map V.int)
  | [] => rfl
  | _ :: ns => ⟨_, _, rfl, rfl, dh_ints ns⟩
theorem thing_app {ds es : List PyData} (h : ∀ k ∈ ds, Thing k) (h2 : ∀ k ∈ es, Thing k) : ∀ k ∈ ds ++ es, Thing k := fun k hk => (List.mem_append.mp hk).elim (h k) (h2 k)
theorem dh_rep {H : Hp} {ds : List PyData} {us : List V} (h : DhAll H ds us) : ∀ n, DhAll H (List.replicate n ds).flatten (List.replicate n us).flatten
  | 0 => rfl
  | n + 1 => by
    rw [List.replicate_succ, List.replicate_succ, List.flatten_cons, List.flatten_cons]
    exact dh_app h (dh_rep h n)
theorem dh_rev {H : Hp} : ∀ {ds : List PyData} {us : List V}, DhAll H ds us → DhAll H ds.reverse us.reverse
  | [], us, h => by
    cases (show us = [] from h)
    rfl
  | d :: ds, us, h => by
    obtain ⟨v, ws, rfl, h1, h2⟩ := h
    rw [List.reverse_cons, List.reverse_cons]
    exact dh_app (dh_rev h2) ⟨_, _, rfl, h1, rfl⟩

section

-- a condition of an operator
local macro_rules | `(tactic| walk_at "cond") => `(tactic| first
  | (show (0 : Int) < _; omega)
  | (show CDiv _ _; constructor <;> (first | decide | omega))
  | (show CMul _ _; first | (refine cmul_l ?_; constructor <;> (first | decide | omega)) | (refine cmul_r ?_; constructor <;> (first | decide | omega)))
  | (show CPow _ _; exact (by refine ⟨by decide, by decide, by decide⟩))
  | (show CDivW _ _; exact ⟨by decide, by decide +kernel⟩))
local macro_rules | `(tactic| walk_at "sq") => `(tactic| first | assumption | exact Dh.mono (same_upd (by assumption)) _ _ (by assumption) | exact .inl (.inl (.inl (by assumption))) | exact .inr (.inl (.inl (by assumption))) | exact SqL.of (by assumption) | exact .inl (by assumption) | exact .inl (SqL.of (by assumption)) | exact SqT.of (by assumption) | exact .inr (SqT.of (by assumption)))
local macro_rules | `(tactic| walk_at "st") => `(tactic| first
  | refine ⟨_, rfl, ?_⟩
  | refine ⟨_, _, rfl, rfl, ?_⟩
  | refine .inl ⟨_, rfl, ?_⟩
  | refine ⟨rfl, ?_⟩
  | refine ⟨_, _, rfl, by walk_at "sq", ?_⟩
  | refine ⟨.inl ⟨rfl, _, SqL.of (by assumption)⟩, ?_⟩
  | refine ⟨by walk_at "cond", ?_⟩
  | (refine' ifBT ?hh ?_; (case hh => first | rfl | assumption))
  | (refine' ifBF ?hh ?_; (case hh => first | rfl | assumption)))
local macro_rules | `(tactic| walk_at "go") => `(tactic| repeat walk_at "st")
local macro_rules | `(tactic| walk_at "yes") => `(tactic| (refine' ifT ?hh ?_; (case hh => first | rfl | decide +kernel)))
local macro_rules | `(tactic| walk_at "no") => `(tactic| (refine' ifF ?hh ?_; (case hh => first | decide +kernel | (intro z; cases z; done))))

-- facts carried to the heap at hand, from the facts of the context
local macro_rules | `(tactic| walk_at "lnk") => `(tactic| first | assumption | exact same_upd (by assumption))
local macro_rules | `(tactic| walk_at "sm") => `(tactic| first | walk_at "lnk" | exact same_rfl | (refine Same.trans ?_ (by walk_at "lnk"); walk_at "sm"))
local macro_rules | `(tactic| walk_at "at") => `(tactic| first | assumption | exact upd_same | (refine Same.get (by walk_at "lnk") ?_; walk_at "at"))
local macro_rules | `(tactic| walk_at "ix") => `(tactic| first
  | exact atI_nat (j := 0) rfl | exact atI_nat (j := 1) rfl | exact atI_nat (j := 2) rfl | exact atI_nat (j := 3) rfl
  | exact atI_nat (j := 4) rfl | exact atI_nat (j := 5) rfl | exact atI_nat (j := 6) rfl | assumption)
local macro_rules | `(tactic| walk_at "sT") => `(tactic| first | exact SqT.of (by walk_at "at") | exact SqL.of (by walk_at "at"))
local macro_rules | `(tactic| walk_at "st") => `(tactic| refine ⟨_, _, _, _, rfl, rfl, by walk_at "sT", by walk_at "ix", ?_⟩)
local macro_rules | `(tactic| walk_at "side") => `(tactic| first | rfl | assumption | walk_at "at" | walk_at "sm" | omega | decide)
-- a call: the promise's letters from its arguments, then what is asked from the context
local macro_rules | `(tactic| walk_at "call") => `(tactic| ((repeat (apply Exists.intro)); refine And.intro rfl ?_; repeat (refine And.intro (by walk_at "side") ?_)))

local macro_rules | `(tactic| walk_at "st") => `(tactic| refine ⟨_, _, _, _, _, rfl, by assumption, by assumption, by omega, by omega, by omega, by omega, by omega, ?_⟩)
local macro_rules | `(tactic| walk_at "st") => `(tactic| refine ⟨_, _, _, _, _, rfl, Same.seq (by assumption) (by assumption), by assumption, by omega, by omega, by omega, by omega, by omega, ?_⟩)

/-! ### _law_trace_build -/
abbrev s_trace_build : Stmt := topS 19
theorem sc_trace_build : FnScope ["_law_script", "_law_flushing", "_law_few", "_law_keys", "_law_k", "_law_values", "_law_size", "_law_many", "_law_form", "_law_head", "_law_most", "_law_key", "_law_trace"] ["_law_script", "_law_flushing", "_law_few"] (C8.fnScope s_trace_build) := C8.fnScope_by (by decide +kernel)
structure TxtM (mg : Str → Option Value) : Prop extends Txt mg where
  min : mg "min" = none
def spTB (K : PySem.W.Frag) : Sp := fun vs H Q _ => ∃ (a : Addr) (ns : List Int) (fl few : Bool), vs = [.ref a, .bl fl, .bl few] ∧ SqL K H a (ns.map V.int) ∧ ns.length ≤ 63 ∧
  ∀ (p tr : Addr) (size : Int) (evs : List Ev) H', Same H H' → H tr = none → H' p = some (.tup [.ref tr, .int size]) → TrAt H' tr evs → evs.length ≤ 240 → (∀ e ∈ evs, e.ok) → (fl = false → NoF evs) → 0 ≤ size → size ≤ 64 → Q (.ref p) H'
section
variable {P : Program} {w : World} {K : PySem.W.Frag} {mg : Str → Option Value} {base : Heap}
theorem ok_tbuild {f : Addr} {fd : FuncData} (Df : Def K mg "_law_trace_build" s_trace_build f fd) (b : Binds K fd ["_law_script", "_law_flushing", "_law_few"] []) (T : TxtM mg) (c_number : Cal P w K mg base 1 "_law_number" (spNum K) []) (c_thing : Cal P w K mg base 2 "_law_thing" (spThing K) []) (c_trace_events : Cal P w K mg base 2 "_law_trace_events" (spTEv K) []) : Cal P w K mg base 3 "_law_trace_build" (spTB K) [] := by
  refine cal0 Df b .nil sc_trace_build (fun vs H Q E h => ?_) (fun cdv A outer s H vs Q E hr h => ?_)
  · obtain ⟨a, ns, fl, few, rfl, _⟩ := h
    rfl
  obtain ⟨a, ns, fl, few, rfl, hS, hl, q⟩ := h
  refine ⟨_, (pss_cons (ps_setLc (i := 3) (own := [("_law_k", 4)]) (g := gName 4) (tt := tYes) rfl sc_trace_build.nd rfl rfl (sw_true rfl rfl rfl (by decide +kernel)) (pi_range1 (by rfl) T.range (pa_cons (pe_op op_add pe_int (C8.pe_c c_number hr (by omega) (by rfl) (pa_cons (pv 0) (pa_cons pe_int (pa_cons pe_int (pa_cons pe_int pa_nil)))))) pa_nil)) (blkOk_by (own := [("_law_k", 4)]) (N := ["_law_script", "_law_flushing", "_law_few", "_law_keys", "_law_k", "_law_values", "_law_size", "_law_many", "_law_form", "_law_head", "_law_most", "_law_key", "_law_trace"]) (sc := C8.fnScope s_trace_build) (by decide +kernel)) (fun _ _ _ _ _ => (pg_name (i := 4) sc_trace_build.nd rfl (.inl rfl))) (fun _ _ _ _ _ => pts_nil) (fun _ _ _ _ _ => (C8.pe_c c_thing hr (by omega) (by rfl) (pa_cons (pv 0) (pa_cons (pe_op op_add pe_int (pv 4)) (pa_cons pe_int pa_nil))))))
      (pss_cons (ps_set (i := 5) sc_trace_build.nd rfl (.inr rfl) (pe_op op_cat (pe_lst (pa_cons pe_non pa_nil)) (pe_lc (own := [("_law_k", 4)]) (g := gName 4) (tt := tYes) rfl sc_trace_build.nd (pi_range1 (by rfl) T.range (pa_cons (pe_op op_add pe_int (C8.pe_c c_number hr (by omega) (by rfl) (pa_cons (pv 0) (pa_cons pe_int (pa_cons pe_int (pa_cons pe_int pa_nil)))))) pa_nil)) (blkOk_by (own := [("_law_k", 4)]) (N := ["_law_script", "_law_flushing", "_law_few", "_law_keys", "_law_k", "_law_values", "_law_size", "_law_many", "_law_form", "_law_head", "_law_most", "_law_key", "_law_trace"]) (sc := C8.fnScope s_trace_build) (by decide +kernel)) (fun _ _ _ _ _ => (pg_name (i := 4) sc_trace_build.nd rfl (.inl rfl))) (fun _ _ _ _ _ => pts_nil) (fun _ _ _ _ _ => (C8.pe_c c_thing hr (by omega) (by rfl) (pa_cons (pv 0) (pa_cons (pe_op op_add pe_int (pv 4)) (pa_cons pe_int pa_nil))))))))
      (pss_cons (ps_set (i := 6) sc_trace_build.nd rfl (.inl rfl) (pe_ix (ixL K rfl) (pe_lst (pa_cons pe_int (pa_cons pe_int (pa_cons pe_int (pa_cons pe_int (pa_cons pe_int (pa_cons pe_int (pa_cons pe_int pa_nil)))))))) (C8.pe_c c_number hr (by omega) (by rfl) (pa_cons (pv 0) (pa_cons pe_int (pa_cons pe_int (pa_cons pe_int pa_nil))))) (fun _ _ => rfl)))
      (pss_cons (ps_set (i := 7) sc_trace_build.nd rfl (.inl rfl) (C8.pe_c c_number hr (by omega) (by rfl) (pa_cons (pv 0) (pa_cons pe_int (pa_cons pe_int (pa_cons pe_int pa_nil))))))
      (pss_cons (ps_set (i := 8) sc_trace_build.nd rfl (.inl rfl) (C8.pe_c c_number hr (by omega) (by rfl) (pa_cons (pv 0) (pa_cons pe_int (pa_cons pe_int (pa_cons pe_int pa_nil))))))
      (pss_cons (ps_set (i := 9) sc_trace_build.nd rfl (.inl rfl) (pe_lst pa_nil))
      (pss_cons (ps_mk (ps_if (PW.pt (pw_and (pt_val (pv 2)) (pw_and1 (pt_cmpR op_lt (pv 8) pe_int (nomark _)))))
      (pss_one (ps_set (i := 7) sc_trace_build.nd rfl (.inl rfl) (pe_op op_mod (pe_callTy call_int1 (by rfl) T.int (by decide +kernel) (pa_cons (pv 7) pa_nil)) pe_int)))
      pss_nil))
      (pss_cons (ps_mk (ps_if (pt_cmpR op_eq (pv 8) pe_int (nomark _))
      (pss_one (ps_set (i := 3) sc_trace_build.nd rfl (.inl rfl) (pe_lst (pa_cons pe_int (pa_cons pe_str (pa_cons (pe_tup (pa_cons pe_int pa_nil)) (pa_cons (pe_tup (pa_cons pe_str pa_nil)) (pa_cons pe_int pa_nil))))))))
      pss_nil))
      (pss_cons (ps_mk (ps_if (pt_cmpR op_eq (pv 8) pe_int (nomark _))
      (pss_cons (ps_set (i := 10) sc_trace_build.nd rfl (.inl rfl) (pe_op op_add pe_int (pe_op op_fdiv (C8.pe_c c_number hr (by omega) (by rfl) (pa_cons (pv 0) (pa_cons pe_int (pa_cons pe_int (pa_cons pe_int pa_nil))))) (pe_op op_add pe_int (C8.pe_c c_number hr (by omega) (by rfl) (pa_cons (pv 0) (pa_cons pe_int (pa_cons pe_int (pa_cons pe_int pa_nil)))))))))
      (pss_cons (ps_setLc (i := 3) (own := [("_law_k", 4)]) (g := gName 4) (tt := tYes) rfl sc_trace_build.nd rfl rfl (sw_true rfl rfl rfl (by decide +kernel)) (pi_range1 (by rfl) T.range (pa_cons (pv 10) pa_nil)) (blkOk_by (own := [("_law_k", 4)]) (N := ["_law_script", "_law_flushing", "_law_few", "_law_keys", "_law_k", "_law_values", "_law_size", "_law_many", "_law_form", "_law_head", "_law_most", "_law_key", "_law_trace"]) (sc := C8.fnScope s_trace_build) (by decide +kernel)) (fun _ _ _ _ _ => (pg_name (i := 4) sc_trace_build.nd rfl (.inl rfl))) (fun _ _ _ _ _ => pts_nil) (fun _ _ _ _ _ => (pe_op op_add pe_int (pe_op op_mul pe_int (pv 4)))))
      (pss_cons (ps_set (i := 6) sc_trace_build.nd rfl (.inl rfl) (pe_callB (call_min2 rfl) (by rfl) T.min (by decide +kernel) (pa_cons pe_int (pa_cons (pe_op op_add (pe_op op_sub (pv 10) pe_int) (C8.pe_c c_number hr (by omega) (by rfl) (pa_cons (pv 0) (pa_cons pe_int (pa_cons pe_int (pa_cons pe_int pa_nil)))))) pa_nil))))
      (pss_one (ps_set (i := 9) sc_trace_build.nd rfl (.inl rfl) (pe_op op_cat (pe_lc (own := [("_law_key", 11)]) (g := gName 11) (tt := tYes) rfl sc_trace_build.nd (pi_list (pv 3)) (blkOk_by (own := [("_law_key", 11)]) (N := ["_law_script", "_law_flushing", "_law_few", "_law_keys", "_law_k", "_law_values", "_law_size", "_law_many", "_law_form", "_law_head", "_law_most", "_law_key", "_law_trace"]) (sc := C8.fnScope s_trace_build) (by decide +kernel)) (fun _ _ _ _ _ => (pg_name (i := 11) sc_trace_build.nd rfl (.inl rfl))) (fun _ _ _ _ _ => pts_nil) (fun _ _ _ _ _ => (pe_tup (pa_cons pe_str (pa_cons (pv 11) (pa_cons (pe_ix (ixL K rfl) (pv 5) pe_int (fun _ _ => rfl)) pa_nil)))))) (pe_lc (own := [("_law_key", 11)]) (g := gName 11) (tt := tYes) rfl sc_trace_build.nd (pi_list (pv 3)) (blkOk_by (own := [("_law_key", 11)]) (N := ["_law_script", "_law_flushing", "_law_few", "_law_keys", "_law_k", "_law_values", "_law_size", "_law_many", "_law_form", "_law_head", "_law_most", "_law_key", "_law_trace"]) (sc := C8.fnScope s_trace_build) (by decide +kernel)) (fun _ _ _ _ _ => (pg_name (i := 11) sc_trace_build.nd rfl (.inl rfl))) (fun _ _ _ _ _ => pts_nil) (fun _ _ _ _ _ => (pe_tup (pa_cons pe_str (pa_cons (pv 11) pa_nil)))))))))))
      pss_nil))
      (pss_cons (ps_set (i := 12) sc_trace_build.nd rfl (.inl rfl) (pe_op op_cat (pv 9) (C8.pe_c c_trace_events hr (by omega) (by rfl) (pa_cons (pv 0) (pa_cons (pv 3) (pa_cons (pv 5) (pa_cons (pv 7) (pa_cons (pv 1) pa_nil))))))))
      (pss_cons (ps_mk (ps_if (pt_cmpR op_eq (pv 8) pe_int (nomark _))
      (pss_one (ps_set (i := 12) sc_trace_build.nd rfl (.inl rfl) (pe_op op_rep (pv 12) (pe_op op_add pe_int (C8.pe_c c_number hr (by omega) (by rfl) (pa_cons (pv 0) (pa_cons pe_int (pa_cons pe_int (pa_cons pe_int pa_nil)))))))))
      pss_nil))
      (pss_one (ps_ret (pe_tup (pa_cons (pv 12) (pa_cons (pv 6) pa_nil)))))))))))))))), ?_⟩
  have y0 : 0 ≤ num ns 0 15 5 := num_nn (by decide)
  have y1 : num ns 0 15 5 < 5 := num_lt (by decide)
  walk_at "go"
  generalize num ns 0 15 5 = nk at *
  refine ⟨by omega, by omega, fun KS nKS => lc_range (lo := 0) (n := (1 + nk).toNat) (fun j H' => Ob (Same H H' ∧ ∃ us kds, H' KS = some (.lst us) ∧ DhAll H' kds us ∧ (∀ k ∈ kds, Thing k) ∧ us.length = j)) (ob ⟨same_upd nKS, [], [], upd_same, rfl, (fun _ h => by cases h), rfl⟩) ?_ ?_⟩
  · intro j H8 hj h
    obtain ⟨s8, us, kds, g8, d8, t8, l8⟩ := unob h
    clear h
    have hS8 := s8.seq hS
    refine ⟨rfl, ?_⟩
    rw [Int.zero_add]
    walk_at "go"
    refine ⟨a, ns, _, _, rfl, hS8, hl, by omega, by omega, by decide, by decide, fun v d9 H9 s9 dv tv => ?_⟩
    walk_at "go"
    refine ⟨us, s9 _ _ g8, sz5 (by omega), ob ⟨same_put (s8.trans s9) nKS, us ++ [v], kds ++ [d9], upd_same, ?_, fun k hk => ?_, by rw [List.length_append, l8]; rfl⟩⟩
    · have t := Tups.put (o := HO.lst (us ++ [v])) (fun vs (z : H9 KS = some (.tup vs)) => by rw [s9 _ _ g8] at z; cases z)
      exact DhAll.snoc (DhAll.tups t _ _ (noLs_of fun k hk => .inr (t8 k hk)) (DhAll.mono s9 _ _ d8)) (Dh.tups t _ _ (opt_noL (.inr tv)) dv)
    · rcases List.mem_append.mp hk with z | z
      · exact t8 k z
      · obtain rfl : k = d9 := by simpa using z
        exact tv
  intro H1 h
  obtain ⟨s1, us, kds, g1, d1, tk, l1⟩ := unob h
  clear h
  have hS1 := s1.seq hS
  have z0 : 0 ≤ num ns 0 13 3 := num_nn (by decide)
  have z1 : num ns 0 13 3 < 3 := num_lt (by decide)
  try dsimp only
  walk_at "go"
  refine ⟨sz, fun N nN => ?_⟩
  have sN := same_upd (o := HO.lst [V.non]) nN
  have gN := upd_same (H := H1) (a := N) (o := HO.lst [V.non])
  have gK2 := sN _ _ g1
  have dK2 := DhAll.mono sN _ _ d1
  have s2 := s1.trans sN
  have hS2 := s2.seq hS
  show _
  generalize upd H1 N (HO.lst [V.non]) = H2 at *
  clear s1 g1 d1 sN nN hS1
  walk_at "go"
  generalize num ns 0 13 3 = nv at *
  refine ⟨by omega, by omega, fun WS nWS => lc_range (lo := 0) (n := (1 + nv).toNat) (fun j H' => Ob (Same H2 H' ∧ ∃ us kds, H' WS = some (.lst us) ∧ DhAll H' kds us ∧ (∀ k ∈ kds, Thing k) ∧ us.length = j)) (ob ⟨same_upd nWS, [], [], upd_same, rfl, (fun _ h => by cases h), rfl⟩) ?_ ?_⟩
  · intro j H8 hj h
    obtain ⟨s8, us, kds, g8, d8, t8, l8⟩ := unob h
    clear h
    have hS8 := s8.seq hS2
    refine ⟨rfl, ?_⟩
    rw [Int.zero_add]
    walk_at "go"
    refine ⟨a, ns, _, _, rfl, hS8, hl, by omega, by omega, by decide, by decide, fun v d9 H9 s9 dv tv => ?_⟩
    walk_at "go"
    refine ⟨us, s9 _ _ g8, sz5 (by omega), ob ⟨same_put (s8.trans s9) nWS, us ++ [v], kds ++ [d9], upd_same, ?_, fun k hk => ?_, by rw [List.length_append, l8]; rfl⟩⟩
    · have t := Tups.put (o := HO.lst (us ++ [v])) (fun vs (z : H9 WS = some (.tup vs)) => by rw [s9 _ _ g8] at z; cases z)
      exact DhAll.snoc (DhAll.tups t _ _ (noLs_of fun k hk => .inr (t8 k hk)) (DhAll.mono s9 _ _ d8)) (Dh.tups t _ _ (opt_noL (.inr tv)) dv)
    · rcases List.mem_append.mp hk with z | z
      · exact t8 k z
      · obtain rfl : k = d9 := by simpa using z
        exact tv
  intro H3 h
  obtain ⟨s3, ws, wds, g3, d3, tw, l3⟩ := unob h
  clear h
  have gN3 := s3 _ _ gN
  have gK3 := s3 _ _ gK2
  have dK3 := DhAll.mono s3 _ _ dK2
  have s3 := s2.trans s3
  clear gN gK2 dK2 s2 hS2
  try dsimp only
  walk_at "go"
  have lus := dK3.len
  have lws := d3.len
  refine ⟨N, WS, _, _, rfl, rfl, gN3, g3, Nat.le_of_lt (sz5 (by show 1 + ws.length ≤ _; omega)), fun VS nVS => ?_⟩
  have sV := same_upd (o := HO.lst ([V.non] ++ ws)) nVS
  have hV : LA (upd H3 VS (.lst ([V.non] ++ ws))) VS ([PyData.none] ++ wds) := ⟨_, upd_same, dh_app (ds := [PyData.none]) (us := [V.non]) ⟨_, _, rfl, rfl, rfl⟩ (DhAll.mono sV _ _ d3)⟩
  have hK : LA (upd H3 VS (.lst ([V.non] ++ ws))) KS kds := ⟨us, sV _ _ gK3, DhAll.mono sV _ _ dK3⟩
  have s4 := s3.trans sV
  have tv : ∀ v ∈ [PyData.none] ++ wds, Opt v := fun v hv => by
    rcases List.mem_append.mp hv with z | z
    · obtain rfl : v = .none := by simpa using z
      exact .inl rfl
    · exact .inr (tw v z)
  have v1 : 2 ≤ ([PyData.none] ++ wds).length ∧ ([PyData.none] ++ wds).length ≤ 4 := by
    rw [List.length_append]
    show 2 ≤ 1 + wds.length ∧ 1 + wds.length ≤ 4
    omega
  have k1 : 1 ≤ kds.length ∧ kds.length ≤ 70 := by omega
  show _
  generalize upd H3 VS (HO.lst ([V.non] ++ ws)) = H4 at *
  generalize [PyData.none] ++ wds = vds at *
  clear s3 sV gN3 g3 d3 gK3 dK3 nVS nKS tw lws lus l1 l3 us ws wds
  have hS4 := s4.seq hS
  have u0 : 0 ≤ num ns 0 11 7 := num_nn (by decide)
  have u1 : num ns 0 11 7 < 7 := num_lt (by decide)
  walk_at "go"
  refine ⟨sz, fun p hp => ?_⟩
  have s5 := s4.trans (same_upd (o := HO.lst [V.int 1, V.int 2, V.int 3, V.int 2, V.int 1, V.int 4, V.int 0]) hp)
  have gp := upd_same (H := H4) (a := p) (o := HO.lst [V.int 1, V.int 2, V.int 3, V.int 2, V.int 1, V.int 4, V.int 0])
  have hK := hK.same (same_upd (o := HO.lst [V.int 1, V.int 2, V.int 3, V.int 2, V.int 1, V.int 4, V.int 0]) hp)
  have hV := hV.same (same_upd (o := HO.lst [V.int 1, V.int 2, V.int 3, V.int 2, V.int 1, V.int 4, V.int 0]) hp)
  have hS5 := s5.seq hS
  show _
  generalize upd H4 p (HO.lst [V.int 1, V.int 2, V.int 3, V.int 2, V.int 1, V.int 4, V.int 0]) = H5 at *
  clear s4 hS4 hp
  walk_at "go"
  obtain ⟨c, c0, c4, ec⟩ : ∃ c : Int, 0 ≤ c ∧ c ≤ 64 ∧ atI [V.int 1, V.int 2, V.int 3, V.int 2, V.int 1, V.int 4, V.int 0] (num ns 0 11 7) = some (.int c) := by
    have h4 : num ns 0 11 7 = 0 ∨ num ns 0 11 7 = 1 ∨ num ns 0 11 7 = 2 ∨ num ns 0 11 7 = 3 ∨ num ns 0 11 7 = 4 ∨ num ns 0 11 7 = 5 ∨ num ns 0 11 7 = 6 := by omega
    rcases h4 with e | e | e | e | e | e | e <;> rw [e]
    · exact ⟨1, by decide, by decide, rfl⟩
    · exact ⟨2, by decide, by decide, rfl⟩
    · exact ⟨3, by decide, by decide, rfl⟩
    · exact ⟨2, by decide, by decide, rfl⟩
    · exact ⟨1, by decide, by decide, rfl⟩
    · exact ⟨4, by decide, by decide, rfl⟩
    · exact ⟨0, by decide, by decide, rfl⟩
  refine ⟨_, _, _, _, rfl, rfl, SqL.of gp, ec, ?_⟩
  clear ec u0 u1 gp
  have m0 : 0 ≤ num ns 0 0 41 := num_nn (by decide)
  have m1 : num ns 0 0 41 < 41 := num_lt (by decide)
  have f0 : 0 ≤ num ns 0 3 8 := num_nn (by decide)
  have f1 : num ns 0 3 8 < 8 := num_lt (by decide)
  walk_at "go"
  refine ⟨sz, fun HD nHD => ?_⟩
  have sD := same_upd (o := HO.lst []) nHD
  have hK := hK.same sD
  have hV := hV.same sD
  have hD : TrAt (upd H5 HD (.lst [])) HD [] := ⟨[], upd_same, rfl⟩
  have s6 := s5.trans sD
  show _
  generalize upd H5 HD (HO.lst []) = H6 at *
  clear s5 hS5 sD nHD
  generalize num ns 0 0 41 = m' at *
  generalize num ns 0 3 8 = fm at *
  refine jnS (M := fun σ H' => ∃ m : Int, 0 ≤ m ∧ m ≤ 40 ∧ H' = H6 ∧ σ = [sR a, some (.bl fl), some (.bl few), sR KS, none, sR VS, sI c, sI m, sI fm, sR HD, none, none, none]) ?_ (fun N kk => ?_)
  rotate_left
  · walk_at "go"
    cases few with
    | false =>
      refine ifBF rfl ?_
      walk_at "go"
      exact kk _ _ ⟨m', m0, by omega, rfl, rfl⟩
    | true =>
      refine ifBT rfl ?_
      walk_at "go"
      refine ifD (fun _ => ?_) (fun _ => ?_)
      · walk_at "go"
        exact kk _ _ ⟨m' % 10, by omega, by omega, rfl, rfl⟩
      · walk_at "go"
        exact kk _ _ ⟨m', m0, by omega, rfl, rfl⟩
  clear m0 m1
  rintro σ H7 ⟨m, m0, m1, rfl, rfl⟩
  refine jnS (M := fun σ H' => ∃ KS kds, Same H7 H' ∧ LA H' KS kds ∧ (∀ k ∈ kds, Thing k) ∧ 1 ≤ kds.length ∧ kds.length ≤ 70 ∧ σ = [sR a, some (.bl fl), some (.bl few), sR KS, none, sR VS, sI c, sI m, sI fm, sR HD, none, none, none]) ?_ (fun N kk => ?_)
  rotate_left
  · walk_at "go"
    refine ifEq (fun _ => ?_) (fun _ => ?_)
    · walk_at "go"
      refine ⟨sz, fun p0 n0 => ?_⟩
      have e0 := same_upd (o := HO.tup [V.int 1]) n0
      have g0 := upd_same (H := H7) (a := p0) (o := HO.tup [V.int 1])
      show _
      generalize upd H7 p0 (HO.tup [V.int 1]) = H8 at *
      walk_at "go"
      refine ⟨sz, fun p1 n1 => ?_⟩
      have e1 := same_upd (o := HO.tup [V.str "1"]) n1
      have g1 := upd_same (H := H8) (a := p1) (o := HO.tup [V.str "1"])
      have g0 := e1 _ _ g0
      have e1 := e0.trans e1
      show _
      generalize upd H8 p1 (HO.tup [V.str "1"]) = H9 at *
      walk_at "go"
      refine ⟨sz, fun E nE => ?_⟩
      have e2 := same_upd (o := HO.lst [V.int 1, V.str "1", V.ref p0, V.ref p1, V.int 0]) nE
      have g2 := upd_same (H := H9) (a := E) (o := HO.lst [V.int 1, V.str "1", V.ref p0, V.ref p1, V.int 0])
      have g0 := e2 _ _ g0
      have g1 := e2 _ _ g1
      show _
      generalize upd H9 E (HO.lst [V.int 1, V.str "1", V.ref p0, V.ref p1, V.int 0]) = H10 at *
      have tn : ∀ k ∈ [PyData.int 1, .str "1", .tuple [.int 1], .tuple [.str "1"], .int 0], Thing k := fun k hk => by
        simp only [List.mem_cons, List.not_mem_nil, or_false] at hk
        rcases hk with rfl | rfl | rfl | rfl | rfl
        · trivial
        · exact okk_one
        · exact ⟨by decide, fun d hd => by obtain rfl : d = .int 1 := by simpa using hd
                                           trivial⟩
        · exact ⟨by decide, fun d hd => by obtain rfl : d = .str "1" := by simpa using hd
                                           exact okk_one⟩
        · trivial
      walk_at "go"
      exact kk _ _ ⟨E, [PyData.int 1, .str "1", .tuple [.int 1], .tuple [.str "1"], .int 0], e1.trans e2, ⟨_, g2, _, _, rfl, rfl, _, _, rfl, rfl, _, _, rfl, ⟨p0, _, rfl, g0, _, _, rfl, rfl, rfl⟩, _, _, rfl, ⟨p1, _, rfl, g1, _, _, rfl, rfl, rfl⟩, _, _, rfl, rfl, rfl⟩, tn, by decide, by decide, rfl⟩
    · walk_at "go"
      exact kk _ _ ⟨KS, kds, same_rfl, hK, tk, k1.1, k1.2, rfl⟩
  clear hK tk k1
  rintro σ H8 ⟨KS, kds, s8, hK, tk, k1, k2, rfl⟩
  have hV := hV.same s8
  have hD := hD.same s8
  have s8 := s6.trans s8
  clear s6
  refine jnS (M := fun σ H' => ∃ KS kds HD hd c x, Same H H' ∧ LA H' KS kds ∧ LA H' VS vds ∧ (∀ k ∈ kds, Thing k) ∧ 1 ≤ kds.length ∧ kds.length ≤ 70 ∧ TrAt H' HD hd ∧ (∀ e ∈ hd, e.ok) ∧ NoF hd ∧ hd.length ≤ 140 ∧ (fm = 6 → hd = []) ∧ 0 ≤ c ∧ c ≤ 64 ∧ σ = [sR a, some (.bl fl), some (.bl few), sR KS, none, sR VS, sI c, sI m, sI fm, sR HD, x, none, none]) ?_ (fun N kk => ?_)
  rotate_left
  · have hS8 := s8.seq hS
    have w0 : 0 ≤ num ns 0 1 65 := num_nn (by decide)
    have w1 : num ns 0 1 65 < 65 := num_lt (by decide)
    have x0 : 0 ≤ num ns 0 14 6 := num_nn (by decide)
    have x1 : num ns 0 14 6 < 6 := num_lt (by decide)
    walk_at "go"
    refine ifEq (fun f7 => ?_) (fun _ => ?_)
    · have q0 : 0 ≤ num ns 0 1 65 / (1 + num ns 0 14 6) := Int.ediv_nonneg w0 (by omega)
      have q1 : num ns 0 1 65 / (1 + num ns 0 14 6) ≤ 64 := Int.le_trans (Int.ediv_le_self _ w0) (by omega)
      walk_at "go"
      generalize num ns 0 1 65 / (1 + num ns 0 14 6) = mq at *
      clear w0 w1 x0 x1
      refine ⟨by omega, by omega, fun K2 nK2 => lc_range (lo := 0) (n := (6 + mq).toNat) (fun j H' => Ob (Same H8 H' ∧ ∃ is : List Int, H' K2 = some (.lst (is.map V.int)) ∧ is.length = j)) (ob ⟨same_upd nK2, [], upd_same, rfl⟩) ?_ ?_⟩
      · intro j H9 hj h
        obtain ⟨s9, is, g9, l9⟩ := unob h
        clear h
        refine ⟨rfl, ?_⟩
        rw [Int.zero_add]
        walk_at "go"
        refine ⟨is.map V.int, g9, sz5 (by rw [List.length_map]; omega), ob ⟨same_put s9 nK2, is ++ [1000 + 7 * (j : Int)], ?_, by rw [List.length_append, l9]; rfl⟩⟩
        rw [upd_same, List.map_append]
        rfl
      intro H9 h
      obtain ⟨s9, is, g9, l9⟩ := unob h
      clear h
      have e0 : 0 ≤ num ns 0 2 5 := num_nn (by decide)
      have e1 : num ns 0 2 5 < 5 := num_lt (by decide)
      have hS9 := s9.seq hS8
      obtain ⟨us, gv, dv⟩ := hV.same s9
      have lus := dv.len
      try dsimp only
      walk_at "go"
      refine ⟨_, _, rfl, ?_⟩
      obtain ⟨c2, ec2⟩ : ∃ x, x = (if 6 + mq - 3 + num ns 0 2 5 < 64 then 6 + mq - 3 + num ns 0 2 5 else 64) := ⟨_, rfl⟩
      have c20 : 0 ≤ c2 ∧ c2 ≤ 64 := by
        rw [ec2]
        split <;> omega
      rw [← ec2]
      clear ec2 e0 e1
      obtain ⟨v1, vd1, ev1, mv1, dv1⟩ := pick_of (j := 1) dv (by decide) (by omega)
      have o1 := tv vd1 mv1
      walk_at "go"
      refine ⟨⟨_, SqL.of g9⟩, fun N1 nN1 => lc_list (K := K) (a := K2) (xs := is.map V.int) (fun i H' => Ob (∃ evs, Fil H9 H' N1 evs ∧ evs.length = i ∧ NoF evs)) (ob ⟨[], ⟨same_upd nN1, nN1, ⟨[], upd_same, rfl⟩, (fun _ h => by cases h)⟩, rfl, (fun _ h => by cases h)⟩) (fun i H' _ h => ?_) ?_ ?_⟩
      · obtain ⟨evs, ff, _⟩ := unob h
        exact SqL.of (ff.s _ _ g9)
      · intro i v H' hi h
        obtain ⟨evs, ff, le, ne⟩ := unob h
        clear h
        have hil : i < 80 := by
          have := (List.getElem?_eq_some_iff.mp hi).1
          rw [List.length_map] at this
          omega
        rw [List.getElem?_map] at hi
        obtain ⟨k, ek, rfl⟩ := Option.map_eq_some_iff.mp hi
        clear ek hi
        obtain ⟨zs, gN, dN⟩ := ff.t
        have lzs := dN.len
        rw [List.length_map] at lzs
        have gv2 := ff.s _ _ gv
        have dv2 := Dh.mono ff.s _ _ dv1
        walk_at "go"
        refine ⟨sz, fun p hp => ?_⟩
        have s3 := same_upd (o := HO.tup [V.str "set", V.int k, v1]) hp
        have gp := upd_same (H := H') (a := p) (o := HO.tup [V.str "set", V.int k, v1])
        have g3 := s3 _ _ gN
        have d3 := DhAll.mono s3 _ _ dN
        have f3 := ff.same s3
        have dv3 := Dh.mono s3 _ _ dv2
        show _
        generalize upd H' p (HO.tup [V.str "set", V.int k, v1]) = H3 at *
        exact ⟨zs, g3, sz5 (by omega), ob ⟨evs ++ [.set (.int k) vd1], f3.snoc (e := .set (.int k) vd1) g3 d3 ⟨trivial, o1⟩ ⟨p, _, rfl, gp, _, _, rfl, rfl, _, _, rfl, rfl, _, _, rfl, dv3, rfl⟩, by rw [List.length_append, le]; rfl, ne.snoc rfl⟩⟩
      intro H10 h
      obtain ⟨ev1s, ff1, le1, ne1⟩ := unob h
      clear h
      have g10 := ff1.s _ _ g9
      obtain ⟨us1, gN1, dN1⟩ := ff1.t
      have l1 := dN1.len
      rw [List.length_map] at le1 l1
      try dsimp only
      walk_at "go"
      refine ⟨⟨_, SqL.of g10⟩, fun N2 nN2 => lc_list (K := K) (a := K2) (xs := is.map V.int) (fun i H' => Ob (∃ evs, Fil H10 H' N2 evs ∧ evs.length = i ∧ NoF evs)) (ob ⟨[], ⟨same_upd nN2, nN2, ⟨[], upd_same, rfl⟩, (fun _ h => by cases h)⟩, rfl, (fun _ h => by cases h)⟩) (fun i H' _ h => ?_) ?_ ?_⟩
      · obtain ⟨evs, ff, _⟩ := unob h
        exact SqL.of (ff.s _ _ g10)
      · intro i v H' hi h
        obtain ⟨evs, ff, le, ne⟩ := unob h
        clear h
        have hil : i < 80 := by
          have := (List.getElem?_eq_some_iff.mp hi).1
          rw [List.length_map] at this
          omega
        rw [List.getElem?_map] at hi
        obtain ⟨k, ek, rfl⟩ := Option.map_eq_some_iff.mp hi
        clear ek hi
        obtain ⟨zs, gN, dN⟩ := ff.t
        have lzs := dN.len
        rw [List.length_map] at lzs
        walk_at "go"
        refine ⟨sz, fun p hp => ?_⟩
        have s3 := same_upd (o := HO.tup [V.str "touch", V.int k]) hp
        have gp := upd_same (H := H') (a := p) (o := HO.tup [V.str "touch", V.int k])
        have g3 := s3 _ _ gN
        have d3 := DhAll.mono s3 _ _ dN
        have f3 := ff.same s3
        show _
        generalize upd H' p (HO.tup [V.str "touch", V.int k]) = H3 at *
        exact ⟨zs, g3, sz5 (by omega), ob ⟨evs ++ [.touch (.int k)], f3.snoc (e := .touch (.int k)) g3 d3 trivial ⟨p, _, rfl, gp, _, _, rfl, rfl, _, _, rfl, rfl, rfl⟩, by rw [List.length_append, le]; rfl, ne.snoc rfl⟩⟩
      intro H11 h
      obtain ⟨ev2s, ff2, le2, ne2⟩ := unob h
      clear h
      have gN1 := ff2.s _ _ gN1
      have dN1 := DhAll.mono ff2.s _ _ dN1
      obtain ⟨us2, gN2, dN2⟩ := ff2.t
      have l2 := dN2.len
      rw [List.length_map] at le2 l2
      try dsimp only
      walk_at "go"
      refine ⟨N1, N2, _, _, rfl, rfl, gN1, gN2, Nat.le_of_lt (sz5 (by omega)), fun HD2 nD => ?_⟩
      have s12 := same_upd (o := HO.lst (us1 ++ us2)) nD
      have gD := upd_same (H := H11) (a := HD2) (o := HO.lst (us1 ++ us2))
      have sA := s9.trans (ff1.s.trans (ff2.s.trans s12))
      have sB := ff1.s.trans (ff2.s.trans s12)
      have dA := DhAll.mono s12 _ _ (dh_app dN1 dN2)
      rw [← List.map_append] at dA
      show _
      generalize upd H11 HD2 (HO.lst (us1 ++ us2)) = H12 at *
      walk_at "go"
      refine kk _ _ ⟨K2, is.map PyData.int, HD2, ev1s ++ ev2s, c2, _, s8.trans sA, ⟨_, sB _ _ g9, dh_ints is⟩, hV.same sA, ?_, ?_, ?_, ⟨_, gD, dA⟩, ?_, ?_, ?_, ?_, c20.1, c20.2, rfl⟩
      · intro k hk
        obtain ⟨i, _, rfl⟩ := List.mem_map.mp hk
        trivial
      · rw [List.length_map]
        omega
      · rw [List.length_map]
        omega
      · intro e he
        rcases List.mem_append.mp he with z | z
        · exact ff1.ok e z
        · exact ff2.ok e z
      · intro e he
        rcases List.mem_append.mp he with z | z
        · exact ne1 e z
        · exact ne2 e z
      · rw [List.length_append]
        omega
      · intro z
        omega
    · walk_at "go"
      exact kk _ _ ⟨KS, kds, HD, [], c, none, s8, hK, hV, tk, k1, k2, hD, (fun _ h => by cases h), (fun _ h => by cases h), Nat.zero_le _, fun _ => rfl, c0, c4, rfl⟩
  clear hK tk k1 hD hV s8 k2 c0 c4
  rintro σ H9 ⟨KS, kds, HD, hd, c, x, s9, hK, hV, tk, k1, k2, hD, okd, nfd, ld, l6, c0, c4, rfl⟩
  have hS9 := s9.seq hS
  walk_at "go"
  refine ⟨a, KS, VS, m, fl, ns, kds, vds, rfl, hS9, hl, hK, hV, tk, tv, k1, by omega, by omega, v1.2, m0, m1, fun tr evs H10 s10 nt t10 le oe ne => ?_⟩
  obtain ⟨us1, g1, d1⟩ := hD.same s10
  obtain ⟨us2, g2, d2⟩ := t10
  have l1 := d1.len
  have l2 := d2.len
  rw [List.length_map] at l1 l2
  walk_at "go"
  refine ⟨HD, tr, _, _, rfl, rfl, g1, g2, Nat.le_of_lt (sz5 (by omega)), fun TR nTR => ?_⟩
  have s11 := same_upd (o := HO.lst (us1 ++ us2)) nTR
  have gT := upd_same (H := H10) (a := TR) (o := HO.lst (us1 ++ us2))
  have dT := DhAll.mono s11 _ _ (dh_app d1 d2)
  have nT : H TR = none := (s9.trans s10).free nTR
  have sE := s9.trans (s10.trans s11)
  show _
  generalize upd H10 TR (HO.lst (us1 ++ us2)) = H11 at *
  rw [← List.map_append] at dT
  clear g1 d1 g2 d2 s9 s10 s11 nTR nt hK hV hD hS9
  have okA : ∀ e ∈ hd ++ evs, e.ok := fun e he => (List.mem_append.mp he).elim (okd e) (oe e)
  have noA : fl = false → NoF (hd ++ evs) := fun z e he => (List.mem_append.mp he).elim (nfd e) (ne z e)
  have lA : (us1 ++ us2).length = (hd ++ evs).length := by
    rw [List.length_append, List.length_append, l1, l2]
  have lB : (hd ++ evs).length ≤ 180 ∧ (fm = 6 → (hd ++ evs).length ≤ 40) := by
    rw [List.length_append]
    refine ⟨by omega, fun z => ?_⟩
    rw [l6 z]
    show 0 + evs.length ≤ 40
    omega
  generalize us1 ++ us2 = us at *
  generalize hd ++ evs = EV at *
  refine jnS (M := fun σ H' => ∃ TR EV, Same H H' ∧ H TR = none ∧ TrAt H' TR EV ∧ EV.length ≤ 240 ∧ (∀ e ∈ EV, e.ok) ∧ (fl = false → NoF EV) ∧ σ = [sR a, some (.bl fl), some (.bl few), sR KS, none, sR VS, sI c, sI m, sI fm, sR HD, x, none, sR TR]) ?_ (fun N kk => ?_)
  rotate_left
  · have hS11 := sE.seq hS
    have w0 : 0 ≤ num ns 0 12 5 := num_nn (by decide)
    have w1 : num ns 0 12 5 < 5 := num_lt (by decide)
    walk_at "go"
    refine ifEq (fun f6 => ?_) (fun _ => ?_)
    · walk_at "go"
      generalize num ns 0 12 5 = rp at *
      have l40 := lB.2 f6
      have hm : us.length * (2 + rp).toNat ≤ 240 := Nat.mul_le_mul (show us.length ≤ 40 by omega) (show (2 + rp).toNat ≤ 6 by omega)
      refine ⟨_, _, _, rfl, rfl, gT, by omega, by omega, Nat.le_of_lt (sz5 (by omega)), fun T2 nT2 => ?_⟩
      have s12 := same_upd (o := HO.lst (List.replicate (2 + rp).toNat us).flatten) nT2
      have dR := dh_rep (DhAll.mono s12 _ _ dT) (2 + rp).toNat
      rw [← List.map_replicate, ← List.map_flatten] at dR
      have mem : ∀ e, e ∈ (List.replicate (2 + rp).toNat EV).flatten → e ∈ EV := fun e he => by
        obtain ⟨l, hl, hel⟩ := List.mem_flatten.mp he
        rw [List.eq_of_mem_replicate hl] at hel
        exact hel
      walk_at "go"
      refine kk _ _ ⟨T2, _, sE.trans s12, sE.free nT2, ⟨_, upd_same, dR⟩, ?_, fun e he => okA e (mem e he), fun z e he => noA z e (mem e he), rfl⟩
      rw [List.length_flatten, List.map_replicate, List.sum_replicate_nat, ← lA, Nat.mul_comm]
      exact hm
    · walk_at "go"
      exact kk _ _ ⟨TR, EV, sE, nT, ⟨us, gT, dT⟩, by omega, okA, noA, rfl⟩
  clear nT gT dT sE okA noA lA lB
  rintro σ H12 ⟨TR, EV, s12, nT, t12, l12, okA, noA, rfl⟩
  walk_at "go"
  refine ⟨sz, fun p np => ?_⟩
  have s13 := same_upd (o := HO.tup [V.ref TR, V.int c]) np
  walk_at "go"
  exact q p TR c EV _ (s12.trans s13) nT upd_same (t12.same s13) l12 okA noA c0 c4
end

end

/-! ### traces as data -/
theorem TrAt.dh {H : Hp} {tr : Addr} {evs : List Ev} (h : TrAt H tr evs) : Dh H (.list (evs.map Ev.dat)) (.ref tr) := by
  obtain ⟨us, g, d⟩ := h
  exact ⟨tr, us, rfl, g, d⟩
theorem dle_evs {evs : List Ev} (l : evs.length ≤ 100000) (h : ∀ e ∈ evs, e.ok) : Dle 5 (.list (evs.map Ev.dat)) := by
  refine ⟨by rw [List.length_map]; exact l, fun d hd => ?_⟩
  obtain ⟨x, hx, rfl⟩ := List.mem_map.mp hd
  have ox := h x hx
  cases x with
  | set k v =>
    refine ⟨(by decide : 3 ≤ 100000), fun e he => ?_⟩
    simp only [List.mem_cons, List.not_mem_nil, or_false] at he
    rcases he with rfl | rfl | rfl
    · trivial
    · exact dle_up (dle_opt (.inr ox.1))
    · exact dle_up (dle_opt ox.2)
  | touch k =>
    refine ⟨(by decide : 2 ≤ 100000), fun e he => ?_⟩
    simp only [List.mem_cons, List.not_mem_nil, or_false] at he
    rcases he with rfl | rfl
    · trivial
    · exact dle_up (dle_opt (.inr ox))
  | flush =>
    refine ⟨(by decide : 1 ≤ 100000), fun e he => ?_⟩
    simp only [List.mem_cons, List.not_mem_nil, or_false] at he
    subst he
    trivial
theorem TrAt.put {H : Hp} {tr L : Addr} {evs : List Ev} {xs : List V} {o : HO} (h : TrAt H tr evs) (ok : ∀ e ∈ evs, e.ok) (g : H L = some (.lst xs)) (n : tr ≠ L) : TrAt (upd H L o) tr evs := by
  obtain ⟨us, gt, d⟩ := h
  exact ⟨us, by rw [upd_ne n]; exact gt, DhAll.tups (Tups.put fun vs z => by rw [g] at z; cases z) _ _ (dats_noL ok) d⟩
theorem out_put {H : Hp} {r L : Addr} {os : List DE} {xs : List V} {o : HO} (h : Dh H (.list (os.map pr2)) (.ref r)) (ok : ∀ x ∈ os, Opt x.1 ∧ Opt x.2) (g : H L = some (.lst xs)) (n : r ≠ L) : Dh (upd H L o) (.list (os.map pr2)) (.ref r) := by
  obtain ⟨r', us, er, gr, d⟩ := h
  cases er
  exact ⟨r, us, rfl, by rw [upd_ne n]; exact gr, DhAll.tups (Tups.put fun vs z => by rw [g] at z; cases z) _ _ (pr2s_noLO ok) d⟩

/-! ### footprints -/
def foot (L : Addr) (rs : List (Addr × MEnt)) : List Addr := L :: rs.map (·.1)
def Off (F : List Addr) (H H' : Hp) : Prop := ∀ b o, b ∉ F → H b = some o → H' b = some o
def Dj (F G : List Addr) : Prop := ∀ a ∈ F, a ∉ G
theorem Dj.symm {F G : List Addr} (h : Dj F G) : Dj G F := fun a ha hb => h a hb ha
theorem Off.but {F : List Addr} {H H' : Hp} {L : Addr} (b : But H H' L) (h : L ∈ F) : Off F H H' := fun a o n z => b a o (fun y => n (y ▸ h)) z
theorem Off.of {H H' : Hp} {L : Addr} {rs : List (Addr × MEnt)} (b : ∀ b o, b ≠ L → b ∉ rs.map (·.1) → H b = some o → H' b = some o) : Off (foot L rs) H H' := fun a o n z => b a o (fun y => n (List.mem_cons.mpr (.inl y))) (fun y => n (List.mem_cons_of_mem _ y)) z
theorem Off.same {F : List Addr} {H H' : Hp} (s : Same H H') : Off F H H' := fun a o _ z => s a o z
section
variable {H H' : Hp} {L : Addr} {rs : List (Addr × MEnt)}
theorem KeptAt.live (h : KeptAt H L rs) : ∀ a ∈ foot L rs, ∃ us, H a = some (.lst us) := fun a ha => by
  rcases List.mem_cons.mp ha with rfl | z
  · exact ⟨_, h.g⟩
  · obtain ⟨r, hr, rfl⟩ := List.mem_map.mp z
    exact ⟨_, (h.e r hr).1⟩
theorem Off.tups {F : List Addr} (b : Off F H H') (h : ∀ a ∈ F, ∃ us, H a = some (.lst us)) : Tups H H' := fun a us z => b a _ (fun y => by
  obtain ⟨vs, g⟩ := h a y
  rw [g] at z
  cases z) z
theorem KeptAt.off {F : List Addr} (h : KeptAt H L rs) (b : Off F H H') (t : Tups H H') (d : Dj (foot L rs) F) : KeptAt H' L rs :=
  ⟨b _ _ (d L List.mem_cons_self) h.g, fun r hr => by
    obtain ⟨k1, k2, k3, k4, k5⟩ := h.e r hr
    exact ⟨b _ _ (d r.1 (List.mem_cons_of_mem _ (List.mem_map.mpr ⟨r, hr, rfl⟩))) k1, k2, k3, Dh.tups t _ _ (opt_noL (.inr k2)) k4, Dh.tups t _ _ (opt_noL k3) k5⟩, h.nd, h.ad, h.nl, h.l⟩
end
/-- a footprint that grows by free places stays off one that is held -/
theorem Dj.new {F F' G : List Addr} {H : Hp} (d : Dj F G) (f : ∀ a ∈ F', a ∈ F ∨ H a = none) (g : ∀ a ∈ G, ∃ us, H a = some (.lst us)) : Dj F' G := fun a ha hb => by
  rcases f a ha with z | z
  · exact d a z hb
  · obtain ⟨us, e⟩ := g a hb
    rw [z] at e
    cases e

section

-- a condition of an operator
local macro_rules | `(tactic| walk_at "cond") => `(tactic| first
  | (show (0 : Int) < _; omega)
  | (show CDiv _ _; constructor <;> (first | decide | omega))
  | (show CMul _ _; first | (refine cmul_l ?_; constructor <;> (first | decide | omega)) | (refine cmul_r ?_; constructor <;> (first | decide | omega)))
  | (show CPow _ _; exact (by refine ⟨by decide, by decide, by decide⟩))
  | (show CDivW _ _; exact ⟨by decide, by decide +kernel⟩))
local macro_rules | `(tactic| walk_at "sq") => `(tactic| first | assumption | exact Dh.mono (same_upd (by assumption)) _ _ (by assumption) | exact .inl (.inl (.inl (by assumption))) | exact .inr (.inl (.inl (by assumption))) | exact SqL.of (by assumption) | exact .inl (by assumption) | exact .inl (SqL.of (by assumption)) | exact SqT.of (by assumption) | exact .inr (SqT.of (by assumption)))
local macro_rules | `(tactic| walk_at "st") => `(tactic| first
  | refine ⟨_, rfl, ?_⟩
  | refine ⟨_, _, rfl, rfl, ?_⟩
  | refine .inl ⟨_, rfl, ?_⟩
  | refine ⟨rfl, ?_⟩
  | refine ⟨_, _, rfl, by walk_at "sq", ?_⟩
  | refine ⟨.inl ⟨rfl, _, SqL.of (by assumption)⟩, ?_⟩
  | refine ⟨by walk_at "cond", ?_⟩
  | (refine' ifBT ?hh ?_; (case hh => first | rfl | assumption))
  | (refine' ifBF ?hh ?_; (case hh => first | rfl | assumption)))
local macro_rules | `(tactic| walk_at "go") => `(tactic| repeat walk_at "st")
local macro_rules | `(tactic| walk_at "yes") => `(tactic| (refine' ifT ?hh ?_; (case hh => first | rfl | decide +kernel)))
local macro_rules | `(tactic| walk_at "no") => `(tactic| (refine' ifF ?hh ?_; (case hh => first | decide +kernel | (intro z; cases z; done))))

-- facts carried to the heap at hand, from the facts of the context
local macro_rules | `(tactic| walk_at "lnk") => `(tactic| first | assumption | exact same_upd (by assumption))
local macro_rules | `(tactic| walk_at "sm") => `(tactic| first | walk_at "lnk" | exact same_rfl | (refine Same.trans ?_ (by walk_at "lnk"); walk_at "sm"))
local macro_rules | `(tactic| walk_at "at") => `(tactic| first | assumption | exact upd_same | (refine Same.get (by walk_at "lnk") ?_; walk_at "at"))
local macro_rules | `(tactic| walk_at "ix") => `(tactic| first
  | exact atI_nat (j := 0) rfl | exact atI_nat (j := 1) rfl | exact atI_nat (j := 2) rfl | exact atI_nat (j := 3) rfl
  | exact atI_nat (j := 4) rfl | exact atI_nat (j := 5) rfl | exact atI_nat (j := 6) rfl | assumption)
local macro_rules | `(tactic| walk_at "sT") => `(tactic| first | exact SqT.of (by walk_at "at") | exact SqL.of (by walk_at "at"))
local macro_rules | `(tactic| walk_at "st") => `(tactic| refine ⟨_, _, _, _, rfl, rfl, by walk_at "sT", by walk_at "ix", ?_⟩)
local macro_rules | `(tactic| walk_at "side") => `(tactic| first | rfl | assumption | walk_at "at" | walk_at "sm" | omega | decide)
-- a call: the promise's letters from its arguments, then what is asked from the context
local macro_rules | `(tactic| walk_at "call") => `(tactic| ((repeat (apply Exists.intro)); refine And.intro rfl ?_; repeat (refine And.intro (by walk_at "side") ?_)))

local macro_rules | `(tactic| walk_at "st") => `(tactic| refine ⟨_, _, _, _, _, rfl, by assumption, by assumption, by omega, by omega, by omega, by omega, by omega, ?_⟩)
local macro_rules | `(tactic| walk_at "st") => `(tactic| refine ⟨_, _, _, _, _, rfl, Same.seq (by assumption) (by assumption), by assumption, by omega, by omega, by omega, by omega, by omega, ?_⟩)

/-! ### _law_trace_values -/
abbrev s_trace_values : Stmt := topS 20
theorem sc_trace_values : FnScope ["_law_trace", "_law_table", "_law_values", "_law_event"] ["_law_trace"] (C8.fnScope s_trace_values) := C8.fnScope_by (by decide +kernel)
def Ev.key : Ev → PyData
  | .set k _ => k
  | .touch k => k
  | .flush => .none
noncomputable def valD (evs : List Ev) (j : Nat) : PyData := match evs[j]? with
  | some e => tabN evs (j + 1) e.key
  | none => .none
theorem valD_some {evs : List Ev} {j : Nat} {e : Ev} (h : evs[j]? = some e) : valD evs j = tabN evs (j + 1) e.key := by
  unfold valD
  rw [h]
theorem valD_touch {evs : List Ev} {j : Nat} {k : PyData} (h : evs[j]? = some (.touch k)) : valD evs j = tabN evs j k := by
  rw [valD_some h, tabN_no (fun k v z => by rw [h] at z; cases z)]
  rfl
noncomputable def valsD (evs : List Ev) : List PyData := (List.range evs.length).map (valD evs)
theorem valD_opt {evs : List Ev} (ok : ∀ e ∈ evs, e.ok) (j : Nat) : Opt (valD evs j) := by
  unfold valD
  split
  · exact tabN_opt ok _ _
  · exact .inl rfl
theorem vals_noL {evs : List Ev} (ok : ∀ e ∈ evs, e.ok) (n : Nat) : noLs ((List.range n).map (valD evs)) = true := noLs_of fun d hd => by
  obtain ⟨j, _, rfl⟩ := List.mem_map.mp hd
  exact valD_opt ok j
theorem vals_at {H : Hp} {evs : List Ev} {us : List V} {j : Nat} (d : DhAll H (valsD evs) us) (h : j < evs.length) : ∃ v, us[j]? = some v ∧ Dh H (valD evs j) v :=
  d.get (by unfold valsD; rw [List.getElem?_map, List.getElem?_range h]; rfl)
theorem ev_key {H : Hp} {e : Ev} {t : Addr} (d : Dh H e.dat (.ref t)) (nf : e.isF = false) : ∃ k vs, H t = some (.tup (.str e.nm :: k :: vs)) ∧ Dh H e.key k := by
  cases e with
  | set k v =>
    obtain ⟨_, us, et, g, x, _, rfl, rfl, y, _, rfl, dy, _⟩ := d
    cases et
    exact ⟨y, _, g, dy⟩
  | touch k =>
    obtain ⟨_, us, et, g, x, _, rfl, rfl, y, _, rfl, dy, _⟩ := d
    cases et
    exact ⟨y, _, g, dy⟩
  | flush => cases nf
def spVals : Sp := fun vs H Q _ => ∃ (tr : Addr) (evs : List Ev), vs = [.ref tr] ∧ TrAt H tr evs ∧ (∀ e ∈ evs, e.ok) ∧ (∀ e ∈ evs, e.isF = false) ∧ evs.length ≤ 10000 ∧
  ∀ r us H', Same H H' → H r = none → H' r = some (.lst us) → DhAll H' (valsD evs) us → Q (.ref r) H'
structure VPl (H0 H : Hp) (evs : List Ev) (T : Tb) (n : Nat) (TL VL : Addr) (rs : List (Addr × MEnt)) : Prop where
  s : Same H0 H
  t : KeptAt H TL rs
  eT : ktab rs = T
  o : ∃ us, H VL = some (.lst us) ∧ DhAll H ((List.range n).map (valD evs)) us
  nT : ∀ a ∈ foot TL rs, H0 a = none
  nV : H0 VL = none
  tv : Dj (foot TL rs) [VL]
section
variable {H0 H H' : Hp} {evs : List Ev} {T : Tb} {n : Nat} {TL VL : Addr} {rs : List (Addr × MEnt)}
theorem VPl.tput {T' : Tb} {rs' : List (Addr × MEnt)} (ok : ∀ e ∈ evs, e.ok) (h : VPl H0 H evs T n TL VL rs) (k : KeptAt H' TL rs') (e : ktab rs' = T') (f : ∀ r ∈ rs', r.1 ∈ rs.map (·.1) ∨ H r.1 = none) (b : ∀ b o, b ≠ TL → b ∉ rs.map (·.1) → H b = some o → H' b = some o) : VPl H0 H' evs T' n TL VL rs' := by
  have b := Off.of b
  have t := b.tups h.t.live
  have f : ∀ a ∈ foot TL rs', a ∈ foot TL rs ∨ H a = none := fun a ha => by
    rcases List.mem_cons.mp ha with rfl | z
    · exact .inl List.mem_cons_self
    · obtain ⟨r, hr, rfl⟩ := List.mem_map.mp z
      exact (f r hr).imp (fun y => List.mem_cons_of_mem _ y) id
  obtain ⟨us, g, d⟩ := h.o
  have vL : ∀ a ∈ [VL], ∃ us, H a = some (.lst us) := fun a ha => by
    obtain rfl : a = VL := by simpa using ha
    exact ⟨us, g⟩
  exact ⟨fun a o z => b a o (fun y => by rw [h.nT a y] at z; cases z) (h.s _ _ z), k, e, ⟨us, b _ _ (fun z => h.tv VL z (by simp)) g, DhAll.tups t _ _ (vals_noL ok n) d⟩, fun a ha => (f a ha).elim (h.nT a) fun z => h.s.free z, h.nV, h.tv.new f vL⟩
theorem VPl.told {us : List V} {v : V} (ok : ∀ e ∈ evs, e.ok) (h : VPl H0 H evs T n TL VL rs) (g : H VL = some (.lst us)) (d : DhAll H ((List.range n).map (valD evs)) us) (dv : Dh H (valD evs n) v) : VPl H0 (upd H VL (.lst (us ++ [v]))) evs T (n + 1) TL VL rs := by
  have b : Off [VL] H (upd H VL (.lst (us ++ [v]))) := Off.but But.put (by simp)
  have t : Tups H (upd H VL (.lst (us ++ [v]))) := Tups.put fun vs z => by rw [g] at z; cases z
  refine ⟨fun a o z => b a o (fun y => by
    obtain rfl : a = VL := by simpa using y
    rw [h.nV] at z
    cases z) (h.s _ _ z), h.t.off b t h.tv, h.eT, ⟨_, upd_same, DhAll.tups t _ _ (vals_noL ok (n + 1)) ?_⟩, h.nT, h.nV, h.tv⟩
  rw [List.range_succ, List.map_append]
  exact DhAll.snoc d dv
end
section
variable {P : Program} {w : World} {K : PySem.W.Frag} {mg : Str → Option Value} {base : Heap}
theorem ok_vals {f : Addr} {fd : FuncData} (Df : Def K mg "_law_trace_values" s_trace_values f fd) (b : Binds K fd ["_law_trace"] []) (T : Txt mg) (c_table_get : Cal P w K mg base 2 "_law_table_get" spTGet []) (c_table_set : Cal P w K mg base 2 "_law_table_set" spTSet []) : Cal P w K mg base 3 "_law_trace_values" spVals [] := by
  refine cal0 Df b .nil sc_trace_values (fun vs H Q E h => ?_) (fun cdv A outer s H vs Q E hr h => ?_)
  · obtain ⟨tr, evs, rfl, _⟩ := h
    rfl
  obtain ⟨tr, evs, rfl, hT, ok, nf, hl, q⟩ := h
  have c_table_get := calI c_table_get
  have c_table_set := calI c_table_set
  refine ⟨_, (pss_cons (ps_set (i := 1) sc_trace_values.nd rfl (.inl rfl) (pe_lst pa_nil))
      (pss_cons (ps_set (i := 2) sc_trace_values.nd rfl (.inl rfl) (pe_lst pa_nil))
      (pss_cons (ps_mk (ps_for PassesOwn.never rfl (pi_list (pv 0)) (pg_name (i := 3) sc_trace_values.nd rfl (.inl rfl))
      (pss_cons (ps_mk (ps_if (pt_cmpR op_eq (pe_ix (ixT K rfl) (pv 3) pe_int (fun _ _ => rfl)) pe_str (nomark _))
      (pss_one (ps_expr (C8.pe_c c_table_set hr (by omega) (by rfl) (pa_cons (pv 1) (pa_cons (pe_ix (ixT K rfl) (pv 3) pe_int (fun _ _ => rfl)) (pa_cons (pe_ix (ixT K rfl) (pv 3) pe_int (fun _ _ => rfl)) pa_nil))))))
      pss_nil))
      (pss_one (ps_expr (pe_bm PySem.F.plainAttrs_list PySem.F.slot_list_append PySem.F.type_list_append mt_append (pv 2) (pa_cons (C8.pe_c c_table_get hr (by omega) (by rfl) (pa_cons (pv 1) (pa_cons (pe_ix (ixT K rfl) (pv 3) pe_int (fun _ _ => rfl)) pa_nil))) pa_nil)))))))
      (pss_one (ps_ret (pv 2)))))), ?_⟩
  walk_at "go"
  refine ⟨sz, fun TL nT => ?_⟩
  walk_at "go"
  refine ⟨sz, fun VL nV => ?_⟩
  have sT := same_upd (o := HO.lst []) nT
  have sV := same_upd (o := HO.lst []) nV
  have gT := upd_same (H := H) (a := TL) (o := HO.lst [])
  have gV := upd_same (H := upd H TL (.lst [])) (a := VL) (o := HO.lst [])
  have nTV := ne_of_none gT nV
  have st0 : VPl H (upd (upd H TL (.lst [])) VL (.lst [])) evs (tabN evs 0) 0 TL VL [] :=
    ⟨sT.trans sV, ⟨sV _ _ gT, (fun _ h => by cases h), .nil, .nil, (fun _ h => by cases h), Nat.zero_le _⟩, rfl, ⟨[], gV, rfl⟩, fun a ha => by
      have e : a = TL := List.mem_singleton.mp ha
      rw [e]
      exact nT, sT.free nV, fun a ha hb => by
      have e : a = TL := List.mem_singleton.mp ha
      have e2 : a = VL := List.mem_singleton.mp hb
      exact nTV (e.symm.trans e2)⟩
  show _
  generalize upd (upd H TL (HO.lst [])) VL (HO.lst []) = H2 at *
  clear sT sV gT gV nTV nT nV
  obtain ⟨us, gt, dt⟩ := hT
  have lus := dt.len
  rw [List.length_map] at lus
  have gt2 := st0.s _ _ gt
  refine jnS (M := fun σ H' => ∃ rs y, VPl H H' evs (tabN evs evs.length) evs.length TL VL rs ∧ σ = [sR tr, sR TL, sR VL, y]) ?_ (fun N kk => ?_)
  · rintro σ H3 ⟨rs, y, st, rfl⟩
    walk_at "go"
    obtain ⟨vs, g, d⟩ := st.o
    exact q VL vs H3 st.s st.nV g d
  walk_at "go"
  refine ⟨⟨_, SqL.of gt2⟩, for_list (K := K) (a := tr) (xs := us) (fun j σ H' => Ob (∃ rs y, VPl H H' evs (tabN evs j) j TL VL rs ∧ rs.length ≤ j ∧ σ = [sR tr, sR TL, sR VL, y])) (ob ⟨[], none, st0, Nat.le_refl _, rfl⟩) (fun j σ H' _ h => by
    obtain ⟨rs, y, st, _⟩ := unob h
    exact SqL.of (st.s _ _ gt)) ?_ ?_⟩
  rotate_left
  · intro σ H3 h
    obtain ⟨rs, y, st, _, rfl⟩ := unob h
    rw [lus] at st
    exact kk _ _ ⟨rs, y, st, rfl⟩
  intro j v σ H3 hv h
  obtain ⟨rs, y, st, lr, rfl⟩ := unob h
  clear h st0 gt2 kk q
  have hj : j < evs.length := by
    rw [← lus]
    exact (List.getElem?_eq_some_iff.mp hv).1
  obtain ⟨ev, hev⟩ : ∃ ev, evs[j]? = some ev := ⟨_, List.getElem?_eq_getElem hj⟩
  obtain ⟨e1, et, dt2⟩ := ev_at dt hev
  rw [hv] at et
  cases et
  have oke := ok ev (List.mem_of_getElem? hev)
  have nfe := nf ev (List.mem_of_getElem? hev)
  have dt2 := Dh.mono st.s _ _ dt2
  have vj := valD_some hev
  -- after the setting
  refine jnS (M := fun σ H' => ∃ rs k ws, VPl H H' evs (tabN evs (j + 1)) j TL VL rs ∧ rs.length ≤ j + 1 ∧ H' e1 = some (.tup (.str ev.nm :: k :: ws)) ∧ Dh H' ev.key k ∧ σ = [sR tr, sR TL, sR VL, sR e1]) ?_ (fun N kk => ?_)
  rotate_left
  · cases ev with
    | flush => cases nfe
    | touch kd =>
      obtain ⟨_, us2, et2, gw, _, _, rfl, rfl, k, _, rfl, dk, rfl⟩ := dt2
      cases et2
      have eT : tabN evs (j + 1) = tabN evs j := tabN_no (fun k v z => by rw [hev] at z; cases z)
      walk_at "go"
      exact kk _ _ ⟨rs, k, [], by rw [eT]; exact st, by omega, gw, dk, rfl⟩
    | set kd vd =>
      obtain ⟨_, us2, et2, gw, _, _, rfl, rfl, k, _, rfl, dk, v, _, rfl, dv, rfl⟩ := dt2
      cases et2
      obtain ⟨tk, ov⟩ := oke
      have eT := tabN_set hev
      walk_at "go"
      refine SpI.mk (tset_mk st.t (by omega) tk dk ov dv fun rs' H4 k4 e4 l4 f4 b4 => ?_)
      rw [st.eT] at e4
      have t4 := (Off.of b4).tups st.t.live
      walk_at "go"
      exact kk _ _ ⟨rs', k, [v], st.tput ok k4 (e4.trans eT.symm) f4 b4, by omega, t4 _ _ gw, Dh.tups t4 _ _ (opt_noL (.inr tk)) dk, rfl⟩
  rintro σ H4 ⟨rs, k, ws, st, lr, gw, dk, rfl⟩
  obtain ⟨vs, g, d⟩ := st.o
  have lvs := d.len
  rw [List.length_map, List.length_range] at lvs
  have tk : Thing ev.key := by
    cases ev with
    | flush => cases nfe
    | touch kd => exact oke
    | set kd vd => exact oke.1
  walk_at "go"
  refine SpI.mk (tget_mk st.t tk dk fun v dv => ?_)
  rw [st.eT, ← vj] at dv
  walk_at "go"
  refine ⟨VL, vs, _, rfl, rfl, g, sz5 (by omega), ?_⟩
  walk_at "go"
  exact ob ⟨rs, _, st.told ok g d dv, lr, rfl⟩
end

end

section

-- a condition of an operator
local macro_rules | `(tactic| walk_at "cond") => `(tactic| first
  | (show (0 : Int) < _; omega)
  | (show CDiv _ _; constructor <;> (first | decide | omega))
  | (show CMul _ _; first | (refine cmul_l ?_; constructor <;> (first | decide | omega)) | (refine cmul_r ?_; constructor <;> (first | decide | omega)))
  | (show CPow _ _; exact (by refine ⟨by decide, by decide, by decide⟩))
  | (show CDivW _ _; exact ⟨by decide, by decide +kernel⟩))
local macro_rules | `(tactic| walk_at "sq") => `(tactic| first | assumption | exact Dh.mono (same_upd (by assumption)) _ _ (by assumption) | exact .inl (.inl (.inl (by assumption))) | exact .inr (.inl (.inl (by assumption))) | exact SqL.of (by assumption) | exact .inl (by assumption) | exact .inl (SqL.of (by assumption)) | exact SqT.of (by assumption) | exact .inr (SqT.of (by assumption)))
local macro_rules | `(tactic| walk_at "st") => `(tactic| first
  | refine ⟨_, rfl, ?_⟩
  | refine ⟨_, _, rfl, rfl, ?_⟩
  | refine .inl ⟨_, rfl, ?_⟩
  | refine ⟨rfl, ?_⟩
  | refine ⟨_, _, rfl, by walk_at "sq", ?_⟩
  | refine ⟨.inl ⟨rfl, _, SqL.of (by assumption)⟩, ?_⟩
  | refine ⟨by walk_at "cond", ?_⟩
  | (refine' ifBT ?hh ?_; (case hh => first | rfl | assumption))
  | (refine' ifBF ?hh ?_; (case hh => first | rfl | assumption)))
local macro_rules | `(tactic| walk_at "go") => `(tactic| repeat walk_at "st")
local macro_rules | `(tactic| walk_at "yes") => `(tactic| (refine' ifT ?hh ?_; (case hh => first | rfl | decide +kernel)))
local macro_rules | `(tactic| walk_at "no") => `(tactic| (refine' ifF ?hh ?_; (case hh => first | decide +kernel | (intro z; cases z; done))))

-- facts carried to the heap at hand, from the facts of the context
local macro_rules | `(tactic| walk_at "lnk") => `(tactic| first | assumption | exact same_upd (by assumption))
local macro_rules | `(tactic| walk_at "sm") => `(tactic| first | walk_at "lnk" | exact same_rfl | (refine Same.trans ?_ (by walk_at "lnk"); walk_at "sm"))
local macro_rules | `(tactic| walk_at "at") => `(tactic| first | assumption | exact upd_same | (refine Same.get (by walk_at "lnk") ?_; walk_at "at"))
local macro_rules | `(tactic| walk_at "ix") => `(tactic| first
  | exact atI_nat (j := 0) rfl | exact atI_nat (j := 1) rfl | exact atI_nat (j := 2) rfl | exact atI_nat (j := 3) rfl
  | exact atI_nat (j := 4) rfl | exact atI_nat (j := 5) rfl | exact atI_nat (j := 6) rfl | assumption)
local macro_rules | `(tactic| walk_at "sT") => `(tactic| first | exact SqT.of (by walk_at "at") | exact SqL.of (by walk_at "at"))
local macro_rules | `(tactic| walk_at "st") => `(tactic| refine ⟨_, _, _, _, rfl, rfl, by walk_at "sT", by walk_at "ix", ?_⟩)
local macro_rules | `(tactic| walk_at "side") => `(tactic| first | rfl | assumption | walk_at "at" | walk_at "sm" | omega | decide)
-- a call: the promise's letters from its arguments, then what is asked from the context
local macro_rules | `(tactic| walk_at "call") => `(tactic| ((repeat (apply Exists.intro)); refine And.intro rfl ?_; repeat (refine And.intro (by walk_at "side") ?_)))

local macro_rules | `(tactic| walk_at "st") => `(tactic| refine ⟨_, _, _, _, _, rfl, by assumption, by assumption, by omega, by omega, by omega, by omega, by omega, ?_⟩)
local macro_rules | `(tactic| walk_at "st") => `(tactic| refine ⟨_, _, _, _, _, rfl, Same.seq (by assumption) (by assumption), by assumption, by omega, by omega, by omega, by omega, by omega, ?_⟩)

/-! ### _law_is_plan -/
abbrev s_is_plan : Stmt := topS 21
theorem sc_is_plan : FnScope ["_law_told", "_law_k", "_law_pair"] ["_law_told"] (C8.fnScope s_is_plan) := C8.fnScope_by (by decide +kernel)
def spIsPlan : Sp := fun vs H Q _ => ∃ (r a b : Addr) (ps : List DE), vs = [.ref r] ∧ H r = some (.tup [.ref a, .ref b]) ∧ H a = some (.lst ((posI ps).map V.int)) ∧ Dh H (.list (ps.map pr2)) (.ref b) ∧ (∀ x ∈ ps, ∃ i j : Nat, x = (.int i, .int j)) ∧ ps.length ≤ 10000 ∧ ∀ H', Same H H' → Q (.bl true) H'
section
variable {P : Program} {w : World} {K : PySem.W.Frag} {mg : Str → Option Value} {base : Heap}
theorem ok_isplan {f : Addr} {fd : FuncData} (Df : Def K mg "_law_is_plan" s_is_plan f fd) (b : Binds K fd ["_law_told"] []) (T : Txt mg) (c_same : Cal P w K mg base 6 "_law_same" (spSame 5) []) (c_is_whole : Cal P w K mg base 1 "_law_is_whole" spWhole []) : Cal P w K mg base 7 "_law_is_plan" spIsPlan [] := by
  refine cal0 Df b .nil sc_is_plan (fun vs H Q E h => ?_) (fun cdv A outer s H vs Q E hr h => ?_)
  · obtain ⟨r, a, b, ps, rfl, _⟩ := h
    rfl
  obtain ⟨r, a, b, ps, rfl, gr, ga, db, sh, lp, q⟩ := h
  have c_same := calI c_same
  refine ⟨_, (pss_cons (ps_mk (ps_if (PW.pt (pw_or (pt_not (pt_val (pe_callB is_tuple (by rfl) T.isinstance (by decide +kernel) (pa_cons (pv 0) (pa_cons (pe_bltn (v := .ty "tuple") (by rfl) T.tuple (by decide +kernel) rfl) pa_nil))))) (pw_or (pt_cmpR op_ne (pe_callB (lenQ K rfl) (by rfl) T.len PySem.boot_len (pa_cons (pv 0) pa_nil)) pe_int (nomark _)) (pw_or (pt_not (pt_val (pe_callB is_list (by rfl) T.isinstance (by decide +kernel) (pa_cons (pe_ix (ixT K rfl) (pv 0) pe_int (fun _ _ => rfl)) (pa_cons (pe_bltn (v := .ty "list") (by rfl) T.list (by decide +kernel) rfl) pa_nil))))) (pw_or1 (pt_not (pt_val (pe_callB is_list (by rfl) T.isinstance (by decide +kernel) (pa_cons (pe_ix (ixT K rfl) (pv 0) pe_int (fun _ _ => rfl)) (pa_cons (pe_bltn (v := .ty "list") (by rfl) T.list (by decide +kernel) rfl) pa_nil))))))))))
      (pss_one (ps_ret pe_bl))
      pss_nil))
      (pss_cons (ps_mk (ps_if (pt_cmpR op_ne (pe_callB (lenQ K rfl) (by rfl) T.len PySem.boot_len (pa_cons (pe_ix (ixT K rfl) (pv 0) pe_int (fun _ _ => rfl)) pa_nil)) (pe_callB (lenQ K rfl) (by rfl) T.len PySem.boot_len (pa_cons (pe_ix (ixT K rfl) (pv 0) pe_int (fun _ _ => rfl)) pa_nil)) (nomark _))
      (pss_one (ps_ret pe_bl))
      pss_nil))
      (pss_cons (ps_mk (ps_for PassesOwn.never rfl (pi_range1 (by rfl) T.range (pa_cons (pe_callB (lenQ K rfl) (by rfl) T.len PySem.boot_len (pa_cons (pe_ix (ixT K rfl) (pv 0) pe_int (fun _ _ => rfl)) pa_nil)) pa_nil)) (pg_name (i := 1) sc_is_plan.nd rfl (.inl rfl))
      (pss_cons (ps_set (i := 2) sc_is_plan.nd rfl (.inl rfl) (pe_ix (ixL K rfl) (pe_ix (ixT K rfl) (pv 0) pe_int (fun _ _ => rfl)) (pv 1) (fun _ _ => rfl)))
      (pss_cons (ps_mk (ps_if (PW.pt (pw_or (pt_not (pt_val (pe_callB is_tuple (by rfl) T.isinstance (by decide +kernel) (pa_cons (pv 2) (pa_cons (pe_bltn (v := .ty "tuple") (by rfl) T.tuple (by decide +kernel) rfl) pa_nil))))) (pw_or (pt_cmpR op_ne (pe_callB (lenQ K rfl) (by rfl) T.len PySem.boot_len (pa_cons (pv 2) pa_nil)) pe_int (nomark _)) (pw_or (pt_not (pt_val (C8.pe_c c_is_whole hr (by omega) (by rfl) (pa_cons (pe_ix (ixT K rfl) (pv 2) pe_int (fun _ _ => rfl)) pa_nil)))) (pw_or1 (pt_not (pt_val (C8.pe_c c_is_whole hr (by omega) (by rfl) (pa_cons (pe_ix (ixT K rfl) (pv 2) pe_int (fun _ _ => rfl)) pa_nil)))))))))
      (pss_one (ps_ret pe_bl))
      pss_nil))
      (pss_one (ps_mk (ps_if (pt_not (pt_val (C8.pe_c c_same hr (by omega) (by rfl) (pa_cons (pe_ix (ixL K rfl) (pe_ix (ixT K rfl) (pv 0) pe_int (fun _ _ => rfl)) (pv 1) (fun _ _ => rfl)) (pa_cons (pe_ix (ixT K rfl) (pv 2) pe_int (fun _ _ => rfl)) pa_nil)))))
      (pss_one (ps_ret pe_bl))
      pss_nil)))))))
      (pss_one (ps_ret pe_bl))))), ?_⟩
  obtain ⟨b', us, eb, gb, du⟩ := db
  cases eb
  have lus := du.len
  rw [List.length_map] at lus
  have lpo := posI_len ps
  have dA : Dh H (.list ((posI ps).map PyData.int)) (.ref a) := ⟨a, _, rfl, ga, dh_ints _⟩
  have dB : Dh H (.list (ps.map pr2)) (.ref b) := ⟨b, us, rfl, gb, du⟩
  have dR : Dh H (.tuple [.list ((posI ps).map PyData.int), .list (ps.map pr2)]) (.ref r) := ⟨r, _, rfl, gr, _, _, rfl, dA, _, _, rfl, dB, rfl⟩
  have sA : SqL K H a ((posI ps).map V.int) := SqL.of ga
  have sB : SqL K H b us := SqL.of gb
  have e0 : atI [V.ref a, V.ref b] 0 = some (.ref a) := rfl
  have e1 : atI [V.ref a, V.ref b] 1 = some (.ref b) := rfl
  refine jnS (M := fun σ H' => H' = H ∧ σ = [sR r, none, none]) ?_ (fun N kk => ?_)
  rotate_left
  · walk_at "go"
    exact kk _ _ ⟨rfl, rfl⟩
  rintro σ H1 ⟨rfl, rfl⟩
  refine jnS (M := fun σ H' => H' = H1 ∧ σ = [sR r, none, none]) ?_ (fun N kk => ?_)
  rotate_left
  · walk_at "go"
    refine ifNe (fun z => absurd (by rw [List.length_map, lpo, lus]) z) (fun _ => ?_)
    walk_at "go"
    exact kk _ _ ⟨rfl, rfl⟩
  rintro σ H2 ⟨rfl, rfl⟩
  refine jnS (M := fun σ H' => Same H2 H' ∧ ∃ y z, σ = [sR r, y, z]) ?_ (fun N kk => ?_)
  · rintro σ H3 ⟨s3, y, z, rfl⟩
    walk_at "go"
    exact q _ s3
  walk_at "go"
  rw [List.length_map, lpo]
  refine ⟨by omega, by omega, for_range (lo := 0) (n := ps.length) (fun j σ H' => Ob (Same H2 H' ∧ ∃ y z, σ = [sR r, y, z])) (ob ⟨same_rfl, _, _, rfl⟩) ?_ ?_⟩
  rotate_left
  · intro σ H3 h
    obtain ⟨s3, y, z, rfl⟩ := unob h
    exact kk _ _ ⟨s3, y, z, rfl⟩
  intro j σ H3 hj h
  obtain ⟨s3, y, z, rfl⟩ := unob h
  clear h kk
  obtain ⟨i1, j1, ex⟩ := sh ps[j] (List.getElem_mem hj)
  obtain ⟨v, ev, dv⟩ := du.get (show (ps.map pr2)[j]? = some (pr2 ps[j]) by rw [List.getElem?_map, List.getElem?_eq_getElem hj]; rfl)
  rw [ex] at dv
  have dv3 := Dh.mono s3 _ _ dv
  obtain ⟨t, ut, rfl, gT, x0, _, rfl, d0, x1, _, rfl, d1, rfl⟩ := id dv3
  have gr3 := s3 _ _ gr
  have sA3 : SqL K H3 a ((posI ps).map V.int) := SqL.of (s3 _ _ ga)
  have sB3 : SqL K H3 b us := SqL.of (s3 _ _ gb)
  have aj : atI us ((j : Nat) : Int) = some (.ref t) := atI_nat ev
  have ap : atI ((posI ps).map V.int) ((j : Nat) : Int) = some (.int j1) := by
    refine atI_nat ?_
    have e := posI_dat sh
    have e2 := congrArg (fun l => l[j]?) e
    have e3 : ((posI ps).map PyData.int)[j]? = (ps.map (·.2))[j]? := e2
    rw [List.getElem?_map, List.getElem?_map, List.getElem?_eq_getElem hj, ex] at e3
    rw [List.getElem?_map]
    cases z : (posI ps)[j]? with
    | none => rw [z] at e3; cases e3
    | some w =>
      rw [z] at e3
      have e4 : PyData.int w = PyData.int j1 := Option.some.inj e3
      rw [PyData.int.inj e4]
      rfl
  cases d0
  cases d1
  rw [Int.zero_add]
  walk_at "go"
  refine jnS (M := fun σ H' => H' = H3 ∧ σ = [sR r, sI j, sR t]) ?_ (fun N kk => ?_)
  rotate_left
  · walk_at "go"
    refine ⟨_, .int i1, rfl, rfl, ?_⟩
    walk_at "go"
    refine ⟨_, .int j1, rfl, rfl, ?_⟩
    walk_at "go"
    exact kk _ _ ⟨rfl, rfl⟩
  rintro σ H4 ⟨rfl, rfl⟩
  walk_at "go"
  refine un ?_
  walk_at "go"
  refine SpI.mk (same_eq (d := .int j1) rfl rfl (by trivial) fun H5 s5 => ?_)
  walk_at "go"
  exact ob ⟨s3.trans s5, _, _, rfl⟩
end

end

/-! ### a plan as an object -/
noncomputable def planQ (c : Int) (evs : List Ev) : PyData := .tuple [.list ((posI (qN c evs evs.length).ps).map PyData.int), .list ((qN c evs evs.length).ps.map pr2)]
structure PlanAt (H : Hp) (r a b : Addr) (c : Int) (evs : List Ev) : Prop where
  g : H r = some (.tup [.ref a, .ref b])
  ga : H a = some (.lst ((posI (qN c evs evs.length).ps).map V.int))
  gb : ∃ us, H b = some (.lst us) ∧ DhAll H ((qN c evs evs.length).ps.map pr2) us
theorem PlanAt.of {H : Hp} {r a b : Addr} {c : Int} {evs : List Ev} (g : H r = some (.tup [.ref a, .ref b])) (ga : H a = some (.lst ((posI (qN c evs evs.length).ps).map V.int))) (gb : Dh H (.list ((qN c evs evs.length).ps.map pr2)) (.ref b)) : PlanAt H r a b c evs := by
  obtain ⟨b', us, e, g2, d⟩ := gb
  cases e
  exact ⟨g, ga, us, g2, d⟩
theorem PlanAt.same {H H' : Hp} {r a b : Addr} {c : Int} {evs : List Ev} (h : PlanAt H r a b c evs) (s : Same H H') : PlanAt H' r a b c evs := by
  obtain ⟨us, g, d⟩ := h.gb
  exact ⟨s _ _ h.g, s _ _ h.ga, us, s _ _ g, DhAll.mono s _ _ d⟩
theorem PlanAt.dh {H : Hp} {r a b : Addr} {c : Int} {evs : List Ev} (h : PlanAt H r a b c evs) : Dh H (planQ c evs) (.ref r) := by
  obtain ⟨us, g, d⟩ := h.gb
  exact ⟨r, _, rfl, h.g, _, _, rfl, ⟨a, _, rfl, h.ga, dh_ints _⟩, _, _, rfl, ⟨b, us, rfl, g, d⟩, rfl⟩
theorem ps_ok {c : Int} {evs : List Ev} (c0 : 0 ≤ c) (ok : ∀ e ∈ evs, e.ok) (n : Nat) : ∀ x ∈ (qN c evs n).ps, Opt x.1 ∧ Opt x.2 := fun x hx => by
  obtain ⟨a, b, rfl, _⟩ := (QI.run c0 ok n).p x hx
  exact ⟨.inr trivial, .inr trivial⟩
theorem PlanAt.put {H : Hp} {r a b L : Addr} {c : Int} {evs : List Ev} {xs : List V} {o : HO} (h : PlanAt H r a b c evs) (c0 : 0 ≤ c) (ok : ∀ e ∈ evs, e.ok) (g : H L = some (.lst xs)) (na : a ≠ L) (nb : b ≠ L) : PlanAt (upd H L o) r a b c evs := by
  obtain ⟨us, gb, d⟩ := h.gb
  have nr : r ≠ L := fun z => by
    have := h.g
    rw [z, g] at this
    cases this
  exact ⟨by rw [upd_ne nr]; exact h.g, by rw [upd_ne na]; exact h.ga, us, by rw [upd_ne nb]; exact gb, DhAll.tups (Tups.put fun vs z => by rw [g] at z; cases z) _ _ (pr2s_noLO (ps_ok c0 ok _)) d⟩
theorem dle_plan {c : Int} {evs : List Ev} (c0 : 0 ≤ c) (ok : ∀ e ∈ evs, e.ok) (l : evs.length ≤ 10000) : Dle 5 (planQ c evs) := by
  have q := QI.run c0 ok evs.length
  have n := q.n
  refine ⟨(by decide : 2 ≤ 100000), fun d hd => ?_⟩
  simp only [List.mem_cons, List.not_mem_nil, or_false] at hd
  rcases hd with rfl | rfl
  · refine ⟨by rw [List.length_map, posI_len]; omega, fun d hd => ?_⟩
    obtain ⟨i, _, rfl⟩ := List.mem_map.mp hd
    trivial
  · refine ⟨by rw [List.length_map]; omega, fun d hd => ?_⟩
    obtain ⟨x, hx, rfl⟩ := List.mem_map.mp hd
    obtain ⟨a, b, rfl, _⟩ := q.p x hx
    refine ⟨(by decide : 2 ≤ 100000), fun e he => ?_⟩
    simp only [List.mem_cons, List.not_mem_nil, or_false] at he
    rcases he with rfl | rfl <;> trivial
theorem plan_mk {C : Addr} {w : World} {tr : Addr} {c : Int} {evs : List Ev} {H : Hp} {Q : VK} {E : XK} (hT : TrAt H tr evs) (ok : ∀ e ∈ evs, e.ok) (nf : NoF evs) (hl : evs.length ≤ 10000) (c0 : 0 ≤ c) (c8 : c ≤ 80000)
    (q : ∀ r a b H', Same H H' → H r = none → H a = none → H b = none → a ≠ b → PlanAt H' r a b c evs → Q (.ref r) H') : spPlan C w [.ref tr, .int c] H Q E :=
  ⟨tr, c, evs, rfl, hT, ok, nf, hl, c0, c8, fun r a b H' s n1 n2 n3 n4 g ga gb => q r a b H' s n1 n2 n3 n4 (.of g ga gb)⟩

/-! ### a trace with flush events is played as the trace with emptyings -/
theorem playN_pre {c : Int} {ks : List Str} {ms : List Int} {F G : List Ev} : ∀ j, j ≤ F.length → playN c ks ms (F ++ G) j = playN c ks ms F j
  | 0, _ => rfl
  | j + 1, h => by
    have ih := playN_pre (c := c) (ks := ks) (ms := ms) (F := F) (G := G) j (by omega)
    have e : F[j]? = some F[j] := List.getElem?_eq_getElem (by omega)
    have e2 : (F ++ G)[j]? = some F[j] := by rw [List.getElem?_append_left (by omega), e]
    rw [playN_step e, playN_step e2, ih]
theorem playN_snoc {c : Int} {ks : List Str} {F : List Ev} {e : Ev} : playN c ks [] (F ++ [e]) (F ++ [e]).length = (play1 c ks (playN c ks [] F F.length).1 e, (playN c ks [] F F.length).2 ++ out1 (playN c ks [] F F.length).1 e) := by
  have h : (F ++ [e])[F.length]? = some e := by simp
  rw [List.length_append]
  show playN c ks [] (F ++ [e]) (F.length + 1) = _
  rw [playN_step h, emp_nil, playN_pre _ (Nat.le_refl _)]
open Classical in
/-- the trace with flush events at these moments -/
noncomputable def flN (ms : List Int) (evs : List Ev) : Nat → List Ev
  | 0 => []
  | j + 1 => match evs[j]? with
    | none => flN ms evs j
    | some e => if (j : Int) ∈ ms then (flN ms evs j ++ [Ev.flush]) ++ [e] else flN ms evs j ++ [e]
theorem flN_in {ms : List Int} {evs : List Ev} {j : Nat} {e : Ev} (h : evs[j]? = some e) (m : (j : Int) ∈ ms) : flN ms evs (j + 1) = (flN ms evs j ++ [Ev.flush]) ++ [e] := by
  show (match evs[j]? with
    | none => flN ms evs j
    | some e => if (j : Int) ∈ ms then (flN ms evs j ++ [Ev.flush]) ++ [e] else flN ms evs j ++ [e]) = _
  rw [h]
  exact if_pos m
theorem flN_out {ms : List Int} {evs : List Ev} {j : Nat} {e : Ev} (h : evs[j]? = some e) (m : ¬ (j : Int) ∈ ms) : flN ms evs (j + 1) = flN ms evs j ++ [e] := by
  show (match evs[j]? with
    | none => flN ms evs j
    | some e => if (j : Int) ∈ ms then (flN ms evs j ++ [Ev.flush]) ++ [e] else flN ms evs j ++ [e]) = _
  rw [h]
  exact if_neg m
theorem flN_stop {ms : List Int} {evs : List Ev} {j : Nat} (h : evs[j]? = none) : flN ms evs (j + 1) = flN ms evs j := by
  show (match evs[j]? with
    | none => flN ms evs j
    | some e => if (j : Int) ∈ ms then (flN ms evs j ++ [Ev.flush]) ++ [e] else flN ms evs j ++ [e]) = _
  rw [h]
theorem playN_stop {c : Int} {ks : List Str} {ms : List Int} {evs : List Ev} {j : Nat} (h : evs[j]? = none) : playN c ks ms evs (j + 1) = playN c ks ms evs j := by
  show (match evs[j]? with
    | none => playN c ks ms evs j
    | some e => (play1 c ks (emp ms j (playN c ks ms evs j).1) e, (playN c ks ms evs j).2 ++ out1 (emp ms j (playN c ks ms evs j).1) e)) = _
  rw [h]
theorem fl_play {c : Int} {ks : List Str} {ms : List Int} {evs : List Ev} : ∀ j, playN c ks [] (flN ms evs j) (flN ms evs j).length = playN c ks ms evs j
  | 0 => rfl
  | j + 1 => by
    have ih := fl_play (c := c) (ks := ks) (ms := ms) (evs := evs) j
    cases h : evs[j]? with
    | none => rw [flN_stop h, playN_stop h, ih]
    | some e =>
      rw [playN_step h]
      by_cases m : (j : Int) ∈ ms
      · have e1 : emp ms j (playN c ks ms evs j).1 = ⟨(playN c ks ms evs j).1.T, []⟩ := by
          unfold emp
          rw [if_pos m]
        rw [flN_in h m, playN_snoc, playN_snoc, ih, e1]
        show (play1 c ks ⟨_, []⟩ e, ((playN c ks ms evs j).2 ++ []) ++ out1 ⟨_, []⟩ e) = _
        rw [List.append_nil]
      · have e1 : emp ms j (playN c ks ms evs j).1 = (playN c ks ms evs j).1 := by
          unfold emp
          rw [if_neg m]
        rw [flN_out h m, playN_snoc, ih, e1]
theorem flN_len {ms : List Int} {evs : List Ev} : ∀ j, (flN ms evs j).length ≤ 2 * j
  | 0 => Nat.le_refl _
  | j + 1 => by
    have ih := flN_len (ms := ms) (evs := evs) j
    cases h : evs[j]? with
    | none => rw [flN_stop h]; omega
    | some e =>
      by_cases m : (j : Int) ∈ ms
      · rw [flN_in h m, List.length_append, List.length_append]
        show (flN ms evs j).length + 1 + 1 ≤ _
        omega
      · rw [flN_out h m, List.length_append]
        show (flN ms evs j).length + 1 ≤ _
        omega
theorem flN_ok {ms : List Int} {evs : List Ev} (ok : ∀ e ∈ evs, e.ok) : ∀ j, ∀ e ∈ flN ms evs j, e.ok
  | 0 => fun _ h => by cases h
  | j + 1 => fun x hx => by
    have ih := flN_ok (ms := ms) ok j
    cases h : evs[j]? with
    | none =>
      rw [flN_stop h] at hx
      exact ih x hx
    | some e =>
      have oe := ok e (List.mem_of_getElem? h)
      by_cases m : (j : Int) ∈ ms
      · rw [flN_in h m] at hx
        rcases List.mem_append.mp hx with z | z
        · rcases List.mem_append.mp z with y | y
          · exact ih x y
          · obtain rfl : x = .flush := by simpa using y
            trivial
        · obtain rfl : x = e := by simpa using z
          exact oe
      · rw [flN_out h m] at hx
        rcases List.mem_append.mp hx with z | z
        · exact ih x z
        · obtain rfl : x = e := by simpa using z
          exact oe
/-- the pairs of the touches that see the actual value -/
noncomputable def dueN (evs : List Ev) : Nat → List DE
  | 0 => []
  | j + 1 => match evs[j]? with
    | some (.touch k) => dueN evs j ++ [(tabN evs j k, tabN evs j k)]
    | _ => dueN evs j
theorem dueN_touch {evs : List Ev} {j : Nat} {k : PyData} (h : evs[j]? = some (.touch k)) : dueN evs (j + 1) = dueN evs j ++ [(tabN evs j k, tabN evs j k)] := by
  show (match evs[j]? with
    | some (.touch k) => dueN evs j ++ [(tabN evs j k, tabN evs j k)]
    | _ => dueN evs j) = _
  rw [h]
theorem dueN_no {evs : List Ev} {j : Nat} (h : ∀ k, evs[j]? ≠ some (.touch k)) : dueN evs (j + 1) = dueN evs j := by
  show (match evs[j]? with
    | some (.touch k) => dueN evs j ++ [(tabN evs j k, tabN evs j k)]
    | _ => dueN evs j) = _
  split
  · exact absurd ‹_› (h _)
  · rfl
theorem dueN_len {evs : List Ev} : ∀ j, (dueN evs j).length ≤ j
  | 0 => Nat.le_refl _
  | j + 1 => by
    have ih := dueN_len (evs := evs) j
    by_cases h : ∃ k, evs[j]? = some (.touch k)
    · obtain ⟨k, h⟩ := h
      rw [dueN_touch h, List.length_append]
      show (dueN evs j).length + 1 ≤ _
      omega
    · rw [dueN_no fun k z => h ⟨k, z⟩]
      omega
theorem dueN_ok {evs : List Ev} (ok : ∀ e ∈ evs, e.ok) : ∀ j, ∀ x ∈ dueN evs j, Opt x.1 ∧ Opt x.2
  | 0 => fun _ h => by cases h
  | j + 1 => fun x hx => by
    have ih := dueN_ok ok j
    by_cases h : ∃ k, evs[j]? = some (.touch k)
    · obtain ⟨k, h⟩ := h
      rw [dueN_touch h] at hx
      rcases List.mem_append.mp hx with z | z
      · exact ih x z
      · obtain rfl : x = (tabN evs j k, tabN evs j k) := by simpa using z
        exact ⟨tabN_opt ok j k, tabN_opt ok j k⟩
    · rw [dueN_no fun k z => h ⟨k, z⟩] at hx
      exact ih x hx
/-- if all that was told up to a moment is the actual value, it is the pairs due -/
theorem outs_due {c : Int} {ms : List Int} {evs : List Ev} : ∀ j, (∀ x ∈ (playN c [] ms evs j).2, x.1 = x.2) → (playN c [] ms evs j).2 = dueN evs j
  | 0, _ => rfl
  | j + 1, hx => by
    have hT : (emp ms j (playN c [] ms evs j).1).T = tabN evs j := by
      rw [← play_T (c := c) (ms := ms) j]
      unfold emp
      split <;> rfl
    cases h : evs[j]? with
    | none =>
      rw [playN_stop h] at hx ⊢
      rw [dueN_no fun k z => by rw [h] at z; cases z]
      exact outs_due j hx
    | some e =>
      rw [playN_step h] at hx ⊢
      have ih := outs_due j fun x m => hx x (List.mem_append_left _ m)
      cases e with
      | set k v =>
        rw [dueN_no (fun k z => by rw [h] at z; cases z), ← ih]
        exact List.append_nil _
      | flush =>
        rw [dueN_no (fun k z => by rw [h] at z; cases z), ← ih]
        exact List.append_nil _
      | touch k =>
        rw [dueN_touch h, ← ih]
        have m := hx (eseen (emp ms j (playN c [] ms evs j).1).T (emp ms j (playN c [] ms evs j).1).es k, (emp ms j (playN c [] ms evs j).1).T k) (List.mem_append_right _ List.mem_cons_self)
        have m : eseen (emp ms j (playN c [] ms evs j).1).T (emp ms j (playN c [] ms evs j).1).es k = (emp ms j (playN c [] ms evs j).1).T k := m
        show _ ++ [(eseen (emp ms j (playN c [] ms evs j).1).T _ k, (emp ms j (playN c [] ms evs j).1).T k)] = _
        rw [m, hT]
theorem playN_congr {c : Int} {ks : List Str} {ms ns : List Int} {evs : List Ev} : ∀ j, (∀ i : Nat, i < j → ((i : Int) ∈ ms ↔ (i : Int) ∈ ns)) → playN c ks ms evs j = playN c ks ns evs j
  | 0, _ => rfl
  | j + 1, h => by
    have ih := playN_congr (c := c) (ks := ks) (ms := ms) (ns := ns) (evs := evs) j fun i hi => h i (by omega)
    have e : ∀ S, emp ms j S = emp ns j S := fun S => by
      unfold emp
      by_cases m : (j : Int) ∈ ms
      · rw [if_pos m, if_pos ((h j (by omega)).mp m)]
      · rw [if_neg m, if_neg fun z => m ((h j (by omega)).mpr z)]
    cases h2 : evs[j]? with
    | none => rw [playN_stop h2, playN_stop h2, ih]
    | some x => rw [playN_step h2, playN_step h2, ih, e]
/-- without one of the plan's emptyings the second touch of its pair sees the value of the first one -/
theorem lacks {c : Int} {evs : List Ev} (c0 : 0 ≤ c) (ok : ∀ e ∈ evs, e.ok) (nf : ∀ e ∈ evs, e.isF = false) {k : PyData} {a b : Nat} (fr : Frc c evs k a b) {ms : List Int} (mp : (b : Int) ∈ posI (qN c evs evs.length).ps) (hm : ∀ i : Nat, (i : Int) ∈ ms ↔ ((i : Int) ∈ posI (qN c evs evs.length).ps ∧ i ≠ b)) :
    ∃ ys, (playN c [] ms evs evs.length).2 = (dueN evs b ++ [(tabN evs a k, tabN evs b k)]) ++ ys := by
  have hb : b < evs.length := (List.getElem?_eq_some_iff.mp fr.eb).1
  have e1 : playN c [] ms evs b = playN c [] (posI (qN c evs evs.length).ps) evs b := playN_congr b fun i hi => by
    rw [hm]
    exact ⟨fun z => z.1, fun z => ⟨z, by omega⟩⟩
  obtain ⟨p1, p2⟩ := play_plan (n := evs.length) c0 ok nf b (by omega)
  have e2 : (playN c [] ms evs b).2 = dueN evs b := outs_due b (by rw [e1]; exact p2)
  have nb : ¬ (b : Int) ∈ ms := fun z => ((hm b).mp z).2 rfl
  obtain ⟨k2, ek, st⟩ := (pos_iff c0 ok fr.eb hb).mp mp
  cases ek
  obtain ⟨v, gv, nv⟩ := st
  have pj := PJ.run c0 ok b
  obtain ⟨a2, La, Ta⟩ := pj.a _ (eget_mem gv)
  obtain ⟨h1, h2, h3⟩ := pj.b k a2 La
  have ea : a2 = a := by
    rcases Nat.lt_trichotomy a2 a with z | z | z
    · exact absurd fr.ea (h3 a z fr.lt)
    · exact z
    · exact absurd h1 (fr.no a2 z h2)
  subst ea
  have Ta : tabN evs a2 k = v := Ta
  obtain ⟨ys, e3⟩ := play_more (c := c) (ms := ms) (evs := evs) (i := b + 1) (n := evs.length) (by omega)
  refine ⟨ys, ?_⟩
  rw [e3, playN_step fr.eb, e2]
  have e4 : emp ms b (playN c [] ms evs b).1 = ⟨(qN c evs b).T, (qN c evs b).es⟩ := by
    unfold emp
    rw [if_neg nb, e1, p1]
  rw [e4]
  show dueN evs b ++ [(eseen (qN c evs b).T (qN c evs b).es k, (qN c evs b).T k)] ++ ys = _
  unfold eseen
  rw [gv, qN_T, Ta]
  rfl

section

-- a condition of an operator
local macro_rules | `(tactic| walk_at "cond") => `(tactic| first
  | (show (0 : Int) < _; omega)
  | (show CDiv _ _; constructor <;> (first | decide | omega))
  | (show CMul _ _; first | (refine cmul_l ?_; constructor <;> (first | decide | omega)) | (refine cmul_r ?_; constructor <;> (first | decide | omega)))
  | (show CPow _ _; exact (by refine ⟨by decide, by decide, by decide⟩))
  | (show CDivW _ _; exact ⟨by decide, by decide +kernel⟩))
local macro_rules | `(tactic| walk_at "sq") => `(tactic| first | assumption | exact Dh.mono (same_upd (by assumption)) _ _ (by assumption) | exact .inl (.inl (.inl (by assumption))) | exact .inr (.inl (.inl (by assumption))) | exact SqL.of (by assumption) | exact .inl (by assumption) | exact .inl (SqL.of (by assumption)) | exact SqT.of (by assumption) | exact .inr (SqT.of (by assumption)))
local macro_rules | `(tactic| walk_at "st") => `(tactic| first
  | refine ⟨_, rfl, ?_⟩
  | refine ⟨_, _, rfl, rfl, ?_⟩
  | refine .inl ⟨_, rfl, ?_⟩
  | refine ⟨rfl, ?_⟩
  | refine ⟨_, _, rfl, by walk_at "sq", ?_⟩
  | refine ⟨.inl ⟨rfl, _, SqL.of (by assumption)⟩, ?_⟩
  | refine ⟨by walk_at "cond", ?_⟩
  | (refine' ifBT ?hh ?_; (case hh => first | rfl | assumption))
  | (refine' ifBF ?hh ?_; (case hh => first | rfl | assumption)))
local macro_rules | `(tactic| walk_at "go") => `(tactic| repeat walk_at "st")
local macro_rules | `(tactic| walk_at "yes") => `(tactic| (refine' ifT ?hh ?_; (case hh => first | rfl | decide +kernel)))
local macro_rules | `(tactic| walk_at "no") => `(tactic| (refine' ifF ?hh ?_; (case hh => first | decide +kernel | (intro z; cases z; done))))

-- facts carried to the heap at hand, from the facts of the context
local macro_rules | `(tactic| walk_at "lnk") => `(tactic| first | assumption | exact same_upd (by assumption))
local macro_rules | `(tactic| walk_at "sm") => `(tactic| first | walk_at "lnk" | exact same_rfl | (refine Same.trans ?_ (by walk_at "lnk"); walk_at "sm"))
local macro_rules | `(tactic| walk_at "at") => `(tactic| first | assumption | exact upd_same | (refine Same.get (by walk_at "lnk") ?_; walk_at "at"))
local macro_rules | `(tactic| walk_at "ix") => `(tactic| first
  | exact atI_nat (j := 0) rfl | exact atI_nat (j := 1) rfl | exact atI_nat (j := 2) rfl | exact atI_nat (j := 3) rfl
  | exact atI_nat (j := 4) rfl | exact atI_nat (j := 5) rfl | exact atI_nat (j := 6) rfl | assumption)
local macro_rules | `(tactic| walk_at "sT") => `(tactic| first | exact SqT.of (by walk_at "at") | exact SqL.of (by walk_at "at"))
local macro_rules | `(tactic| walk_at "st") => `(tactic| refine ⟨_, _, _, _, rfl, rfl, by walk_at "sT", by walk_at "ix", ?_⟩)
local macro_rules | `(tactic| walk_at "side") => `(tactic| first | rfl | assumption | walk_at "at" | walk_at "sm" | omega | decide)
-- a call: the promise's letters from its arguments, then what is asked from the context
local macro_rules | `(tactic| walk_at "call") => `(tactic| ((repeat (apply Exists.intro)); refine And.intro rfl ?_; repeat (refine And.intro (by walk_at "side") ?_)))

local macro_rules | `(tactic| walk_at "st") => `(tactic| refine ⟨_, _, _, _, _, rfl, by assumption, by assumption, by omega, by omega, by omega, by omega, by omega, ?_⟩)
local macro_rules | `(tactic| walk_at "st") => `(tactic| refine ⟨_, _, _, _, _, rfl, Same.seq (by assumption) (by assumption), by assumption, by omega, by omega, by omega, by omega, by omega, ?_⟩)

/-! ### _law_trace_cut -/
abbrev s_trace_cut : Stmt := topS 22
theorem sc_trace_cut : FnScope ["_law_trace", "_law_many", "_law_behind", "_law_at"] ["_law_trace"] (C8.fnScope s_trace_cut) := C8.fnScope_by (by decide +kernel)
def spCut : Sp := fun vs H Q _ => ∃ (tr : Addr) (evs : List Ev), vs = [.ref tr] ∧ TrAt H tr evs ∧ evs.length ≤ 10000 ∧ (∀ e ∈ evs, e.isF = false) ∧ ∀ r m H', Same H H' → H r = none → TrAt H' r (evs.take m) → Q (.ref r) H'
theorem dh_take {H : Hp} : ∀ {ds : List PyData} {us : List V} (_ : DhAll H ds us) (n : Nat), DhAll H (ds.take n) (us.take n)
  | _, _, _, 0 => rfl
  | [], us, h, n + 1 => by
    cases (show us = [] from h)
    rfl
  | d :: ds, us, h, n + 1 => by
    obtain ⟨v, ws, rfl, h1, h2⟩ := h
    exact ⟨v, ws.take n, rfl, h1, dh_take h2 n⟩
theorem slL {X : Cx} (K : PySem.W.Frag) (h : X.K = K) : SlR X (rSlL K) := by
  subst h
  exact sl_list
theorem cut_to {xs : List V} {j : Nat} (h : j ≤ xs.length) : cutV xs none (some (j : Int)) = xs.take j := by
  unfold cutV
  rw [show HT.sIx xs.length 0 none = 0 from rfl, HT.sIx_nat, Nat.min_eq_left h, List.drop_zero, Nat.sub_zero]
section
variable {P : Program} {w : World} {K : PySem.W.Frag} {mg : Str → Option Value} {base : Heap}
theorem ok_cut {f : Addr} {fd : FuncData} (Df : Def K mg "_law_trace_cut" s_trace_cut f fd) (b : Binds K fd ["_law_trace"] []) (T : Txt mg) : Cal P w K mg base 1 "_law_trace_cut" spCut [] := by
  refine cal0 Df b .nil sc_trace_cut (fun vs H Q E h => ?_) (fun cdv A outer s H vs Q E hr h => ?_)
  · obtain ⟨tr, evs, rfl, _⟩ := h
    rfl
  obtain ⟨tr, evs, rfl, hT, hl, nf, q⟩ := h
  refine ⟨_, (pss_cons (ps_set (i := 1) sc_trace_cut.nd rfl (.inl rfl) pe_int)
      (pss_cons (ps_set (i := 2) sc_trace_cut.nd rfl (.inl rfl) pe_bl)
      (pss_cons (ps_mk (ps_for PassesOwn.never rfl (pi_range1 (by rfl) T.range (pa_cons (pe_callB (lenQ K rfl) (by rfl) T.len PySem.boot_len (pa_cons (pv 0) pa_nil)) pa_nil)) (pg_name (i := 3) sc_trace_cut.nd rfl (.inl rfl))
      (pss_cons (ps_set (i := 1) sc_trace_cut.nd rfl (.inl rfl) (pe_op op_add (pv 1) pe_int))
      (pss_cons (ps_mk (ps_if (pt_cmpR op_eq (pe_ix (ixT K rfl) (pe_ix (ixL K rfl) (pv 0) (pv 3) (fun _ _ => rfl)) pe_int (fun _ _ => rfl)) pe_str (nomark _))
      (pss_one (ps_set (i := 2) sc_trace_cut.nd rfl (.inl rfl) pe_bl))
      (pss_one (ps_mk (ps_if (pt_val (pv 2))
      (pss_one (ps_set (i := 1) sc_trace_cut.nd rfl (.inl rfl) (pe_op op_add (pv 1) pe_int)))
      pss_nil)))))
      (pss_one (ps_mk (ps_if (pt_cmpR op_gt (pv 1) pe_int (nomark _))
      (pss_one (ps_ret (pe_slice (slL K rfl) (pv 0) po_none (po_some (pv 3)))))
      pss_nil)))))))
      (pss_one (ps_ret (pe_callTy (listQ K rfl) (by rfl) T.list (by decide +kernel) (pa_cons (pv 0) pa_nil))))))), ?_⟩
  obtain ⟨us, gt, dt⟩ := hT
  have lus := dt.len
  rw [List.length_map] at lus
  have sT : SqL K H tr us := SqL.of gt
  walk_at "go"
  refine jnS (M := fun σ H' => H' = H ∧ ∃ y1 y2 y3, σ = [sR tr, y1, y2, y3]) ?_ (fun N kk => ?_)
  · rintro σ H' ⟨rfl, y1, y2, y3, rfl⟩
    walk_at "go"
    intro r nr
    have s1 := same_upd (o := HO.lst us) nr
    walk_at "go"
    refine q r evs.length _ s1 nr ⟨us, upd_same, ?_⟩
    rw [List.take_length]
    exact DhAll.mono s1 _ _ dt
  walk_at "go"
  rw [lus]
  refine ⟨by omega, by omega, for_range (lo := 0) (n := evs.length) (fun j σ H' => Ob (H' = H ∧ ∃ (m : Int) (bb : Bool) (y : Option V), σ = [sR tr, sI m, some (.bl bb), y])) (ob ⟨rfl, 0, false, none, rfl⟩) ?_ ?_⟩
  rotate_left
  · intro σ H' h
    obtain ⟨rfl, m, bb, y, rfl⟩ := unob h
    exact kk _ _ ⟨rfl, _, _, _, rfl⟩
  intro j σ H' hj h
  obtain ⟨rfl, m, bb, y, rfl⟩ := unob h
  clear h kk
  obtain ⟨ev, hev⟩ : ∃ ev, evs[j]? = some ev := ⟨_, List.getElem?_eq_getElem hj⟩
  obtain ⟨t, et, dt2⟩ := ev_at dt hev
  have nfe := nf ev (List.mem_of_getElem? hev)
  obtain ⟨ws, gw⟩ := ev_word dt2
  have at1 : atI us ((j : Nat) : Int) = some (.ref t) := atI_nat et
  rw [Int.zero_add]
  walk_at "go"
  refine jnS (M := fun σ H2 => H2 = H' ∧ ∃ (m : Int) (bb : Bool), σ = [sR tr, sI m, some (.bl bb), sI j]) ?_ (fun N kk => ?_)
  rotate_left
  · cases ev with
    | flush => cases nfe
    | touch k =>
      walk_at "go"
      exact kk _ _ ⟨rfl, _, _, rfl⟩
    | set k v =>
      walk_at "go"
      refine un ?_
      walk_at "go"
      cases bb with
      | false =>
        refine ifBF rfl ?_
        walk_at "go"
        exact kk _ _ ⟨rfl, _, _, rfl⟩
      | true =>
        refine ifBT rfl ?_
        walk_at "go"
        exact kk _ _ ⟨rfl, _, _, rfl⟩
  rintro σ H2 ⟨rfl, m2, b2, rfl⟩
  refine un ?_
  walk_at "go"
  refine ifD (fun z => ?_) (fun z => ?_)
  · walk_at "go"
    intro r nr
    rw [cut_to (by omega)]
    have s1 := same_upd (o := HO.lst (us.take j)) nr
    walk_at "go"
    refine q r j _ s1 nr ⟨us.take j, upd_same, ?_⟩
    rw [List.map_take]
    exact dh_take (DhAll.mono s1 _ _ dt) j
  · walk_at "go"
    exact ob ⟨rfl, _, _, _, rfl⟩
end

end

/-! ### a whole number in a list of them -/
theorem inInt (j : Int) (ms : List Int) : inV (.int j) (ms.map V.int) = decide (j ∈ ms) := by
  rw [Bool.eq_iff_iff, decide_eq_true_iff]
  unfold inV
  induction ms with
  | nil => simp
  | cons m ms ih =>
    have e : eqV (V.int m) (V.int j) = (m == j) := rfl
    simp only [List.map_cons, List.any_cons, Bool.or_eq_true, List.mem_cons, ih, e, beq_iff_eq]
    exact ⟨fun h => h.imp (fun z => z.symm) id, fun h => h.imp (fun z => z.symm) id⟩
theorem flat_ints (ms : List Int) : (ms.map V.int).all flatV = true := by
  rw [List.all_eq_true]
  intro x hx
  obtain ⟨y, _, rfl⟩ := List.mem_map.mp hx
  rfl

section

-- a condition of an operator
local macro_rules | `(tactic| walk_at "cond") => `(tactic| first
  | (show (0 : Int) < _; omega)
  | (show CDiv _ _; constructor <;> (first | decide | omega))
  | (show CMul _ _; first | (refine cmul_l ?_; constructor <;> (first | decide | omega)) | (refine cmul_r ?_; constructor <;> (first | decide | omega)))
  | (show CPow _ _; exact (by refine ⟨by decide, by decide, by decide⟩))
  | (show CDivW _ _; exact ⟨by decide, by decide +kernel⟩))
local macro_rules | `(tactic| walk_at "sq") => `(tactic| first | assumption | exact Dh.mono (same_upd (by assumption)) _ _ (by assumption) | exact .inl (.inl (.inl (by assumption))) | exact .inr (.inl (.inl (by assumption))) | exact SqL.of (by assumption) | exact .inl (by assumption) | exact .inl (SqL.of (by assumption)) | exact SqT.of (by assumption) | exact .inr (SqT.of (by assumption)))
local macro_rules | `(tactic| walk_at "st") => `(tactic| first
  | refine ⟨_, rfl, ?_⟩
  | refine ⟨_, _, rfl, rfl, ?_⟩
  | refine .inl ⟨_, rfl, ?_⟩
  | refine ⟨rfl, ?_⟩
  | refine ⟨_, _, rfl, by walk_at "sq", ?_⟩
  | refine ⟨.inl ⟨rfl, _, SqL.of (by assumption)⟩, ?_⟩
  | refine ⟨by walk_at "cond", ?_⟩
  | (refine' ifBT ?hh ?_; (case hh => first | rfl | assumption))
  | (refine' ifBF ?hh ?_; (case hh => first | rfl | assumption)))
local macro_rules | `(tactic| walk_at "go") => `(tactic| repeat walk_at "st")
local macro_rules | `(tactic| walk_at "yes") => `(tactic| (refine' ifT ?hh ?_; (case hh => first | rfl | decide +kernel)))
local macro_rules | `(tactic| walk_at "no") => `(tactic| (refine' ifF ?hh ?_; (case hh => first | decide +kernel | (intro z; cases z; done))))

-- facts carried to the heap at hand, from the facts of the context
local macro_rules | `(tactic| walk_at "lnk") => `(tactic| first | assumption | exact same_upd (by assumption))
local macro_rules | `(tactic| walk_at "sm") => `(tactic| first | walk_at "lnk" | exact same_rfl | (refine Same.trans ?_ (by walk_at "lnk"); walk_at "sm"))
local macro_rules | `(tactic| walk_at "at") => `(tactic| first | assumption | exact upd_same | (refine Same.get (by walk_at "lnk") ?_; walk_at "at"))
local macro_rules | `(tactic| walk_at "ix") => `(tactic| first
  | exact atI_nat (j := 0) rfl | exact atI_nat (j := 1) rfl | exact atI_nat (j := 2) rfl | exact atI_nat (j := 3) rfl
  | exact atI_nat (j := 4) rfl | exact atI_nat (j := 5) rfl | exact atI_nat (j := 6) rfl | assumption)
local macro_rules | `(tactic| walk_at "sT") => `(tactic| first | exact SqT.of (by walk_at "at") | exact SqL.of (by walk_at "at"))
local macro_rules | `(tactic| walk_at "st") => `(tactic| refine ⟨_, _, _, _, rfl, rfl, by walk_at "sT", by walk_at "ix", ?_⟩)
local macro_rules | `(tactic| walk_at "side") => `(tactic| first | rfl | assumption | walk_at "at" | walk_at "sm" | omega | decide)
-- a call: the promise's letters from its arguments, then what is asked from the context
local macro_rules | `(tactic| walk_at "call") => `(tactic| ((repeat (apply Exists.intro)); refine And.intro rfl ?_; repeat (refine And.intro (by walk_at "side") ?_)))

local macro_rules | `(tactic| walk_at "st") => `(tactic| refine ⟨_, _, _, _, _, rfl, by assumption, by assumption, by omega, by omega, by omega, by omega, by omega, ?_⟩)
local macro_rules | `(tactic| walk_at "st") => `(tactic| refine ⟨_, _, _, _, _, rfl, Same.seq (by assumption) (by assumption), by assumption, by omega, by omega, by omega, by omega, by omega, ?_⟩)

/-! ### _law_trace_flushed -/
abbrev s_trace_flushed : Stmt := topS 23
theorem sc_trace_flushed : FnScope ["_law_trace", "_law_positions", "_law_skipped", "_law_full", "_law_at"] ["_law_trace", "_law_positions", "_law_skipped"] (C8.fnScope s_trace_flushed) := C8.fnScope_by (by decide +kernel)
def spFlushed : Sp := fun vs H Q _ => ∃ (tr po : Addr) (sk : Int) (ms : List Int) (evs : List Ev), vs = [.ref tr, .ref po, .int sk] ∧ TrAt H tr evs ∧ (∀ e ∈ evs, e.ok) ∧ evs.length ≤ 10000 ∧ H po = some (.lst (ms.map V.int)) ∧
  ∀ r ns H', (∀ i : Int, i ∈ ns ↔ i ∈ ms ∧ i ≠ sk) → Same H H' → H r = none → TrAt H' r (flN ns evs evs.length) → Q (.ref r) H'
section
variable {P : Program} {w : World} {K : PySem.W.Frag} {mg : Str → Option Value} {base : Heap}
theorem ok_flushed {f : Addr} {fd : FuncData} (Df : Def K mg "_law_trace_flushed" s_trace_flushed f fd) (b : Binds K fd ["_law_trace", "_law_positions", "_law_skipped"] []) (T : Txt mg) : Cal P w K mg base 1 "_law_trace_flushed" spFlushed [] := by
  refine cal0 Df b .nil sc_trace_flushed (fun vs H Q E h => ?_) (fun cdv A outer s H vs Q E hr h => ?_)
  · obtain ⟨tr, po, sk, ms, evs, rfl, _⟩ := h
    rfl
  obtain ⟨tr, po, sk, ms, evs, rfl, hT, ok, hl, gp, q⟩ := h
  refine ⟨_, (pss_cons (ps_set (i := 3) sc_trace_flushed.nd rfl (.inl rfl) (pe_lst pa_nil))
      (pss_cons (ps_mk (ps_for PassesOwn.never rfl (pi_range1 (by rfl) T.range (pa_cons (pe_callB (lenQ K rfl) (by rfl) T.len PySem.boot_len (pa_cons (pv 0) pa_nil)) pa_nil)) (pg_name (i := 4) sc_trace_flushed.nd rfl (.inl rfl))
      (pss_cons (ps_mk (ps_if (PW.pt (pw_and (pt_cmpR (inQ K rfl) (pv 4) (pv 1) (by rfl)) (pw_and1 (pt_cmpR op_ne (pv 4) (pv 2) (nomark _)))))
      (pss_one (ps_expr (pe_bm PySem.F.plainAttrs_list PySem.F.slot_list_append PySem.F.type_list_append mt_append (pv 3) (pa_cons (pe_tup (pa_cons pe_str pa_nil)) pa_nil))))
      pss_nil))
      (pss_one (ps_expr (pe_bm PySem.F.plainAttrs_list PySem.F.slot_list_append PySem.F.type_list_append mt_append (pv 3) (pa_cons (pe_ix (ixL K rfl) (pv 0) (pv 4) (fun _ _ => rfl)) pa_nil)))))))
      (pss_one (ps_ret (pv 3))))), ?_⟩
  obtain ⟨ns, ens⟩ : ∃ ns, ns = ms.filter fun i => decide (i ≠ sk) := ⟨_, rfl⟩
  have hns : ∀ i : Int, i ∈ ns ↔ i ∈ ms ∧ i ≠ sk := fun i => by
    rw [ens, List.mem_filter]
    exact ⟨fun ⟨a, b⟩ => ⟨a, by simpa using b⟩, fun ⟨a, b⟩ => ⟨a, by simpa using b⟩⟩
  walk_at "go"
  refine ⟨sz, fun L nL => ?_⟩
  have f0 : Fil H (upd H L (.lst [])) L [] := ⟨same_upd nL, nL, ⟨[], upd_same, rfl⟩, fun _ h => by cases h⟩
  show _
  generalize upd H L (HO.lst []) = H1 at *
  obtain ⟨us, gt, dt⟩ := hT
  have lus := dt.len
  rw [List.length_map] at lus
  have gt1 := f0.s _ _ gt
  have sT : SqL K H1 tr us := SqL.of gt1
  refine jnS (M := fun σ H' => ∃ y, Fil H H' L (flN ns evs evs.length) ∧ σ = [sR tr, sR po, sI sk, sR L, y]) ?_ (fun N kk => ?_)
  · rintro σ H2 ⟨y, f2, rfl⟩
    walk_at "go"
    exact q L ns H2 hns f2.s nL f2.t
  walk_at "go"
  rw [lus]
  refine ⟨by omega, by omega, for_range (lo := 0) (n := evs.length) (fun j σ H' => Ob (∃ y, Fil H H' L (flN ns evs j) ∧ σ = [sR tr, sR po, sI sk, sR L, y])) (ob ⟨none, f0, rfl⟩) ?_ ?_⟩
  rotate_left
  · intro σ H2 h
    obtain ⟨y, f2, rfl⟩ := unob h
    exact kk _ _ ⟨y, f2, rfl⟩
  intro j σ H2 hj h
  obtain ⟨y, f2, rfl⟩ := unob h
  clear h kk
  obtain ⟨ev, hev⟩ : ∃ ev, evs[j]? = some ev := ⟨_, List.getElem?_eq_getElem hj⟩
  obtain ⟨t, et, dt2⟩ := ev_at dt hev
  have oke := ok ev (List.mem_of_getElem? hev)
  have at1 : atI us ((j : Nat) : Int) = some (.ref t) := atI_nat et
  have fl := flN_len (ms := ns) (evs := evs) j
  rw [Int.zero_add]
  have gp2 := f2.s _ _ gp
  walk_at "go"
  refine jnS (M := fun σ H' => ∃ F, Fil H H' L F ∧ F.length ≤ 2 * j + 1 ∧ flN ns evs (j + 1) = F ++ [ev] ∧ σ = [sR tr, sR po, sI sk, sR L, sI j]) ?_ (fun N kk => ?_)
  rotate_left
  · walk_at "go"
    refine ⟨flat_ints ms, ?_⟩
    rw [inInt]
    walk_at "go"
    have out : ¬ (j : Int) ∈ ns → N [sR tr, sR po, sI sk, sR L, sI j] H2 := fun n => kk _ _ ⟨_, f2, by omega, flN_out hev n, rfl⟩
    refine ifD (fun z1 => ?_) (fun z1 => ?_)
    · walk_at "go"
      refine ifNe (fun z2 => ?_) (fun z2 => ?_)
      · obtain ⟨vs, gL, dL⟩ := f2.t
        have lvs := dL.len
        rw [List.length_map] at lvs
        walk_at "go"
        refine ⟨sz, fun p hp => ?_⟩
        have s3 := same_upd (o := HO.tup [V.str "flush"]) hp
        have gp3 := upd_same (H := H2) (a := p) (o := HO.tup [V.str "flush"])
        have gL3 := s3 _ _ gL
        have dL3 := DhAll.mono s3 _ _ dL
        have f3 := f2.same s3
        show _
        generalize upd H2 p (HO.tup [V.str "flush"]) = H3 at *
        walk_at "go"
        refine ⟨L, vs, _, rfl, rfl, gL3, sz5 (by omega), ?_⟩
        walk_at "go"
        exact kk _ _ ⟨_, f3.snoc (e := Ev.flush) gL3 dL3 trivial ⟨p, _, rfl, gp3, _, _, rfl, rfl, rfl⟩, by rw [List.length_append]; show (flN ns evs j).length + 1 ≤ _; omega, flN_in hev ((hns _).mpr ⟨z1, z2⟩), rfl⟩
      · walk_at "go"
        exact out fun m => ((hns _).mp m).2 z2
    · walk_at "go"
      exact out fun m => z1 ((hns _).mp m).1
  rintro σ H3 ⟨F, f3, lF, eF, rfl⟩
  obtain ⟨vs, gL, dL⟩ := f3.t
  have lvs := dL.len
  rw [List.length_map] at lvs
  have sT3 : SqL K H3 tr us := SqL.of (f3.s _ _ gt)
  have dt3 := Dh.mono f3.s _ _ dt2
  walk_at "go"
  refine ⟨_, _, _, _, rfl, rfl, sT3, at1, ?_⟩
  walk_at "go"
  refine ⟨L, vs, _, rfl, rfl, gL, sz5 (by omega), ?_⟩
  walk_at "go"
  refine ob ⟨_, ?_, rfl⟩
  rw [eF]
  exact f3.snoc gL dL oke dt3
end

end

section

-- a condition of an operator
local macro_rules | `(tactic| walk_at "cond") => `(tactic| first
  | (show (0 : Int) < _; omega)
  | (show CDiv _ _; constructor <;> (first | decide | omega))
  | (show CMul _ _; first | (refine cmul_l ?_; constructor <;> (first | decide | omega)) | (refine cmul_r ?_; constructor <;> (first | decide | omega)))
  | (show CPow _ _; exact (by refine ⟨by decide, by decide, by decide⟩))
  | (show CDivW _ _; exact ⟨by decide, by decide +kernel⟩))
local macro_rules | `(tactic| walk_at "sq") => `(tactic| first | assumption | exact Dh.mono (same_upd (by assumption)) _ _ (by assumption) | exact .inl (.inl (.inl (by assumption))) | exact .inr (.inl (.inl (by assumption))) | exact SqL.of (by assumption) | exact .inl (by assumption) | exact .inl (SqL.of (by assumption)) | exact SqT.of (by assumption) | exact .inr (SqT.of (by assumption)))
local macro_rules | `(tactic| walk_at "st") => `(tactic| first
  | refine ⟨_, rfl, ?_⟩
  | refine ⟨_, _, rfl, rfl, ?_⟩
  | refine .inl ⟨_, rfl, ?_⟩
  | refine ⟨rfl, ?_⟩
  | refine ⟨_, _, rfl, by walk_at "sq", ?_⟩
  | refine ⟨.inl ⟨rfl, _, SqL.of (by assumption)⟩, ?_⟩
  | refine ⟨by walk_at "cond", ?_⟩
  | (refine' ifBT ?hh ?_; (case hh => first | rfl | assumption))
  | (refine' ifBF ?hh ?_; (case hh => first | rfl | assumption)))
local macro_rules | `(tactic| walk_at "go") => `(tactic| repeat walk_at "st")
local macro_rules | `(tactic| walk_at "yes") => `(tactic| (refine' ifT ?hh ?_; (case hh => first | rfl | decide +kernel)))
local macro_rules | `(tactic| walk_at "no") => `(tactic| (refine' ifF ?hh ?_; (case hh => first | decide +kernel | (intro z; cases z; done))))

-- facts carried to the heap at hand, from the facts of the context
local macro_rules | `(tactic| walk_at "lnk") => `(tactic| first | assumption | exact same_upd (by assumption))
local macro_rules | `(tactic| walk_at "sm") => `(tactic| first | walk_at "lnk" | exact same_rfl | (refine Same.trans ?_ (by walk_at "lnk"); walk_at "sm"))
local macro_rules | `(tactic| walk_at "at") => `(tactic| first | assumption | exact upd_same | (refine Same.get (by walk_at "lnk") ?_; walk_at "at"))
local macro_rules | `(tactic| walk_at "ix") => `(tactic| first
  | exact atI_nat (j := 0) rfl | exact atI_nat (j := 1) rfl | exact atI_nat (j := 2) rfl | exact atI_nat (j := 3) rfl
  | exact atI_nat (j := 4) rfl | exact atI_nat (j := 5) rfl | exact atI_nat (j := 6) rfl | assumption)
local macro_rules | `(tactic| walk_at "sT") => `(tactic| first | exact SqT.of (by walk_at "at") | exact SqL.of (by walk_at "at"))
local macro_rules | `(tactic| walk_at "st") => `(tactic| refine ⟨_, _, _, _, rfl, rfl, by walk_at "sT", by walk_at "ix", ?_⟩)
local macro_rules | `(tactic| walk_at "side") => `(tactic| first | rfl | assumption | walk_at "at" | walk_at "sm" | omega | decide)
-- a call: the promise's letters from its arguments, then what is asked from the context
local macro_rules | `(tactic| walk_at "call") => `(tactic| ((repeat (apply Exists.intro)); refine And.intro rfl ?_; repeat (refine And.intro (by walk_at "side") ?_)))

local macro_rules | `(tactic| walk_at "st") => `(tactic| refine ⟨_, _, _, _, _, rfl, by assumption, by assumption, by omega, by omega, by omega, by omega, by omega, ?_⟩)
local macro_rules | `(tactic| walk_at "st") => `(tactic| refine ⟨_, _, _, _, _, rfl, Same.seq (by assumption) (by assumption), by assumption, by omega, by omega, by omega, by omega, by omega, ?_⟩)

/-! ### _law_trace_lacks -/
abbrev s_trace_lacks : Stmt := topS 24
theorem sc_trace_lacks : FnScope ["_law_trace", "_law_size", "_law_values", "_law_positions", "_law_pair", "_law_due", "_law_at", "_law_told"] ["_law_trace", "_law_size", "_law_values", "_law_positions", "_law_pair"] (C8.fnScope s_trace_lacks) := C8.fnScope_by (by decide +kernel)
def spLacks : Sp := fun vs H Q _ => ∃ (tr VL po pr : Addr) (c : Int) (a b : Nat) (k : PyData) (evs : List Ev) (ws : List V), vs = [.ref tr, .int c, .ref VL, .ref po, .ref pr] ∧ TrAt H tr evs ∧ (∀ e ∈ evs, e.ok) ∧ (∀ e ∈ evs, e.isF = false) ∧ evs.length ≤ 4000 ∧ 0 ≤ c ∧ c ≤ 1000 ∧ H VL = some (.lst ws) ∧ DhAll H (valsD evs) ws ∧
  H po = some (.lst ((posI (qN c evs evs.length).ps).map V.int)) ∧ H pr = some (.tup [.int a, .int b]) ∧ Frc c evs k a b ∧ (b : Int) ∈ posI (qN c evs evs.length).ps ∧ ∀ H', Same H H' → Q (.bl true) H'
theorem play_mk {C : Addr} {w : World} {tr kl : Addr} {ks : List Str} {c : Int} {evs : List Ev} {H : Hp} {Q : VK} {E : XK} (hT : TrAt H tr evs) (ok : ∀ e ∈ evs, e.ok) (hl : evs.length ≤ 10000) (gk : H kl = some (.lst (ks.map V.str))) (c0 : 0 ≤ c) (c1 : c ≤ 80000)
    (q : ∀ r H', Same H H' → H r = none → Dh H' (.list ((playN c ks [] evs evs.length).2.map pr2)) (.ref r) → Q (.ref r) H') : spPlay C w [.ref tr, .int c, .ref kl] H Q E :=
  ⟨tr, kl, ks, c, evs, rfl, hT, ok, hl, gk, c0, c1, q⟩
section
variable {P : Program} {w : World} {K : PySem.W.Frag} {mg : Str → Option Value} {base : Heap} {C : Addr}
theorem ok_lacks {f : Addr} {fd : FuncData} (Df : Def K mg "_law_trace_lacks" s_trace_lacks f fd) (b : Binds K fd ["_law_trace", "_law_size", "_law_values", "_law_positions", "_law_pair"] []) (T : Txt mg) (c_same : Cal P w K mg base 6 "_law_same" (spSame 5) []) (c_trace_flushed : Cal P w K mg base 1 "_law_trace_flushed" spFlushed []) (c_play_trace : Cal P w K mg base 4 "play_trace" (spPlay C w) []) : Cal P w K mg base 7 "_law_trace_lacks" spLacks [] := by
  refine cal0 Df b .nil sc_trace_lacks (fun vs H Q E h => ?_) (fun cdv A outer s H vs Q E hr h => ?_)
  · obtain ⟨tr, VL, po, pr, c, a, b, k, evs, ws, rfl, _⟩ := h
    rfl
  obtain ⟨tr, VL, po, pr, c, a, b, k, evs, ws, rfl, hT, ok, nf, hl, c0, c1, gV, dV, gp, gr, fr, mp, q⟩ := h
  have c_same := calI c_same
  have c_trace_flushed := calI c_trace_flushed
  have c_play_trace := calI c_play_trace
  refine ⟨_, (pss_cons (ps_setLc (i := 5) (own := [("_law_at", 6)]) (g := gName 6) rfl sc_trace_lacks.nd rfl rfl (sw_true rfl rfl rfl (by decide +kernel)) (pi_range1 (by rfl) T.range (pa_cons (pe_ix (ixT K rfl) (pv 4) pe_int (fun _ _ => rfl)) pa_nil)) (blkOk_by (own := [("_law_at", 6)]) (N := ["_law_trace", "_law_size", "_law_values", "_law_positions", "_law_pair", "_law_due", "_law_at", "_law_told"]) (sc := C8.fnScope s_trace_lacks) (by decide +kernel)) (fun _ _ _ _ _ => (pg_name (i := 6) sc_trace_lacks.nd rfl (.inl rfl))) (fun _ _ _ _ _ => (pts_one (pt_cmpR op_eq (pe_ix (ixT K rfl) (pe_ix (ixL K rfl) (pv 0) (pv 6) (fun _ _ => rfl)) pe_int (fun _ _ => rfl)) pe_str (nomark _)))) (fun _ _ _ _ _ => (pe_tup (pa_cons (pe_ix (ixL K rfl) (pv 2) (pv 6) (fun _ _ => rfl)) (pa_cons (pe_ix (ixL K rfl) (pv 2) (pv 6) (fun _ _ => rfl)) pa_nil)))))
      (pss_cons (ps_expr (pe_bm PySem.F.plainAttrs_list PySem.F.slot_list_append PySem.F.type_list_append mt_append (pv 5) (pa_cons (pe_tup (pa_cons (pe_ix (ixL K rfl) (pv 2) (pe_ix (ixT K rfl) (pv 4) pe_int (fun _ _ => rfl)) (fun _ _ => rfl)) (pa_cons (pe_ix (ixL K rfl) (pv 2) (pe_ix (ixT K rfl) (pv 4) pe_int (fun _ _ => rfl)) (fun _ _ => rfl)) pa_nil))) pa_nil)))
      (pss_cons (ps_set (i := 7) sc_trace_lacks.nd rfl (.inl rfl) (C8.pe_c c_play_trace hr (by omega) (by rfl) (pa_cons (C8.pe_c c_trace_flushed hr (by omega) (by rfl) (pa_cons (pv 0) (pa_cons (pv 3) (pa_cons (pe_ix (ixT K rfl) (pv 4) pe_int (fun _ _ => rfl)) pa_nil)))) (pa_cons (pv 1) (pa_cons (pe_lst pa_nil) pa_nil)))))
      (pss_one (ps_ret (pe_and (pe_not (C8.pe_c c_same hr (by omega) (by rfl) (pa_cons (pe_ix (ixL K rfl) (pv 2) (pe_ix (ixT K rfl) (pv 4) pe_int (fun _ _ => rfl)) (fun _ _ => rfl)) (pa_cons (pe_ix (ixL K rfl) (pv 2) (pe_ix (ixT K rfl) (pv 4) pe_int (fun _ _ => rfl)) (fun _ _ => rfl)) pa_nil)))) (pe_one (C8.pe_c c_same hr (by omega) (by rfl) (pa_cons (pe_slice (slL K rfl) (pv 7) po_none (po_some (pe_callB (lenQ K rfl) (by rfl) T.len PySem.boot_len (pa_cons (pv 5) pa_nil)))) (pa_cons (pv 5) pa_nil)))))))))), ?_⟩
  have hb : b < evs.length := (List.getElem?_eq_some_iff.mp fr.eb).1
  have hab := fr.lt
  obtain ⟨us, gt, dt⟩ := id hT
  have lus := dt.len
  rw [List.length_map] at lus
  walk_at "go"
  refine ⟨by omega, by omega, fun DL nD => lc_range (lo := 0) (n := b) (fun j H' => Ob (Same H H' ∧ ∃ xs, H' DL = some (.lst xs) ∧ DhAll H' ((dueN evs j).map pr2) xs)) (ob ⟨same_upd nD, [], upd_same, rfl⟩) ?_ ?_⟩
  · intro j H' hj h
    obtain ⟨s9, xs, g9, d9⟩ := unob h
    clear h
    have lxs := d9.len
    rw [List.length_map] at lxs
    have ldu := dueN_len (evs := evs) j
    refine ⟨rfl, ?_⟩
    rw [Int.zero_add]
    obtain ⟨ev, hev⟩ : ∃ ev, evs[j]? = some ev := ⟨_, List.getElem?_eq_getElem (by omega)⟩
    obtain ⟨t, et, dt2⟩ := ev_at dt hev
    have nfe := nf ev (List.mem_of_getElem? hev)
    obtain ⟨vs, gw⟩ := ev_word dt2
    have at1 : atI us ((j : Nat) : Int) = some (.ref t) := atI_nat et
    have sT : SqL K H' tr us := SqL.of (s9 _ _ gt)
    have gw9 := s9 _ _ gw
    cases ev with
    | flush => cases nfe
    | set k2 v =>
      have e2 := dueN_no (evs := evs) (j := j) (fun k z => by rw [hev] at z; cases z)
      walk_at "go"
      exact ob ⟨s9, xs, g9, by rw [e2]; exact d9⟩
    | touch k2 =>
      obtain ⟨vv, evv, dvv⟩ := vals_at dV (show j < evs.length by omega)
      rw [valD_touch hev] at dvv
      have avv : atI ws ((j : Nat) : Int) = some vv := atI_nat evv
      have sV : SqL K H' VL ws := SqL.of (s9 _ _ gV)
      have dvv9 := Dh.mono s9 _ _ dvv
      have ot := tabN_opt ok j k2
      walk_at "go"
      refine ⟨sz, fun p hp => ?_⟩
      have s3 := same_upd (o := HO.tup [vv, vv]) hp
      have gp3 := upd_same (H := H') (a := p) (o := HO.tup [vv, vv])
      have g3 := s3 _ _ g9
      have d3 := DhAll.mono s3 _ _ d9
      have dv3 := Dh.mono s3 _ _ dvv9
      show _
      generalize upd H' p (HO.tup [vv, vv]) = H3 at *
      have tu : Tups H3 (upd H3 DL (.lst (xs ++ [V.ref p]))) := Tups.put fun us z => by rw [g3] at z; cases z
      refine ⟨xs, g3, sz5 (by omega), ob ⟨same_put (s9.trans s3) nD, xs ++ [V.ref p], upd_same, DhAll.tups tu _ _ (pr2s_noLO (dueN_ok ok (j + 1))) ?_⟩⟩
      rw [dueN_touch hev, List.map_append]
      exact DhAll.snoc d3 ⟨p, _, rfl, gp3, _, _, rfl, dv3, _, _, rfl, dv3, rfl⟩
  intro H1 h
  obtain ⟨s1, xs, g1, d1⟩ := unob h
  clear h
  have lxs := d1.len
  rw [List.length_map] at lxs
  have ldu := dueN_len (evs := evs) b
  obtain ⟨va, eva, dva⟩ := vals_at dV (show a < evs.length by omega)
  obtain ⟨vb, evb, dvb⟩ := vals_at dV hb
  rw [valD_touch fr.ea] at dva
  rw [valD_touch fr.eb] at dvb
  have ava : atI ws ((a : Nat) : Int) = some va := atI_nat eva
  have avb : atI ws ((b : Nat) : Int) = some vb := atI_nat evb
  have oa := tabN_opt ok a k
  have obk := tabN_opt ok b k
  have sV : SqL K H1 VL ws := SqL.of (s1 _ _ gV)
  have gr1 := s1 _ _ gr
  try dsimp only
  walk_at "go"
  refine ⟨sz, fun p hp => ?_⟩
  have s3 := same_upd (o := HO.tup [va, vb]) hp
  have gp3 := upd_same (H := H1) (a := p) (o := HO.tup [va, vb])
  have g3 := s3 _ _ g1
  have d3 := DhAll.mono s3 _ _ d1
  have s13 := s1.trans s3
  show _
  generalize upd H1 p (HO.tup [va, vb]) = H3 at *
  walk_at "go"
  refine ⟨DL, xs, _, rfl, rfl, g3, sz5 (by omega), ?_⟩
  have tu : Tups H3 (upd H3 DL (.lst (xs ++ [V.ref p]))) := Tups.put fun us z => by rw [g3] at z; cases z
  have s4 : Same H (upd H3 DL (.lst (xs ++ [V.ref p]))) := same_put s13 nD
  have g4 := upd_same (H := H3) (a := DL) (o := HO.lst (xs ++ [V.ref p]))
  have ok4 : ∀ x ∈ dueN evs b ++ [(tabN evs a k, tabN evs b k)], Opt x.1 ∧ Opt x.2 := fun x hx => by
    rcases List.mem_append.mp hx with z | z
    · exact dueN_ok ok b x z
    · obtain rfl : x = (tabN evs a k, tabN evs b k) := by simpa using z
      exact ⟨oa, obk⟩
  have d4 : DhAll (upd H3 DL (.lst (xs ++ [V.ref p]))) ((dueN evs b ++ [(tabN evs a k, tabN evs b k)]).map pr2) (xs ++ [V.ref p]) := by
    refine DhAll.tups tu _ _ (pr2s_noLO ok4) ?_
    rw [List.map_append]
    exact DhAll.snoc d3 ⟨p, _, rfl, gp3, _, _, rfl, Dh.mono s13 _ _ dva, _, _, rfl, Dh.mono s13 _ _ dvb, rfl⟩
  show _
  generalize upd H3 DL (HO.lst (xs ++ [V.ref p])) = H4 at *
  clear d1 g1 d3 g3 sV gr1 s1 s3 s13 tu
  have hT4 := hT.same s4
  have gr4 := s4 _ _ gr
  have gpo4 := s4 _ _ gp
  walk_at "go"
  refine SpI.mk ⟨tr, po, _, _, evs, rfl, hT4, ok, by omega, gpo4, fun FL ns H5 hns s5 nF tF => ?_⟩
  have lF := flN_len (ms := ns) (evs := evs) evs.length
  have okF := flN_ok (ms := ns) ok evs.length
  obtain ⟨ys, ey⟩ := lacks c0 ok nf fr mp (ms := ns) (fun i => by rw [hns]; exact ⟨fun z => ⟨z.1, fun e => z.2 (by rw [e])⟩, fun z => ⟨z.1, fun e => z.2 (by omega)⟩⟩)
  have s45 := s4.trans s5
  have g5 := s5 _ _ g4
  have d5 := DhAll.mono s5 _ _ d4
  walk_at "go"
  refine ⟨sz, fun e1 n1 => ?_⟩
  have t1 := same_upd (o := HO.lst []) n1
  have ge := upd_same (H := H5) (a := e1) (o := HO.lst [])
  have tF6 := tF.same t1
  have s46 := s45.trans t1
  have g6 := t1 _ _ g5
  have d6 := DhAll.mono t1 _ _ d5
  show _
  generalize upd H5 e1 (HO.lst []) = H6 at *
  refine SpI.mk (play_mk (ks := []) tF6 okF (by omega) ge c0 (by omega) fun told H7 s7 n7 d7 => ?_)
  rw [fl_play, ey] at d7
  obtain ⟨_, ut, e7, gt7, dt7⟩ := d7
  cases e7
  have s47 := s46.trans s7
  have g7 := s7 _ _ g6
  have d7 := DhAll.mono s7 _ _ d6
  have sV7 : SqL K H7 VL ws := SqL.of (s47 _ _ gV)
  have gr7 := s47 _ _ gr
  have dva7 := Dh.mono s47 _ _ dva
  have dvb7 := Dh.mono s47 _ _ dvb
  have sD7 : SqL K H7 DL (xs ++ [V.ref p]) := SqL.of g7
  clear g4 d4 hT4 gr4 gpo4 g5 d5 tF tF6 g6 d6 ge s45 s46 s5 t1 s4
  walk_at "go"
  refine SpI.mk ⟨_, _, _, _, rfl, dvb7, dva7, dle5 oa, fun b8 H8 hb8 s8 => ?_⟩
  have b8f : b8 = false := by
    cases b8
    · rfl
    · exact absurd (hb8.mp rfl) fr.ne
  subst b8f
  have g8 := s8 _ _ g7
  have d8 := DhAll.mono s8 _ _ d7
  have gt8 := s8 _ _ gt7
  have dt8 := DhAll.mono s8 _ _ dt7
  have sD8 : SqL K H8 DL (xs ++ [V.ref p]) := SqL.of g8
  have sT8 : SqL K H8 told ut := SqL.of gt8
  have s48 := s47.trans s8
  have ld8 : (xs ++ [V.ref p]).length = ((dueN evs b ++ [(tabN evs a k, tabN evs b k)]).map pr2).length := d8.len
  have lt8 := dt8.len
  rw [List.map_append] at lt8
  rw [List.length_append] at lt8
  walk_at "go"
  intro T2 nT2
  rw [cut_to (by omega)]
  have s9 := same_upd (o := HO.lst (ut.take (xs ++ [V.ref p]).length)) nT2
  have g9 := upd_same (H := H8) (a := T2) (o := HO.lst (ut.take (xs ++ [V.ref p]).length))
  have dd := dh_take (DhAll.mono s9 _ _ dt8) (xs ++ [V.ref p]).length
  rw [List.map_append, List.take_left' ld8.symm] at dd
  have d9 := DhAll.mono s9 _ _ d8
  have g92 := s9 _ _ g8
  show _
  generalize upd H8 T2 (HO.lst (ut.take (xs ++ [V.ref p]).length)) = H9 at *
  walk_at "go"
  refine SpI.mk (same_eq (d := .list ((dueN evs b ++ [(tabN evs a k, tabN evs b k)]).map pr2)) ⟨T2, _, rfl, g9, dd⟩ ⟨DL, _, rfl, g92, d9⟩ (dle_prO (by rw [List.length_append]; show (dueN evs b).length + 1 ≤ _; omega) ok4) fun H10 s10 => ?_)
  walk_at "go"
  exact q _ ((s48.trans s9).trans s10)
end

end

/-! ### a chain of three comparisons -/
section
variable {X : Cx} {a b c d : Expr} {ta tb tc td : TE} {r r2 r3 : R2} {op op2 op3 : CmpOp} {pos : Pos}
def tChain3 (r r2 r3 : R2) (ta tb tc td : TE) : TE := fun σ H Q => ta σ H fun x H1 => tb σ H1 fun y H2 => r x y H2 fun z H3 => ∃ k, z = .bl k ∧
  (if k = true then tc σ H3 fun u H4 => r2 y u H4 fun z2 H5 => ∃ k2, z2 = .bl k2 ∧ (if k2 = true then td σ H5 fun v H6 => r3 u v H6 Q else Q (.bl false) H5) else Q (.bl false) H3)
theorem if_ff {A B : Prop} (h : B) : if (false : Bool) = true then A else B := by
  rw [if_neg (by decide)]
  exact h
theorem if_tt {A B : Prop} (h : A) : if (true : Bool) = true then A else B := by
  rw [if_pos rfl]
  exact h
theorem pt_chain3 (h1 : OpR X (compareOp op) r) (h2 : OpR X (compareOp op2) r2) (h3 : OpR X (compareOp op3) r3) (ha : PE X a ta) (hb : PE X b tb) (hc : PE X c tc) (hd : PE X d td)
    (hm : lastMarks [op, op2, op3] [b, c, d] = false := by with_unfolding_all rfl) : PT X (.Compare a [op, op2, op3] [b, c, d] pos) (tTest (tChain3 r r2 r3 ta tb tc td)) := by
  refine ⟨fun pins s σ H Q I h => ?_⟩
  refine isTrue_chain (thn (ha.run pins s σ H _ I h) fun v s1 ⟨x, H1, I1, e1, q1⟩ => test_link (thn (hb.run pins s1 σ H1 _ I1 q1) fun u s2 ⟨y, H2, I2, e2, q2⟩ => thn (h1 pins s2 σ H2 x y v u _ I2 e1 e2 q2) fun dv s3 ⟨z, H3, I3, e3, k, ek, q3⟩ => ?_)) hm
  subst ek
  cases e3
  refine wpAny_truthy_bool ?_
  cases k with
  | false =>
    obtain ⟨k', e', q'⟩ := q3
    cases e'
    exact if_ff ⟨H3, I3, q'⟩
  | true =>
    refine if_tt (test_link (thn (hc.run pins s3 σ H3 _ I3 (if_pos rfl ▸ q3)) fun w4 s4 ⟨z4, H4, I4, e4, q4⟩ => thn (h2 pins s4 σ H4 y z4 u w4 _ I4 e2 e4 q4) fun d5 s5 ⟨z5, H5, I5, e5, k2, ek2, q5⟩ => ?_))
    subst ek2
    cases e5
    refine wpAny_truthy_bool ?_
    cases k2 with
    | false =>
      obtain ⟨k', e', q'⟩ := q5
      cases e'
      exact if_ff ⟨H5, I5, q'⟩
    | true =>
      refine if_tt (test_last (thn (hd.run pins s5 σ H5 _ I5 q5) fun w6 s6 ⟨z6, H6, I6, e6, q6⟩ => thn (h3 pins s6 σ H6 z4 z6 w4 w6 _ I6 e4 e6 q6) fun d7 s7 ⟨z7, H7, I7, e7, k3, ek3, q7⟩ => ?_))
      subst ek3
      cases e7
      exact wpAny_truthy_bool ⟨H7, I7, q7⟩
end

section

-- a condition of an operator
local macro_rules | `(tactic| walk_at "cond") => `(tactic| first
  | (show (0 : Int) < _; omega)
  | (show CDiv _ _; constructor <;> (first | decide | omega))
  | (show CMul _ _; first | (refine cmul_l ?_; constructor <;> (first | decide | omega)) | (refine cmul_r ?_; constructor <;> (first | decide | omega)))
  | (show CPow _ _; exact (by refine ⟨by decide, by decide, by decide⟩))
  | (show CDivW _ _; exact ⟨by decide, by decide +kernel⟩))
local macro_rules | `(tactic| walk_at "sq") => `(tactic| first | assumption | exact Dh.mono (same_upd (by assumption)) _ _ (by assumption) | exact .inl (.inl (.inl (by assumption))) | exact .inr (.inl (.inl (by assumption))) | exact SqL.of (by assumption) | exact .inl (by assumption) | exact .inl (SqL.of (by assumption)) | exact SqT.of (by assumption) | exact .inr (SqT.of (by assumption)))
local macro_rules | `(tactic| walk_at "st") => `(tactic| first
  | refine ⟨_, rfl, ?_⟩
  | refine ⟨_, _, rfl, rfl, ?_⟩
  | refine .inl ⟨_, rfl, ?_⟩
  | refine ⟨rfl, ?_⟩
  | refine ⟨_, _, rfl, by walk_at "sq", ?_⟩
  | refine ⟨.inl ⟨rfl, _, SqL.of (by assumption)⟩, ?_⟩
  | refine ⟨by walk_at "cond", ?_⟩
  | (refine' ifBT ?hh ?_; (case hh => first | rfl | assumption))
  | (refine' ifBF ?hh ?_; (case hh => first | rfl | assumption)))
local macro_rules | `(tactic| walk_at "go") => `(tactic| repeat walk_at "st")
local macro_rules | `(tactic| walk_at "yes") => `(tactic| (refine' ifT ?hh ?_; (case hh => first | rfl | decide +kernel)))
local macro_rules | `(tactic| walk_at "no") => `(tactic| (refine' ifF ?hh ?_; (case hh => first | decide +kernel | (intro z; cases z; done))))

-- facts carried to the heap at hand, from the facts of the context
local macro_rules | `(tactic| walk_at "lnk") => `(tactic| first | assumption | exact same_upd (by assumption))
local macro_rules | `(tactic| walk_at "sm") => `(tactic| first | walk_at "lnk" | exact same_rfl | (refine Same.trans ?_ (by walk_at "lnk"); walk_at "sm"))
local macro_rules | `(tactic| walk_at "at") => `(tactic| first | assumption | exact upd_same | (refine Same.get (by walk_at "lnk") ?_; walk_at "at"))
local macro_rules | `(tactic| walk_at "ix") => `(tactic| first
  | exact atI_nat (j := 0) rfl | exact atI_nat (j := 1) rfl | exact atI_nat (j := 2) rfl | exact atI_nat (j := 3) rfl
  | exact atI_nat (j := 4) rfl | exact atI_nat (j := 5) rfl | exact atI_nat (j := 6) rfl | assumption)
local macro_rules | `(tactic| walk_at "sT") => `(tactic| first | exact SqT.of (by walk_at "at") | exact SqL.of (by walk_at "at"))
local macro_rules | `(tactic| walk_at "st") => `(tactic| refine ⟨_, _, _, _, rfl, rfl, by walk_at "sT", by walk_at "ix", ?_⟩)
local macro_rules | `(tactic| walk_at "side") => `(tactic| first | rfl | assumption | walk_at "at" | walk_at "sm" | omega | decide)
-- a call: the promise's letters from its arguments, then what is asked from the context
local macro_rules | `(tactic| walk_at "call") => `(tactic| ((repeat (apply Exists.intro)); refine And.intro rfl ?_; repeat (refine And.intro (by walk_at "side") ?_)))

local macro_rules | `(tactic| walk_at "st") => `(tactic| refine ⟨_, _, _, _, _, rfl, by assumption, by assumption, by omega, by omega, by omega, by omega, by omega, ?_⟩)
local macro_rules | `(tactic| walk_at "st") => `(tactic| refine ⟨_, _, _, _, _, rfl, Same.seq (by assumption) (by assumption), by assumption, by omega, by omega, by omega, by omega, by omega, ?_⟩)

/-! ### the law (k78) -/
abbrev s_law : Stmt := topS 25
theorem sc_law : FnScope ["_law_script", "_law_world", "_law_trace", "_law_key", "_law_size", "_law_values", "_law_given", "_law_told", "_law_positions", "_law_pairs", "_law_pair", "_law_due", "_law_at", "_law_full", "_law_passed", "_law_seen", "_law_many", "_law_k"] ["_law_script"] (C8.fnScope s_law) := C8.fnScope_by (by decide +kernel)
def spLaw (K : PySem.W.Frag) : Sp := fun vs H Q _ => ∃ (a : Addr) (ns : List Int), vs = [.ref a] ∧ SqL K H a (ns.map V.int) ∧ ns.length ≤ 63 ∧ ∀ H', Q (.bl true) H'
section
variable {P : Program} {w : World} {K : PySem.W.Frag} {mg : Str → Option Value} {base : Heap} {C : Addr}
theorem ok_law {f : Addr} {fd : FuncData} (D : Def K mg "law" s_law f fd) (T : TxtM mg) (c_number : Cal P w K mg base 1 "_law_number" (spNum K) []) (c_thing : Cal P w K mg base 2 "_law_thing" (spThing K) []) (c_same : Cal P w K mg base 6 "_law_same" (spSame 5) []) (c_trace_build : Cal P w K mg base 3 "_law_trace_build" (spTB K) []) (c_trace_cut : Cal P w K mg base 1 "_law_trace_cut" spCut []) (c_trace_flushed : Cal P w K mg base 1 "_law_trace_flushed" spFlushed []) (c_trace_lacks : Cal P w K mg base 7 "_law_trace_lacks" spLacks []) (c_flush_plan : Cal P w K mg base 4 "flush_plan" (spPlan C w) [])
    (c_is_plan : Cal P w K mg base 7 "_law_is_plan" spIsPlan []) (c_trace_values : Cal P w K mg base 3 "_law_trace_values" spVals []) (c_play_trace : Cal P w K mg base 4 "play_trace" (spPlay C w) []) : FnOk P w K mg base C8.CX0 8 f fd ["_law_script"] (spLaw K) := by
  refine C8.fn0 D.fn sc_law (fun vs H Q E h => ?_) (fun cdv A outer s H vs Q E hr h => ?_)
  · obtain ⟨a, ns, rfl, _⟩ := h
    rfl
  obtain ⟨a, ns, rfl, hS, hl, q⟩ := h
  have c_same := calI c_same
  have c_flush_plan := calI c_flush_plan
  have c_is_plan := calI c_is_plan
  have c_trace_values := calI c_trace_values
  have c_trace_cut := calI c_trace_cut
  have c_trace_flushed := calI c_trace_flushed
  have c_trace_lacks := calI c_trace_lacks
  have c_play_trace := calI c_play_trace
  refine ⟨_, (pss_cons (ps_set (i := 1) sc_law.nd rfl (.inl rfl) (C8.pe_c c_trace_build hr (by omega) (by rfl) (pa_cons (pv 0) (pa_cons pe_bl (pa_cons pe_bl pa_nil)))))
      (pss_cons (ps_set (i := 2) sc_law.nd rfl (.inr rfl) (pe_ix (ixT K rfl) (pv 1) pe_int (fun _ _ => rfl)))
      (pss_cons (ps_mk (ps_if (pt_cmpR op_eq (C8.pe_c c_number hr (by omega) (by rfl) (pa_cons (pv 0) (pa_cons pe_int (pa_cons pe_int (pa_cons pe_int pa_nil))))) pe_int (nomark _))
      (pss_cons (ps_set (i := 3) sc_law.nd rfl (.inl rfl) (C8.pe_c c_thing hr (by omega) (by rfl) (pa_cons (pv 0) (pa_cons pe_int (pa_cons pe_int pa_nil)))))
      (pss_one (ps_set (i := 2) sc_law.nd rfl (.inr rfl) (pe_op op_cat (pe_lst (pa_cons (pe_tup (pa_cons pe_str (pa_cons (pv 3) (pa_cons (C8.pe_c c_thing hr (by omega) (by rfl) (pa_cons (pv 0) (pa_cons pe_int (pa_cons pe_int pa_nil)))) pa_nil)))) (pa_cons (pe_tup (pa_cons pe_str (pa_cons (pv 3) pa_nil))) (pa_cons (pe_tup (pa_cons pe_str (pa_cons (pv 3) (pa_cons pe_non pa_nil)))) (pa_cons (pe_tup (pa_cons pe_str (pa_cons (pv 3) pa_nil))) pa_nil))))) (pv 2)))))
      pss_nil))
      (pss_cons (ps_set (i := 2) sc_law.nd rfl (.inr rfl) (C8.pe_c c_trace_cut hr (by omega) (by rfl) (pa_cons (pv 2) pa_nil)))
      (pss_cons (ps_set (i := 4) sc_law.nd rfl (.inl rfl) (pe_ix (ixT K rfl) (pv 1) pe_int (fun _ _ => rfl)))
      (pss_cons (ps_set (i := 5) sc_law.nd rfl (.inr rfl) (C8.pe_c c_trace_values hr (by omega) (by rfl) (pa_cons (pv 2) pa_nil)))
      (pss_cons (ps_set (i := 6) sc_law.nd rfl (.inl rfl) (pe_callTy (listQ K rfl) (by rfl) T.list (by decide +kernel) (pa_cons (pv 2) pa_nil)))
      (pss_cons (ps_set (i := 7) sc_law.nd rfl (.inl rfl) (C8.pe_c c_flush_plan hr (by omega) (by rfl) (pa_cons (pv 6) (pa_cons (pv 4) pa_nil))))
      (pss_cons (ps_mk (ps_if (PW.pt (pw_or (pt_not (pt_val (C8.pe_c c_is_plan hr (by omega) (by rfl) (pa_cons (pv 7) pa_nil)))) (pw_or1 (pt_not (pt_val (C8.pe_c c_same hr (by omega) (by rfl) (pa_cons (pv 6) (pa_cons (pv 2) pa_nil))))))))
      (pss_one (ps_ret pe_bl))
      pss_nil))
      (pss_cons (ps_set (i := 8) sc_law.nd rfl (.inl rfl) (pe_callTy (listQ K rfl) (by rfl) T.list (by decide +kernel) (pa_cons (pe_ix (ixT K rfl) (pv 7) pe_int (fun _ _ => rfl)) pa_nil)))
      (pss_cons (ps_set (i := 9) sc_law.nd rfl (.inl rfl) (pe_callTy (listQ K rfl) (by rfl) T.list (by decide +kernel) (pa_cons (pe_ix (ixT K rfl) (pv 7) pe_int (fun _ _ => rfl)) pa_nil)))
      (pss_cons (ps_mk (ps_if (pt_cmpR op_gt (pe_callB (lenQ K rfl) (by rfl) T.len PySem.boot_len (pa_cons (pe_lc (own := [("_law_pair", 10)]) (g := gName 10) rfl sc_law.nd (pi_list (pv 9)) (blkOk_by (own := [("_law_pair", 10)]) (N := ["_law_script", "_law_world", "_law_trace", "_law_key", "_law_size", "_law_values", "_law_given", "_law_told", "_law_positions", "_law_pairs", "_law_pair", "_law_due", "_law_at", "_law_full", "_law_passed", "_law_seen", "_law_many", "_law_k"]) (sc := C8.fnScope s_law) (by decide +kernel)) (fun _ _ _ _ _ => (pg_name (i := 10) sc_law.nd rfl (.inl rfl))) (fun _ _ _ _ _ => (pts_one (pt_not (pt_chain3 op_le op_lt op_lt pe_int (pe_ix (ixT K rfl) (pv 10) pe_int (fun _ _ => rfl)) (pe_ix (ixT K rfl) (pv 10) pe_int (fun _ _ => rfl)) (pe_callB (lenQ K rfl) (by rfl) T.len PySem.boot_len (pa_cons (pv 2) pa_nil)))))) (fun _ _ _ _ _ => (pv 10))) pa_nil)) pe_int (nomark _))
      (pss_one (ps_ret pe_bl))
      pss_nil))
      (pss_cons (ps_expr (pe_bm PySem.F.plainAttrs_list PySem.F.slot_list_append PySem.F.type_list_append mt_append (pe_ix (ixT K rfl) (pv 7) pe_int (fun _ _ => rfl)) (pa_cons pe_int pa_nil)))
      (pss_cons (ps_expr (pe_bm0 PySem.F.plainAttrs_list PySem.F.slot_list_clear PySem.F.type_list_clear mt_clear (pe_ix (ixT K rfl) (pv 7) pe_int (fun _ _ => rfl))))
      (pss_cons (ps_mk (ps_if (pt_not (pt_val (C8.pe_c c_same hr (by omega) (by rfl) (pa_cons (C8.pe_c c_flush_plan hr (by omega) (by rfl) (pa_cons (pv 6) (pa_cons (pv 4) pa_nil))) (pa_cons (pe_tup (pa_cons (pv 8) (pa_cons (pv 9) pa_nil))) pa_nil)))))
      (pss_one (ps_ret pe_bl))
      pss_nil))
      (pss_cons (ps_setLc (i := 11) (own := [("_law_at", 12)]) (g := gName 12) rfl sc_law.nd rfl rfl (sw_true rfl rfl rfl (by decide +kernel)) (pi_range1 (by rfl) T.range (pa_cons (pe_callB (lenQ K rfl) (by rfl) T.len PySem.boot_len (pa_cons (pv 2) pa_nil)) pa_nil)) (blkOk_by (own := [("_law_at", 12)]) (N := ["_law_script", "_law_world", "_law_trace", "_law_key", "_law_size", "_law_values", "_law_given", "_law_told", "_law_positions", "_law_pairs", "_law_pair", "_law_due", "_law_at", "_law_full", "_law_passed", "_law_seen", "_law_many", "_law_k"]) (sc := C8.fnScope s_law) (by decide +kernel)) (fun _ _ _ _ _ => (pg_name (i := 12) sc_law.nd rfl (.inl rfl))) (fun _ _ _ _ _ => (pts_one (pt_cmpR op_eq (pe_ix (ixT K rfl) (pe_ix (ixL K rfl) (pv 2) (pv 12) (fun _ _ => rfl)) pe_int (fun _ _ => rfl)) pe_str (nomark _)))) (fun _ _ _ _ _ => (pe_tup (pa_cons (pe_ix (ixL K rfl) (pv 5) (pv 12) (fun _ _ => rfl)) (pa_cons (pe_ix (ixL K rfl) (pv 5) (pv 12) (fun _ _ => rfl)) pa_nil)))))
      (pss_cons (ps_set (i := 13) sc_law.nd rfl (.inl rfl) (C8.pe_c c_trace_flushed hr (by omega) (by rfl) (pa_cons (pv 2) (pa_cons (pv 8) (pa_cons (pe_un un_neg pe_int) pa_nil)))))
      (pss_cons (ps_set (i := 14) sc_law.nd rfl (.inl rfl) (pe_callTy (listQ K rfl) (by rfl) T.list (by decide +kernel) (pa_cons (pv 13) pa_nil)))
      (pss_cons (ps_set (i := 15) sc_law.nd rfl (.inl rfl) (C8.pe_c c_play_trace hr (by omega) (by rfl) (pa_cons (pv 14) (pa_cons (pv 4) (pa_cons (pe_lst pa_nil) pa_nil)))))
      (pss_cons (ps_mk (ps_if (PW.pt (pw_or (pt_not (pt_val (C8.pe_c c_same hr (by omega) (by rfl) (pa_cons (pv 15) (pa_cons (pv 11) pa_nil))))) (pw_or1 (pt_not (pt_val (C8.pe_c c_same hr (by omega) (by rfl) (pa_cons (pv 14) (pa_cons (pv 13) pa_nil))))))))
      (pss_one (ps_ret pe_bl))
      pss_nil))
      (pss_cons (ps_expr (pe_bm PySem.F.plainAttrs_list PySem.F.slot_list_append PySem.F.type_list_append mt_append (pv 15) (pa_cons (pe_tup (pa_cons pe_int (pa_cons pe_int pa_nil))) pa_nil)))
      (pss_cons (ps_mk (ps_if (PW.pt (pw_or (pt_not (pt_val (C8.pe_c c_same hr (by omega) (by rfl) (pa_cons (C8.pe_c c_play_trace hr (by omega) (by rfl) (pa_cons (pv 14) (pa_cons (pv 4) (pa_cons (pe_lst pa_nil) pa_nil)))) (pa_cons (pv 11) pa_nil))))) (pw_or1 (pt_not (pt_val (C8.pe_c c_same hr (by omega) (by rfl) (pa_cons (pv 14) (pa_cons (pv 13) pa_nil))))))))
      (pss_one (ps_ret pe_bl))
      pss_nil))
      (pss_cons (ps_set (i := 16) sc_law.nd rfl (.inl rfl) (pe_callB (call_min2 rfl) (by rfl) T.min (by decide +kernel) (pa_cons pe_int (pa_cons (pe_callB (lenQ K rfl) (by rfl) T.len PySem.boot_len (pa_cons (pv 9) pa_nil)) pa_nil))))
      (pss_cons (ps_mk (ps_for PassesOwn.never rfl (pi_range1 (by rfl) T.range (pa_cons (pv 16) pa_nil)) (pg_name (i := 17) sc_law.nd rfl (.inl rfl))
      (pss_one (ps_mk (ps_if (pt_not (pt_val (C8.pe_c c_trace_lacks hr (by omega) (by rfl) (pa_cons (pv 2) (pa_cons (pv 4) (pa_cons (pv 5) (pa_cons (pv 8) (pa_cons (pe_ix (ixL K rfl) (pv 9) (pe_op op_fdiv (pe_op op_mul (pv 17) (pe_callB (lenQ K rfl) (by rfl) T.len PySem.boot_len (pa_cons (pv 9) pa_nil))) (pv 16)) (fun _ _ => rfl)) pa_nil))))))))
      (pss_one (ps_ret pe_bl))
      pss_nil)))))
      (pss_one (ps_ret pe_bl)))))))))))))))))))))))))), ?_⟩
  walk_at "go"
  refine ⟨a, ns, false, false, rfl, hS, hl, fun p tr c evs H1 s1 ntr gp hT le ok nf c0 c64 => ?_⟩
  have nf := nf rfl
  have hS1 := s1.seq hS
  clear s1 hS ntr
  walk_at "go"
  refine jnS (M := fun σ H' => ∃ tr evs y3, Same H1 H' ∧ TrAt H' tr evs ∧ (∀ e ∈ evs, e.ok) ∧ NoF evs ∧ evs.length ≤ 244 ∧ σ = [sR a, sR p, sR tr, y3, none, none, none, none, none, none, none, none, none, none, none, none, none, none]) ?_ (fun N kk => ?_)
  rotate_left
  · walk_at "go"
    refine ifEq (fun _ => ?_) (fun _ => ?_)
    · walk_at "go"
      refine ⟨a, ns, _, _, rfl, hS1, hl, by decide, by decide, by decide, by decide, fun kv kd H2 s2 dk tk => ?_⟩
      have hS2 := s2.seq hS1
      walk_at "go"
      refine ⟨a, ns, _, _, rfl, hS2, hl, by decide, by decide, by decide, by decide, fun vv vd H3 s3 dv tv => ?_⟩
      have dk3 := Dh.mono s3 _ _ dk
      have s13 := s2.trans s3
      clear hS2 s2 s3 dk
      walk_at "go"
      refine ⟨sz, fun p1 n1 => ?_⟩
      have t1 := same_upd (o := HO.tup [V.str "set", kv, vv]) n1
      have g1 := upd_same (H := H3) (a := p1) (o := HO.tup [V.str "set", kv, vv])
      have s13 := s13.trans t1
      have dk3 := Dh.mono t1 _ _ dk3
      have dv := Dh.mono t1 _ _ dv
      show _
      generalize upd H3 p1 (HO.tup [V.str "set", kv, vv]) = H4 at *
      walk_at "go"
      refine ⟨sz, fun p2 n2 => ?_⟩
      have t2 := same_upd (o := HO.tup [V.str "touch", kv]) n2
      have g2 := upd_same (H := H4) (a := p2) (o := HO.tup [V.str "touch", kv])
      have s13 := s13.trans t2
      have dk3 := Dh.mono t2 _ _ dk3
      have dv := Dh.mono t2 _ _ dv
      have g1 := t2 _ _ g1
      show _
      generalize upd H4 p2 (HO.tup [V.str "touch", kv]) = H5 at *
      walk_at "go"
      refine ⟨sz, fun p3 n3 => ?_⟩
      have t3 := same_upd (o := HO.tup [V.str "set", kv, V.non]) n3
      have g3 := upd_same (H := H5) (a := p3) (o := HO.tup [V.str "set", kv, V.non])
      have s13 := s13.trans t3
      have dk3 := Dh.mono t3 _ _ dk3
      have dv := Dh.mono t3 _ _ dv
      have g1 := t3 _ _ g1
      have g2 := t3 _ _ g2
      show _
      generalize upd H5 p3 (HO.tup [V.str "set", kv, V.non]) = H6 at *
      walk_at "go"
      refine ⟨sz, fun p4 n4 => ?_⟩
      have t4 := same_upd (o := HO.tup [V.str "touch", kv]) n4
      have g4 := upd_same (H := H6) (a := p4) (o := HO.tup [V.str "touch", kv])
      have s13 := s13.trans t4
      have dk3 := Dh.mono t4 _ _ dk3
      have dv := Dh.mono t4 _ _ dv
      have g1 := t4 _ _ g1
      have g2 := t4 _ _ g2
      have g3 := t4 _ _ g3
      show _
      generalize upd H6 p4 (HO.tup [V.str "touch", kv]) = H7 at *
      walk_at "go"
      refine ⟨sz, fun E nE => ?_⟩
      have t5 := same_upd (o := HO.lst [V.ref p1, V.ref p2, V.ref p3, V.ref p4]) nE
      have gE := upd_same (H := H7) (a := E) (o := HO.lst [V.ref p1, V.ref p2, V.ref p3, V.ref p4])
      have s13 := s13.trans t5
      have dk3 := Dh.mono t5 _ _ dk3
      have dv := Dh.mono t5 _ _ dv
      have g1 := t5 _ _ g1
      have g2 := t5 _ _ g2
      have g3 := t5 _ _ g3
      have g4 := t5 _ _ g4
      show _
      generalize upd H7 E (HO.lst [V.ref p1, V.ref p2, V.ref p3, V.ref p4]) = H8 at *
      obtain ⟨us, gt, dt⟩ := hT.same s13
      have lus := dt.len
      rw [List.length_map] at lus
      walk_at "go"
      refine ⟨E, tr, _, _, rfl, rfl, gE, gt, Nat.le_of_lt (sz5 (by show 4 + us.length ≤ _; omega)), fun T2 nT2 => ?_⟩
      have t6 := same_upd (o := HO.lst ([V.ref p1, V.ref p2, V.ref p3, V.ref p4] ++ us)) nT2
      have d4 : DhAll H8 ([Ev.set kd vd, .touch kd, .set kd .none, .touch kd].map Ev.dat) [V.ref p1, V.ref p2, V.ref p3, V.ref p4] :=
        ⟨_, _, rfl, ⟨p1, _, rfl, g1, _, _, rfl, rfl, _, _, rfl, dk3, _, _, rfl, dv, rfl⟩, _, _, rfl, ⟨p2, _, rfl, g2, _, _, rfl, rfl, _, _, rfl, dk3, rfl⟩, _, _, rfl, ⟨p3, _, rfl, g3, _, _, rfl, rfl, _, _, rfl, dk3, _, _, rfl, rfl, rfl⟩, _, _, rfl, ⟨p4, _, rfl, g4, _, _, rfl, rfl, _, _, rfl, dk3, rfl⟩, rfl⟩
      have dd := dh_app d4 dt
      rw [← List.map_append] at dd
      walk_at "go"
      refine kk _ _ ⟨T2, _, _, s13.trans t6, ⟨_, upd_same, DhAll.mono t6 _ _ dd⟩, ?_, ?_, ?_, rfl⟩
      · intro e he
        rcases List.mem_append.mp he with z | z
        · simp only [List.mem_cons, List.not_mem_nil, or_false] at z
          rcases z with rfl | rfl | rfl | rfl
          · exact ⟨tk, .inr tv⟩
          · exact tk
          · exact ⟨tk, .inl rfl⟩
          · exact tk
        · exact ok e z
      · intro e he
        rcases List.mem_append.mp he with z | z
        · simp only [List.mem_cons, List.not_mem_nil, or_false] at z
          rcases z with rfl | rfl | rfl | rfl <;> rfl
        · exact nf e z
      · rw [List.length_append]
        show 4 + evs.length ≤ 244
        omega
    · walk_at "go"
      exact kk _ _ ⟨tr, evs, none, same_rfl, hT, ok, nf, by omega, rfl⟩
  clear hT ok nf le hS1
  rintro σ H2 ⟨tr, evs, y3, s2, hT, ok, nf, le, rfl⟩
  have gp2 := s2 _ _ gp
  walk_at "go"
  refine SpI.mk ⟨tr, evs, rfl, hT, by omega, nf, fun tr m H3 s3 n3 hT3 => ?_⟩
  have ok : ∀ e ∈ evs.take m, e.ok := fun e he => ok e (List.mem_of_mem_take he)
  have nf : NoF (evs.take m) := fun e he => nf e (List.mem_of_mem_take he)
  have le : (evs.take m).length ≤ 244 := by
    rw [List.length_take]
    omega
  generalize evs.take m = evs at *
  have gp3 := s3 _ _ gp2
  clear hT s2 gp2 s3 n3 gp
  walk_at "go"
  refine SpI.mk ⟨tr, evs, rfl, hT3, ok, nf, by omega, fun VL wv H4 s4 nVL gV dV => ?_⟩
  have hT4 := hT3.same s4
  clear hT3 gp3 s4 nVL
  obtain ⟨us4, gt4, dt4⟩ := hT4
  have lus := dt4.len
  rw [List.length_map] at lus
  walk_at "go"
  intro GV nG
  have s5 := same_upd (o := HO.lst us4) nG
  have gG := upd_same (H := H4) (a := GV) (o := HO.lst us4)
  have hG5 : TrAt (upd H4 GV (.lst us4)) GV evs := ⟨us4, gG, DhAll.mono s5 _ _ dt4⟩
  have hT5 : TrAt (upd H4 GV (.lst us4)) tr evs := ⟨us4, s5 _ _ gt4, DhAll.mono s5 _ _ dt4⟩
  have gV5 := s5 _ _ gV
  have dV5 := DhAll.mono s5 _ _ dV
  show _
  generalize upd H4 GV (HO.lst us4) = H5 at *
  walk_at "go"
  refine SpI.mk (plan_mk hG5 ok nf (by omega) c0 (by omega) fun told ta tb H7 s7 nto nta ntb ntab pt => ?_)
  have nn : ∀ {L : Addr}, H5 L = none → GV ≠ L ∧ tr ≠ L ∧ VL ≠ L := fun n => by
    obtain ⟨_, g1, _⟩ := hG5
    obtain ⟨_, g2, _⟩ := hT5
    exact ⟨ne_of_none g1 n, ne_of_none g2 n, ne_of_none gV5 n⟩
  have wa := nn nta
  have wb := nn ntb
  have hG7 := hG5.same s7
  have hT7 := hT5.same s7
  have gV7 := s7 _ _ gV5
  have dV7 := DhAll.mono s7 _ _ dV5
  have od := dle_plan (c := c) c0 ok (by omega)
  have qi := QI.run (c := c) c0 ok evs.length
  have pf := (PJ.run (c := c) c0 ok evs.length).f
  have lps := qi.n
  have qp := qi.p
  have sh : ∀ x ∈ (qN c evs evs.length).ps, ∃ i j : Nat, x = (.int i, .int j) := fun x hx => by
    obtain ⟨a, b, e, _⟩ := qp x hx
    exact ⟨a, b, e⟩
  have lpo := posI_len (qN c evs evs.length).ps
  clear nn s5 gG gt4 dt4 nG hG5 hT5 gV dV gV5 dV5 nta ntb
  walk_at "go"
  refine un ?_
  walk_at "go"
  obtain ⟨ub, gb, db⟩ := pt.gb
  refine SpI.mk ⟨told, ta, tb, _, rfl, pt.g, pt.ga, ⟨tb, ub, rfl, gb, db⟩, sh, by omega, fun H8 s8 => ?_⟩
  walk_at "go"
  refine SpI.mk (same_eq (hG7.same s8).dh (hT7.same s8).dh (dle_evs (by omega) ok) fun H9 s9 => ?_)
  walk_at "go"
  have sA := s8.trans s9
  have hG9 := hG7.same sA
  have hT9 := hT7.same sA
  have pt9 := pt.same sA
  have gb9 := sA _ _ gb
  have db9 := DhAll.mono sA _ _ db
  have gV9 := sA _ _ gV7
  have dV9 := DhAll.mono sA _ _ dV7
  have gt9 := pt9.g
  have sT9 : SqL K H9 ta ((posI (qN c evs evs.length).ps).map V.int) := SqL.of pt9.ga
  clear s7 s8 s9 sA gb db pt hG7 hT7 gV7 dV7
  walk_at "go"
  intro PO nPO
  have s10 := same_upd (o := HO.lst ((posI (qN c evs evs.length).ps).map V.int)) nPO
  have gPO := upd_same (H := H9) (a := PO) (o := HO.lst ((posI (qN c evs evs.length).ps).map V.int))
  have hG10 := hG9.same s10
  have hT10 := hT9.same s10
  have pt10 := pt9.same s10
  have gb10 := s10 _ _ gb9
  have db10 := DhAll.mono s10 _ _ db9
  have gV10 := s10 _ _ gV9
  have dV10 := DhAll.mono s10 _ _ dV9
  have gt10 := pt10.g
  have nPOa : PO ≠ ta ∧ PO ≠ tb := ⟨(ne_of_none pt9.ga nPO).symm, (ne_of_none gb9 nPO).symm⟩
  show _
  generalize upd H9 PO (HO.lst ((posI (qN c evs evs.length).ps).map V.int)) = H10 at *
  have sB10 : SqL K H10 tb ub := SqL.of gb10
  clear s10 nPO hG9 hT9 pt9 gb9 db9 gV9 dV9 gt9 sT9
  walk_at "go"
  intro PL nPL
  have s11 := same_upd (o := HO.lst ub) nPL
  have gPL := upd_same (H := H10) (a := PL) (o := HO.lst ub)
  have gPO := s11 _ _ gPO
  have hG11 := hG10.same s11
  have hT11 := hT10.same s11
  have pt11 := pt10.same s11
  have gb11 := s11 _ _ gb10
  have db11 := DhAll.mono s11 _ _ db10
  have gV11 := s11 _ _ gV10
  have dV11 := DhAll.mono s11 _ _ dV10
  have gt11 := pt11.g
  have nPLa : PL ≠ ta ∧ PL ≠ tb := ⟨(ne_of_none pt10.ga nPL).symm, (ne_of_none gb10 nPL).symm⟩
  show _
  generalize upd H10 PL (HO.lst ub) = H11 at *
  clear s11 nPL hG10 hT10 pt10 gb10 db10 gV10 dV10 gt10 sB10
  have lub := db11.len
  rw [List.length_map] at lub
  obtain ⟨us, gt, dt⟩ := id hT11
  have lus2 := dt.len
  rw [List.length_map] at lus2
  -- the pair at a place
  have pat : ∀ {H'} {i : Nat} {v : V}, Same H11 H' → ub[i]? = some v → ∃ (t : Addr) (a1 b1 : Nat) (k : PyData), v = .ref t ∧ (qN c evs evs.length).ps[i]? = some (.int a1, .int b1) ∧ H' t = some (.tup [.int a1, .int b1]) ∧ Frc c evs k a1 b1 := fun {H'} {i} {v} s12 hv => by
    have hil : i < (qN c evs evs.length).ps.length := by
      rw [← lub]
      exact (List.getElem?_eq_some_iff.mp hv).1
    have ex : (qN c evs evs.length).ps[i]? = some (qN c evs evs.length).ps[i] := List.getElem?_eq_getElem hil
    obtain ⟨a1, b1, k, exx, fr⟩ := pf _ (List.getElem_mem hil)
    obtain ⟨v', ev', dv'⟩ := db11.get (show ((qN c evs evs.length).ps.map pr2)[i]? = some (pr2 (qN c evs evs.length).ps[i]) by rw [List.getElem?_map, ex]; rfl)
    obtain rfl : v = v' := Option.some.inj (hv.symm.trans ev')
    rw [exx] at dv'
    obtain ⟨t, ut, rfl, gT, x0, _, rfl, d0, x1, _, rfl, d1, rfl⟩ := Dh.mono s12 _ _ dv'
    cases d0
    cases d1
    exact ⟨t, a1, b1, k, rfl, ex.trans (congrArg some exx), gT, fr⟩
  walk_at "go"
  refine jnS (M := fun σ H' => Same H11 H' ∧ σ = [sR a, sR p, sR tr, y3, sI c, sR VL, sR GV, sR told, sR PO, sR PL, none, none, none, none, none, none, none, none]) ?_ (fun N kk => ?_)
  rotate_left
  · walk_at "go"
    refine ⟨⟨_, SqL.of gPL⟩, fun N1 nN => lc_list (K := K) (a := PL) (xs := ub) (fun i H' => Ob (Same H11 H' ∧ H' N1 = some (.lst []))) (ob ⟨same_upd nN, upd_same⟩) (fun i H' _ h => SqL.of ((unob h).1 _ _ gPL)) ?_ ?_⟩
    · intro i v H' hv h
      obtain ⟨s12, g12⟩ := unob h
      clear h kk
      obtain ⟨t, a1, b1, k, rfl, ex, gT, fr⟩ := pat s12 hv
      have hb : b1 < evs.length := (List.getElem?_eq_some_iff.mp fr.eb).1
      have hab := fr.lt
      have sT : SqL K H' tr us := SqL.of (s12 _ _ gt)
      walk_at "go"
      refine ifT (show (a1 : Int) < b1 by omega) ?_
      walk_at "go"
      refine ifN (ifT (show (b1 : Int) < us.length by omega) ?_)
      exact ob ⟨s12, g12⟩
    intro H12 h
    obtain ⟨s12, g12⟩ := unob h
    clear h
    try dsimp only
    walk_at "go"
    exact kk _ _ ⟨s12, rfl⟩
  rintro σ H12 ⟨s12, rfl⟩
  have hG12 := hG11.same s12
  have hT12 := hT11.same s12
  have pt12 := pt11.same s12
  have gb12 := s12 _ _ gb11
  have db12 := DhAll.mono s12 _ _ db11
  have gV12 := s12 _ _ gV11
  have dV12 := DhAll.mono s12 _ _ dV11
  have gPO12 := s12 _ _ gPO
  have gPL12 := s12 _ _ gPL
  have gt12 := pt12.g
  have psO := ps_ok (c := c) c0 ok evs.length
  clear pat hG11 hT11 pt11 gb11 db11 gV11 dV11 gPO gPL gt11 s12 gt dt lus2 us
  walk_at "go"
  refine ⟨.inl ⟨rfl, _, SqL.of pt12.ga⟩, ?_⟩
  walk_at "go"
  refine ⟨ta, _, _, rfl, rfl, pt12.ga, sz5 (by rw [List.length_map, posI_len]; omega), ?_⟩
  have ga12 := pt12.ga
  obtain ⟨o, eo⟩ : ∃ o : HO, o = .lst ((posI (qN c evs evs.length).ps).map V.int ++ [.int 0]) := ⟨_, rfl⟩
  rw [← eo]
  have tu : Tups H12 (upd H12 ta o) := Tups.put fun us z => by rw [ga12] at z; cases z
  have hG13 := hG12.put ok ga12 wa.1 (o := o)
  have hT13 := hT12.put ok ga12 wa.2.1 (o := o)
  have gV13 : upd H12 ta o VL = some (.lst wv) := by rw [upd_ne wa.2.2]; exact gV12
  have dV13 := DhAll.tups tu _ _ (vals_noL ok evs.length) dV12
  have gPO13 : upd H12 ta o PO = some (.lst ((posI (qN c evs evs.length).ps).map V.int)) := by rw [upd_ne nPOa.1]; exact gPO12
  have gPL13 : upd H12 ta o PL = some (.lst ub) := by rw [upd_ne nPLa.1]; exact gPL12
  have db13 := DhAll.tups tu _ _ (pr2s_noLO psO) db12
  have gb13 : upd H12 ta o tb = some (.lst ub) := by rw [upd_ne ntab.symm]; exact gb12
  have gt13 : upd H12 ta o told = some (.tup [.ref ta, .ref tb]) := by
    rw [upd_ne fun z => by rw [z, ga12] at gt12; cases gt12]
    exact gt12
  show _
  generalize upd H12 ta o = H13 at *
  clear tu hG12 hT12 pt12 gb12 db12 gV12 dV12 gPO12 gPL12 gt12 ga12 eo
  walk_at "go"
  refine ⟨tb, ub, rfl, rfl, gb13, ?_⟩
  have tu : Tups H13 (upd H13 tb (.lst [])) := Tups.put fun us z => by rw [gb13] at z; cases z
  have hG14 := hG13.put ok gb13 wb.1 (o := .lst [])
  have hT14 := hT13.put ok gb13 wb.2.1 (o := .lst [])
  have gV14 : upd H13 tb (.lst []) VL = some (.lst wv) := by rw [upd_ne wb.2.2]; exact gV13
  have dV14 := DhAll.tups tu _ _ (vals_noL ok evs.length) dV13
  have gPO14 : upd H13 tb (.lst []) PO = some (.lst ((posI (qN c evs evs.length).ps).map V.int)) := by rw [upd_ne nPOa.2]; exact gPO13
  have gPL14 : upd H13 tb (.lst []) PL = some (.lst ub) := by rw [upd_ne nPLa.2]; exact gPL13
  have db14 := DhAll.tups tu _ _ (pr2s_noLO psO) db13
  show _
  generalize upd H13 tb (HO.lst []) = H14 at *
  clear tu hG13 hT13 gb13 db13 gV13 dV13 gPO13 gPL13 gt13 wa wb nPOa nPLa ntab nto
  refine jnS (M := fun σ H' => Same H14 H' ∧ σ = [sR a, sR p, sR tr, y3, sI c, sR VL, sR GV, sR told, sR PO, sR PL, none, none, none, none, none, none, none, none]) ?_ (fun N kk => ?_)
  rotate_left
  · walk_at "go"
    refine SpI.mk (plan_mk hG14 ok nf (by omega) c0 (by omega) fun r1 a1 b1 H15 t1 _ _ _ _ p1 => ?_)
    walk_at "go"
    refine ⟨sz, fun pp npp => ?_⟩
    have t2 := same_upd (o := HO.tup [V.ref PO, V.ref PL]) npp
    have pd : PlanAt (upd H15 pp (.tup [V.ref PO, V.ref PL])) pp PO PL c evs := ⟨upd_same, t2 _ _ (t1 _ _ gPO14), ub, t2 _ _ (t1 _ _ gPL14), DhAll.mono t2 _ _ (DhAll.mono t1 _ _ db14)⟩
    have p2 := p1.same t2
    have t12 := t1.trans t2
    show _
    generalize upd H15 pp (HO.tup [V.ref PO, V.ref PL]) = H16 at *
    walk_at "go"
    refine SpI.mk (same_eq p2.dh pd.dh od fun H17 t3 => ?_)
    walk_at "go"
    exact kk _ _ ⟨t12.trans t3, rfl⟩
  rintro σ H15 ⟨s15, rfl⟩
  have hT := hT14.same s15
  have gV := s15 _ _ gV14
  have dV := DhAll.mono s15 _ _ dV14
  have gPO := s15 _ _ gPO14
  have gPL := s15 _ _ gPL14
  have db := DhAll.mono s15 _ _ db14
  clear hG14 hT14 gV14 dV14 gPO14 gPL14 db14 s15
  obtain ⟨us, gt, dt⟩ := id hT
  have lus2 := dt.len
  rw [List.length_map] at lus2
  walk_at "go"
  refine ⟨by omega, by omega, fun DL nD => lc_range (lo := 0) (n := us.length) (fun j H' => Ob (Same H15 H' ∧ ∃ xs, H' DL = some (.lst xs) ∧ DhAll H' ((dueN evs j).map pr2) xs)) (ob ⟨same_upd nD, [], upd_same, rfl⟩) ?_ ?_⟩
  · intro j H' hj h
    obtain ⟨s9, xs, g9, d9⟩ := unob h
    clear h
    have lxs := d9.len
    rw [List.length_map] at lxs
    have ldu := dueN_len (evs := evs) j
    refine ⟨rfl, ?_⟩
    rw [Int.zero_add]
    obtain ⟨ev, hev⟩ : ∃ ev, evs[j]? = some ev := ⟨_, List.getElem?_eq_getElem (by omega)⟩
    obtain ⟨t, et, dt2⟩ := ev_at dt hev
    have nfe := nf ev (List.mem_of_getElem? hev)
    obtain ⟨vs, gw⟩ := ev_word dt2
    have at1 : atI us ((j : Nat) : Int) = some (.ref t) := atI_nat et
    have sT : SqL K H' tr us := SqL.of (s9 _ _ gt)
    have gw9 := s9 _ _ gw
    cases ev with
    | flush => cases nfe
    | set k2 v =>
      have e2 := dueN_no (evs := evs) (j := j) (fun k z => by rw [hev] at z; cases z)
      walk_at "go"
      exact ob ⟨s9, xs, g9, by rw [e2]; exact d9⟩
    | touch k2 =>
      obtain ⟨vv, evv, dvv⟩ := vals_at dV (show j < evs.length by omega)
      rw [valD_touch hev] at dvv
      have avv : atI wv ((j : Nat) : Int) = some vv := atI_nat evv
      have sV : SqL K H' VL wv := SqL.of (s9 _ _ gV)
      have dvv9 := Dh.mono s9 _ _ dvv
      walk_at "go"
      refine ⟨sz, fun p hp => ?_⟩
      have s3 := same_upd (o := HO.tup [vv, vv]) hp
      have gp3 := upd_same (H := H') (a := p) (o := HO.tup [vv, vv])
      have g3 := s3 _ _ g9
      have d3 := DhAll.mono s3 _ _ d9
      have dv3 := Dh.mono s3 _ _ dvv9
      show _
      generalize upd H' p (HO.tup [vv, vv]) = H3 at *
      have tu : Tups H3 (upd H3 DL (.lst (xs ++ [V.ref p]))) := Tups.put fun us z => by rw [g3] at z; cases z
      refine ⟨xs, g3, sz5 (by omega), ob ⟨same_put (s9.trans s3) nD, xs ++ [V.ref p], upd_same, DhAll.tups tu _ _ (pr2s_noLO (dueN_ok ok (j + 1))) ?_⟩⟩
      rw [dueN_touch hev, List.map_append]
      exact DhAll.snoc d3 ⟨p, _, rfl, gp3, _, _, rfl, dv3, _, _, rfl, dv3, rfl⟩
  intro H16 h
  obtain ⟨s16, xs, gD, dD⟩ := unob h
  clear h
  rw [lus2] at dD
  have hT16 := hT.same s16
  have gV16 := s16 _ _ gV
  have dV16 := DhAll.mono s16 _ _ dV
  have gPO16 := s16 _ _ gPO
  have gPL16 := s16 _ _ gPL
  have db16 := DhAll.mono s16 _ _ db
  clear hT gV dV gPO gPL db s16 gt dt nD
  try dsimp only
  walk_at "go"
  refine SpI.mk ⟨tr, PO, -1, _, evs, rfl, hT16, ok, by omega, gPO16, fun FL ns' H17 hns s17 nF tF => ?_⟩
  have eo : (playN c [] [] (flN ns' evs evs.length) (flN ns' evs evs.length).length).2 = dueN evs evs.length := by
    have cg : playN c [] ns' evs evs.length = playN c [] (posI (qN c evs evs.length).ps) evs evs.length := playN_congr _ fun i _ => by
      rw [hns]
      exact ⟨fun z => z.1, fun z => ⟨z, by omega⟩⟩
    rw [fl_play, cg]
    exact outs_due _ (play_plan c0 ok nf evs.length (Nat.le_refl _)).2
  have lF := flN_len (ms := ns') (evs := evs) evs.length
  have okF := flN_ok (ms := ns') ok evs.length
  generalize flN ns' evs evs.length = F at *
  have s16 := s17
  have hT17 := hT16.same s17
  have gV17 := s17 _ _ gV16
  have dV17 := DhAll.mono s17 _ _ dV16
  have gPO17 := s17 _ _ gPO16
  have gPL17 := s17 _ _ gPL16
  have db17 := DhAll.mono s17 _ _ db16
  have gD17 := s17 _ _ gD
  have dD17 := DhAll.mono s17 _ _ dD
  clear hns s16 s17 nF hT16 gV16 dV16 gPO16 gPL16 db16 gD dD
  obtain ⟨uF, gF, dF⟩ := tF
  have luF := dF.len
  rw [List.length_map] at luF
  walk_at "go"
  intro PS nPS
  have s18 := same_upd (o := HO.lst uF) nPS
  have hP : TrAt (upd H17 PS (.lst uF)) PS F := ⟨uF, upd_same, DhAll.mono s18 _ _ dF⟩
  have hF : TrAt (upd H17 PS (.lst uF)) FL F := ⟨uF, s18 _ _ gF, DhAll.mono s18 _ _ dF⟩
  have hT18 := hT17.same s18
  have gV18 := s18 _ _ gV17
  have dV18 := DhAll.mono s18 _ _ dV17
  have gPO18 := s18 _ _ gPO17
  have gPL18 := s18 _ _ gPL17
  have db18 := DhAll.mono s18 _ _ db17
  have gD18 := s18 _ _ gD17
  have dD18 := DhAll.mono s18 _ _ dD17
  show _
  generalize upd H17 PS (HO.lst uF) = H18 at *
  clear s18 nPS gF dF hT17 gV17 dV17 gPO17 gPL17 db17 gD17 dD17
  walk_at "go"
  refine ⟨sz, fun e1 n1 => ?_⟩
  have t1 := same_upd (o := HO.lst []) n1
  have ge := upd_same (H := H18) (a := e1) (o := HO.lst [])
  have hP19 := hP.same t1
  show _
  generalize upd H18 e1 (HO.lst []) = H19 at *
  refine SpI.mk (play_mk (ks := []) hP19 okF (by omega) ge c0 (by omega) fun sn H20 t2 nsn d20 => ?_)
  rw [eo] at d20
  have t02 := t1.trans t2
  have oD : Dle 5 (.list ((dueN evs evs.length).map pr2)) := dle_prO (by have := dueN_len (evs := evs) evs.length; omega) (dueN_ok ok _)
  have hP20 := hP.same t02
  have hF20 := hF.same t02
  have gD20 := t02 _ _ gD18
  have dD20 := DhAll.mono t02 _ _ dD18
  walk_at "go"
  refine jnS (M := fun σ H' => Same H20 H' ∧ σ = [sR a, sR p, sR tr, y3, sI c, sR VL, sR GV, sR told, sR PO, sR PL, none, sR DL, none, sR FL, sR PS, sR sn, none, none]) ?_ (fun N kk => ?_)
  rotate_left
  · walk_at "go"
    refine SpI.mk (same_eq d20 ⟨DL, xs, rfl, gD20, dD20⟩ oD fun H21 t3 => ?_)
    walk_at "go"
    refine SpI.mk (same_eq (hP20.same t3).dh (hF20.same t3).dh (dle_evs (by omega) okF) fun H22 t4 => ?_)
    walk_at "go"
    exact kk _ _ ⟨t3.trans t4, rfl⟩
  rintro σ H21 ⟨s21, rfl⟩
  have nsA : ∀ {b o}, H19 b = some o → b ≠ sn := fun g => ne_of_none g nsn
  obtain ⟨_, usn, esn, gsn, dsn⟩ := Dh.mono s21 _ _ d20
  cases esn
  have lsn := dsn.len
  rw [List.length_map] at lsn
  have ldu := dueN_len (evs := evs) evs.length
  have t021 := t02.trans s21
  have nP : PS ≠ sn := by
    obtain ⟨_, g, _⟩ := hP19
    exact nsA g
  have nFL : FL ≠ sn := by
    obtain ⟨_, g, _⟩ := hF.same t1
    exact nsA g
  have nTR : tr ≠ sn := by
    obtain ⟨_, g, _⟩ := hT18.same t1
    exact nsA g
  have nVL : VL ≠ sn := nsA (t1 _ _ gV18)
  have nPO : PO ≠ sn := nsA (t1 _ _ gPO18)
  have nPL : PL ≠ sn := nsA (t1 _ _ gPL18)
  have nDL : DL ≠ sn := nsA (t1 _ _ gD18)
  have hP21 := hP.same t021
  have hF21 := hF.same t021
  have hT21 := hT18.same t021
  have gV21 := t021 _ _ gV18
  have dV21 := DhAll.mono t021 _ _ dV18
  have gPO21 := t021 _ _ gPO18
  have gPL21 := t021 _ _ gPL18
  have db21 := DhAll.mono t021 _ _ db18
  have gD21 := t021 _ _ gD18
  have dD21 := DhAll.mono t021 _ _ dD18
  clear hP hF hT18 gV18 dV18 gPO18 gPL18 db18 gD18 dD18 hP19 hP20 hF20 gD20 dD20 t1 t2 t02 t021 s21 ge n1 nsn nsA d20
  walk_at "go"
  refine ⟨sz, fun zz nz => ?_⟩
  have sz1 := same_upd (o := HO.tup [V.int 0, V.int 0]) nz
  have gsn := sz1 _ _ gsn
  have hP21 := hP21.same sz1
  have hF21 := hF21.same sz1
  have hT21 := hT21.same sz1
  have gV21 := sz1 _ _ gV21
  have dV21 := DhAll.mono sz1 _ _ dV21
  have gPO21 := sz1 _ _ gPO21
  have gPL21 := sz1 _ _ gPL21
  have db21 := DhAll.mono sz1 _ _ db21
  have gD21 := sz1 _ _ gD21
  have dD21 := DhAll.mono sz1 _ _ dD21
  show _
  generalize upd H21 zz (HO.tup [V.int 0, V.int 0]) = H22 at *
  walk_at "go"
  refine ⟨sn, usn, _, rfl, rfl, gsn, sz5 (by omega), ?_⟩
  have tu : Tups H22 (upd H22 sn (.lst (usn ++ [V.ref zz]))) := Tups.put fun us z => by rw [gsn] at z; cases z
  have hP22 := hP21.put okF gsn nP (o := .lst (usn ++ [V.ref zz]))
  have hF22 := hF21.put okF gsn nFL (o := .lst (usn ++ [V.ref zz]))
  have hT22 := hT21.put ok gsn nTR (o := .lst (usn ++ [V.ref zz]))
  have gV22 : upd H22 sn (.lst (usn ++ [V.ref zz])) VL = some (.lst wv) := by rw [upd_ne nVL]; exact gV21
  have dV22 := DhAll.tups tu _ _ (vals_noL ok evs.length) dV21
  have gPO22 : upd H22 sn (.lst (usn ++ [V.ref zz])) PO = some (.lst ((posI (qN c evs evs.length).ps).map V.int)) := by rw [upd_ne nPO]; exact gPO21
  have gPL22 : upd H22 sn (.lst (usn ++ [V.ref zz])) PL = some (.lst ub) := by rw [upd_ne nPL]; exact gPL21
  have db22 := DhAll.tups tu _ _ (pr2s_noLO psO) db21
  have gD22 : upd H22 sn (.lst (usn ++ [V.ref zz])) DL = some (.lst xs) := by rw [upd_ne nDL]; exact gD21
  have dD22 := DhAll.tups tu _ _ (pr2s_noLO (dueN_ok ok evs.length)) dD21
  show _
  generalize upd H22 sn (HO.lst (usn ++ [V.ref zz])) = H23 at *
  clear tu gsn hP21 hF21 hT21 gV21 dV21 gPO21 gPL21 db21 gD21 dD21 sz1 nz dsn nP nFL nTR nVL nPO nPL nDL
  walk_at "go"
  refine jnS (M := fun σ H' => Same H23 H' ∧ σ = [sR a, sR p, sR tr, y3, sI c, sR VL, sR GV, sR told, sR PO, sR PL, none, sR DL, none, sR FL, sR PS, sR sn, none, none]) ?_ (fun N kk => ?_)
  rotate_left
  · walk_at "go"
    refine ⟨sz, fun e2 n2 => ?_⟩
    have t1 := same_upd (o := HO.lst []) n2
    have ge := upd_same (H := H23) (a := e2) (o := HO.lst [])
    have hP24 := hP22.same t1
    show _
    generalize upd H23 e2 (HO.lst []) = H24 at *
    refine SpI.mk (play_mk (ks := []) hP24 okF (by omega) ge c0 (by omega) fun sn2 H25 t2 _ d25 => ?_)
    rw [eo] at d25
    have t02 := t1.trans t2
    walk_at "go"
    refine SpI.mk (same_eq d25 ⟨DL, xs, rfl, t02 _ _ gD22, DhAll.mono t02 _ _ dD22⟩ oD fun H26 t3 => ?_)
    have t03 := t02.trans t3
    walk_at "go"
    refine SpI.mk (same_eq (hP22.same t03).dh (hF22.same t03).dh (dle_evs (by omega) okF) fun H27 t4 => ?_)
    walk_at "go"
    exact kk _ _ ⟨t03.trans t4, rfl⟩
  rintro σ H24 ⟨s24, rfl⟩
  have hT24 := hT22.same s24
  have gV24 := s24 _ _ gV22
  have dV24 := DhAll.mono s24 _ _ dV22
  have gPO24 := s24 _ _ gPO22
  have gPL24 := s24 _ _ gPL22
  have db24 := DhAll.mono s24 _ _ db22
  have sPL : SqL K H24 PL ub := SqL.of gPL24
  clear hP22 hF22 hT22 gV22 dV22 gPO22 gPL22 db22 gD22 dD22 s24 oD
  walk_at "go"
  refine ⟨_, _, rfl, ?_⟩
  obtain ⟨mn, emn, lmn⟩ : ∃ mn : Nat, (mn : Int) = (if (ub.length : Int) < 12 then (ub.length : Int) else 12) ∧ mn ≤ ub.length := by
    by_cases z : (ub.length : Int) < 12
    · exact ⟨ub.length, by rw [if_pos z], Nat.le_refl _⟩
    · exact ⟨12, by rw [if_neg z]; rfl, by omega⟩
  rw [← emn]
  refine jnS (M := fun σ H' => ∃ y, σ = [sR a, sR p, sR tr, y3, sI c, sR VL, sR GV, sR told, sR PO, sR PL, none, sR DL, none, sR FL, sR PS, sR sn, sI mn, y]) ?_ (fun N kk => ?_)
  · rintro σ H' ⟨y, rfl⟩
    walk_at "go"
    exact q _
  walk_at "go"
  refine ⟨by omega, by omega, for_range (lo := 0) (n := mn) (fun j σ H' => Ob (Same H24 H' ∧ ∃ y, σ = [sR a, sR p, sR tr, y3, sI c, sR VL, sR GV, sR told, sR PO, sR PL, none, sR DL, none, sR FL, sR PS, sR sn, sI mn, y])) (ob ⟨same_rfl, none, rfl⟩) ?_ ?_⟩
  rotate_left
  · intro σ H' h
    obtain ⟨_, y, rfl⟩ := unob h
    exact kk _ _ ⟨y, rfl⟩
  intro j σ H' hj h
  obtain ⟨s25, y, rfl⟩ := unob h
  clear h kk
  obtain ⟨ix, eix⟩ : ∃ ix : Nat, ix = j * ub.length / mn := ⟨_, rfl⟩
  have lix : ix < ub.length := by
    rw [eix]
    exact Nat.div_lt_of_lt_mul (Nat.mul_lt_mul_of_pos_right hj (by omega))
  have hv : ub[ix]? = some ub[ix] := List.getElem?_eq_getElem lix
  have hil : ix < (qN c evs evs.length).ps.length := by
    rw [← lub]
    exact lix
  have ex : (qN c evs evs.length).ps[ix]? = some (qN c evs evs.length).ps[ix] := List.getElem?_eq_getElem hil
  have mem := List.getElem_mem hil
  obtain ⟨a1, b1, k, exx, fr⟩ := pf _ mem
  obtain ⟨v', ev', dv'⟩ := db24.get (show ((qN c evs evs.length).ps.map pr2)[ix]? = some (pr2 (qN c evs evs.length).ps[ix]) by rw [List.getElem?_map, ex]; rfl)
  rw [exx] at dv' mem
  obtain ⟨t, ut, rfl, gT, x0, _, rfl, d0, x1, _, rfl, d1, rfl⟩ := Dh.mono s25 _ _ dv'
  cases d0
  cases d1
  have mp : (b1 : Int) ∈ posI (qN c evs evs.length).ps := (posI_mem sh _).mpr ⟨_, mem⟩
  have atx : atI ub ((j : Int) * (ub.length : Int) / (mn : Int)) = some (.ref t) := by
    have e : (j : Int) * (ub.length : Int) / (mn : Int) = ((ix : Nat) : Int) := by
      rw [eix, Int.natCast_ediv, Int.natCast_mul]
    rw [e]
    exact atI_nat ev'
  have hT25 := hT24.same s25
  have gV25 := s25 _ _ gV24
  have dV25 := DhAll.mono s25 _ _ dV24
  have gPO25 := s25 _ _ gPO24
  have sPL25 : SqL K H' PL ub := SqL.of (s25 _ _ gPL24)
  rw [Int.zero_add]
  walk_at "go"
  refine un ?_
  walk_at "go"
  refine SpI.mk ⟨tr, VL, PO, t, c, a1, b1, k, evs, wv, rfl, hT25, ok, nf, by omega, c0, by omega, gV25, dV25, gPO25, gT, fr, mp, fun H26 s26 => ?_⟩
  walk_at "go"
  exact ob ⟨s25.trans s26, _, rfl⟩
end

end

section

-- a condition of an operator
local macro_rules | `(tactic| walk_at "cond") => `(tactic| first
  | (show (0 : Int) < _; omega)
  | (show CDiv _ _; constructor <;> (first | decide | omega))
  | (show CMul _ _; first | (refine cmul_l ?_; constructor <;> (first | decide | omega)) | (refine cmul_r ?_; constructor <;> (first | decide | omega)))
  | (show CPow _ _; exact (by refine ⟨by decide, by decide, by decide⟩))
  | (show CDivW _ _; exact ⟨by decide, by decide +kernel⟩))
local macro_rules | `(tactic| walk_at "sq") => `(tactic| first | assumption | exact Dh.mono (same_upd (by assumption)) _ _ (by assumption) | exact .inl (.inl (.inl (by assumption))) | exact .inr (.inl (.inl (by assumption))) | exact SqL.of (by assumption) | exact .inl (by assumption) | exact .inl (SqL.of (by assumption)) | exact SqT.of (by assumption) | exact .inr (SqT.of (by assumption)))
local macro_rules | `(tactic| walk_at "st") => `(tactic| first
  | refine ⟨_, rfl, ?_⟩
  | refine ⟨_, _, rfl, rfl, ?_⟩
  | refine .inl ⟨_, rfl, ?_⟩
  | refine ⟨rfl, ?_⟩
  | refine ⟨_, _, rfl, by walk_at "sq", ?_⟩
  | refine ⟨.inl ⟨rfl, _, SqL.of (by assumption)⟩, ?_⟩
  | refine ⟨by walk_at "cond", ?_⟩
  | (refine' ifBT ?hh ?_; (case hh => first | rfl | assumption))
  | (refine' ifBF ?hh ?_; (case hh => first | rfl | assumption)))
local macro_rules | `(tactic| walk_at "go") => `(tactic| repeat walk_at "st")
local macro_rules | `(tactic| walk_at "yes") => `(tactic| (refine' ifT ?hh ?_; (case hh => first | rfl | decide +kernel)))
local macro_rules | `(tactic| walk_at "no") => `(tactic| (refine' ifF ?hh ?_; (case hh => first | decide +kernel | (intro z; cases z; done))))

theorem all_mk {l : PySem.W.OpenLaw} {w : World} {K : PySem.W.Frag} {h : Heap} {mg : Str → Option Value} {fa : Addr} (X : K.In h) (G : h.Ns mainGlobals mg) (hfa : mg "law" = some (.ref fa))
    {C : Addr} (aC : PySem.W.nsIn K mainGlobals "Cache" = some (some (.ref C)))
    {od_m_init an_m_init : Option Addr} {sl_m_init : Array (Option Value)} {f_m_init : Addr} {oc_m_init kV_m_init dc_m_init pm_m_init cd_m_init ct_m_init : Value}
    (a_m_init : PySem.W.findIn K (.ref C) "__init__" = some (some (.ref f_m_init))) (i_m_init : PySem.W.isFn K (.ref f_m_init) = true)
    (l_m_init : K.lookup f_m_init = some ⟨oc_m_init, od_m_init, .func (PySem.W.fnOf "__init__" "Cache.__init__" (C8.fnArgs s_Cache___init__) (C8.fnBody s_Cache___init__) (C8.fnScope s_Cache___init__) .none kV_m_init dc_m_init pm_m_init an_m_init cd_m_init ct_m_init), sl_m_init⟩)
    (c_m_init : PySem.W.codeIn K cd_m_init "Cache.__init__" = true) (k_m_init : PySem.W.keepIn K (.ref f_m_init) = true)
    {od_m_look an_m_look : Option Addr} {sl_m_look : Array (Option Value)} {f_m_look : Addr} {oc_m_look kV_m_look dc_m_look pm_m_look cd_m_look ct_m_look : Value}
    (a_m_look : PySem.W.findIn K (.ref C) "look" = some (some (.ref f_m_look))) (i_m_look : PySem.W.isFn K (.ref f_m_look) = true)
    (l_m_look : K.lookup f_m_look = some ⟨oc_m_look, od_m_look, .func (PySem.W.fnOf "look" "Cache.look" (C8.fnArgs s_Cache_look) (C8.fnBody s_Cache_look) (C8.fnScope s_Cache_look) .none kV_m_look dc_m_look pm_m_look an_m_look cd_m_look ct_m_look), sl_m_look⟩)
    (c_m_look : PySem.W.codeIn K cd_m_look "Cache.look" = true) (k_m_look : PySem.W.keepIn K (.ref f_m_look) = true)
    {od_m_fill an_m_fill : Option Addr} {sl_m_fill : Array (Option Value)} {f_m_fill : Addr} {oc_m_fill kV_m_fill dc_m_fill pm_m_fill cd_m_fill ct_m_fill : Value}
    (a_m_fill : PySem.W.findIn K (.ref C) "fill" = some (some (.ref f_m_fill))) (i_m_fill : PySem.W.isFn K (.ref f_m_fill) = true)
    (l_m_fill : K.lookup f_m_fill = some ⟨oc_m_fill, od_m_fill, .func (PySem.W.fnOf "fill" "Cache.fill" (C8.fnArgs s_Cache_fill) (C8.fnBody s_Cache_fill) (C8.fnScope s_Cache_fill) .none kV_m_fill dc_m_fill pm_m_fill an_m_fill cd_m_fill ct_m_fill), sl_m_fill⟩)
    (c_m_fill : PySem.W.codeIn K cd_m_fill "Cache.fill" = true) (k_m_fill : PySem.W.keepIn K (.ref f_m_fill) = true)
    {od_m_drop an_m_drop : Option Addr} {sl_m_drop : Array (Option Value)} {f_m_drop : Addr} {oc_m_drop kV_m_drop dc_m_drop pm_m_drop cd_m_drop ct_m_drop : Value}
    (a_m_drop : PySem.W.findIn K (.ref C) "drop" = some (some (.ref f_m_drop))) (i_m_drop : PySem.W.isFn K (.ref f_m_drop) = true)
    (l_m_drop : K.lookup f_m_drop = some ⟨oc_m_drop, od_m_drop, .func (PySem.W.fnOf "drop" "Cache.drop" (C8.fnArgs s_Cache_drop) (C8.fnBody s_Cache_drop) (C8.fnScope s_Cache_drop) .none kV_m_drop dc_m_drop pm_m_drop an_m_drop cd_m_drop ct_m_drop), sl_m_drop⟩)
    (c_m_drop : PySem.W.codeIn K cd_m_drop "Cache.drop" = true) (k_m_drop : PySem.W.keepIn K (.ref f_m_drop) = true)
    {od_m_clear_all an_m_clear_all : Option Addr} {sl_m_clear_all : Array (Option Value)} {f_m_clear_all : Addr} {oc_m_clear_all kV_m_clear_all dc_m_clear_all pm_m_clear_all cd_m_clear_all ct_m_clear_all : Value}
    (a_m_clear_all : PySem.W.findIn K (.ref C) "clear_all" = some (some (.ref f_m_clear_all))) (i_m_clear_all : PySem.W.isFn K (.ref f_m_clear_all) = true)
    (l_m_clear_all : K.lookup f_m_clear_all = some ⟨oc_m_clear_all, od_m_clear_all, .func (PySem.W.fnOf "clear_all" "Cache.clear_all" (C8.fnArgs s_Cache_clear_all) (C8.fnBody s_Cache_clear_all) (C8.fnScope s_Cache_clear_all) .none kV_m_clear_all dc_m_clear_all pm_m_clear_all an_m_clear_all cd_m_clear_all ct_m_clear_all), sl_m_clear_all⟩)
    (c_m_clear_all : PySem.W.codeIn K cd_m_clear_all "Cache.clear_all" = true) (k_m_clear_all : PySem.W.keepIn K (.ref f_m_clear_all) = true)
    (pgC : PySem.W.plainGet K C Str.empty = true) (hdC : PySem.W.hasDictIn K C = true) (poC : PySem.W.plainOver K C = true) (saC : PySem.W.findIn K (.ref C) "__setattr__" = some (some (.builtin "object.__setattr__"))) (mkC : PySem.W.makesIn K C = true) (kcC : PySem.W.keepIn K (.ref C) = true)
    (nC : PySem.W.findIn K (.ref C) "_capacity" = some none)
    (nE : PySem.W.findIn K (.ref C) "_entries" = some none)
    {od_number an_number : Option Addr} {sl_number : Array (Option Value)} {f_number : Addr} {oc_number kV_number dc_number pm_number cd_number ct_number : Value}
    (a_number : PySem.W.nsIn K mainGlobals "_law_number" = some (some (.ref f_number)))
    (l_number : K.lookup f_number = some ⟨oc_number, od_number, .func (PySem.W.fnOf "_law_number" "_law_number" (C8.fnArgs s_number) (C8.fnBody s_number) (C8.fnScope s_number) .none kV_number dc_number pm_number an_number cd_number ct_number), sl_number⟩)
    (c_number : PySem.W.codeIn K cd_number "_law_number" = true) (k_number : PySem.W.keepIn K (.ref f_number) = true)
    {od_is_whole an_is_whole : Option Addr} {sl_is_whole : Array (Option Value)} {f_is_whole : Addr} {oc_is_whole kV_is_whole dc_is_whole pm_is_whole cd_is_whole ct_is_whole : Value}
    (a_is_whole : PySem.W.nsIn K mainGlobals "_law_is_whole" = some (some (.ref f_is_whole)))
    (l_is_whole : K.lookup f_is_whole = some ⟨oc_is_whole, od_is_whole, .func (PySem.W.fnOf "_law_is_whole" "_law_is_whole" (C8.fnArgs s_is_whole) (C8.fnBody s_is_whole) (C8.fnScope s_is_whole) .none kV_is_whole dc_is_whole pm_is_whole an_is_whole cd_is_whole ct_is_whole), sl_is_whole⟩)
    (c_is_whole : PySem.W.codeIn K cd_is_whole "_law_is_whole" = true) (k_is_whole : PySem.W.keepIn K (.ref f_is_whole) = true)
    {od_same an_same : Option Addr} {sl_same : Array (Option Value)} {f_same : Addr} {oc_same kV_same dc_same pm_same cd_same ct_same : Value}
    (a_same : PySem.W.nsIn K mainGlobals "_law_same" = some (some (.ref f_same)))
    (l_same : K.lookup f_same = some ⟨oc_same, od_same, .func (PySem.W.fnOf "_law_same" "_law_same" (C8.fnArgs s_same) (C8.fnBody s_same) (C8.fnScope s_same) .none kV_same dc_same pm_same an_same cd_same ct_same), sl_same⟩)
    (c_same : PySem.W.codeIn K cd_same "_law_same" = true) (k_same : PySem.W.keepIn K (.ref f_same) = true)
    {od_thing an_thing : Option Addr} {sl_thing : Array (Option Value)} {f_thing : Addr} {oc_thing kV_thing dc_thing pm_thing cd_thing ct_thing : Value}
    (a_thing : PySem.W.nsIn K mainGlobals "_law_thing" = some (some (.ref f_thing)))
    (l_thing : K.lookup f_thing = some ⟨oc_thing, od_thing, .func (PySem.W.fnOf "_law_thing" "_law_thing" (C8.fnArgs s_thing) (C8.fnBody s_thing) (C8.fnScope s_thing) .none kV_thing dc_thing pm_thing an_thing cd_thing ct_thing), sl_thing⟩)
    (c_thing : PySem.W.codeIn K cd_thing "_law_thing" = true) (k_thing : PySem.W.keepIn K (.ref f_thing) = true)
    {od_kept_find an_kept_find : Option Addr} {sl_kept_find : Array (Option Value)} {f_kept_find : Addr} {oc_kept_find kV_kept_find dc_kept_find pm_kept_find cd_kept_find ct_kept_find : Value}
    (a_kept_find : PySem.W.nsIn K mainGlobals "_law_kept_find" = some (some (.ref f_kept_find)))
    (l_kept_find : K.lookup f_kept_find = some ⟨oc_kept_find, od_kept_find, .func (PySem.W.fnOf "_law_kept_find" "_law_kept_find" (C8.fnArgs s_kept_find) (C8.fnBody s_kept_find) (C8.fnScope s_kept_find) .none kV_kept_find dc_kept_find pm_kept_find an_kept_find cd_kept_find ct_kept_find), sl_kept_find⟩)
    (c_kept_find : PySem.W.codeIn K cd_kept_find "_law_kept_find" = true) (k_kept_find : PySem.W.keepIn K (.ref f_kept_find) = true)
    {od_table_get an_table_get : Option Addr} {sl_table_get : Array (Option Value)} {f_table_get : Addr} {oc_table_get kV_table_get dc_table_get pm_table_get cd_table_get ct_table_get : Value}
    (a_table_get : PySem.W.nsIn K mainGlobals "_law_table_get" = some (some (.ref f_table_get)))
    (l_table_get : K.lookup f_table_get = some ⟨oc_table_get, od_table_get, .func (PySem.W.fnOf "_law_table_get" "_law_table_get" (C8.fnArgs s_table_get) (C8.fnBody s_table_get) (C8.fnScope s_table_get) .none kV_table_get dc_table_get pm_table_get an_table_get cd_table_get ct_table_get), sl_table_get⟩)
    (c_table_get : PySem.W.codeIn K cd_table_get "_law_table_get" = true) (k_table_get : PySem.W.keepIn K (.ref f_table_get) = true)
    {od_table_set an_table_set : Option Addr} {sl_table_set : Array (Option Value)} {f_table_set : Addr} {oc_table_set kV_table_set dc_table_set pm_table_set cd_table_set ct_table_set : Value}
    (a_table_set : PySem.W.nsIn K mainGlobals "_law_table_set" = some (some (.ref f_table_set)))
    (l_table_set : K.lookup f_table_set = some ⟨oc_table_set, od_table_set, .func (PySem.W.fnOf "_law_table_set" "_law_table_set" (C8.fnArgs s_table_set) (C8.fnBody s_table_set) (C8.fnScope s_table_set) .none kV_table_set dc_table_set pm_table_set an_table_set cd_table_set ct_table_set), sl_table_set⟩)
    (c_table_set : PySem.W.codeIn K cd_table_set "_law_table_set" = true) (k_table_set : PySem.W.keepIn K (.ref f_table_set) = true)
    {od_trace_values an_trace_values : Option Addr} {sl_trace_values : Array (Option Value)} {f_trace_values : Addr} {oc_trace_values kV_trace_values dc_trace_values pm_trace_values cd_trace_values ct_trace_values : Value}
    (a_trace_values : PySem.W.nsIn K mainGlobals "_law_trace_values" = some (some (.ref f_trace_values)))
    (l_trace_values : K.lookup f_trace_values = some ⟨oc_trace_values, od_trace_values, .func (PySem.W.fnOf "_law_trace_values" "_law_trace_values" (C8.fnArgs s_trace_values) (C8.fnBody s_trace_values) (C8.fnScope s_trace_values) .none kV_trace_values dc_trace_values pm_trace_values an_trace_values cd_trace_values ct_trace_values), sl_trace_values⟩)
    (c_trace_values : PySem.W.codeIn K cd_trace_values "_law_trace_values" = true) (k_trace_values : PySem.W.keepIn K (.ref f_trace_values) = true)
    {od_is_plan an_is_plan : Option Addr} {sl_is_plan : Array (Option Value)} {f_is_plan : Addr} {oc_is_plan kV_is_plan dc_is_plan pm_is_plan cd_is_plan ct_is_plan : Value}
    (a_is_plan : PySem.W.nsIn K mainGlobals "_law_is_plan" = some (some (.ref f_is_plan)))
    (l_is_plan : K.lookup f_is_plan = some ⟨oc_is_plan, od_is_plan, .func (PySem.W.fnOf "_law_is_plan" "_law_is_plan" (C8.fnArgs s_is_plan) (C8.fnBody s_is_plan) (C8.fnScope s_is_plan) .none kV_is_plan dc_is_plan pm_is_plan an_is_plan cd_is_plan ct_is_plan), sl_is_plan⟩)
    (c_is_plan : PySem.W.codeIn K cd_is_plan "_law_is_plan" = true) (k_is_plan : PySem.W.keepIn K (.ref f_is_plan) = true)
    {od_trace_cut an_trace_cut : Option Addr} {sl_trace_cut : Array (Option Value)} {f_trace_cut : Addr} {oc_trace_cut kV_trace_cut dc_trace_cut pm_trace_cut cd_trace_cut ct_trace_cut : Value}
    (a_trace_cut : PySem.W.nsIn K mainGlobals "_law_trace_cut" = some (some (.ref f_trace_cut)))
    (l_trace_cut : K.lookup f_trace_cut = some ⟨oc_trace_cut, od_trace_cut, .func (PySem.W.fnOf "_law_trace_cut" "_law_trace_cut" (C8.fnArgs s_trace_cut) (C8.fnBody s_trace_cut) (C8.fnScope s_trace_cut) .none kV_trace_cut dc_trace_cut pm_trace_cut an_trace_cut cd_trace_cut ct_trace_cut), sl_trace_cut⟩)
    (c_trace_cut : PySem.W.codeIn K cd_trace_cut "_law_trace_cut" = true) (k_trace_cut : PySem.W.keepIn K (.ref f_trace_cut) = true)
    {od_trace_flushed an_trace_flushed : Option Addr} {sl_trace_flushed : Array (Option Value)} {f_trace_flushed : Addr} {oc_trace_flushed kV_trace_flushed dc_trace_flushed pm_trace_flushed cd_trace_flushed ct_trace_flushed : Value}
    (a_trace_flushed : PySem.W.nsIn K mainGlobals "_law_trace_flushed" = some (some (.ref f_trace_flushed)))
    (l_trace_flushed : K.lookup f_trace_flushed = some ⟨oc_trace_flushed, od_trace_flushed, .func (PySem.W.fnOf "_law_trace_flushed" "_law_trace_flushed" (C8.fnArgs s_trace_flushed) (C8.fnBody s_trace_flushed) (C8.fnScope s_trace_flushed) .none kV_trace_flushed dc_trace_flushed pm_trace_flushed an_trace_flushed cd_trace_flushed ct_trace_flushed), sl_trace_flushed⟩)
    (c_trace_flushed : PySem.W.codeIn K cd_trace_flushed "_law_trace_flushed" = true) (k_trace_flushed : PySem.W.keepIn K (.ref f_trace_flushed) = true)
    {od_trace_lacks an_trace_lacks : Option Addr} {sl_trace_lacks : Array (Option Value)} {f_trace_lacks : Addr} {oc_trace_lacks kV_trace_lacks dc_trace_lacks pm_trace_lacks cd_trace_lacks ct_trace_lacks : Value}
    (a_trace_lacks : PySem.W.nsIn K mainGlobals "_law_trace_lacks" = some (some (.ref f_trace_lacks)))
    (l_trace_lacks : K.lookup f_trace_lacks = some ⟨oc_trace_lacks, od_trace_lacks, .func (PySem.W.fnOf "_law_trace_lacks" "_law_trace_lacks" (C8.fnArgs s_trace_lacks) (C8.fnBody s_trace_lacks) (C8.fnScope s_trace_lacks) .none kV_trace_lacks dc_trace_lacks pm_trace_lacks an_trace_lacks cd_trace_lacks ct_trace_lacks), sl_trace_lacks⟩)
    (c_trace_lacks : PySem.W.codeIn K cd_trace_lacks "_law_trace_lacks" = true) (k_trace_lacks : PySem.W.keepIn K (.ref f_trace_lacks) = true)
    {od_change_kind an_change_kind : Option Addr} {sl_change_kind : Array (Option Value)} {f_change_kind : Addr} {oc_change_kind kV_change_kind dc_change_kind pm_change_kind cd_change_kind ct_change_kind : Value}
    (a_change_kind : PySem.W.nsIn K mainGlobals "change_kind" = some (some (.ref f_change_kind)))
    (l_change_kind : K.lookup f_change_kind = some ⟨oc_change_kind, od_change_kind, .func (PySem.W.fnOf "change_kind" "change_kind" (C8.fnArgs s_change_kind) (C8.fnBody s_change_kind) (C8.fnScope s_change_kind) .none kV_change_kind dc_change_kind pm_change_kind an_change_kind cd_change_kind ct_change_kind), sl_change_kind⟩)
    (c_change_kind : PySem.W.codeIn K cd_change_kind "change_kind" = true) (k_change_kind : PySem.W.keepIn K (.ref f_change_kind) = true)
    {od_set_value an_set_value : Option Addr} {sl_set_value : Array (Option Value)} {f_set_value : Addr} {oc_set_value kV_set_value dc_set_value pm_set_value cd_set_value ct_set_value : Value}
    (a_set_value : PySem.W.nsIn K mainGlobals "_set_value" = some (some (.ref f_set_value)))
    (l_set_value : K.lookup f_set_value = some ⟨oc_set_value, od_set_value, .func (PySem.W.fnOf "_set_value" "_set_value" (C8.fnArgs s_set_value) (C8.fnBody s_set_value) (C8.fnScope s_set_value) .none kV_set_value dc_set_value pm_set_value an_set_value cd_set_value ct_set_value), sl_set_value⟩)
    (c_set_value : PySem.W.codeIn K cd_set_value "_set_value" = true) (k_set_value : PySem.W.keepIn K (.ref f_set_value) = true)
    {od_play_trace an_play_trace : Option Addr} {sl_play_trace : Array (Option Value)} {f_play_trace : Addr} {oc_play_trace kV_play_trace dc_play_trace pm_play_trace cd_play_trace ct_play_trace : Value}
    (a_play_trace : PySem.W.nsIn K mainGlobals "play_trace" = some (some (.ref f_play_trace)))
    (l_play_trace : K.lookup f_play_trace = some ⟨oc_play_trace, od_play_trace, .func (PySem.W.fnOf "play_trace" "play_trace" (C8.fnArgs s_play_trace) (C8.fnBody s_play_trace) (C8.fnScope s_play_trace) .none kV_play_trace dc_play_trace pm_play_trace an_play_trace cd_play_trace ct_play_trace), sl_play_trace⟩)
    (c_play_trace : PySem.W.codeIn K cd_play_trace "play_trace" = true) (k_play_trace : PySem.W.keepIn K (.ref f_play_trace) = true)
    {od_touch an_touch : Option Addr} {sl_touch : Array (Option Value)} {f_touch : Addr} {oc_touch kV_touch dc_touch pm_touch cd_touch ct_touch : Value}
    (a_touch : PySem.W.nsIn K mainGlobals "touch" = some (some (.ref f_touch)))
    (l_touch : K.lookup f_touch = some ⟨oc_touch, od_touch, .func (PySem.W.fnOf "touch" "touch" (C8.fnArgs s_touch) (C8.fnBody s_touch) (C8.fnScope s_touch) .none kV_touch dc_touch pm_touch an_touch cd_touch ct_touch), sl_touch⟩)
    (c_touch : PySem.W.codeIn K cd_touch "touch" = true) (k_touch : PySem.W.keepIn K (.ref f_touch) = true)
    {od_is_stale an_is_stale : Option Addr} {sl_is_stale : Array (Option Value)} {f_is_stale : Addr} {oc_is_stale kV_is_stale dc_is_stale pm_is_stale cd_is_stale ct_is_stale : Value}
    (a_is_stale : PySem.W.nsIn K mainGlobals "_is_stale" = some (some (.ref f_is_stale)))
    (l_is_stale : K.lookup f_is_stale = some ⟨oc_is_stale, od_is_stale, .func (PySem.W.fnOf "_is_stale" "_is_stale" (C8.fnArgs s_is_stale) (C8.fnBody s_is_stale) (C8.fnScope s_is_stale) .none kV_is_stale dc_is_stale pm_is_stale an_is_stale cd_is_stale ct_is_stale), sl_is_stale⟩)
    (c_is_stale : PySem.W.codeIn K cd_is_stale "_is_stale" = true) (k_is_stale : PySem.W.keepIn K (.ref f_is_stale) = true)
    {od_flush_plan an_flush_plan : Option Addr} {sl_flush_plan : Array (Option Value)} {f_flush_plan : Addr} {oc_flush_plan kV_flush_plan dc_flush_plan pm_flush_plan cd_flush_plan ct_flush_plan : Value}
    (a_flush_plan : PySem.W.nsIn K mainGlobals "flush_plan" = some (some (.ref f_flush_plan)))
    (l_flush_plan : K.lookup f_flush_plan = some ⟨oc_flush_plan, od_flush_plan, .func (PySem.W.fnOf "flush_plan" "flush_plan" (C8.fnArgs s_flush_plan) (C8.fnBody s_flush_plan) (C8.fnScope s_flush_plan) .none kV_flush_plan dc_flush_plan pm_flush_plan an_flush_plan cd_flush_plan ct_flush_plan), sl_flush_plan⟩)
    (c_flush_plan : PySem.W.codeIn K cd_flush_plan "flush_plan" = true) (k_flush_plan : PySem.W.keepIn K (.ref f_flush_plan) = true)
    {od_trace_events an_trace_events : Option Addr} {sl_trace_events : Array (Option Value)} {f_trace_events : Addr} {oc_trace_events kV_trace_events dc_trace_events pm_trace_events cd_trace_events ct_trace_events : Value}
    (a_trace_events : PySem.W.nsIn K mainGlobals "_law_trace_events" = some (some (.ref f_trace_events)))
    (l_trace_events : K.lookup f_trace_events = some ⟨oc_trace_events, od_trace_events, .func (PySem.W.fnOf "_law_trace_events" "_law_trace_events" (C8.fnArgs s_trace_events) (C8.fnBody s_trace_events) (C8.fnScope s_trace_events) .none kV_trace_events dc_trace_events pm_trace_events an_trace_events cd_trace_events ct_trace_events), sl_trace_events⟩)
    (c_trace_events : PySem.W.codeIn K cd_trace_events "_law_trace_events" = true) (k_trace_events : PySem.W.keepIn K (.ref f_trace_events) = true)
    {od_trace_build an_trace_build : Option Addr} {sl_trace_build : Array (Option Value)} {f_trace_build : Addr} {oc_trace_build kV_trace_build dc_trace_build pm_trace_build cd_trace_build ct_trace_build : Value}
    (a_trace_build : PySem.W.nsIn K mainGlobals "_law_trace_build" = some (some (.ref f_trace_build)))
    (l_trace_build : K.lookup f_trace_build = some ⟨oc_trace_build, od_trace_build, .func (PySem.W.fnOf "_law_trace_build" "_law_trace_build" (C8.fnArgs s_trace_build) (C8.fnBody s_trace_build) (C8.fnScope s_trace_build) .none kV_trace_build dc_trace_build pm_trace_build an_trace_build cd_trace_build ct_trace_build), sl_trace_build⟩)
    (c_trace_build : PySem.W.codeIn K cd_trace_build "_law_trace_build" = true) (k_trace_build : PySem.W.keepIn K (.ref f_trace_build) = true)
    {od_law an_law : Option Addr} {sl_law : Array (Option Value)} {f_law : Addr} {oc_law kV_law dc_law pm_law cd_law ct_law : Value}
    (a_law : PySem.W.nsIn K mainGlobals "law" = some (some (.ref f_law)))
    (l_law : K.lookup f_law = some ⟨oc_law, od_law, .func (PySem.W.fnOf "law" "law" (C8.fnArgs s_law) (C8.fnBody s_law) (C8.fnScope s_law) .none kV_law dc_law pm_law an_law cd_law ct_law), sl_law⟩)
    (c_law : PySem.W.codeIn K cd_law "law" = true) (k_law : PySem.W.keepIn K (.ref f_law) = true)
    (z_len : PySem.W.nsIn K mainGlobals "len" = some none)
    (z_abs : PySem.W.nsIn K mainGlobals "abs" = some none)
    (z_int : PySem.W.nsIn K mainGlobals "int" = some none)
    (z_range : PySem.W.nsIn K mainGlobals "range" = some none)
    (z_isinstance : PySem.W.nsIn K mainGlobals "isinstance" = some none)
    (z_bool : PySem.W.nsIn K mainGlobals "bool" = some none)
    (z_str : PySem.W.nsIn K mainGlobals "str" = some none)
    (z_list : PySem.W.nsIn K mainGlobals "list" = some none)
    (z_tuple : PySem.W.nsIn K mainGlobals "tuple" = some none)
    (z_next : PySem.W.nsIn K mainGlobals "next" = some none)
    (z_iter : PySem.W.nsIn K mainGlobals "iter" = some none)
    (z_min : PySem.W.nsIn K mainGlobals "min" = some none)
    (z_enumerate : PySem.W.nsIn K mainGlobals "enumerate" = some none) :
    ∃ fd : FuncData, (∀ (s : Shared) (v : Value), BindsTo s fd ⟨[v], []⟩ [("_law_script", v)]) ∧ ∀ base : Heap, K.In base → base.Ns mainGlobals mg → FnOk l.prog w K mg base C8.CX0 8 fa fd ["_law_script"] (spLaw K) := by
  have e := hfa.symm.trans (PySem.W.mg_of X G a_law)
  cases e
  have T : Txt mg := ⟨PySem.W.mg_none_of X G z_len, PySem.W.mg_none_of X G z_abs, PySem.W.mg_none_of X G z_int, PySem.W.mg_none_of X G z_range, PySem.W.mg_none_of X G z_isinstance, PySem.W.mg_none_of X G z_bool, PySem.W.mg_none_of X G z_str, PySem.W.mg_none_of X G z_list, PySem.W.mg_none_of X G z_tuple⟩
  have F_m_init : C8.Fun K "__init__" "Cache.__init__" s_Cache___init__ f_m_init _ := ⟨oc_m_init, od_m_init, .none, kV_m_init, dc_m_init, pm_m_init, an_m_init, cd_m_init, ct_m_init, sl_m_init, rfl, l_m_init, c_m_init⟩
  have b_m_init := F_m_init.binds (ps := ["self", "capacity"]) rfl fun _ _ _ _ _ _ us hl => match us, hl with | [_, _], _ => rfl
  have F_m_look : C8.Fun K "look" "Cache.look" s_Cache_look f_m_look _ := ⟨oc_m_look, od_m_look, .none, kV_m_look, dc_m_look, pm_m_look, an_m_look, cd_m_look, ct_m_look, sl_m_look, rfl, l_m_look, c_m_look⟩
  have b_m_look := F_m_look.binds (ps := ["self", "key"]) rfl fun _ _ _ _ _ _ us hl => match us, hl with | [_, _], _ => rfl
  have F_m_fill : C8.Fun K "fill" "Cache.fill" s_Cache_fill f_m_fill _ := ⟨oc_m_fill, od_m_fill, .none, kV_m_fill, dc_m_fill, pm_m_fill, an_m_fill, cd_m_fill, ct_m_fill, sl_m_fill, rfl, l_m_fill, c_m_fill⟩
  have b_m_fill := F_m_fill.binds (ps := ["self", "key", "value"]) rfl fun _ _ _ _ _ _ us hl => match us, hl with | [_, _, _], _ => rfl
  have F_m_drop : C8.Fun K "drop" "Cache.drop" s_Cache_drop f_m_drop _ := ⟨oc_m_drop, od_m_drop, .none, kV_m_drop, dc_m_drop, pm_m_drop, an_m_drop, cd_m_drop, ct_m_drop, sl_m_drop, rfl, l_m_drop, c_m_drop⟩
  have b_m_drop := F_m_drop.binds (ps := ["self", "key"]) rfl fun _ _ _ _ _ _ us hl => match us, hl with | [_, _], _ => rfl
  have F_m_clear_all : C8.Fun K "clear_all" "Cache.clear_all" s_Cache_clear_all f_m_clear_all _ := ⟨oc_m_clear_all, od_m_clear_all, .none, kV_m_clear_all, dc_m_clear_all, pm_m_clear_all, an_m_clear_all, cd_m_clear_all, ct_m_clear_all, sl_m_clear_all, rfl, l_m_clear_all, c_m_clear_all⟩
  have b_m_clear_all := F_m_clear_all.binds (ps := ["self"]) rfl fun _ _ _ _ _ _ us hl => match us, hl with | [_], _ => rfl
  have TC : CTxt K mg C := ⟨⟨pgC, hdC, poC, saC⟩, nC, nE, PySem.W.mg_of X G aC, PySem.W.mg_none_of X G z_len, PySem.W.mg_none_of X G z_list, PySem.W.mg_none_of X G z_next, PySem.W.mg_none_of X G z_iter⟩
  have D_number : Def K mg "_law_number" s_number f_number _ := ⟨⟨oc_number, od_number, .none, kV_number, dc_number, pm_number, an_number, cd_number, ct_number, sl_number, rfl, l_number, c_number⟩, PySem.W.mg_of X G a_number, k_number⟩
  have b_number := D_number.fn.binds (ps := ["_law_script", "_law_at", "_law_k", "_law_size"]) rfl fun _ _ _ _ _ _ us hl => match us, hl with | [_, _, _, _], _ => rfl
  have D_is_whole : Def K mg "_law_is_whole" s_is_whole f_is_whole _ := ⟨⟨oc_is_whole, od_is_whole, .none, kV_is_whole, dc_is_whole, pm_is_whole, an_is_whole, cd_is_whole, ct_is_whole, sl_is_whole, rfl, l_is_whole, c_is_whole⟩, PySem.W.mg_of X G a_is_whole, k_is_whole⟩
  have b_is_whole := D_is_whole.fn.binds (ps := ["_law_told"]) rfl fun _ _ _ _ _ _ us hl => match us, hl with | [_], _ => rfl
  have D_same : Def K mg "_law_same" s_same f_same _ := ⟨⟨oc_same, od_same, .none, kV_same, dc_same, pm_same, an_same, cd_same, ct_same, sl_same, rfl, l_same, c_same⟩, PySem.W.mg_of X G a_same, k_same⟩
  have b_same := D_same.fn.binds (ps := ["_law_told", "_law_due"]) rfl fun _ _ _ _ _ _ us hl => match us, hl with | [_, _], _ => rfl
  have D_thing : Def K mg "_law_thing" s_thing f_thing _ := ⟨⟨oc_thing, od_thing, .none, kV_thing, dc_thing, pm_thing, an_thing, cd_thing, ct_thing, sl_thing, rfl, l_thing, c_thing⟩, PySem.W.mg_of X G a_thing, k_thing⟩
  have b_thing := D_thing.fn.binds (ps := ["_law_script", "_law_at", "_law_k"]) rfl fun _ _ _ _ _ _ us hl => match us, hl with | [_, _, _], _ => rfl
  have D_kept_find : Def K mg "_law_kept_find" s_kept_find f_kept_find _ := ⟨⟨oc_kept_find, od_kept_find, .none, kV_kept_find, dc_kept_find, pm_kept_find, an_kept_find, cd_kept_find, ct_kept_find, sl_kept_find, rfl, l_kept_find, c_kept_find⟩, PySem.W.mg_of X G a_kept_find, k_kept_find⟩
  have b_kept_find := D_kept_find.fn.binds (ps := ["_law_kept", "_law_key"]) rfl fun _ _ _ _ _ _ us hl => match us, hl with | [_, _], _ => rfl
  have D_table_get : Def K mg "_law_table_get" s_table_get f_table_get _ := ⟨⟨oc_table_get, od_table_get, .none, kV_table_get, dc_table_get, pm_table_get, an_table_get, cd_table_get, ct_table_get, sl_table_get, rfl, l_table_get, c_table_get⟩, PySem.W.mg_of X G a_table_get, k_table_get⟩
  have b_table_get := D_table_get.fn.binds (ps := ["_law_table", "_law_key"]) rfl fun _ _ _ _ _ _ us hl => match us, hl with | [_, _], _ => rfl
  have D_table_set : Def K mg "_law_table_set" s_table_set f_table_set _ := ⟨⟨oc_table_set, od_table_set, .none, kV_table_set, dc_table_set, pm_table_set, an_table_set, cd_table_set, ct_table_set, sl_table_set, rfl, l_table_set, c_table_set⟩, PySem.W.mg_of X G a_table_set, k_table_set⟩
  have b_table_set := D_table_set.fn.binds (ps := ["_law_table", "_law_key", "_law_value"]) rfl fun _ _ _ _ _ _ us hl => match us, hl with | [_, _, _], _ => rfl
  have D_trace_values : Def K mg "_law_trace_values" s_trace_values f_trace_values _ := ⟨⟨oc_trace_values, od_trace_values, .none, kV_trace_values, dc_trace_values, pm_trace_values, an_trace_values, cd_trace_values, ct_trace_values, sl_trace_values, rfl, l_trace_values, c_trace_values⟩, PySem.W.mg_of X G a_trace_values, k_trace_values⟩
  have b_trace_values := D_trace_values.fn.binds (ps := ["_law_trace"]) rfl fun _ _ _ _ _ _ us hl => match us, hl with | [_], _ => rfl
  have D_is_plan : Def K mg "_law_is_plan" s_is_plan f_is_plan _ := ⟨⟨oc_is_plan, od_is_plan, .none, kV_is_plan, dc_is_plan, pm_is_plan, an_is_plan, cd_is_plan, ct_is_plan, sl_is_plan, rfl, l_is_plan, c_is_plan⟩, PySem.W.mg_of X G a_is_plan, k_is_plan⟩
  have b_is_plan := D_is_plan.fn.binds (ps := ["_law_told"]) rfl fun _ _ _ _ _ _ us hl => match us, hl with | [_], _ => rfl
  have D_trace_cut : Def K mg "_law_trace_cut" s_trace_cut f_trace_cut _ := ⟨⟨oc_trace_cut, od_trace_cut, .none, kV_trace_cut, dc_trace_cut, pm_trace_cut, an_trace_cut, cd_trace_cut, ct_trace_cut, sl_trace_cut, rfl, l_trace_cut, c_trace_cut⟩, PySem.W.mg_of X G a_trace_cut, k_trace_cut⟩
  have b_trace_cut := D_trace_cut.fn.binds (ps := ["_law_trace"]) rfl fun _ _ _ _ _ _ us hl => match us, hl with | [_], _ => rfl
  have D_trace_flushed : Def K mg "_law_trace_flushed" s_trace_flushed f_trace_flushed _ := ⟨⟨oc_trace_flushed, od_trace_flushed, .none, kV_trace_flushed, dc_trace_flushed, pm_trace_flushed, an_trace_flushed, cd_trace_flushed, ct_trace_flushed, sl_trace_flushed, rfl, l_trace_flushed, c_trace_flushed⟩, PySem.W.mg_of X G a_trace_flushed, k_trace_flushed⟩
  have b_trace_flushed := D_trace_flushed.fn.binds (ps := ["_law_trace", "_law_positions", "_law_skipped"]) rfl fun _ _ _ _ _ _ us hl => match us, hl with | [_, _, _], _ => rfl
  have D_trace_lacks : Def K mg "_law_trace_lacks" s_trace_lacks f_trace_lacks _ := ⟨⟨oc_trace_lacks, od_trace_lacks, .none, kV_trace_lacks, dc_trace_lacks, pm_trace_lacks, an_trace_lacks, cd_trace_lacks, ct_trace_lacks, sl_trace_lacks, rfl, l_trace_lacks, c_trace_lacks⟩, PySem.W.mg_of X G a_trace_lacks, k_trace_lacks⟩
  have b_trace_lacks := D_trace_lacks.fn.binds (ps := ["_law_trace", "_law_size", "_law_values", "_law_positions", "_law_pair"]) rfl fun _ _ _ _ _ _ us hl => match us, hl with | [_, _, _, _, _], _ => rfl
  have D_change_kind : Def K mg "change_kind" s_change_kind f_change_kind _ := ⟨⟨oc_change_kind, od_change_kind, .none, kV_change_kind, dc_change_kind, pm_change_kind, an_change_kind, cd_change_kind, ct_change_kind, sl_change_kind, rfl, l_change_kind, c_change_kind⟩, PySem.W.mg_of X G a_change_kind, k_change_kind⟩
  have b_change_kind := D_change_kind.fn.binds (ps := ["old", "new"]) rfl fun _ _ _ _ _ _ us hl => match us, hl with | [_, _], _ => rfl
  have D_set_value : Def K mg "_set_value" s_set_value f_set_value _ := ⟨⟨oc_set_value, od_set_value, .none, kV_set_value, dc_set_value, pm_set_value, an_set_value, cd_set_value, ct_set_value, sl_set_value, rfl, l_set_value, c_set_value⟩, PySem.W.mg_of X G a_set_value, k_set_value⟩
  have b_set_value := D_set_value.fn.binds (ps := ["table", "cache", "entry", "kinds"]) rfl fun _ _ _ _ _ _ us hl => match us, hl with | [_, _, _, _], _ => rfl
  have D_play_trace : Def K mg "play_trace" s_play_trace f_play_trace _ := ⟨⟨oc_play_trace, od_play_trace, .none, kV_play_trace, dc_play_trace, pm_play_trace, an_play_trace, cd_play_trace, ct_play_trace, sl_play_trace, rfl, l_play_trace, c_play_trace⟩, PySem.W.mg_of X G a_play_trace, k_play_trace⟩
  have b_play_trace := D_play_trace.fn.binds (ps := ["trace", "capacity", "kinds"]) rfl fun _ _ _ _ _ _ us hl => match us, hl with | [_, _, _], _ => rfl
  have D_touch : Def K mg "touch" s_touch f_touch _ := ⟨⟨oc_touch, od_touch, .none, kV_touch, dc_touch, pm_touch, an_touch, cd_touch, ct_touch, sl_touch, rfl, l_touch, c_touch⟩, PySem.W.mg_of X G a_touch, k_touch⟩
  have b_touch := D_touch.fn.binds (ps := ["table", "cache", "key"]) rfl fun _ _ _ _ _ _ us hl => match us, hl with | [_, _, _], _ => rfl
  have D_is_stale : Def K mg "_is_stale" s_is_stale f_is_stale _ := ⟨⟨oc_is_stale, od_is_stale, .none, kV_is_stale, dc_is_stale, pm_is_stale, an_is_stale, cd_is_stale, ct_is_stale, sl_is_stale, rfl, l_is_stale, c_is_stale⟩, PySem.W.mg_of X G a_is_stale, k_is_stale⟩
  have b_is_stale := D_is_stale.fn.binds (ps := ["table", "cache", "key"]) rfl fun _ _ _ _ _ _ us hl => match us, hl with | [_, _, _], _ => rfl
  have D_flush_plan : Def K mg "flush_plan" s_flush_plan f_flush_plan _ := ⟨⟨oc_flush_plan, od_flush_plan, .none, kV_flush_plan, dc_flush_plan, pm_flush_plan, an_flush_plan, cd_flush_plan, ct_flush_plan, sl_flush_plan, rfl, l_flush_plan, c_flush_plan⟩, PySem.W.mg_of X G a_flush_plan, k_flush_plan⟩
  have b_flush_plan := D_flush_plan.fn.binds (ps := ["trace", "capacity"]) rfl fun _ _ _ _ _ _ us hl => match us, hl with | [_, _], _ => rfl
  have D_trace_events : Def K mg "_law_trace_events" s_trace_events f_trace_events _ := ⟨⟨oc_trace_events, od_trace_events, .none, kV_trace_events, dc_trace_events, pm_trace_events, an_trace_events, cd_trace_events, ct_trace_events, sl_trace_events, rfl, l_trace_events, c_trace_events⟩, PySem.W.mg_of X G a_trace_events, k_trace_events⟩
  have b_trace_events := D_trace_events.fn.binds (ps := ["_law_script", "_law_keys", "_law_values", "_law_many", "_law_flushing"]) rfl fun _ _ _ _ _ _ us hl => match us, hl with | [_, _, _, _, _], _ => rfl
  have D_trace_build : Def K mg "_law_trace_build" s_trace_build f_trace_build _ := ⟨⟨oc_trace_build, od_trace_build, .none, kV_trace_build, dc_trace_build, pm_trace_build, an_trace_build, cd_trace_build, ct_trace_build, sl_trace_build, rfl, l_trace_build, c_trace_build⟩, PySem.W.mg_of X G a_trace_build, k_trace_build⟩
  have b_trace_build := D_trace_build.fn.binds (ps := ["_law_script", "_law_flushing", "_law_few"]) rfl fun _ _ _ _ _ _ us hl => match us, hl with | [_, _, _], _ => rfl
  have D_law : Def K mg "law" s_law fa _ := ⟨⟨oc_law, od_law, .none, kV_law, dc_law, pm_law, an_law, cd_law, ct_law, sl_law, rfl, l_law, c_law⟩, PySem.W.mg_of X G a_law, k_law⟩
  refine ⟨PySem.W.fnOf "law" "law" (C8.fnArgs s_law) (C8.fnBody s_law) (C8.fnScope s_law) .none kV_law dc_law pm_law an_law cd_law ct_law, fun s v => .of_eq rfl, fun base _ _ => ?_⟩
  have c_number := ok_number (P := l.prog) (w := w) (base := base) D_number b_number T
  have c_whole := ok_whole (P := l.prog) (w := w) (base := base) D_is_whole b_is_whole T
  have c_same := ok_same D_same b_same T c_whole 5
  have c_thing := ok_thing D_thing b_thing T c_number
  have c_Cache := ok_init (P := l.prog) (w := w) (base := base) F_m_init ⟨mkC, a_m_init, i_m_init, kcC⟩ b_m_init TC
  have m_drop := ok_drop (P := l.prog) (w := w) (base := base) F_m_drop ⟨a_m_drop, i_m_drop, k_m_drop⟩ b_m_drop TC
  have m_look := ok_look (P := l.prog) (w := w) (base := base) F_m_look ⟨a_m_look, i_m_look, k_m_look⟩ b_m_look TC
  have m_clear := ok_clear (P := l.prog) (w := w) (base := base) F_m_clear_all ⟨a_m_clear_all, i_m_clear_all, k_m_clear_all⟩ b_m_clear_all TC
  have m_fill := ok_fill F_m_fill ⟨a_m_fill, i_m_fill, k_m_fill⟩ b_m_fill TC m_drop
  have c_find := ok_find (P := l.prog) (w := w) (base := base) D_kept_find b_kept_find T
  have c_tget := ok_tget D_table_get b_table_get T c_find
  have c_tset := ok_tset D_table_set b_table_set T c_find
  have c_change := ok_change (P := l.prog) (w := w) (base := base) D_change_kind b_change_kind T
  have c_setv := ok_setv D_set_value b_set_value TC m_drop c_change
  have c_touch := ok_touch D_touch b_touch TC m_look m_fill
  have c_stale := ok_stale D_is_stale b_is_stale TC m_look
  have c_plan := ok_plan D_flush_plan b_flush_plan ⟨TC, PySem.W.mg_none_of X G z_enumerate⟩ c_Cache m_clear c_stale c_touch
  have c_play := ok_play D_play_trace b_play_trace TC c_Cache m_clear c_setv c_touch
  have c_tev := ok_tev D_trace_events b_trace_events T c_number
  have c_tb := ok_tbuild D_trace_build b_trace_build ⟨T, PySem.W.mg_none_of X G z_min⟩ c_number c_thing c_tev
  have c_vals := ok_vals D_trace_values b_trace_values T c_tget c_tset
  have c_isplan := ok_isplan D_is_plan b_is_plan T c_same c_whole
  have c_cut := ok_cut (P := l.prog) (w := w) (base := base) D_trace_cut b_trace_cut T
  have c_flushed := ok_flushed (P := l.prog) (w := w) (base := base) D_trace_flushed b_trace_flushed T
  have c_lacks := ok_lacks D_trace_lacks b_trace_lacks T c_same c_flushed c_play
  exact ok_law D_law ⟨T, PySem.W.mg_none_of X G z_min⟩ c_number c_thing c_same c_tb c_cut c_flushed c_lacks c_plan c_isplan c_vals c_play

end

end Lw
open PySem PySem.W PyProof.Rows
set_option maxRecDepth 100000 in
set_option maxHeartbeats 0 in
theorem PySem.Challenge.cw_lentpages_k78_seam_plan_and_player_holds : PySem.Challenge.rw_lentpages_k78_seam_plan_and_player.Holds := by
  w_on; o_law; k_head; (case hw => w_witness2)
  k_fill
  refine L2.walk_of (l := PySem.Challenge.rw_lentpages_k78_seam_plan_and_player) (n := 63) (k := 8) (x := "_law_script") (CX := fun _ => C8.CX0) (sp := fun w => Lw.spLaw _) rfl (by decide) rfl ⟨rfl, by decide, by decide⟩ (fun w h Y => by first | exact PySem.W.kIn_of Y | exact PySem.W.km_in_of Y) ?F (fun _ _ a ns hl _ hS => ⟨a, ns, rfl, hS, hl, fun _ => rfl⟩) (fun _ _ _ _ _ h => h)
  case F =>
    intro w mg fa h KX G hmg
    refine' Lw.all_mk KX G hmg ?aC ?a_m_init ?i_m_init ?l_m_init ?c_m_init ?k_m_init ?a_m_look ?i_m_look ?l_m_look ?c_m_look ?k_m_look ?a_m_fill ?i_m_fill ?l_m_fill ?c_m_fill ?k_m_fill ?a_m_drop ?i_m_drop ?l_m_drop ?c_m_drop ?k_m_drop ?a_m_clear_all ?i_m_clear_all ?l_m_clear_all ?c_m_clear_all ?k_m_clear_all ?pgC ?hdC ?poC ?saC ?mkC ?kcC ?nC ?nE ?a_number ?l_number ?c_number ?k_number ?a_is_whole ?l_is_whole ?c_is_whole ?k_is_whole ?a_same ?l_same ?c_same ?k_same ?a_thing ?l_thing ?c_thing ?k_thing ?a_kept_find ?l_kept_find ?c_kept_find ?k_kept_find ?a_table_get ?l_table_get ?c_table_get ?k_table_get ?a_table_set ?l_table_set ?c_table_set ?k_table_set ?a_trace_values ?l_trace_values ?c_trace_values ?k_trace_values ?a_is_plan ?l_is_plan ?c_is_plan ?k_is_plan ?a_trace_cut ?l_trace_cut ?c_trace_cut ?k_trace_cut ?a_trace_flushed ?l_trace_flushed ?c_trace_flushed ?k_trace_flushed ?a_trace_lacks ?l_trace_lacks ?c_trace_lacks ?k_trace_lacks ?a_change_kind ?l_change_kind ?c_change_kind ?k_change_kind ?a_set_value ?l_set_value ?c_set_value ?k_set_value ?a_play_trace ?l_play_trace ?c_play_trace ?k_play_trace ?a_touch ?l_touch ?c_touch ?k_touch ?a_is_stale ?l_is_stale ?c_is_stale ?k_is_stale ?a_flush_plan ?l_flush_plan ?c_flush_plan ?k_flush_plan ?a_trace_events ?l_trace_events ?c_trace_events ?k_trace_events ?a_trace_build ?l_trace_build ?c_trace_build ?k_trace_build ?a_law ?l_law ?c_law ?k_law ?z_len ?z_abs ?z_int ?z_range ?z_isinstance ?z_bool ?z_str ?z_list ?z_tuple ?z_next ?z_iter ?z_min ?z_enumerate
    (case aC => k_is)
    (case a_m_init => k_is)
    (case i_m_init => k_is)
    (case l_m_init => k_is)
    (case c_m_init => k_is)
    (case k_m_init => k_is)
    (case a_m_look => k_is)
    (case i_m_look => k_is)
    (case l_m_look => k_is)
    (case c_m_look => k_is)
    (case k_m_look => k_is)
    (case a_m_fill => k_is)
    (case i_m_fill => k_is)
    (case l_m_fill => k_is)
    (case c_m_fill => k_is)
    (case k_m_fill => k_is)
    (case a_m_drop => k_is)
    (case i_m_drop => k_is)
    (case l_m_drop => k_is)
    (case c_m_drop => k_is)
    (case k_m_drop => k_is)
    (case a_m_clear_all => k_is)
    (case i_m_clear_all => k_is)
    (case l_m_clear_all => k_is)
    (case c_m_clear_all => k_is)
    (case k_m_clear_all => k_is)
    (case pgC => k_is)
    (case hdC => k_is)
    (case poC => k_is)
    (case saC => k_is)
    (case mkC => k_is)
    (case kcC => k_is)
    (case nC => k_is)
    (case nE => k_is)
    (case a_number => k_is)
    (case l_number => k_is)
    (case c_number => k_is)
    (case k_number => k_is)
    (case a_is_whole => k_is)
    (case l_is_whole => k_is)
    (case c_is_whole => k_is)
    (case k_is_whole => k_is)
    (case a_same => k_is)
    (case l_same => k_is)
    (case c_same => k_is)
    (case k_same => k_is)
    (case a_thing => k_is)
    (case l_thing => k_is)
    (case c_thing => k_is)
    (case k_thing => k_is)
    (case a_kept_find => k_is)
    (case l_kept_find => k_is)
    (case c_kept_find => k_is)
    (case k_kept_find => k_is)
    (case a_table_get => k_is)
    (case l_table_get => k_is)
    (case c_table_get => k_is)
    (case k_table_get => k_is)
    (case a_table_set => k_is)
    (case l_table_set => k_is)
    (case c_table_set => k_is)
    (case k_table_set => k_is)
    (case a_trace_values => k_is)
    (case l_trace_values => k_is)
    (case c_trace_values => k_is)
    (case k_trace_values => k_is)
    (case a_is_plan => k_is)
    (case l_is_plan => k_is)
    (case c_is_plan => k_is)
    (case k_is_plan => k_is)
    (case a_trace_cut => k_is)
    (case l_trace_cut => k_is)
    (case c_trace_cut => k_is)
    (case k_trace_cut => k_is)
    (case a_trace_flushed => k_is)
    (case l_trace_flushed => k_is)
    (case c_trace_flushed => k_is)
    (case k_trace_flushed => k_is)
    (case a_trace_lacks => k_is)
    (case l_trace_lacks => k_is)
    (case c_trace_lacks => k_is)
    (case k_trace_lacks => k_is)
    (case a_change_kind => k_is)
    (case l_change_kind => k_is)
    (case c_change_kind => k_is)
    (case k_change_kind => k_is)
    (case a_set_value => k_is)
    (case l_set_value => k_is)
    (case c_set_value => k_is)
    (case k_set_value => k_is)
    (case a_play_trace => k_is)
    (case l_play_trace => k_is)
    (case c_play_trace => k_is)
    (case k_play_trace => k_is)
    (case a_touch => k_is)
    (case l_touch => k_is)
    (case c_touch => k_is)
    (case k_touch => k_is)
    (case a_is_stale => k_is)
    (case l_is_stale => k_is)
    (case c_is_stale => k_is)
    (case k_is_stale => k_is)
    (case a_flush_plan => k_is)
    (case l_flush_plan => k_is)
    (case c_flush_plan => k_is)
    (case k_flush_plan => k_is)
    (case a_trace_events => k_is)
    (case l_trace_events => k_is)
    (case c_trace_events => k_is)
    (case k_trace_events => k_is)
    (case a_trace_build => k_is)
    (case l_trace_build => k_is)
    (case c_trace_build => k_is)
    (case k_trace_build => k_is)
    (case a_law => k_is)
    (case l_law => k_is)
    (case c_law => k_is)
    (case k_law => k_is)
    (case z_len => k_is)
    (case z_abs => k_is)
    (case z_int => k_is)
    (case z_range => k_is)
    (case z_isinstance => k_is)
    (case z_bool => k_is)
    (case z_str => k_is)
    (case z_list => k_is)
    (case z_tuple => k_is)
    (case z_next => k_is)
    (case z_iter => k_is)
    (case z_min => k_is)
    (case z_enumerate => k_is)
