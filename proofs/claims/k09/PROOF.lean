import PyProof.Rows.All
import Wide.All
import OpenK.AllK
import Wide.FinOn
import HandS.ForMost
import HandS.Codes
import HandS.IsInst
import HandS.Wide
import HandS.Conv
import HandS.DictTup
import PyProof.DictMoreH
import HandS.TupLen
import HandS.Zip
import HandS.Walk
import HandS.Style
import HandS.Rev
import HandS.DictComp
import KE.SortData
import KE.GoesEnumKw
import HandS.SortKw
import HandS.SortInts
import KE.KeyNested
import KE.KDictWalk
import KE.KDictIter
import KE.KDictKeyed
import HandS.IterNext
import OpenK.KMeth
import PySem.Challenge.RW_lentpages_k09_cache_recency
set_option Elab.async false
set_option linter.all false
set_option maxRecDepth 100000
set_option maxHeartbeats 4000000
namespace Lw
open PySem PySem.Spec PyProof.Rows L2
open C8 (Def Cal cal0 pe_c)
def topS (i : Nat) : Stmt := PySem.Challenge.pw_lentpages_k09_cache_recency.main.body.getD i (.Pass ⟨0, 0, 0, 0⟩)

/-! ### data in the heap, tracked -/
mutual
def Dh (H : Hp) : PyData → V → Prop
  | .none, x => x = .non
  | .bool b, x => x = .bl b
  | .int i, x => x = .int i
  | .str s, x => x = .str s
  | .list ds, x => ∃ a xs, x = .ref a ∧ H a = some (.lst xs) ∧ DhAll H ds xs
  | .tuple ds, x => ∃ a xs, x = .ref a ∧ H a = some (.tup xs) ∧ DhAll H ds xs
  | .dict _, _ => False
def DhAll (H : Hp) : List PyData → List V → Prop
  | [], xs => xs = []
  | d :: ds, xs => ∃ v vs, xs = v :: vs ∧ Dh H d v ∧ DhAll H ds vs
end
mutual
theorem Dh.mono {H H' : Hp} (s : Same H H') : ∀ (d : PyData) (x : V), Dh H d x → Dh H' d x
  | .none, x, h => h
  | .bool b, x, h => h
  | .int i, x, h => h
  | .str i, x, h => h
  | .list ds, x, h => by
    obtain ⟨a, xs, e, g, r⟩ := h
    exact ⟨a, xs, e, s _ _ g, DhAll.mono s ds xs r⟩
  | .tuple ds, x, h => by
    obtain ⟨a, xs, e, g, r⟩ := h
    exact ⟨a, xs, e, s _ _ g, DhAll.mono s ds xs r⟩
  | .dict _, x, h => False.elim h
theorem DhAll.mono {H H' : Hp} (s : Same H H') : ∀ (ds : List PyData) (xs : List V), DhAll H ds xs → DhAll H' ds xs
  | [], xs, h => h
  | d :: ds, xs, h => by
    obtain ⟨v, vs, e, g, r⟩ := h
    exact ⟨v, vs, e, Dh.mono s d v g, DhAll.mono s ds vs r⟩
end
theorem DhAll.len {H : Hp} : ∀ {ds : List PyData} {xs : List V}, DhAll H ds xs → xs.length = ds.length
  | [], xs, h => by
    cases (show xs = [] from h)
    rfl
  | d :: ds, xs, h => by
    obtain ⟨v, vs, e, g, r⟩ := h
    rw [e, List.length_cons, List.length_cons, DhAll.len r]
theorem DhAll.get {H : Hp} : ∀ {ds : List PyData} {xs : List V} {i : Nat} {d : PyData}, DhAll H ds xs → ds[i]? = some d → ∃ x, xs[i]? = some x ∧ Dh H d x
  | [], xs, i, d, h, e => by simp at e
  | d' :: ds, xs, 0, d, h, e => by
    obtain ⟨v, vs, e', g, r⟩ := h
    simp at e
    subst e
    exact ⟨v, by rw [e']; rfl, g⟩
  | d' :: ds, xs, i + 1, d, h, e => by
    obtain ⟨v, vs, e', g, r⟩ := h
    obtain ⟨x, h1, h2⟩ := DhAll.get (i := i) (d := d) r (by simpa using e)
    exact ⟨x, by rw [e']; simpa using h1, h2⟩
mutual
theorem Dh.dp {K : PySem.W.Frag} {H : Hp} : ∀ (d : PyData) (x : V), Dh H d x → Dp K H x d
  | .none, x, h => by
    cases (show x = .non from h)
    exact .non
  | .bool b, x, h => by
    cases (show x = .bl b from h)
    exact .bl b
  | .int i, x, h => by
    cases (show x = .int i from h)
    exact .int i
  | .str i, x, h => by
    cases (show x = .str i from h)
    exact .str i
  | .list ds, x, h => by
    obtain ⟨a, xs, e, g, r⟩ := h
    rw [e]
    exact .lst (SqL.of g) (DhAll.dp ds xs r)
  | .tuple ds, x, h => by
    obtain ⟨a, xs, e, g, r⟩ := h
    rw [e]
    exact .tup (SqT.of g) (DhAll.dp ds xs r)
  | .dict _, x, h => False.elim h
theorem DhAll.dp {K : PySem.W.Frag} {H : Hp} : ∀ (ds : List PyData) (xs : List V), DhAll H ds xs → DpAll K H xs ds
  | [], xs, h => by
    cases (show xs = [] from h)
    exact .nil
  | d :: ds, xs, h => by
    obtain ⟨v, vs, e, g, r⟩ := h
    rw [e]
    exact .cons (Dh.dp d v g) (DhAll.dp ds vs r)
end
/-- a datum's type -/
def tyN : PyData → String
  | .none => "NoneType"
  | .bool _ => "bool"
  | .int _ => "int"
  | .str _ => "str"
  | .list _ => "list"
  | .tuple _ => "tuple"
  | .dict _ => "dict"
theorem Dh.ty {K : PySem.W.Frag} {H : Hp} : ∀ {d : PyData} {x : V}, Dh H d x → TyX K H x (.type (tyN d))
  | .none, x, h => by
    cases (show x = .non from h)
    exact .base .non
  | .bool b, x, h => by
    cases (show x = .bl b from h)
    exact .base (.bl b)
  | .int i, x, h => by
    cases (show x = .int i from h)
    exact .base (.int i)
  | .str i, x, h => by
    cases (show x = .str i from h)
    exact .base (.str i)
  | .list ds, x, h => by
    obtain ⟨a, xs, e, g, r⟩ := h
    rw [e]
    exact .base (.lst g)
  | .tuple ds, x, h => by
    obtain ⟨a, xs, e, g, r⟩ := h
    rw [e]
    exact .base (.tup g)
  | .dict _, x, h => False.elim h
/-- at most n lists and tuples in one another, none of them long -/
def Dle : Nat → PyData → Prop
  | 0, _ => False
  | n + 1, .list ds => ds.length ≤ 100000 ∧ ∀ d ∈ ds, Dle n d
  | n + 1, .tuple ds => ds.length ≤ 100000 ∧ ∀ d ∈ ds, Dle n d
  | _, .dict _ => False
  | _, _ => True
theorem same_upd {H : Hp} {p : Addr} {o : HO} (h : H p = none) : Same H (upd H p o) := fun b x e => by
  rw [upd_ne (ne_of_none e h)]
  exact e
theorem same_rfl {H : Hp} : Same H H := fun _ _ e => e
/-- what is asked of the top's names -/
structure Txt (mg : Str → Option Value) : Prop where
  len : mg "len" = none
  abs : mg "abs" = none
  int : mg "int" = none
  range : mg "range" = none
  isinstance : mg "isinstance" = none
  bool : mg "bool" = none
  str : mg "str" = none
  list : mg "list" = none
  tuple : mg "tuple" = none
abbrev sI (i : Int) : Option V := some (.int i)
abbrev sR (a : Addr) : Option V := some (.ref a)
abbrev sS (x : Str) : Option V := some (.str x)
abbrev sB (b : Bool) : Option V := some (.bl b)

/-! ### steps of a reading -/
theorem ifD {p : Prop} [Decidable p] {A B : Prop} (a : p → A) (b : ¬ p → B) : if decide p = true then A else B := by
  by_cases h : p
  · rw [if_pos (decide_eq_true h)]
    exact a h
  · rw [if_neg (fun z => h (of_decide_eq_true z))]
    exact b h
theorem ifEq {x y : Int} {A B : Prop} (a : x = y → A) (b : x ≠ y → B) : if decide (V.int x = V.int y) = true then A else B :=
  ifD (fun h => a (V.int.inj h)) (fun h => b (fun z => h (congrArg V.int z)))
theorem ifT {p : Prop} [Decidable p] {A B : Prop} (h : p) (a : A) : if decide p = true then A else B := by
  rw [if_pos (decide_eq_true h)]
  exact a
theorem ifF {p : Prop} [Decidable p] {A B : Prop} (h : ¬ p) (b : B) : if decide p = true then A else B := by
  rw [if_neg (fun z => h (of_decide_eq_true z))]
  exact b
theorem ifEqT {x y : Int} {A B : Prop} (h : x = y) (a : A) : if decide (V.int x = V.int y) = true then A else B := ifT (congrArg V.int h) a
theorem ifEqF {x y : Int} {A B : Prop} (h : x ≠ y) (b : B) : if decide (V.int x = V.int y) = true then A else B := ifF (fun z => h (V.int.inj z)) b
theorem cmul_l {i j : Int} (h : -(2 ^ 64) < i ∧ i < 2 ^ 64) : CMul i j := .inl h
theorem cmul_r {i j : Int} (h : -(2 ^ 64) < j ∧ j < 2 ^ 64) : CMul i j := .inr h
/-- a statement that the steps stop at -/
@[irreducible] def tMk (t : TS) : TS := t
theorem tMk_eq (t : TS) : tMk t = t := by
  unfold tMk
  rfl
theorem ps_mk {X : Cx} {s : Stmt} {t : TS} (h : PS X s t) : PS X s (tMk t) := by
  rw [tMk_eq]
  exact h
theorem un {t : TS} {D : Ends} {σ : L2.St} {H : Hp} (h : t D σ H) : tMk t D σ H := by
  rw [tMk_eq]
  exact h
/-- what follows, said once -/
theorem jn {t : TS} {D : Ends} {σ : L2.St} {H : Hp} (M : L2.St → Hp → Prop) (h2 : ∀ σ H, M σ H → D.nx σ H) (h1 : ∀ N : L2.St → Hp → Prop, (∀ σ H, M σ H → N σ H) → t { D with nx := N } σ H) : tMk t D σ H := by
  rw [tMk_eq]
  exact h1 D.nx h2
/-- a wish that the steps stop at -/
@[irreducible] def Ob (p : Prop) : Prop := p
theorem ob {p : Prop} (h : p) : Ob p := by
  unfold Ob
  exact h
theorem unob {p : Prop} (h : Ob p) : p := by
  unfold Ob at h
  exact h
theorem atI_getD {ns : List Int} {j : Int} (h0 : 0 ≤ j) (h1 : j < (ns.length : Int)) : atI (ns.map V.int) j = some (.int (ns.getD j.toNat 0)) := by
  have e : j = ((j.toNat : Nat) : Int) := by omega
  have hj : j.toNat < ns.length := by omega
  have q : atI (ns.map V.int) ((j.toNat : Nat) : Int) = some (.int (ns.getD j.toNat 0)) := atI_nat (by
    rw [List.getElem?_map, List.getElem?_eq_getElem hj, List.getD_eq_getElem?_getD, List.getElem?_eq_getElem hj]
    rfl)
  rw [← e] at q
  exact q
theorem sz {n : Nat} (h : n ≤ 1000 := by first | decide | simp) : n ≤ sizeLine := Nat.le_of_lt (small1000 h)
theorem sz5 {n : Nat} (h : n ≤ 1000000) : n < sizeLine := by
  rw [sizeLine_eq]
  omega
theorem take_succ_eq {α : Type} {xs ys : List α} {i : Nat} {x y : α} (hx : xs[i]? = some x) (hy : ys[i]? = some y) : xs.take (i + 1) = ys.take (i + 1) ↔ xs.take i = ys.take i ∧ x = y := by
  rw [List.take_add_one, List.take_add_one, hx, hy]
  constructor
  · intro h
    have h1 := List.append_inj' h rfl
    refine ⟨h1.1, ?_⟩
    have h2 := h1.2
    simpa using h2
  · rintro ⟨h1, rfl⟩
    rw [h1]
-- size2
theorem ifN {b : Bool} {A B : Prop} (h : if b = true then B else A) : if (!b) = true then A else B := by
  cases b
  · exact h
  · exact h
theorem ifNe {x y : Int} {A B : Prop} (a : x ≠ y → A) (b : x = y → B) : if (!decide (V.int x = V.int y)) = true then A else B := ifN (ifEq b a)
theorem ixAny {K : PySem.W.Frag} {H : Hp} {a : Addr} {xs : List V} {i : Int} {v : V} {Q : VK} (h : SqL K H a xs ∨ SqT K H a xs) (e : atI xs i = some v) (q : Q v H) : rIx K (.ref a) (.int i) H Q := by
  rcases h with h | h
  · exact .inl ⟨a, xs, i, v, rfl, rfl, h, e, q⟩
  · exact .inr (.inl ⟨a, xs, i, v, rfl, rfl, h, e, q⟩)
theorem sameT {K : PySem.W.Frag} {H H' : Hp} {a : Addr} {xs : List V} (s : Same H H') (h : SqT K H a xs) : SqT K H' a xs := by
  rcases h with (g | ⟨o, g⟩) | g
  · exact .inl (.inl (s _ _ g))
  · exact .inl (.inr ⟨o, s _ _ g⟩)
  · exact .inr g
theorem sqAny {K : PySem.W.Frag} {H H' : Hp} {a : Addr} {xs : List V} (s : Same H H') (h : SqL K H a xs ∨ SqT K H a xs) : SqL K H' a xs ∨ SqT K H' a xs := h.imp (fun z => s.seq z) (fun z => sameT s z)
theorem same_put {H H1 : Hp} {D : Addr} {o : HO} (s : Same H H1) (h : H D = none) : Same H (upd H1 D o) := fun b x e => by
  rw [upd_ne (ne_of_none e h)]
  exact s b x e

/-! ### rules that say the written part by a letter -/
theorem ixL {X : Cx} (K : PySem.W.Frag) (h : X.K = K) : IxR X (rIxL K) := by
  subst h
  exact ix_list
theorem ixT {X : Cx} (K : PySem.W.Frag) (h : X.K = K) : IxR X (rIxT K) := by
  subst h
  exact ix_tup
theorem ixA {X : Cx} (K : PySem.W.Frag) (h : X.K = K) : IxR X (rIx K) := by
  subst h
  exact ix_seq
def rLen (K : PySem.W.Frag) : List V → Hp → VK → Prop := fun xs H Q => ∃ p ys, xs = [.ref p] ∧ (SqL K H p ys ∨ SqT K H p ys) ∧ Q (.int ys.length) H
theorem lenQ {X : Cx} (K : PySem.W.Frag) (h : X.K = K) : CallR X (.builtin "len") (rLen K) := by
  subst h
  exact call_len_seq
def isB : PyData → Bool
  | .bool _ => true
  | _ => false
def isI : PyData → Bool
  | .int _ => true
  | _ => false
def isS : PyData → Bool
  | .str _ => true
  | _ => false
def isL : PyData → Bool
  | .list _ => true
  | _ => false
def isT : PyData → Bool
  | .tuple _ => true
  | _ => false
theorem kit_B {K : PySem.W.Frag} : ∀ (d : PyData), PySem.W.kitOne K (.type (tyN d)) (.type "bool") = some (isB d)
  | .none => kit_ty (show kitB "NoneType" "bool" = some false by decide +kernel)
  | .bool _ => kit_ty (show kitB "bool" "bool" = some true by decide +kernel)
  | .int _ => kit_ty (show kitB "int" "bool" = some false by decide +kernel)
  | .str _ => kit_ty (show kitB "str" "bool" = some false by decide +kernel)
  | .list _ => kit_ty (show kitB "list" "bool" = some false by decide +kernel)
  | .tuple _ => kit_ty (show kitB "tuple" "bool" = some false by decide +kernel)
  | .dict _ => kit_ty (show kitB "dict" "bool" = some false by decide +kernel)
theorem kit_I {K : PySem.W.Frag} : ∀ (d : PyData), PySem.W.kitOne K (.type (tyN d)) (.type "int") = some (isI d || isB d)
  | .none => kit_ty (show kitB "NoneType" "int" = some false by decide +kernel)
  | .bool _ => kit_ty (show kitB "bool" "int" = some true by decide +kernel)
  | .int _ => kit_ty (show kitB "int" "int" = some true by decide +kernel)
  | .str _ => kit_ty (show kitB "str" "int" = some false by decide +kernel)
  | .list _ => kit_ty (show kitB "list" "int" = some false by decide +kernel)
  | .tuple _ => kit_ty (show kitB "tuple" "int" = some false by decide +kernel)
  | .dict _ => kit_ty (show kitB "dict" "int" = some false by decide +kernel)
theorem kit_S {K : PySem.W.Frag} : ∀ (d : PyData), PySem.W.kitOne K (.type (tyN d)) (.type "str") = some (isS d)
  | .none => kit_ty (show kitB "NoneType" "str" = some false by decide +kernel)
  | .bool _ => kit_ty (show kitB "bool" "str" = some false by decide +kernel)
  | .int _ => kit_ty (show kitB "int" "str" = some false by decide +kernel)
  | .str _ => kit_ty (show kitB "str" "str" = some true by decide +kernel)
  | .list _ => kit_ty (show kitB "list" "str" = some false by decide +kernel)
  | .tuple _ => kit_ty (show kitB "tuple" "str" = some false by decide +kernel)
  | .dict _ => kit_ty (show kitB "dict" "str" = some false by decide +kernel)
theorem kit_L {K : PySem.W.Frag} : ∀ (d : PyData), PySem.W.kitOne K (.type (tyN d)) (.type "list") = some (isL d)
  | .none => kit_ty (show kitB "NoneType" "list" = some false by decide +kernel)
  | .bool _ => kit_ty (show kitB "bool" "list" = some false by decide +kernel)
  | .int _ => kit_ty (show kitB "int" "list" = some false by decide +kernel)
  | .str _ => kit_ty (show kitB "str" "list" = some false by decide +kernel)
  | .list _ => kit_ty (show kitB "list" "list" = some true by decide +kernel)
  | .tuple _ => kit_ty (show kitB "tuple" "list" = some false by decide +kernel)
  | .dict _ => kit_ty (show kitB "dict" "list" = some false by decide +kernel)
theorem kit_T {K : PySem.W.Frag} : ∀ (d : PyData), PySem.W.kitOne K (.type (tyN d)) (.type "tuple") = some (isT d)
  | .none => kit_ty (show kitB "NoneType" "tuple" = some false by decide +kernel)
  | .bool _ => kit_ty (show kitB "bool" "tuple" = some false by decide +kernel)
  | .int _ => kit_ty (show kitB "int" "tuple" = some false by decide +kernel)
  | .str _ => kit_ty (show kitB "str" "tuple" = some false by decide +kernel)
  | .list _ => kit_ty (show kitB "list" "tuple" = some false by decide +kernel)
  | .tuple _ => kit_ty (show kitB "tuple" "tuple" = some true by decide +kernel)
  | .dict _ => kit_ty (show kitB "dict" "tuple" = some false by decide +kernel)
theorem kit_LT {K : PySem.W.Frag} (d : PyData) : PySem.W.kitAny K (.type (tyN d)) [.type "list", .type "tuple"] = some (isL d || isT d) := by
  refine kitAny_cons (kit_L d) (fun h => ?_) (fun h => by rw [h]; rfl)
  rw [h]
  refine kitAny_cons (kit_T d) (fun h => by rw [h]; rfl) (fun h => by rw [h]; rfl)
/-- isinstance of a datum -/
def rIsD (T : String) (g : PyData → Bool) : List V → Hp → VK → Prop := fun xs H Q => ∃ x d, xs = [x, .ty T] ∧ Dh H d x ∧ Q (.bl (g d)) H
theorem isOf {X : Cx} {T : String} {g : PyData → Bool} (h : ∀ d, PySem.W.kitOne X.K (.type (tyN d)) (.type T) = some (g d)) : CallR X (.builtin "isinstance") (rIsD T g) := by
  intro pins s σ H xs us Q I r z
  obtain ⟨x, d, rfl, hx, q⟩ := z
  exact call_isi pins s σ H _ us Q I r ⟨_, _, _, _, _, rfl, .ty T, hx.ty, h d, q⟩
theorem is_bool {X : Cx} : CallR X (.builtin "isinstance") (rIsD "bool" isB) := isOf kit_B
theorem is_int {X : Cx} : CallR X (.builtin "isinstance") (rIsD "int" fun d => isI d || isB d) := isOf kit_I
theorem is_str {X : Cx} : CallR X (.builtin "isinstance") (rIsD "str" isS) := isOf kit_S
theorem is_list {X : Cx} : CallR X (.builtin "isinstance") (rIsD "list" isL) := isOf kit_L
theorem is_tuple {X : Cx} : CallR X (.builtin "isinstance") (rIsD "tuple" isT) := isOf kit_T
/-- isinstance(x, (list, tuple)) of a datum -/
def rIsLT : List V → Hp → VK → Prop := fun xs H Q => ∃ x d p, xs = [x, .ref p] ∧ H p = some (.tup [.ty "list", .ty "tuple"]) ∧ Dh H d x ∧ Q (.bl (isL d || isT d)) H
theorem is_lt {X : Cx} : CallR X (.builtin "isinstance") rIsLT := by
  intro pins s σ H xs us Q I r z
  obtain ⟨x, d, p, rfl, hp, hx, q⟩ := z
  exact call_isiT pins s σ H _ us Q I r ⟨_, _, _, _, _, _, rfl, hp, .cons (.ty "list") (.cons (.ty "tuple") .nil), hx.ty, kit_LT d, q⟩
theorem ifBT {b : Bool} {A B : Prop} (h : b = true) (a : A) : if b = true then A else B := by
  rw [if_pos h]
  exact a
theorem ifBF {b : Bool} {A B : Prop} (h : b = false) (q : B) : if b = true then A else B := by
  rw [h, if_neg Bool.false_ne_true]
  exact q
theorem inQ {X : Cx} (K : PySem.W.Frag) (h : X.K = K) : OpR X (compareOp .In) (rIn K false) := by
  subst h
  exact op_in_seq
theorem notInQ {X : Cx} (K : PySem.W.Frag) (h : X.K = K) : OpR X (compareOp .NotIn) (rIn K true) := by
  subst h
  exact op_notIn_seq
theorem eqQ {X : Cx} (K : PySem.W.Frag) (h : X.K = K) (hu : X.A.units + 64 < cLine) : OpR X (compareOp .Eq) (rEqD K) := by
  subst h
  exact op_eqD hu
theorem neQ {X : Cx} (K : PySem.W.Frag) (h : X.K = K) (hu : X.A.units + 64 < cLine) : OpR X (compareOp .NotEq) (rNeD K) := by
  subst h
  exact op_neD hu
def rLst (K : PySem.W.Frag) : List V → Hp → VK → Prop := fun xs H Q => ∃ p ys, xs = [.ref p] ∧ (SqL K H p ys ∨ SqT K H p ys) ∧ ∀ l, H l = none → Q (.ref l) (upd H l (.lst ys))
theorem listQ {X : Cx} (K : PySem.W.Frag) (h : X.K = K) : CallR X (.type "list") (rLst K) := by
  subst h
  exact call_list_of

/-- what follows a wrapped statement, said once -/
theorem jnS {a b : TS} {D : Ends} {σ : L2.St} {H : Hp} (M : L2.St → Hp → Prop) (h2 : ∀ σ H, M σ H → b D σ H) (h1 : ∀ N : L2.St → Hp → Prop, (∀ σ H, M σ H → N σ H) → a { D with nx := N } σ H) : tSeq (tMk a) b D σ H := by
  rw [tMk_eq]
  exact h1 (b D) h2

mutual
/-- no lists inside -/
def noL : PyData → Bool
  | .list _ => false
  | .dict _ => false
  | .tuple ds => noLs ds
  | _ => true
def noLs : List PyData → Bool
  | [] => true
  | d :: ds => noL d && noLs ds
end
mutual
theorem Dh.tups {H H' : Hp} (s : ∀ a us, H a = some (.tup us) → H' a = some (.tup us)) : ∀ (d : PyData) (x : V), noL d = true → Dh H d x → Dh H' d x
  | .none, x, _, h => h
  | .bool b, x, _, h => h
  | .int i, x, _, h => h
  | .str i, x, _, h => h
  | .list ds, x, n, h => by cases n
  | .tuple ds, x, n, h => by
    obtain ⟨a, xs, e, g, r⟩ := h
    exact ⟨a, xs, e, s _ _ g, DhAll.tups s ds xs n r⟩
  | .dict _, x, n, h => by cases n
theorem DhAll.tups {H H' : Hp} (s : ∀ a us, H a = some (.tup us) → H' a = some (.tup us)) : ∀ (ds : List PyData) (xs : List V), noLs ds = true → DhAll H ds xs → DhAll H' ds xs
  | [], xs, _, h => h
  | d :: ds, xs, n, h => by
    obtain ⟨v, vs, e, g, r⟩ := h
    have n2 : noL d = true ∧ noLs ds = true := Bool.and_eq_true_iff.mp n
    exact ⟨v, vs, e, Dh.tups s d v n2.1 g, DhAll.tups s ds vs n2.2 r⟩
end
theorem DhAll.snoc {H : Hp} : ∀ {ds : List PyData} {xs : List V} {d : PyData} {x : V}, DhAll H ds xs → Dh H d x → DhAll H (ds ++ [d]) (xs ++ [x])
  | [], xs, d, x, h, hx => by
    cases (show xs = [] from h)
    exact ⟨x, [], rfl, hx, rfl⟩
  | d' :: ds, xs, d, x, h, hx => by
    obtain ⟨v, vs, rfl, h1, h2⟩ := h
    exact ⟨v, vs ++ [x], rfl, h1, DhAll.snoc h2 hx⟩

theorem Same.get {H H' : Hp} {a : Addr} {o : HO} (s : Same H H') (g : H a = some o) : H' a = some o := s _ _ g

section

-- a condition of an operator
local macro_rules | `(tactic| walk_at "cond") => `(tactic| first
  | (show (0 : Int) < _; omega)
  | (show CDiv _ _; constructor <;> (first | decide | omega))
  | (show CMul _ _; first | (refine cmul_l ?_; constructor <;> (first | decide | omega)) | (refine cmul_r ?_; constructor <;> (first | decide | omega)))
  | (show CPow _ _; exact (by refine ⟨by decide, by decide, by decide⟩))
  | (show CDivW _ _; exact ⟨by decide, by decide +kernel⟩))
local macro_rules | `(tactic| walk_at "sq") => `(tactic| first | assumption | exact Dh.mono (same_upd (by assumption)) _ _ (by assumption) | exact .inl (.inl (.inl (by assumption))) | exact .inr (.inl (.inl (by assumption))) | exact SqL.of (by assumption) | exact .inl (by assumption) | exact .inl (SqL.of (by assumption)) | exact SqT.of (by assumption) | exact .inr (SqT.of (by assumption)))
local macro_rules | `(tactic| walk_at "st") => `(tactic| first
  | refine ⟨_, rfl, ?_⟩
  | refine ⟨_, _, rfl, rfl, ?_⟩
  | refine .inl ⟨_, rfl, ?_⟩
  | refine ⟨rfl, ?_⟩
  | refine ⟨_, _, rfl, by walk_at "sq", ?_⟩
  | refine ⟨.inl ⟨rfl, _, SqL.of (by assumption)⟩, ?_⟩
  | refine ⟨by walk_at "cond", ?_⟩
  | (refine' ifBT ?hh ?_; (case hh => first | rfl | assumption))
  | (refine' ifBF ?hh ?_; (case hh => first | rfl | assumption)))
local macro_rules | `(tactic| walk_at "go") => `(tactic| repeat walk_at "st")
local macro_rules | `(tactic| walk_at "yes") => `(tactic| (refine' ifT ?hh ?_; (case hh => first | rfl | decide +kernel)))
local macro_rules | `(tactic| walk_at "no") => `(tactic| (refine' ifF ?hh ?_; (case hh => first | decide +kernel | (intro z; cases z; done))))

/-! ### _law_number -/
/-- n times // 1000 -/
def itd : Nat → Int → Int
  | 0, r => r
  | n + 1, r => itd n r / 1000
theorem itd_zero : ∀ n, itd n 0 = 0
  | 0 => rfl
  | n + 1 => by
    show itd n 0 / 1000 = 0
    rw [itd_zero n]
    rfl
theorem itd_add (r : Int) (h : itd n r = 0) : ∀ m, itd (n + m) r = 0
  | 0 => h
  | m + 1 => by
    show itd (n + m) r / 1000 = 0
    rw [itd_add r h m]
    rfl
theorem itd_nn {r : Int} (h : 0 ≤ r) : ∀ n, 0 ≤ itd n r
  | 0 => h
  | n + 1 => Int.ediv_nonneg (itd_nn h n) (by decide)
def nCell (ns : List Int) (i : Int) : Int := if ns.length = 0 then 0 else (ns.getD (i % (ns.length : Int)).toNat 0).natAbs
def nTurn (ns : List Int) (i : Int) : Int := if ns.length = 0 then i else i / (ns.length : Int)
def nPick (ns : List Int) (i k : Int) : Int := k + 16 * nTurn ns i
def nMix (c p : Int) : Int :=
  let a := (c + 7919 * p + 13) % 2147483647
  let b := (a * (a + 48271)) % 2147483629
  (b * (b + 69621) + 31 * p) % 2147483647
def num (ns : List Int) (i k size : Int) : Int :=
  let c := nCell ns i
  let p := nPick ns i k
  if c ≥ 10 ^ 18 then
    if itd p.toNat (c / 10 ^ 18) > 0 then itd p.toNat (c / 10 ^ 18) % 1000 % size else nMix c p / 9 % size
  else nMix c p / 9 % size
theorem num_nn {ns : List Int} {i k size : Int} (h : 0 < size) : 0 ≤ num ns i k size := by
  unfold num
  dsimp only
  split
  · split
    · exact Int.emod_nonneg _ (by omega)
    · exact Int.emod_nonneg _ (by omega)
  · exact Int.emod_nonneg _ (by omega)
theorem num_lt {ns : List Int} {i k size : Int} (h : 0 < size) : num ns i k size < size := by
  unfold num
  dsimp only
  split
  · split
    · exact Int.emod_lt_of_pos _ h
    · exact Int.emod_lt_of_pos _ h
  · exact Int.emod_lt_of_pos _ h
def spNum (K : PySem.W.Frag) : Sp := fun vs H Q _ => ∃ (a : Addr) (ns : List Int) (i k size : Int), vs = [.ref a, .int i, .int k, .int size] ∧ SqL K H a (ns.map V.int) ∧ ns.length ≤ 63 ∧
  0 ≤ i ∧ i ≤ 1000000000 ∧ 0 ≤ k ∧ k ≤ 1000000000 ∧ 0 < size ∧ Q (.int (num ns i k size)) H

abbrev s_number : Stmt := topS 3
theorem sc_number : FnScope ["_law_script", "_law_at", "_law_k", "_law_size", "_law_cell", "_law_turn", "_law_pick", "_law_rest", "_law_step", "_law_mixed"] ["_law_script", "_law_at", "_law_k", "_law_size"] (C8.fnScope s_number) := C8.fnScope_by (by decide +kernel)
section
variable {P : Program} {w : World} {K : PySem.W.Frag} {mg : Str → Option Value} {base : Heap}
theorem ok_number {f : Addr} {fd : FuncData} (D : Def K mg "_law_number" s_number f fd) (b : Binds K fd ["_law_script", "_law_at", "_law_k", "_law_size"] []) (T : Txt mg) : Cal P w K mg base 1 "_law_number" (spNum K) [] := by
  refine cal0 D b .nil sc_number (fun vs H Q E h => ?_) (fun cdv A outer s H vs Q E hr h => ?_)
  · obtain ⟨a, ns, i, k, size, rfl, _⟩ := h
    rfl
  obtain ⟨a, ns, i, k, size, rfl, hS, hl, i0, i1, k0, k1, hz, q⟩ := h
  refine ⟨_, (pss_cons (ps_set (i := 4) sc_number.nd rfl (.inl rfl) pe_int)
      (pss_cons (ps_set (i := 5) sc_number.nd rfl (.inl rfl) (pv 1))
      (pss_cons (ps_mk (ps_if (pt_cmpR op_gt (pe_callB (lenQ K rfl) (by rfl) T.len PySem.boot_len (pa_cons (pv 0) pa_nil)) pe_int (nomark _))
      (pss_cons (ps_set (i := 4) sc_number.nd rfl (.inl rfl) (pe_callB call_abs (by rfl) T.abs (by decide +kernel) (pa_cons (pe_ix (ixL K rfl) (pv 0) (pe_op op_mod (pe_callTy call_int1 (by rfl) T.int (by decide +kernel) (pa_cons (pv 1) pa_nil)) (pe_callB (lenQ K rfl) (by rfl) T.len PySem.boot_len (pa_cons (pv 0) pa_nil))) (fun _ _ => rfl)) pa_nil)))
      (pss_one (ps_set (i := 5) sc_number.nd rfl (.inl rfl) (pe_op op_fdiv (pv 1) (pe_callB (lenQ K rfl) (by rfl) T.len PySem.boot_len (pa_cons (pv 0) pa_nil))))))
      pss_nil))
      (pss_cons (ps_set (i := 6) sc_number.nd rfl (.inl rfl) (pe_op op_add (pv 2) (pe_op op_mul pe_int (pv 5))))
      (pss_cons (ps_mk (ps_if (pt_cmpR op_ge (pv 4) (pe_op op_pow pe_int pe_int) (nomark _))
      (pss_cons (ps_set (i := 7) sc_number.nd rfl (.inl rfl) (pe_op op_fdivW (pv 4) (pe_op op_pow pe_int pe_int)))
      (pss_cons (ps_mk (ps_for PassesOwn.never rfl (pi_range1 (by rfl) T.range (pa_cons (pv 6) pa_nil)) (pg_name (i := 8) sc_number.nd rfl (.inl rfl))
      (pss_cons (ps_mk (ps_if (pt_cmpR op_eq (pv 7) pe_int (nomark _))
      (pss_one ps_break)
      pss_nil))
      (pss_one (ps_set (i := 7) sc_number.nd rfl (.inl rfl) (pe_op op_fdiv (pv 7) pe_int))))))
      (pss_one (ps_mk (ps_if (pt_cmpR op_gt (pv 7) pe_int (nomark _))
      (pss_one (ps_ret (pe_op op_mod (pe_callTy call_int1 (by rfl) T.int (by decide +kernel) (pa_cons (pe_op op_mod (pe_callTy call_int1 (by rfl) T.int (by decide +kernel) (pa_cons (pv 7) pa_nil)) pe_int) pa_nil)) (pv 3))))
      pss_nil)))))
      pss_nil))
      (pss_cons (ps_set (i := 9) sc_number.nd rfl (.inl rfl) (pe_op op_mod (pe_callTy call_int1 (by rfl) T.int (by decide +kernel) (pa_cons (pe_op op_add (pe_op op_add (pv 4) (pe_op op_mul pe_int (pv 6))) pe_int) pa_nil)) pe_int))
      (pss_cons (ps_set (i := 9) sc_number.nd rfl (.inl rfl) (pe_op op_mod (pe_callTy call_int1 (by rfl) T.int (by decide +kernel) (pa_cons (pe_op op_mul (pv 9) (pe_op op_add (pv 9) pe_int)) pa_nil)) pe_int))
      (pss_cons (ps_set (i := 9) sc_number.nd rfl (.inl rfl) (pe_op op_mod (pe_callTy call_int1 (by rfl) T.int (by decide +kernel) (pa_cons (pe_op op_add (pe_op op_mul (pv 9) (pe_op op_add (pv 9) pe_int)) (pe_op op_mul pe_int (pv 6))) pa_nil)) pe_int))
      (pss_one (ps_ret (pe_op op_mod (pe_callTy call_int1 (by rfl) T.int (by decide +kernel) (pa_cons (pe_op op_fdiv (pv 9) pe_int) pa_nil)) (pv 3)))))))))))), ?_⟩
  have hml : (ns.map V.int).length = ns.length := List.length_map _
  have t0 : 0 ≤ nTurn ns i ∧ nTurn ns i ≤ 1000000000 := by
    unfold nTurn
    split
    · exact ⟨i0, i1⟩
    · exact ⟨Int.ediv_nonneg i0 (by omega), Int.le_trans (Int.ediv_le_self _ i0) i1⟩
  have p0 : 0 ≤ nPick ns i k ∧ nPick ns i k ≤ 17000000000 := by
    unfold nPick
    omega
  walk_at "go"
  refine jn (M := fun σ H' => ∃ c t : Int, c = nCell ns i ∧ t = nTurn ns i ∧ H' = H ∧ σ = [sR a, sI i, sI k, sI size, sI c, sI t, none, none, none, none]) ?_ (fun N kk => ?_)
  · rintro σ H' ⟨c, t, ec, et, rfl, rfl⟩
    walk_at "go"
    -- behind the pick
    have ep : k + 16 * t = nPick ns i k := by
      rw [et]
      rfl
    have c0 : 0 ≤ c := by
      rw [ec]
      unfold nCell
      split <;> omega
    have en : c < 10 ^ 18 ∨ ¬ itd (nPick ns i k).toNat (c / 10 ^ 18) > 0 → num ns i k size = nMix c (nPick ns i k) / 9 % size := fun h => by
      unfold num
      dsimp only
      rw [← ec]
      rcases h with h | h
      · rw [if_neg (by omega)]
      · split
        · rfl
        · rfl
    refine jn (M := fun σ H2 => H2 = H' ∧ (c < 10 ^ 18 ∨ ¬ itd (nPick ns i k).toNat (c / 10 ^ 18) > 0) ∧ ∃ y8 y9, σ = [sR a, sI i, sI k, sI size, sI c, sI t, sI (nPick ns i k), y8, y9, none]) ?_ (fun N kk => ?_)
    · rintro σ H2 ⟨rfl, hc, y8, y9, rfl⟩
      walk_at "go"
      have e := en hc
      unfold nMix at e
      dsimp only at e
      rw [e] at q
      exact q
    · walk_at "go"
      refine ifD (fun g => ?_) (fun g => ?_)
      · have g' : c ≥ 10 ^ 18 := g
        walk_at "go"
        have r0 : 0 ≤ c / 10 ^ 18 := Int.ediv_nonneg c0 (by decide)
        refine jn (M := fun σ H2 => H2 = H' ∧ ∃ y9, σ = [sR a, sI i, sI k, sI size, sI c, sI t, sI (nPick ns i k), sI (itd (nPick ns i k).toNat (c / 10 ^ 18)), y9, none]) ?_ (fun N2 k2 => ?_)
        · rintro σ H2 ⟨rfl, y9, rfl⟩
          refine un ?_
          walk_at "go"
          refine ifD (fun g2 => ?_) (fun g2 => ?_)
          · walk_at "go"
            have e : num ns i k size = itd (nPick ns i k).toNat (c / 10 ^ 18) % 1000 % size := by
              unfold num
              dsimp only
              rw [← ec, if_pos g', if_pos g2]
            rw [e] at q
            exact q
          · walk_at "go"
            exact kk _ _ ⟨rfl, .inr g2, _, _, rfl⟩
        · walk_at "go"
          refine ⟨(show -(2 ^ 62) ≤ k + 16 * t by omega), (show k + 16 * t < 2 ^ 62 by omega), for_range (lo := 0) (n := (k + 16 * t).toNat) (fun j σ H2 => Ob (H2 = H' ∧ ∃ y9, σ = [sR a, sI i, sI k, sI size, sI c, sI t, sI (nPick ns i k), sI (itd j (c / 10 ^ 18)), y9, none])) (ob ⟨rfl, none, ?_⟩) ?_ ?_⟩
          · rw [← ep]
            rfl
          · rintro j σ H2 hj h
            obtain ⟨rfl, y9, rfl⟩ := unob h
            refine un ?_
            walk_at "go"
            refine ifEq (fun z => ?_) (fun z => ?_)
            · walk_at "go"
              refine k2 _ _ ⟨rfl, sI (0 + (j : Int)), ?_⟩
              have z2 : itd (nPick ns i k).toNat (c / 10 ^ 18) = 0 := by
                have z3 := itd_add _ z ((nPick ns i k).toNat - j)
                rw [show j + ((nPick ns i k).toNat - j) = (nPick ns i k).toNat by omega] at z3
                exact z3
              rw [z2, ← z]
              rfl
            · walk_at "go"
              exact ob ⟨rfl, _, rfl⟩
          · rintro σ H2 h
            obtain ⟨rfl, y9, rfl⟩ := unob h
            refine k2 _ _ ⟨rfl, y9, ?_⟩
            rw [ep]
      · walk_at "go"
        have g' : ¬ c ≥ 10 ^ 18 := g
        refine kk _ _ ⟨rfl, .inl (by omega), none, none, ?_⟩
        rw [← ep]
        rfl
  · walk_at "go"
    refine ifD (fun c => ?_) (fun c => ?_)
    · walk_at "go"
      rw [hml] at c
      refine ⟨_, _, _, _, rfl, rfl, hS, atI_getD (Int.emod_nonneg _ (by omega)) (by rw [hml]; exact Int.emod_lt_of_pos _ (by omega)), ?_⟩
      walk_at "go"
      refine kk _ _ ⟨_, _, ?_, ?_, rfl, rfl⟩
      · unfold nCell
        rw [if_neg (show ¬ ns.length = 0 by omega)]
        simp only [hml]
        split
        · omega
        · omega
      · unfold nTurn
        rw [if_neg (by omega), hml]
    · walk_at "go"
      rw [hml] at c
      refine kk _ _ ⟨_, _, ?_, ?_, rfl, rfl⟩
      · unfold nCell
        rw [if_pos (by omega)]
      · unfold nTurn
        rw [if_pos (by omega)]
end

/-! ### _law_is_whole, _law_same -/
abbrev s_is_whole : Stmt := topS 4
theorem sc_is_whole : FnScope ["_law_told"] ["_law_told"] (C8.fnScope s_is_whole) := C8.fnScope_by (by decide +kernel)
abbrev s_same : Stmt := topS 5
theorem sc_same : FnScope ["_law_told", "_law_due", "_law_k"] ["_law_told", "_law_due"] (C8.fnScope s_same) := C8.fnScope_by (by decide +kernel)
def spWhole : Sp := fun vs H Q _ => ∃ (x : V) (d : PyData), vs = [x] ∧ Dh H d x ∧ Q (.bl (isI d)) H
def spSame (n : Nat) : Sp := fun vs H Q _ => ∃ (x y : V) (d e : PyData), vs = [x, y] ∧ Dh H d x ∧ Dh H e y ∧ Dle n e ∧ ∀ (b : Bool) (H' : Hp), (b = true ↔ d = e) → Same H H' → Q (.bl b) H'
section
variable {P : Program} {w : World} {K : PySem.W.Frag} {mg : Str → Option Value} {base : Heap}
theorem ok_whole {f : Addr} {fd : FuncData} (D : Def K mg "_law_is_whole" s_is_whole f fd) (b : Binds K fd ["_law_told"] []) (T : Txt mg) : Cal P w K mg base 1 "_law_is_whole" spWhole [] := by
  refine cal0 D b .nil sc_is_whole (fun vs H Q E h => ?_) (fun cdv A outer s H vs Q E hr h => ?_)
  · obtain ⟨x, d, rfl, _⟩ := h
    rfl
  obtain ⟨x, d, rfl, hx, q⟩ := h
  refine ⟨_, (pss_one (ps_ret (pe_and (pe_callB is_int (by rfl) T.isinstance (by decide +kernel) (pa_cons (pv 0) (pa_cons (pe_bltn (v := .ty "int") (by rfl) T.int (by decide +kernel) rfl) pa_nil))) (pe_one (pe_not (pe_callB is_bool (by rfl) T.isinstance (by decide +kernel) (pa_cons (pv 0) (pa_cons (pe_bltn (v := .ty "bool") (by rfl) T.bool (by decide +kernel) rfl) pa_nil)))))))), ?_⟩
  cases d <;> (walk_at "go"; exact q)
theorem ok_same_step {f : Addr} {fd : FuncData} (D : Def K mg "_law_same" s_same f fd) (b : Binds K fd ["_law_told", "_law_due"] []) (T : Txt mg) (c_is_whole : Cal P w K mg base 1 "_law_is_whole" spWhole []) {n : Nat}
    (c_same : Cal P w K mg base (n + 1) "_law_same" (spSame n) []) : Cal P w K mg base (n + 2) "_law_same" (spSame (n + 1)) [] := by
  refine cal0 D b .nil sc_same (fun vs H Q E h => ?_) (fun cdv A outer s H vs Q E hr h => ?_)
  · obtain ⟨x, y, d, e, rfl, _⟩ := h
    rfl
  obtain ⟨x, y, d, e, rfl, hx, hy, he, q⟩ := h
  refine ⟨_, (pss_cons (ps_mk (ps_if (pt_val (pe_callB is_lt (by rfl) T.isinstance (by decide +kernel) (pa_cons (pv 1) (pa_cons (pe_tup (pa_cons (pe_bltn (v := .ty "list") (by rfl) T.list (by decide +kernel) rfl) (pa_cons (pe_bltn (v := .ty "tuple") (by rfl) T.tuple (by decide +kernel) rfl) pa_nil))) pa_nil))))
      (pss_cons (ps_mk (ps_if (PW.pt (pw_or (pt_not (pt_val (pe_callB is_lt (by rfl) T.isinstance (by decide +kernel) (pa_cons (pv 0) (pa_cons (pe_tup (pa_cons (pe_bltn (v := .ty "list") (by rfl) T.list (by decide +kernel) rfl) (pa_cons (pe_bltn (v := .ty "tuple") (by rfl) T.tuple (by decide +kernel) rfl) pa_nil))) pa_nil))))) (pw_or1 (pt_cmpR op_ne (pe_callB is_list (by rfl) T.isinstance (by decide +kernel) (pa_cons (pv 0) (pa_cons (pe_bltn (v := .ty "list") (by rfl) T.list (by decide +kernel) rfl) pa_nil))) (pe_callB is_list (by rfl) T.isinstance (by decide +kernel) (pa_cons (pv 1) (pa_cons (pe_bltn (v := .ty "list") (by rfl) T.list (by decide +kernel) rfl) pa_nil))) (nomark _)))))
      (pss_one (ps_ret pe_bl))
      pss_nil))
      (pss_cons (ps_mk (ps_if (pt_cmpR op_ne (pe_callB (lenQ K rfl) (by rfl) T.len PySem.boot_len (pa_cons (pv 0) pa_nil)) (pe_callB (lenQ K rfl) (by rfl) T.len PySem.boot_len (pa_cons (pv 1) pa_nil)) (nomark _))
      (pss_one (ps_ret pe_bl))
      pss_nil))
      (pss_one (ps_ret (pe_cmpR op_eq (pe_callB (lenQ K rfl) (by rfl) T.len PySem.boot_len (pa_cons (pe_lc (own := [("_law_k", 2)]) (g := gName 2) rfl sc_same.nd (pi_range1 (by rfl) T.range (pa_cons (pe_callB (lenQ K rfl) (by rfl) T.len PySem.boot_len (pa_cons (pv 1) pa_nil)) pa_nil)) (blkOk_by (own := [("_law_k", 2)]) (N := ["_law_told", "_law_due", "_law_k"]) (sc := C8.fnScope s_same) (by decide +kernel)) (fun _ _ _ _ _ => (pg_name (i := 2) sc_same.nd rfl (.inl rfl))) (fun _ _ _ _ _ => (pts_one (pt_not (pt_val (C8.pe_c c_same hr (by omega) (by rfl) (pa_cons (pe_ix (ixA K rfl) (pv 0) (pv 2) (fun _ _ => rfl)) (pa_cons (pe_ix (ixA K rfl) (pv 1) (pv 2) (fun _ _ => rfl)) pa_nil))))))) (fun _ _ _ _ _ => (pv 2))) pa_nil)) pe_int (nomark _))))))
      pss_nil))
      (pss_cons (ps_mk (ps_if (pt_val (pe_callB is_bool (by rfl) T.isinstance (by decide +kernel) (pa_cons (pv 1) (pa_cons (pe_bltn (v := .ty "bool") (by rfl) T.bool (by decide +kernel) rfl) pa_nil))))
      (pss_one (ps_ret (pe_and (pe_callB is_bool (by rfl) T.isinstance (by decide +kernel) (pa_cons (pv 0) (pa_cons (pe_bltn (v := .ty "bool") (by rfl) T.bool (by decide +kernel) rfl) pa_nil))) (pe_one (pe_cmpR op_eq (pv 0) (pv 1) (nomark _))))))
      pss_nil))
      (pss_cons (ps_mk (ps_if (pt_val (pe_callB is_int (by rfl) T.isinstance (by decide +kernel) (pa_cons (pv 1) (pa_cons (pe_bltn (v := .ty "int") (by rfl) T.int (by decide +kernel) rfl) pa_nil))))
      (pss_one (ps_ret (pe_and (C8.pe_c c_is_whole hr (by omega) (by rfl) (pa_cons (pv 0) pa_nil)) (pe_one (pe_cmpR op_eq (pv 0) (pv 1) (nomark _))))))
      pss_nil))
      (pss_cons (ps_mk (ps_if (pt_val (pe_callB is_str (by rfl) T.isinstance (by decide +kernel) (pa_cons (pv 1) (pa_cons (pe_bltn (v := .ty "str") (by rfl) T.str (by decide +kernel) rfl) pa_nil))))
      (pss_one (ps_ret (pe_and (pe_callB is_str (by rfl) T.isinstance (by decide +kernel) (pa_cons (pv 0) (pa_cons (pe_bltn (v := .ty "str") (by rfl) T.str (by decide +kernel) rfl) pa_nil))) (pe_one (pe_cmpR op_eq (pv 0) (pv 1) (nomark _))))))
      pss_nil))
      (pss_one (ps_ret (pe_and (pe_cmpR op_isN (pv 0) pe_non (nomark _)) (pe_one (pe_cmpR op_isN (pv 1) pe_non (nomark _)))))))))), ?_⟩
  refine jn (M := fun σ H' => Same H H' ∧ σ = [some x, some y, none] ∧ (isL e || isT e) = false) ?_ (fun N kk => ?_)
  · rintro σ H1 ⟨s1, rfl, hf⟩
    have hx1 := Dh.mono s1 _ _ hx
    have hy1 := Dh.mono s1 _ _ hy
    clear hx hy he
    cases e with
    | list es => cases hf
    | tuple es => cases hf
    | dict kvs => exact False.elim hy1
    | none =>
      cases (show y = V.non from hy1)
      cases d
      case dict => exact False.elim hx1
      all_goals first | (obtain ⟨_, _, e1, _, _⟩ := id hx1; cases e1) | (cases (show x = _ from hx1))
      all_goals repeat (first | refine un ?_ | walk_at "st")
      all_goals exact q _ _ (by simp) s1
    | bool c =>
      cases (show y = V.bl c from hy1)
      cases d
      case dict => exact False.elim hx1
      all_goals first | (obtain ⟨_, _, e1, _, _⟩ := id hx1; cases e1) | (cases (show x = _ from hx1))
      all_goals repeat (first | refine un ?_ | walk_at "st")
      all_goals exact q _ _ (by simp) s1
    | int c =>
      cases (show y = V.int c from hy1)
      cases d
      case dict => exact False.elim hx1
      all_goals first | (obtain ⟨_, _, e1, _, _⟩ := id hx1; cases e1) | (cases (show x = _ from hx1))
      all_goals repeat (first | refine un ?_ | walk_at "st")
      all_goals first | exact q _ _ (by simp) s1 | skip
      all_goals refine ⟨_, _, rfl, hx1, ?_⟩
      all_goals repeat (first | refine un ?_ | walk_at "st")
      all_goals exact q _ _ (by simp) s1
    | str c =>
      cases (show y = V.str c from hy1)
      cases d
      case dict => exact False.elim hx1
      all_goals first | (obtain ⟨_, _, e1, _, _⟩ := id hx1; cases e1) | (cases (show x = _ from hx1))
      all_goals repeat (first | refine un ?_ | walk_at "st")
      all_goals exact q _ _ (by simp) s1
  · walk_at "go"
    refine ⟨sz, fun p hp => ?_⟩
    refine ⟨_, _, _, rfl, upd_same, Dh.mono (same_upd hp) _ _ hy, ?_⟩
    walk_at "go"
    have s1 : Same H (upd H p (.tup [.ty "list", .ty "tuple"])) := same_upd hp
    have hx1 := Dh.mono s1 _ _ hx
    have hy1 := Dh.mono s1 _ _ hy
    cases hf : (isL e || isT e) with
    | false =>
      refine ifBF rfl ?_
      exact kk _ _ ⟨s1, rfl, hf⟩
    | true =>
      refine ifBT rfl ?_
      generalize upd H p (HO.tup [V.ty "list", V.ty "tuple"]) = H1 at *
      clear hx hy kk hp
      walk_at "go"
      refine jn (M := fun σ H2 => Same H1 H2 ∧ ∃ a c xs ys ds es, σ = [sR a, sR c, none] ∧ (SqL K H2 a xs ∨ SqT K H2 a xs) ∧ (SqL K H2 c ys ∨ SqT K H2 c ys) ∧ DhAll H2 ds xs ∧ DhAll H2 es ys ∧ es.length ≤ 100000 ∧ (∀ e' ∈ es, Dle n e') ∧ (d = e ↔ ds = es)) ?_ (fun N2 k2 => ?_)
      · rintro σ H2 ⟨s2, a, c, xs, ys, ds, es, rfl, hA, hC, hds, hes, hlen, hle, hiff⟩
        have lx := hds.len
        have ly := hes.len
        walk_at "go"
        refine jn (M := fun σ H3 => H3 = H2 ∧ σ = [sR a, sR c, none] ∧ ds.length = es.length) ?_ (fun N3 k3 => ?_)
        · rintro σ H3 ⟨rfl, rfl, el⟩
          walk_at "go"
          refine ⟨by omega, by omega, fun L hL => lc_range (lo := 0) (n := ((ys.length : Nat) : Int).toNat)
            (fun i H' => Ob (Same H3 H' ∧ ∃ acc, H' L = some (.lst acc) ∧ acc.length ≤ i ∧ (acc = [] ↔ ds.take i = es.take i))) (ob ⟨same_upd hL, [], upd_same, Nat.le_refl _, by simp⟩) ?_ ?_⟩
          · intro i H4 hi h4
            obtain ⟨s4, acc, g4, l4, e4⟩ := unob h4
            have hi2 : i < es.length := by omega
            have hi3 : i < ds.length := by omega
            obtain ⟨xv, ex, dx⟩ := hds.get (List.getElem?_eq_getElem hi3)
            obtain ⟨yv, ey, dy⟩ := hes.get (List.getElem?_eq_getElem hi2)
            have tk := take_succ_eq (List.getElem?_eq_getElem hi3) (List.getElem?_eq_getElem hi2)
            have ax : atI xs (0 + (i : Int)) = some xv := by
              rw [Int.zero_add]
              exact atI_nat ex
            have ay : atI ys (0 + (i : Int)) = some yv := by
              rw [Int.zero_add]
              exact atI_nat ey
            refine ⟨rfl, ?_⟩
            walk_at "go"
            refine ixAny (sqAny s4 hA) ax ?_
            walk_at "go"
            refine ixAny (sqAny s4 hC) ay ?_
            walk_at "go"
            refine ⟨_, _, _, _, rfl, Dh.mono s4 _ _ dx, Dh.mono s4 _ _ dy, hle _ (List.getElem_mem hi2), fun b5 H5 hb s5 => ?_⟩
            walk_at "go"
            refine ifN ?_
            cases b5 with
            | true =>
              refine ifBT rfl (ob ⟨s4.trans s5, acc, s5 _ _ g4, Nat.le_succ_of_le l4, ?_⟩)
              rw [e4, tk]
              exact ⟨fun z => ⟨z, hb.mp rfl⟩, fun z => z.1⟩
            | false =>
              refine ifBF rfl ?_
              walk_at "go"
              refine ⟨acc, s5 _ _ g4, sz5 (by omega), ob ⟨same_put (s4.trans s5) hL, _, upd_same, ?_, ?_⟩⟩
              · rw [List.length_append]
                exact Nat.add_le_add_right l4 1
              · constructor
                · intro z
                  exact absurd (congrArg List.length z) (by rw [List.length_append]; simp)
                · intro z
                  exact absurd (hb.mpr (tk.mp z).2) Bool.false_ne_true
          · intro H4 h4
            obtain ⟨s4, acc, g4, l4, e4⟩ := unob h4
            walk_at "go"
            refine q _ _ ?_ ((s1.trans s2).trans s4)
            rw [hiff]
            have et : ((ys.length : Nat) : Int).toNat = es.length := by omega
            rw [et, List.take_of_length_le (by omega), List.take_of_length_le (Nat.le_refl _)] at e4
            rw [← e4, decide_eq_true_iff]
            constructor
            · intro z
              have z2 := V.int.inj z
              exact List.eq_nil_of_length_eq_zero (by omega)
            · intro z
              rw [z]
              rfl
        · walk_at "go"
          refine ifNe (fun z => ?_) (fun z => ?_)
          · walk_at "go"
            refine q _ _ ?_ (s1.trans s2)
            rw [hiff]
            constructor
            · intro h
              cases h
            · intro h
              rw [h] at lx
              omega
          · walk_at "go"
            exact k3 _ _ ⟨rfl, rfl, by omega⟩
      · walk_at "go"
        refine ⟨sz, fun p2 hp2 => ?_⟩
        have s2 : Same H1 (upd H1 p2 (HO.tup [V.ty "list", V.ty "tuple"])) := same_upd hp2
        refine ⟨_, _, _, rfl, upd_same, Dh.mono s2 _ _ hx1, ?_⟩
        have hx2 := Dh.mono s2 _ _ hx1
        have hy2 := Dh.mono s2 _ _ hy1
        walk_at "go"
        generalize upd H1 p2 (HO.tup [V.ty "list", V.ty "tuple"]) = H2 at *
        clear hp2
        cases e with
        | none => cases hf
        | bool _ => cases hf
        | int _ => cases hf
        | str _ => cases hf
        | dict kvs => cases hf
        | list es =>
          obtain ⟨c, ys, rfl, gy, hes⟩ := id hy2
          cases d
          case dict => exact False.elim hx2
          case list ds =>
            obtain ⟨a, xs, rfl, gx, hds⟩ := id hx2
            walk_at "go"
            exact k2 _ _ ⟨s2, _, _, _, _, ds, es, rfl, .inl (.inl (.inl gx)), .inl (.inl (.inl gy)), hds, hes, he.1, he.2, by simp⟩
          all_goals walk_at "go"
          all_goals exact q _ _ (by simp) (s1.trans s2)
        | tuple es =>
          obtain ⟨c, ys, rfl, gy, hes⟩ := id hy2
          cases d
          case dict => exact False.elim hx2
          case tuple ds =>
            obtain ⟨a, xs, rfl, gx, hds⟩ := id hx2
            walk_at "go"
            exact k2 _ _ ⟨s2, _, _, _, _, ds, es, rfl, .inr (.inl (.inl gx)), .inr (.inl (.inl gy)), hds, hes, he.1, he.2, by simp⟩
          all_goals walk_at "go"
          all_goals exact q _ _ (by simp) (s1.trans s2)
theorem ok_same {f : Addr} {fd : FuncData} (D : Def K mg "_law_same" s_same f fd) (b : Binds K fd ["_law_told", "_law_due"] []) (T : Txt mg) (c_is_whole : Cal P w K mg base 1 "_law_is_whole" spWhole []) :
    ∀ n, Cal P w K mg base (n + 1) "_law_same" (spSame n) []
  | 0 => by
    have no : ∀ vs H Q E, ¬ spSame 0 vs H Q E := fun vs H Q E h => by
      obtain ⟨x, y, d, e, _, _, _, h1, _⟩ := h
      exact h1
    exact ⟨f, fd, _, _, ⟨fun vs H Q E h => absurd h (no vs H Q E), fun A outer s H args us vs Q E _ _ _ _ h => absurd h (no vs H Q E)⟩, D.mgf, D.kp, b, .nil⟩
  | n + 1 => ok_same_step D b T c_is_whole (ok_same D b T c_is_whole n)
end

end

section

-- a condition of an operator
local macro_rules | `(tactic| walk_at "cond") => `(tactic| first
  | (show (0 : Int) < _; omega)
  | (show CDiv _ _; constructor <;> (first | decide | omega))
  | (show CMul _ _; first | (refine cmul_l ?_; constructor <;> (first | decide | omega)) | (refine cmul_r ?_; constructor <;> (first | decide | omega)))
  | (show CPow _ _; exact (by refine ⟨by decide, by decide, by decide⟩))
  | (show CDivW _ _; exact ⟨by decide, by decide +kernel⟩))
local macro_rules | `(tactic| walk_at "sq") => `(tactic| first | assumption | exact Dh.mono (same_upd (by assumption)) _ _ (by assumption) | exact .inl (.inl (.inl (by assumption))) | exact .inr (.inl (.inl (by assumption))) | exact SqL.of (by assumption) | exact .inl (by assumption) | exact .inl (SqL.of (by assumption)) | exact SqT.of (by assumption) | exact .inr (SqT.of (by assumption)))
local macro_rules | `(tactic| walk_at "st") => `(tactic| first
  | refine ⟨_, rfl, ?_⟩
  | refine ⟨_, _, rfl, rfl, ?_⟩
  | refine .inl ⟨_, rfl, ?_⟩
  | refine ⟨rfl, ?_⟩
  | refine ⟨_, _, rfl, by walk_at "sq", ?_⟩
  | refine ⟨.inl ⟨rfl, _, SqL.of (by assumption)⟩, ?_⟩
  | refine ⟨by walk_at "cond", ?_⟩
  | (refine' ifBT ?hh ?_; (case hh => first | rfl | assumption))
  | (refine' ifBF ?hh ?_; (case hh => first | rfl | assumption)))
local macro_rules | `(tactic| walk_at "go") => `(tactic| repeat walk_at "st")
local macro_rules | `(tactic| walk_at "yes") => `(tactic| (refine' ifT ?hh ?_; (case hh => first | rfl | decide +kernel)))
local macro_rules | `(tactic| walk_at "no") => `(tactic| (refine' ifF ?hh ?_; (case hh => first | decide +kernel | (intro z; cases z; done))))

local macro_rules | `(tactic| walk_at "st") => `(tactic| refine ⟨_, _, _, _, _, rfl, by assumption, by assumption, by omega, by omega, by omega, by omega, by omega, ?_⟩)
local macro_rules | `(tactic| walk_at "st") => `(tactic| refine ⟨_, _, _, _, _, rfl, Same.seq (by assumption) (by assumption), by assumption, by omega, by omega, by omega, by omega, by omega, ?_⟩)

/-! ### _law_thing, _law_change_of, _law_kinds, _law_safe, change_kind, is_safe -/
abbrev s_thing : Stmt := topS 6
theorem sc_thing : FnScope ["_law_script", "_law_at", "_law_k", "_law_number_here", "_law_kind", "_law_word", "_law_rest", "_law_step"] ["_law_script", "_law_at", "_law_k"] (C8.fnScope s_thing) := C8.fnScope_by (by decide +kernel)
def strOkk (x : Str) : Prop := PyData.canLay0 (.str x) = true
theorem okk_nil : strOkk "" := by
  show PyData.canLay0 (.str "") = true
  decide +kernel
theorem okk_one : strOkk "1" := by
  show PyData.canLay0 (.str "1") = true
  decide +kernel
theorem okk_app {x : Str} {c : Nat} (h : strOkk x) (hc : c < 0x110000) : strOkk (x ++ ⟨#[c]⟩) := by
  have h2 : x.cps.all (· < 0x110000) = true := h
  show (x ++ (⟨#[c]⟩ : Str)).cps.all (· < 0x110000) = true
  rw [Str.cps_append, Array.all_append, h2]
  simpa using hc
/-- what _law_thing may give: ints, texts, tuples of these, never a bool -/
def Flat1 : PyData → Prop
  | .int _ => True
  | .str x => strOkk x
  | _ => False
def Thing : PyData → Prop
  | .int _ => True
  | .str x => strOkk x
  | .tuple ds => ds.length ≤ 3 ∧ ∀ d ∈ ds, Flat1 d
  | _ => False
theorem ab1 (j : Int) (h0 : 0 ≤ j) (h1 : j < 3) : ∃ c, atI ("ab1" : Str).cps.toList j = some c ∧ c < 0x110000 := by
  have h : j = 0 ∨ j = 1 ∨ j = 2 := by omega
  rcases h with rfl | rfl | rfl
  · exact ⟨97, by decide +kernel, by decide⟩
  · exact ⟨98, by decide +kernel, by decide⟩
  · exact ⟨49, by decide +kernel, by decide⟩
def spThing (K : PySem.W.Frag) : Sp := fun vs H Q _ => ∃ (a : Addr) (ns : List Int) (i k : Int), vs = [.ref a, .int i, .int k] ∧ SqL K H a (ns.map V.int) ∧ ns.length ≤ 63 ∧
  0 ≤ i ∧ i ≤ 1000000 ∧ 0 ≤ k ∧ k ≤ 1000000 ∧ ∀ (v : V) (d : PyData) (H' : Hp), Same H H' → Dh H' d v → Thing d → Q v H'
section
variable {P : Program} {w : World} {K : PySem.W.Frag} {mg : Str → Option Value} {base : Heap}
theorem ok_thing {f : Addr} {fd : FuncData} (D : Def K mg "_law_thing" s_thing f fd) (b : Binds K fd ["_law_script", "_law_at", "_law_k"] []) (T : Txt mg) (c_number : Cal P w K mg base 1 "_law_number" (spNum K) []) : Cal P w K mg base 2 "_law_thing" (spThing K) [] := by
  refine cal0 D b .nil sc_thing (fun vs H Q E h => ?_) (fun cdv A outer s H vs Q E hr h => ?_)
  · obtain ⟨a, ns, i, k, rfl, _⟩ := h
    rfl
  obtain ⟨a, ns, i, k, rfl, hS, hl, i0, i1, k0, k1, q⟩ := h
  refine ⟨_, (pss_cons (ps_set (i := 3) sc_thing.nd rfl (.inl rfl) (C8.pe_c c_number hr (by omega) (by rfl) (pa_cons (pv 0) (pa_cons (pv 1) (pa_cons (pv 2) (pa_cons pe_int pa_nil))))))
      (pss_cons (ps_set (i := 4) sc_thing.nd rfl (.inl rfl) (C8.pe_c c_number hr (by omega) (by rfl) (pa_cons (pv 0) (pa_cons (pv 1) (pa_cons (pe_op op_add (pv 2) pe_int) (pa_cons pe_int pa_nil))))))
      (pss_cons (ps_set (i := 5) sc_thing.nd rfl (.inl rfl) pe_str)
      (pss_cons (ps_set (i := 6) sc_thing.nd rfl (.inl rfl) (pe_op op_fdiv (pv 3) pe_int))
      (pss_cons (ps_mk (ps_for PassesOwn.never rfl (pi_range1 (by rfl) T.range (pa_cons (pe_op op_mod (pe_callTy call_int1 (by rfl) T.int (by decide +kernel) (pa_cons (pv 3) pa_nil)) pe_int) pa_nil)) (pg_name (i := 7) sc_thing.nd rfl (.inl rfl))
      (pss_cons (ps_set (i := 5) sc_thing.nd rfl (.inl rfl) (pe_op op_add_str (pv 5) (pe_ix ix_str pe_str (pe_op op_mod (pe_callTy call_int1 (by rfl) T.int (by decide +kernel) (pa_cons (pv 6) pa_nil)) pe_int) (fun _ _ => rfl))))
      (pss_one (ps_set (i := 6) sc_thing.nd rfl (.inl rfl) (pe_op op_fdiv (pv 6) pe_int))))))
      (pss_cons (ps_mk (ps_if (pt_cmpR op_lt (pv 4) pe_int (nomark _))
      (pss_one (ps_ret (pe_op op_mod (pe_callTy call_int1 (by rfl) T.int (by decide +kernel) (pa_cons (pv 3) pa_nil)) pe_int)))
      pss_nil))
      (pss_cons (ps_mk (ps_if (pt_cmpR op_eq (pv 4) pe_int (nomark _))
      (pss_one (ps_ret (pe_op op_add (pe_op op_mul (pv 3) (pe_op op_pow pe_int pe_int)) pe_int)))
      pss_nil))
      (pss_cons (ps_mk (ps_if (pt_cmpR op_eq (pv 4) pe_int (nomark _))
      (pss_one (ps_ret (pe_op op_sub (pe_un un_neg pe_int) (pv 3))))
      pss_nil))
      (pss_cons (ps_mk (ps_if (pt_cmpR op_lt (pv 4) pe_int (nomark _))
      (pss_one (ps_ret (pv 5)))
      pss_nil))
      (pss_cons (ps_mk (ps_if (pt_cmpR op_eq (pv 4) pe_int (nomark _))
      (pss_one (ps_ret (pe_tup (pa_cons (pe_op op_mod (pe_callTy call_int1 (by rfl) T.int (by decide +kernel) (pa_cons (pv 3) pa_nil)) pe_int) pa_nil))))
      pss_nil))
      (pss_cons (ps_mk (ps_if (pt_cmpR op_eq (pv 4) pe_int (nomark _))
      (pss_one (ps_ret (pe_tup (pa_cons (pv 5) (pa_cons (pe_op op_fdiv (pv 3) pe_int) pa_nil)))))
      pss_nil))
      (pss_one (ps_ret (pe_ix (ixL K rfl) (pe_lst (pa_cons (pe_tup pa_nil) (pa_cons (pe_tup (pa_cons (pv 5) pa_nil)) (pa_cons (pe_tup (pa_cons (pv 5) (pa_cons (pv 5) pa_nil))) (pa_cons (pe_tup (pa_cons pe_int (pa_cons pe_str (pa_cons (pv 5) pa_nil)))) pa_nil))))) (pe_op op_mod (pe_callTy call_int1 (by rfl) T.int (by decide +kernel) (pa_cons (pe_op op_fdiv (pv 3) pe_int) pa_nil)) pe_int) (fun _ _ => rfl))))))))))))))), ?_⟩
  have r0 : 0 ≤ num ns i k 1000 := num_nn (by decide)
  have r1 : num ns i k 1000 < 1000 := num_lt (by decide)
  walk_at "go"
  refine jn (M := fun σ H' => H' = H ∧ ∃ z y6 y7, strOkk z ∧ z.length ≤ 3 ∧ σ = [sR a, sI i, sI k, sI (num ns i k 1000), sI (num ns i (k + 1) 9), sS z, y6, y7]) ?_ (fun N kk => ?_)
  · rintro σ H' ⟨rfl, z, y6, y7, ok, hz, rfl⟩
    generalize num ns i k 1000 = r at *
    generalize num ns i (k + 1) 9 = m at *
    walk_at "go"
    refine jn (M := fun σ H2 => H2 = H' ∧ σ = [sR a, sI i, sI k, sI r, sI m, sS z, y6, y7]) ?_ (fun N k2 => ?_)
    rotate_left
    · walk_at "go"
      refine ifD (fun c => ?_) (fun c => ?_)
      · walk_at "go"
        exact q _ (.int _) _ same_rfl rfl trivial
      · walk_at "go"
        exact k2 _ _ ⟨rfl, rfl⟩
    rintro σ H2 ⟨rfl, rfl⟩
    walk_at "go"
    refine jn (M := fun σ H3 => H3 = H2 ∧ σ = [sR a, sI i, sI k, sI r, sI m, sS z, y6, y7]) ?_ (fun N k2 => ?_)
    rotate_left
    · walk_at "go"
      refine ifEq (fun c => ?_) (fun c => ?_)
      · walk_at "go"
        exact q _ (.int _) _ same_rfl rfl trivial
      · walk_at "go"
        exact k2 _ _ ⟨rfl, rfl⟩
    rintro σ H3 ⟨rfl, rfl⟩
    walk_at "go"
    refine jn (M := fun σ H2 => H2 = H3 ∧ σ = [sR a, sI i, sI k, sI r, sI m, sS z, y6, y7]) ?_ (fun N k2 => ?_)
    rotate_left
    · walk_at "go"
      refine ifEq (fun c => ?_) (fun c => ?_)
      · walk_at "go"
        exact q _ (.int _) _ same_rfl rfl trivial
      · walk_at "go"
        exact k2 _ _ ⟨rfl, rfl⟩
    rintro σ H2 ⟨rfl, rfl⟩
    walk_at "go"
    refine jn (M := fun σ H3 => H3 = H2 ∧ σ = [sR a, sI i, sI k, sI r, sI m, sS z, y6, y7]) ?_ (fun N k2 => ?_)
    rotate_left
    · walk_at "go"
      refine ifD (fun c => ?_) (fun c => ?_)
      · walk_at "go"
        exact q _ (.str _) _ same_rfl rfl ok
      · walk_at "go"
        exact k2 _ _ ⟨rfl, rfl⟩
    rintro σ H3 ⟨rfl, rfl⟩
    walk_at "go"
    refine jn (M := fun σ H2 => H2 = H3 ∧ σ = [sR a, sI i, sI k, sI r, sI m, sS z, y6, y7]) ?_ (fun N k2 => ?_)
    rotate_left
    · walk_at "go"
      refine ifEq (fun c => ?_) (fun c => ?_)
      · walk_at "go"
        refine ⟨sz, fun p hp => ?_⟩
        exact q _ (.tuple [.int _]) _ (same_upd hp) ⟨p, _, rfl, upd_same, ⟨_, _, rfl, rfl, rfl⟩⟩ ⟨by simp, by simp [Flat1, ok, okk_one]⟩
      · walk_at "go"
        exact k2 _ _ ⟨rfl, rfl⟩
    rintro σ H2 ⟨rfl, rfl⟩
    walk_at "go"
    refine jn (M := fun σ H3 => H3 = H2 ∧ σ = [sR a, sI i, sI k, sI r, sI m, sS z, y6, y7]) ?_ (fun N k2 => ?_)
    rotate_left
    · walk_at "go"
      refine ifEq (fun c => ?_) (fun c => ?_)
      · walk_at "go"
        refine ⟨sz, fun p hp => ?_⟩
        exact q _ (.tuple [.str _, .int _]) _ (same_upd hp) ⟨p, _, rfl, upd_same, ⟨_, _, rfl, rfl, _, _, rfl, rfl, rfl⟩⟩ ⟨by simp, by simp [Flat1, ok, okk_one]⟩
      · walk_at "go"
        exact k2 _ _ ⟨rfl, rfl⟩
    rintro σ H3 ⟨rfl, rfl⟩
    walk_at "go"
    refine ⟨sz, fun p0 h0 => ?_⟩
    walk_at "go"
    refine ⟨sz, fun p1 h1 => ?_⟩
    walk_at "go"
    refine ⟨sz, fun p2 h2 => ?_⟩
    walk_at "go"
    refine ⟨sz, fun p3 h3 => ?_⟩
    walk_at "go"
    refine ⟨sz, fun p4 h4 => ?_⟩
    walk_at "go"
    have s0 := same_upd (o := HO.tup []) h0
    have s1 := same_upd (o := HO.tup [V.str z]) h1
    have s2 := same_upd (o := HO.tup [V.str z, V.str z]) h2
    have s3 := same_upd (o := HO.tup [V.int 1, V.str "1", V.str z]) h3
    have s4 := same_upd (o := HO.lst [V.ref p0, V.ref p1, V.ref p2, V.ref p3]) h4
    have hS5 := SqL.of (K := K) (xs := [V.ref p0, V.ref p1, V.ref p2, V.ref p3]) (upd_same (H := (upd (upd (upd (upd H3 p0 (HO.tup [])) p1 (HO.tup [V.str z])) p2 (HO.tup [V.str z, V.str z])) p3 (HO.tup [V.int 1, V.str "1", V.str z]))) (a := p4))
    obtain ⟨j, hj⟩ : ∃ j, j = r / 108 % 4 := ⟨_, rfl⟩
    have j4 : j = 0 ∨ j = 1 ∨ j = 2 ∨ j = 3 := by omega
    rcases j4 with e | e | e | e
    · refine ⟨_, _, _, V.ref p0, rfl, rfl, hS5, (by rw [← hj, e]; rfl), ?_⟩
      exact q _ (.tuple []) _ (s0.trans (s1.trans (s2.trans (s3.trans s4)))) ⟨p0, _, rfl, s4 _ _ (s3 _ _ (s2 _ _ (s1 _ _ upd_same))), rfl⟩ ⟨by decide, by simp⟩
    · refine ⟨_, _, _, V.ref p1, rfl, rfl, hS5, (by rw [← hj, e]; rfl), ?_⟩
      exact q _ (.tuple [.str z]) _ (s0.trans (s1.trans (s2.trans (s3.trans s4)))) ⟨p1, _, rfl, s4 _ _ (s3 _ _ (s2 _ _ upd_same)), ⟨_, _, rfl, rfl, rfl⟩⟩ ⟨by simp, by simp [Flat1, ok, okk_one]⟩
    · refine ⟨_, _, _, V.ref p2, rfl, rfl, hS5, (by rw [← hj, e]; rfl), ?_⟩
      exact q _ (.tuple [.str z, .str z]) _ (s0.trans (s1.trans (s2.trans (s3.trans s4)))) ⟨p2, _, rfl, s4 _ _ (s3 _ _ upd_same), ⟨_, _, rfl, rfl, _, _, rfl, rfl, rfl⟩⟩ ⟨by simp, by simp [Flat1, ok, okk_one]⟩
    · refine ⟨_, _, _, V.ref p3, rfl, rfl, hS5, (by rw [← hj, e]; rfl), ?_⟩
      exact q _ (.tuple [.int 1, .str "1", .str z]) _ (s0.trans (s1.trans (s2.trans (s3.trans s4)))) ⟨p3, _, rfl, s4 _ _ upd_same, ⟨_, _, rfl, rfl, _, _, rfl, rfl, _, _, rfl, rfl, rfl⟩⟩ ⟨by simp, by simp [Flat1, ok, okk_one]⟩
  · walk_at "go"
    refine ⟨by omega, by omega, for_range (lo := 0) (n := (num ns i k 1000 % 4).toNat) (fun j σ H' => Ob (H' = H ∧ ∃ z r y7, strOkk z ∧ z.length ≤ j ∧ 0 ≤ r ∧ σ = [sR a, sI i, sI k, sI (num ns i k 1000), sI (num ns i (k + 1) 9), sS z, sI r, y7])) (ob ⟨rfl, _, _, none, okk_nil, Nat.le_refl 0, Int.ediv_nonneg r0 (by decide), rfl⟩) ?_ ?_⟩
    · rintro j σ H' hj h
      obtain ⟨rfl, z, r, y7, ok, hz, hr0, rfl⟩ := unob h
      obtain ⟨c, hc, hc2⟩ := ab1 (r % 3) (by omega) (by omega)
      walk_at "go"
      refine ⟨_, _, c, rfl, rfl, by decide +kernel, hc, ?_⟩
      walk_at "go"
      have l1 : (⟨#[c]⟩ : Str).length = 1 := rfl
      refine ⟨by rw [l1]; exact Nat.le_of_lt (sz5 (by omega)), ?_⟩
      walk_at "go"
      exact ob ⟨rfl, _, _, _, okk_app ok hc2, by rw [Str.length_append, l1]; omega, Int.ediv_nonneg hr0 (by decide), rfl⟩
    · rintro σ H' h
      obtain ⟨rfl, z, r, y7, ok, hz, hr0, rfl⟩ := unob h
      exact kk _ _ ⟨rfl, z, _, _, ok, by omega, rfl⟩
end
/-- a datum or None -/
def Opt (d : PyData) : Prop := d = .none ∨ Thing d
mutual
theorem eqv_flat : ∀ {d e : PyData}, Flat1 d → Flat1 e → (PyData.eqv d e = true ↔ d = e)
  | .int i, .int j, _, _ => by
    show (i == j) = true ↔ _
    simp
  | .str i, .str j, _, _ => by
    show (i == j) = true ↔ _
    simp
  | .int i, .str j, _, _ => by simp [PyData.eqv]
  | .str i, .int j, _, _ => by simp [PyData.eqv]
end
theorem eqv_flats : ∀ {ds es : List PyData}, (∀ d ∈ ds, Flat1 d) → (∀ d ∈ es, Flat1 d) → (PyData.eqvAll ds es = true ↔ ds = es)
  | [], [], _, _ => by simp [PyData.eqvAll]
  | [], _ :: _, _, _ => by simp [PyData.eqvAll]
  | _ :: _, [], _, _ => by simp [PyData.eqvAll]
  | d :: ds, e :: es, h1, h2 => by
    show (PyData.eqv d e && PyData.eqvAll ds es) = true ↔ _
    rw [Bool.and_eq_true, eqv_flat (h1 d List.mem_cons_self) (h2 e List.mem_cons_self), eqv_flats (fun x hx => h1 x (List.mem_cons_of_mem _ hx)) (fun x hx => h2 x (List.mem_cons_of_mem _ hx))]
    simp
theorem eqv_thing {d e : PyData} (h1 : Opt d) (h2 : Opt e) : PyData.eqv d e = true ↔ d = e := by
  cases d with
  | none => cases e <;> simp [PyData.eqv]
  | bool _ => exact (h1.resolve_left (by simp)).elim
  | list _ => exact (h1.resolve_left (by simp)).elim
  | dict _ => exact (h1.resolve_left (by simp)).elim
  | int i =>
    cases e with
    | bool _ => exact (h2.resolve_left (by simp)).elim
    | _ => simp [PyData.eqv]
  | str i =>
    cases e with
    | bool _ => exact (h2.resolve_left (by simp)).elim
    | _ => simp [PyData.eqv]
  | tuple ds =>
    cases e with
    | bool _ => exact (h2.resolve_left (by simp)).elim
    | tuple es =>
      have h3 := h1.resolve_left (by simp)
      have h4 := h2.resolve_left (by simp)
      show PyData.eqvAll ds es = true ↔ _
      rw [eqv_flats h3.2 h4.2]
      simp
    | _ => simp [PyData.eqv]
theorem flat_lay {d : PyData} (h : Flat1 d) : d.canLay0 = true ∧ d.depth = 0 := by
  cases d with
  | int i => exact ⟨rfl, rfl⟩
  | str x => exact ⟨h, rfl⟩
  | _ => exact h.elim
theorem flats_lay : ∀ {ds : List PyData}, (∀ d ∈ ds, Flat1 d) → PyData.canLayAll0 ds = true ∧ PyData.depthAll ds = 0
  | [], _ => ⟨rfl, rfl⟩
  | d :: ds, h => by
    have h1 := flat_lay (h d List.mem_cons_self)
    have h2 := flats_lay (ds := ds) fun x hx => h x (List.mem_cons_of_mem _ hx)
    exact ⟨by show (d.canLay0 && PyData.canLayAll0 ds) = true; rw [h1.1, h2.1]; rfl, by show max d.depth (PyData.depthAll ds) = 0; rw [h1.2, h2.2]; rfl⟩
theorem shaped_opt {d : PyData} (h : Opt d) : SeqAt.shaped d = true := by
  cases d with
  | none => rfl
  | bool _ => exact (h.resolve_left (by simp)).elim
  | list _ => exact (h.resolve_left (by simp)).elim
  | dict _ => exact (h.resolve_left (by simp)).elim
  | int i => rfl
  | str x =>
    have h3 : PyData.canLay0 (.str x) = true := h.resolve_left (by simp)
    show (PyData.canLay0 (.str x) && decide (PyData.depth (.str x) ≤ 64)) = true
    rw [h3]
    rfl
  | tuple ds =>
    have h3 := flats_lay (h.resolve_left (by simp)).2
    show (PyData.canLayAll0 ds && decide (PyData.depthAll ds + 1 ≤ 64)) = true
    rw [h3.1, h3.2]
    rfl
theorem dle_opt {d : PyData} (h : Opt d) : Dle 2 d := by
  cases d with
  | none => trivial
  | bool _ => trivial
  | list _ => exact (h.resolve_left (by simp)).elim
  | dict _ => exact (h.resolve_left (by simp)).elim
  | int i => trivial
  | str x => trivial
  | tuple ds =>
    have h3 := h.resolve_left (by simp)
    refine ⟨Nat.le_trans h3.1 (by decide), fun e he => ?_⟩
    have h4 := h3.2 e he
    cases e with
    | int i => trivial
    | str i => trivial
    | _ => exact h4.elim
theorem dle_strs {ss : List Str} (h : ss.length ≤ 1000) : Dle 2 (.list (ss.map PyData.str)) := by
  refine ⟨by rw [List.length_map]; omega, fun e he => ?_⟩
  obtain ⟨x, _, rfl⟩ := List.mem_map.mp he
  trivial
theorem dh_strs {H : Hp} : ∀ (ss : List Str), DhAll H (ss.map PyData.str) (ss.map V.str)
  | [] => rfl
  | s :: ss => ⟨.str s, ss.map V.str, rfl, rfl, dh_strs ss⟩
theorem Dh.non_iff {H : Hp} : ∀ {d : PyData} {x : V}, Dh H d x → (x = .non ↔ d = .none)
  | .none, x, h => by simp [show x = .non from h]
  | .bool b, x, h => by simp [show x = .bl b from h]
  | .int b, x, h => by simp [show x = .int b from h]
  | .str b, x, h => by simp [show x = .str b from h]
  | .list ds, x, h => by
    obtain ⟨a, xs, e, _⟩ := h
    simp [e]
  | .tuple ds, x, h => by
    obtain ⟨a, xs, e, _⟩ := h
    simp [e]
  | .dict _, x, h => False.elim h

end

/-! ### dictionaries whose keys are whole numbers, texts and tuples of such, in one -/
namespace Mx
open PySem
/-- a row: the key, where it stands, the value -/
abbrev MR := NestedKey × Value × Value
def ent (w : World) (r : MR) : DictEntry := ⟨r.1.hash w, r.2.1, r.2.2⟩
structure Ks (h : Heap) (rs : List MR) : Prop where
  is : ∀ r ∈ rs, NestedIs h r.1 r.2.1 ∧ r.1.depth ≤ 8
  nd : (rs.map (·.1)).Nodup
theorem Ks.one {h : Heap} {rs : List MR} (ks : Ks h rs) {i j : Nat} {k : NestedKey} {p q : Value × Value} (hi : rs[i]? = some (k, p)) (hj : rs[j]? = some (k, q)) : i = j := by
  have e1 : (rs.map (·.1))[i]? = some k := by rw [List.getElem?_map, hi]; rfl
  have e2 : (rs.map (·.1))[j]? = some k := by rw [List.getElem?_map, hj]; rfl
  obtain ⟨l1, _⟩ := List.getElem?_eq_some_iff.mp e1
  exact (List.getElem?_inj l1 ks.nd).mp (e1.trans e2.symm)
section
variable {prog : Program} {w : World} {A : Around} {E : Value → Shared → Prop} {s : Shared}
theorem mx_quiet {k : NestedKey} {key : Value} {st : List Value} {Q : Bool → Shared → Prop} (hk : NestedIs s.heap k key) (dk : k.depth ≤ 8) (hs : ∀ v ∈ st, ∃ k', NestedIs s.heap k' v ∧ k'.depth ≤ 8) (h : Q false s) : wpAny (model prog w) A (tableMayTell key st) Q E s := by
  unfold tableMayTell
  split
  · exact wpAny_pure h
  refine wpAny_bind (quiet_key k key 8 s hk dk A E _ ?_)
  simp only [Bool.not_true, Bool.false_eq_true, if_false]
  refine wpAny_bind ?_
  refine wpAny_forIn_list _ (fun us b s' => b = (none, ()) ∧ s' = s ∧ ∀ v ∈ us, ∃ k', NestedIs s.heap k' v ∧ k'.depth ≤ 8) _ ?_ ?_ _ _ ⟨rfl, rfl, hs⟩
  · rintro v us b s' ⟨rfl, rfl, hv⟩
    obtain ⟨k', h1, h2⟩ := hv v List.mem_cons_self
    refine wpAny_bind (quiet_key k' v 8 s' h1 h2 A E _ ?_)
    simp only [Bool.not_true, Bool.false_eq_true, if_false]
    exact wpAny_pure ⟨rfl, rfl, fun u hu => hv u (List.mem_cons_of_mem _ hu)⟩
  · rintro b s' ⟨rfl, rfl, _⟩
    exact wpAny_pure h
theorem mx_find {d : Addr} {o : Obj} {es : Array DictEntry} {ep : Nat} {rs : List MR} {k : NestedKey} {key : Value} {Q : Option Nat → Shared → Prop} (hu : A.units + 8 < cLine) (hk : NestedIs s.heap k key) (dk : k.depth ≤ 8)
    (ho : s.heap.get? d = some o) (hd : o.data = .dict es ep) (he : es.toList = rs.map (ent w)) (ks : Ks s.heap rs) (hn : (∀ (j : Nat) (p : Value × Value), rs[j]? ≠ some (k, p)) → Q none s) (hy : ∀ (j : Nat) (p : Value × Value), rs[j]? = some (k, p) → Q (some j) s) :
    wpAny (model prog w) A (dictFind d key (k.hash w)) Q E s := by
  have at_ : ∀ j, es[j]? = (rs[j]?).map (ent w) := fun j => by rw [← Array.getElem?_toList, he, List.getElem?_map]
  have sz : es.size = rs.length := by rw [← Array.length_toList, he, List.length_map]
  have row : ∀ j, j < es.size → ∃ k' kv v, rs[j]? = some (k', kv, v) ∧ es[j]? = some ⟨k'.hash w, kv, v⟩ ∧ NestedIs s.heap k' kv ∧ k'.depth ≤ 8 := fun j hj => by
    have hl : j < rs.length := by omega
    have e := List.getElem?_eq_getElem hl
    have m := ks.is _ (List.getElem_mem hl)
    generalize rs[j] = r at *
    exact ⟨r.1, r.2.1, r.2.2, e, by rw [at_, e]; rfl, m.1, m.2⟩
  obtain ⟨ps, hps⟩ : ∃ ps, ps = placesWithHash es.size (fun i => es[i]?.map (·.hash)) (k.hash w) := ⟨_, rfl⟩
  have psI : ∀ i ∈ ps, i < es.size := fun i hi => by
    rw [hps] at hi
    exact List.mem_range.mp (List.mem_filter.mp hi).1
  have psN : ps.Nodup := by
    rw [hps]
    exact List.Pairwise.filter _ List.nodup_range
  have psK : ∀ (j : Nat) (p : Value × Value), rs[j]? = some (k, p) → j ∈ ps := fun j p hj => by
    rw [hps]
    refine List.mem_filter.mpr ⟨List.mem_range.mpr ?_, ?_⟩
    · rw [sz]
      exact (List.getElem?_eq_some_iff.mp hj).1
    · show (es[j]?.map (·.hash) == some (k.hash w)) = true
      rw [at_, hj]
      simp [ent]
  have st : ∀ v ∈ ps.filterMap (fun i => es[i]?.map (·.key)), ∃ k', NestedIs s.heap k' v ∧ k'.depth ≤ 8 := fun v hv => by
    obtain ⟨i, hi, e⟩ := List.mem_filterMap.mp hv
    obtain ⟨k', kv, v', _, e2, q1, q2⟩ := row i (psI i hi)
    rw [e2] at e
    cases e
    exact ⟨k', q1, q2⟩
  -- one entry compared
  have cmp : ∀ {k' kv} {R : Bool → Shared → Prop}, NestedIs s.heap k' kv → k'.depth ≤ 8 → R (decide (k' = k)) s → wpAny (model prog w) A (eqBool kv key) R E s := fun {k' kv R} h1 h2 h3 =>
    eqAt_key k' k A s kv key h1 hk (by omega) _ _ _ _ (by rw [← NestedKey.decide_eq]; exact h3)
  have plain : wpAny (model prog w) A (dictWalkPlain d key (k.hash w) es ps) Q E s := by
    unfold dictWalkPlain
    refine wpAny_bind ?_
    refine wpAny_forIn_list _ (fun us b s' => b = (none, ()) ∧ s' = s ∧ (∀ i ∈ us, i < es.size) ∧ ∀ (j : Nat) (p : Value × Value), rs[j]? = some (k, p) → j ∈ us) _ ?_ ?_ _ _ ⟨rfl, rfl, psI, psK⟩
    · rintro i us b s' ⟨rfl, rfl, h1, h2⟩
      obtain ⟨k', kv, v, r1, r2, r3, r4⟩ := row i (h1 i List.mem_cons_self)
      have off : k' ≠ k → ∀ (j : Nat) (p : Value × Value), rs[j]? = some (k, p) → j ∈ us := fun z j p hj => by
        rcases List.mem_cons.mp (h2 j p hj) with y | y
        · rw [y, r1] at hj
          cases hj
          exact absurd rfl z
        · exact y
      rw [r2]
      dsimp only
      by_cases hh : (k'.hash w == k.hash w) = true
      · rw [if_pos hh]
        refine wpAny_bind (wpAny_dictEpoch ho hd (wpAny_bind (cmp r3 r4 (wpAny_bind (wpAny_dictEpoch ho hd ?_)))))
        show wpAny _ _ (if (ep != ep) = true then _ else _) _ E _
        rw [if_neg (by simp)]
        by_cases z : k' = k
        · rw [decide_eq_true z]
          subst z
          exact wpAny_bind (wpAny_rule (wpAny_pure (wpAny_pure (hy i _ r1))))
        · rw [decide_eq_false z]
          exact wpAny_bind (wpAny_rule (wpAny_pure ⟨rfl, rfl, fun j hj => h1 j (List.mem_cons_of_mem _ hj), off z⟩))
      · rw [if_neg hh]
        exact wpAny_pure ⟨rfl, rfl, fun j hj => h1 j (List.mem_cons_of_mem _ hj), off fun z => hh (by rw [z]; simp)⟩
    · rintro b s' ⟨rfl, rfl, _, h2⟩
      exact wpAny_pure (hn fun j p hj => by cases h2 j p hj)
  unfold dictFind
  try with_reducible refine wpAny_holding ?_
  refine wpAny_bind (wpAny_dictEntries ho hd ?_)
  dsimp only
  rw [← hps]
  have any_ : ¬ (es.any fun e => e.key == key && e.hash != k.hash w) = true := fun z => by
    obtain ⟨j, hj, z2⟩ := Array.any_iff_exists.mp z
    obtain ⟨hjs, _, z2⟩ := z2
    obtain ⟨k', kv, v, r1, r2, r3, r4⟩ := row j hj
    have e : es[j] = ⟨k'.hash w, kv, v⟩ := by
      have := Array.getElem?_eq_getElem hj
      rw [r2] at this
      exact (Option.some.inj this).symm
    rw [e] at z2
    obtain ⟨z3, z4⟩ := Bool.and_eq_true_iff.mp z2
    have z5 : kv = key := eq_of_beq z3
    rw [z5] at r3
    rw [NestedIs.inj _ _ _ r3 hk] at z4
    simp at z4
  generalize hst : ps.filterMap (fun i => es[i]?.map (·.key)) = stored at *
  have byText : ∀ x t, key = .str x t → (es.all fun e => isExactStrKey e.key) = true → wpAny (model prog w) A (foundByValue d key es x) Q E s := fun x t ek _ => by
    subst ek
    cases hk
    unfold foundByValue
    have same : ∀ (j : Nat) (k' : NestedKey) (kv v : Value), rs[j]? = some (k', kv, v) → NestedIs s.heap k' kv → (kv.isStr x = true ↔ k' = .text x) := fun j k' kv v _ h => by
      constructor
      · intro z
        cases h with
        | text y u =>
          have : y = x := by simpa [Value.isStr] using z
          rw [this]
        | _ => simp [Value.isStr] at z
      · rintro rfl
        cases h
        simp [Value.isStr]
    cases hf : es.findIdx? (fun e => e.key.isStr x) with
    | none =>
      refine wpAny_pure (hn fun j p hj => ?_)
      have hjl : j < es.size := by
        rw [sz]
        exact (List.getElem?_eq_some_iff.mp hj).1
      obtain ⟨k', kv, v, r1, r2, r3, _⟩ := row j hjl
      rw [r1] at hj
      cases hj
      have q1 := Array.findIdx?_eq_none_iff.mp hf _ (Array.mem_of_getElem? r2)
      have q2 := (same j _ kv v r1 r3).mpr rfl
      have q1 : kv.isStr x = false := q1
      rw [q2] at q1
      cases q1
    | some i =>
      obtain ⟨hlt, hi, _⟩ := Array.findIdx?_eq_some_iff_getElem.mp hf
      obtain ⟨k', kv, v, r1, r2, r3, _⟩ := row i hlt
      have e : es[i] = ⟨k'.hash w, kv, v⟩ := by
        have := Array.getElem?_eq_getElem hlt
        rw [r2] at this
        exact (Option.some.inj this).symm
      rw [e] at hi
      have kk := (same i k' kv v r1 r3).mp hi
      dsimp only
      rw [r2]
      dsimp only
      refine wpAny_bind (wpAny_dictEpoch ho hd (wpAny_bind (cmp r3 (by assumption) (wpAny_bind (wpAny_dictEpoch ho hd ?_)))))
      show wpAny _ _ (if (ep != ep) = true then _ else _) _ E _
      rw [if_neg (by simp), decide_eq_true kk]
      subst kk
      exact wpAny_bind (wpAny_rule (wpAny_pure (hy i _ r1)))
  have hk2 := id hk
  obtain ⟨HK, hHK⟩ : ∃ HK : Nat → Prop, ∀ j, HK j ↔ ∃ p : Value × Value, rs[j]? = some (k, p) := ⟨_, fun _ => Iff.rfl⟩
  have hn2 : (∀ j, ¬ HK j) → Q none s := fun z => hn fun j p e => z j ((hHK j).mpr ⟨p, e⟩)
  have hy2 : ∀ j, HK j → Q (some j) s := fun j z => by
    obtain ⟨p, e⟩ := (hHK j).mp z
    exact hy j p e
  have one : ∀ i j, HK i → HK j → i = j := fun i j a b => by
    obtain ⟨p, e⟩ := (hHK i).mp a
    obtain ⟨q, f⟩ := (hHK j).mp b
    exact ks.one e f
  have psK2 : ∀ j, HK j → j ∈ ps := fun j z => by
    obtain ⟨p, e⟩ := (hHK j).mp z
    exact psK j p e
  have row2 : ∀ i, i < es.size → ∃ hs kv v, es[i]? = some ⟨hs, kv, v⟩ ∧ (HK i → (hs == k.hash w) = true) ∧ ∀ R : Bool → Shared → Prop, (∀ b, (b = true ↔ HK i) → R b s) → wpAny (model prog w) A (eqBool kv key) R E s := fun i hi => by
    obtain ⟨k', kv, v, r1, r2, r3, r4⟩ := row i hi
    have iff : k' = k ↔ HK i := by
      rw [hHK, r1]
      exact ⟨fun z => ⟨_, by rw [z]⟩, fun ⟨p, e⟩ => by cases e; rfl⟩
    refine ⟨_, kv, v, r2, fun z => by rw [iff.mpr z]; simp, fun R hR => cmp r3 r4 (hR _ ?_)⟩
    rw [decide_eq_true_iff]
    exact iff
  have dk2 := dk
  clear hHK hn hy psK row cmp
  generalize k.hash w = hw at *
  cases hk
  all_goals dsimp only
  all_goals try (refine wpAny_ite_split (fun ha => byText _ _ rfl ha) (fun _ => ?_))
  all_goals refine wpAny_ite_split (fun _ => plain) (fun _ => ?_)
  all_goals try (refine wpAny_ite_split (fun z => absurd z any_) (fun _ => ?_))
  all_goals refine wpAny_ite_split (fun _ => wpAny_bind (wpAny_pure ?_)) (fun _ => wpAny_bind (mx_quiet hk2 dk st ?_))
  all_goals
    clear byText plain any_ hk2 dk2
    refine wpAny_ite_split (fun z => absurd z (by simp)) (fun _ => ?_)
    refine wpAny_bind ?_
    refine wpAny_forIn_list _ (fun us b s' => s' = s ∧ b.1 = none ∧ (∀ i ∈ us, i < es.size) ∧ us.Nodup ∧ ((b.2 = none ∧ ∀ j, HK j → j ∈ us) ∨ ∃ j, b.2 = some j ∧ HK j ∧ j ∉ us)) _ ?_ ?_ _ _ ⟨rfl, rfl, psI, psN, .inl ⟨rfl, psK2⟩⟩
    rotate_left
    · rintro ⟨b1, b2⟩ s' ⟨rfl, e1, _, _, h⟩
      cases (show b1 = none from e1)
      rcases h with ⟨e2, h⟩ | ⟨j, e2, h, _⟩
      · cases (show b2 = none from e2)
        exact wpAny_pure (hn2 fun j z => by cases h j z)
      · cases (show b2 = some j from e2)
        exact wpAny_pure (hy2 j h)
    rintro i us ⟨b1, b2⟩ s' ⟨rfl, e1, h1, h2, h⟩
    cases (show b1 = none from e1)
    obtain ⟨hs, kv, v, r1, r2, r3⟩ := row2 i (h1 i List.mem_cons_self)
    obtain ⟨ni, nu⟩ := List.nodup_cons.mp h2
    have le : ∀ j ∈ us, j < es.size := fun j hj => h1 j (List.mem_cons_of_mem _ hj)
    have stay : ¬ HK i → (b2 = none ∧ ∀ j, HK j → j ∈ us) ∨ ∃ j, b2 = some j ∧ HK j ∧ j ∉ us := fun z => by
      rcases h with ⟨e2, h⟩ | ⟨j, e2, q, nj⟩
      · refine .inl ⟨e2, fun j hj => ?_⟩
        rcases List.mem_cons.mp (h j hj) with y | y
        · rw [y] at hj
          exact absurd hj z
        · exact y
      · exact .inr ⟨j, e2, q, fun y => nj (List.mem_cons_of_mem _ y)⟩
    rw [r1]
    dsimp only
    refine wpAny_ite_split (fun hh => ?_) (fun hh => wpAny_pure ⟨rfl, rfl, le, nu, stay fun z => hh (r2 z)⟩)
    refine wpAny_bind (wpAny_dictEpoch ho hd (wpAny_bind (r3 _ fun b hb => wpAny_bind (wpAny_dictEpoch ho hd ?_))))
    refine wpAny_ite_split (fun z => absurd z (by simp)) (fun _ => ?_)
    refine wpAny_ite_split (fun z => ?_) (fun z => ?_)
    · have hi := hb.mp z
      have b0 : b2 = none := by
        rcases h with ⟨e2, _⟩ | ⟨j, e2, q, nj⟩
        · exact e2
        · rw [one j i q hi] at nj
          exact absurd List.mem_cons_self nj
      subst b0
      refine wpAny_ite_split (fun z => absurd z (by simp)) (fun _ => ?_)
      refine wpAny_bind (wpAny_rule ?_)
      refine wpAny_ite_split (fun _ => wpAny_pure (wpAny_pure (hy2 i hi))) (fun _ => ?_)
      exact wpAny_pure ⟨rfl, rfl, le, nu, .inr ⟨i, rfl, hi, ni⟩⟩
    · have hi : ¬ HK i := fun y => z (hb.mpr y)
      refine wpAny_bind (wpAny_rule ?_)
      refine wpAny_ite_split (fun z => absurd z (by simp)) (fun _ => ?_)
      exact wpAny_pure ⟨rfl, rfl, le, nu, stay hi⟩
end
end Mx

namespace Mx
open PySem
def OfE (w : World) (h : Heap) (d : Addr) (ep : Nat) (rs : List MR) : Prop := ∃ o es, h.get? d = some o ∧ o.ExactDict ∧ o.data = .dict es ep ∧ es.toList = rs.map (ent w)
def Of (w : World) (h : Heap) (d : Addr) (rs : List MR) : Prop := ∃ ep, OfE w h d ep rs
theorem Of.typeIs {w : World} {s : Shared} {d : Addr} {rs : List MR} (h : Of w s.heap d rs) : s.TypeIs (.ref d) "dict" := by
  obtain ⟨ep, o, _, ho, hc, _⟩ := h
  exact ⟨o, ho, hc.1⟩
theorem OfE.at' {w : World} {h h' : Heap} {d : Addr} {ep : Nat} {rs : List MR} (x : OfE w h d ep rs) (k : ∀ o, h.get? d = some o → h'.get? d = some o) : OfE w h' d ep rs := by
  obtain ⟨o, es, ho, r⟩ := x
  exact ⟨o, es, k o ho, r⟩
/-- keys stay while all but the dict stays -/
theorem Ks.but {w : World} {h h' : Heap} {d : Addr} {rs : List MR} (ks : Ks h rs) {o : Obj} {es : Array DictEntry} {ep : Nat} (ho : h.get? d = some o) (hd : o.data = .dict es ep) (sb : Heap.SameBut d h h') : Ks h' rs := by
  refine ⟨fun r hr => ⟨NestedIs.at (fun a ob vs n h1 h2 => (sb.2 a fun e => ?_).trans h1) _ _ (ks.is r hr).1, (ks.is r hr).2⟩, ks.nd⟩
  subst e
  rw [ho] at h1
  cases h1
  rw [hd] at h2
  cases h2
def gets (rs : List MR) (k : NestedKey) : Option Value := (rs.find? fun r => decide (r.1 = k)).map (·.2.2)
def setv (k : NestedKey) (v : Value) (r : MR) : MR := if r.1 = k then (r.1, r.2.1, v) else r
def sets (rs : List MR) (k : NestedKey) (kv v : Value) : List MR := if k ∈ rs.map (·.1) then rs.map (setv k v) else rs ++ [(k, kv, v)]
def dels (rs : List MR) (k : NestedKey) : List MR := rs.filter fun r => decide (r.1 ≠ k)
theorem gets_none {rs : List MR} {k : NestedKey} (h : ∀ (j : Nat) (p : Value × Value), rs[j]? ≠ some (k, p)) : gets rs k = none := by
  unfold gets
  rw [Option.map_eq_none_iff, List.find?_eq_none]
  intro r hr z
  obtain ⟨j, hj⟩ := List.mem_iff_getElem?.mp hr
  have z := of_decide_eq_true z
  subst z
  exact h j r.2 hj
theorem notin_of {rs : List MR} {k : NestedKey} (h : ∀ (j : Nat) (p : Value × Value), rs[j]? ≠ some (k, p)) : k ∉ rs.map (·.1) := fun z => by
  obtain ⟨r, hr, rfl⟩ := List.mem_map.mp z
  obtain ⟨j, hj⟩ := List.mem_iff_getElem?.mp hr
  exact h j r.2 hj
theorem gets_at {h : Heap} {rs : List MR} (ks : Ks h rs) {j : Nat} {k : NestedKey} {p : Value × Value} (e : rs[j]? = some (k, p)) : gets rs k = some p.2 := by
  unfold gets
  cases hf : rs.find? fun r => decide (r.1 = k) with
  | none =>
    have := List.find?_eq_none.mp hf (k, p) (List.mem_of_getElem? e)
    simp at this
  | some r =>
    have z := List.find?_some hf
    have z := of_decide_eq_true z
    obtain ⟨i, hi⟩ := List.mem_iff_getElem?.mp (List.mem_of_find?_eq_some hf)
    obtain ⟨r1, r2⟩ := r
    have z : r1 = k := z
    subst z
    have := ks.one hi e
    subst this
    rw [hi] at e
    cases e
    rfl
theorem dels_at {h : Heap} : ∀ {rs : List MR} {j : Nat} {k : NestedKey} {p : Value × Value}, Ks h rs → rs[j]? = some (k, p) → rs.eraseIdx j = dels rs k
  | [], _, _, _, _, e => by simp at e
  | r :: rs, 0, k, p, ks, e => by
    have e : r = (k, p) := by simpa using e
    subst e
    have nd := List.nodup_cons.mp ks.nd
    show rs = List.filter _ ((k, p) :: rs)
    rw [List.filter_cons_of_neg (by simp)]
    refine (List.filter_eq_self.mpr fun x hx => ?_).symm
    rw [decide_eq_true_iff]
    exact fun z => nd.1 (List.mem_map.mpr ⟨x, hx, z⟩)
  | r :: rs, j + 1, k, p, ks, e => by
    have nd := List.nodup_cons.mp ks.nd
    have e : rs[j]? = some (k, p) := by simpa using e
    have ne : r.1 ≠ k := fun z => nd.1 (List.mem_map.mpr ⟨(k, p), List.mem_of_getElem? e, z.symm⟩)
    show r :: rs.eraseIdx j = List.filter _ (r :: rs)
    rw [List.filter_cons_of_pos (by simpa using ne), dels_at ⟨fun x hx => ks.is x (List.mem_cons_of_mem _ hx), nd.2⟩ e]
    rfl
theorem modify_at {w : World} {h : Heap} {v : Value} : ∀ {rs : List MR} {j : Nat} {k : NestedKey} {p : Value × Value}, Ks h rs → rs[j]? = some (k, p) → (rs.map (ent w)).modify j (fun e => { e with val := v }) = (rs.map (setv k v)).map (ent w)
  | [], _, _, _, _, e => by simp at e
  | r :: rs, 0, k, p, ks, e => by
    have e : r = (k, p) := by simpa using e
    subst e
    have nd := List.nodup_cons.mp ks.nd
    have : rs.map (setv k v) = rs := by
      refine (List.map_congr_left fun x hx => ?_).trans (List.map_id _)
      unfold setv
      rw [if_neg fun z => nd.1 (List.mem_map.mpr ⟨x, hx, z⟩)]
      rfl
    rw [List.map_cons, List.map_cons, List.modify_zero_cons, List.map_cons, this]
    unfold setv ent
    rw [if_pos rfl]
  | r :: rs, j + 1, k, p, ks, e => by
    have nd := List.nodup_cons.mp ks.nd
    have e : rs[j]? = some (k, p) := by simpa using e
    have ne : r.1 ≠ k := fun z => nd.1 (List.mem_map.mpr ⟨(k, p), List.mem_of_getElem? e, z.symm⟩)
    rw [List.map_cons, List.map_cons, List.modify_succ_cons, List.map_cons, modify_at ⟨fun x hx => ks.is x (List.mem_cons_of_mem _ hx), nd.2⟩ e]
    unfold setv
    rw [if_neg ne]
theorem keys_setv {rs : List MR} {k : NestedKey} {v : Value} : (rs.map (setv k v)).map (·.1) = rs.map (·.1) := by
  rw [List.map_map]
  refine List.map_congr_left fun x _ => ?_
  show (setv k v x).1 = x.1
  unfold setv
  split <;> rfl
theorem Ks.sets {h : Heap} {rs : List MR} (ks : Ks h rs) {k : NestedKey} {kv v : Value} (hk : NestedIs h k kv) (dk : k.depth ≤ 8) : Ks h (sets rs k kv v) := by
  unfold Mx.sets
  split
  · refine ⟨fun r hr => ?_, by rw [keys_setv]; exact ks.nd⟩
    obtain ⟨x, hx, rfl⟩ := List.mem_map.mp hr
    have := ks.is x hx
    unfold setv
    split <;> exact this
  · rename_i nk
    refine ⟨fun r hr => ?_, ?_⟩
    · rcases List.mem_append.mp hr with y | y
      · exact ks.is r y
      · rw [List.mem_singleton.mp y]
        exact ⟨hk, dk⟩
    · rw [List.map_append, List.nodup_append]
      exact ⟨ks.nd, by simp, fun a ha b hb e => nk (by
        obtain rfl := e.trans (List.mem_singleton.mp hb)
        exact ha)⟩
theorem Ks.dels {h : Heap} {rs : List MR} (ks : Ks h rs) {k : NestedKey} : Ks h (dels rs k) :=
  ⟨fun r hr => ks.is r (List.mem_filter.mp hr).1, List.Pairwise.sublist (List.Sublist.map _ List.filter_sublist) ks.nd⟩
section
variable {prog : Program} {w : World} {A : Around} {E : Value → Shared → Prop} {s : Shared} {d : Addr} {rs : List MR} {k : NestedKey} {key : Value}
theorem mx_get {Q : Option Value → Shared → Prop} (hu : A.units + 8 < cLine) (hk : NestedIs s.heap k key) (dk : k.depth ≤ 8) (hm : Of w s.heap d rs) (ks : Ks s.heap rs) (h : Q (gets rs k) { s with toks := s.toks + k.draws }) : wpAny (model prog w) A (dictGet d key) Q E s := by
  obtain ⟨ep, o, es, ho, _, hd, he⟩ := hm
  unfold dictGet
  try with_reducible refine wpAny_holding ?_
  refine wpAny_bind (pyHash_key k key A s _ hk (by omega) (wpAny_bind (mx_find (s := { s with toks := s.toks + k.draws }) hu hk dk ho hd he ks (fun z => ?_) fun j p z => ?_)))
  · rw [gets_none z] at h
    exact wpAny_pure h
  · rw [gets_at ks z] at h
    refine wpAny_bind (wpAny_dictEntries (s := { s with toks := s.toks + k.draws }) ho hd ?_)
    rw [← Array.getElem?_toList, he, List.getElem?_map, z]
    exact wpAny_pure h
theorem mx_set {v : Value} {Q : Unit → Shared → Prop} (hu : A.units + 8 < cLine) (hk : NestedIs s.heap k key) (dk : k.depth ≤ 8) (hm : Of w s.heap d rs) (ks : Ks s.heap rs) (hz : rs.length ≤ sizeLine)
    (h : ∀ h', Of w h' d (sets rs k key v) → Ks h' (sets rs k key v) → Heap.SameBut d s.heap h' → Q () { s with heap := h', toks := s.toks + k.draws }) : wpAny (model prog w) A (dictSet d key v) Q E s := by
  obtain ⟨ep, o, es, ho, hc, hd, he⟩ := hm
  have sz : es.size = rs.length := by rw [← Array.length_toList, he, List.length_map]
  unfold dictSet
  try with_reducible refine wpAny_holding ?_
  refine wpAny_bind (pyHash_key k key A s _ hk (by omega) ?_)
  unfold dictSetHashed
  try with_reducible refine wpAny_holding ?_
  have kb : ∀ {h'}, Heap.SameBut d s.heap h' → Ks h' (sets rs k key v) := fun sb => (ks.sets hk dk).but (w := w) ho hd sb
  refine wpAny_bind (mx_find (s := { s with toks := s.toks + k.draws }) hu hk dk ho hd he ks (fun z => ?_) fun j p z => ?_)
  · have e : sets rs k key v = rs ++ [(k, key, v)] := if_neg (notin_of z)
    rw [e] at h kb
    refine wpAny_bind (wpAny_rule (wpAny_updateDictKeys (hz := by omega) (s := { s with toks := s.toks + k.draws }) ho hd (h _ ⟨ep + 1, _, _, Heap.get?_update_self _ ho (Obj.isFreed_of_dict (Obj.data_mapDictKeys hd _)), hc.mapDictKeys _, Obj.data_mapDictKeys hd _, ?_⟩ (kb (Heap.SameBut.update ..)) (Heap.SameBut.update ..))))
    simp [he, ent]
  · have e : sets rs k key v = rs.map (setv k v) := if_pos (List.mem_map.mpr ⟨_, List.mem_of_getElem? z, rfl⟩)
    rw [e] at h kb
    refine wpAny_bind (wpAny_rule (wpAny_bind (wpAny_updateDict (s := { s with toks := s.toks + k.draws }) ho hd (wpAny_point (h _ ⟨ep, _, _, Heap.get?_update_self _ ho (Obj.isFreed_of_dict (Obj.data_mapDict hd _)), hc.mapDict _, Obj.data_mapDict hd _, ?_⟩ (kb (Heap.SameBut.update ..)) (Heap.SameBut.update ..))))))
    rw [← modify_at ks z, ← he]
    simp
theorem mx_take {Q : Option DictEntry → Shared → Prop} (hu : A.units + 8 < cLine) (hk : NestedIs s.heap k key) (dk : k.depth ≤ 8) (hm : Of w s.heap d rs) (ks : Ks s.heap rs) (hz : rs.length ≤ sizeLine)
    (hn : gets rs k = none → Q none { s with toks := s.toks + k.draws })
    (hy : ∀ e v, gets rs k = some v → e.val = v → ∀ h', Of w h' d (dels rs k) → Ks h' (dels rs k) → Heap.SameBut d s.heap h' → Q (some e) { s with heap := h', toks := s.toks + k.draws }) : wpAny (model prog w) A (Builtin.Dict.takeOut d key) Q E s := by
  obtain ⟨ep, o, es, ho, hc, hd, he⟩ := hm
  have sz : es.size = rs.length := by rw [← Array.length_toList, he, List.length_map]
  unfold Builtin.Dict.takeOut
  try with_reducible refine wpAny_holding ?_
  refine wpAny_bind (pyHash_key k key A s _ hk (by omega) ?_)
  refine wpAny_bind (mx_find (s := { s with toks := s.toks + k.draws }) hu hk dk ho hd he ks (fun z => ?_) fun j p z => ?_)
  · exact wpAny_pure (hn (gets_none z))
  · refine wpAny_bind (wpAny_dictEntries (s := { s with toks := s.toks + k.draws }) ho hd ?_)
    rw [← Array.getElem?_toList, he, List.getElem?_map, z]
    refine wpAny_bind (wpAny_updateDictKeys (hz := by omega) (s := { s with toks := s.toks + k.draws }) ho hd (wpAny_pure (hy _ p.2 (gets_at ks z) rfl _ ⟨ep + 1, _, _, Heap.get?_update_self _ ho (Obj.isFreed_of_dict (Obj.data_mapDictKeys hd _)), hc.mapDictKeys _, Obj.data_mapDictKeys hd _, ?_⟩ (ks.dels.but (w := w) ho hd (Heap.SameBut.update ..)) (Heap.SameBut.update ..))))
    rw [DT.eraseA, he, ← dels_at ks z, DT.map_erase]
end
end Mx

namespace Mx
open PySem
section
variable {prog : Program} {w : World} {A : Around} {E : Value → Shared → Prop} {s : Shared} {d : Addr} {rs : List MR} {k : NestedKey} {key : Value}
theorem room1 (h : A.units + 16 < cLine) : A.in1.units + 8 < cLine := by
  rw [Around.in1_units]
  omega
/-- is the key there -/
theorem mx_has {Q : Bool → Shared → Prop} (hu : A.units + 16 < cLine) (hk : NestedIs s.heap k key) (dk : k.depth ≤ 8) (hd : (d == sysModules) = false) (hm : Of w s.heap d rs) (ks : Ks s.heap rs)
    (h : ∀ t, Q (gets rs k).isSome { s with toks := t }) : wpAny (model prog w) A (contains (.ref d) key) Q E s := by
  unfold contains
  try with_reducible refine wpAny_holding ?_
  refine wpAny_bind (wpAny_specialOf hm.typeIs slot_dict_contains.lookup ?_)
  refine wpAny_ite_split (fun z => absurd z (by rw [beq_builtin_none]; exact Bool.false_ne_true)) (fun _ => ?_)
  refine wpAny_bind (wpAny_callSpecialUnlessNone?_slot (name := Str.ofString "__contains__") hm.typeIs slot_dict_contains (wpAny_call_entry slot_dict_contains hm.typeIs entry_dict_contains ?_ (args_dict_contains _ _)))
  show wpAny _ _ (dictGet d key >>= _) _ _ s
  refine wpAny_bind (mx_get (room1 hu) hk dk hm ks ?_)
  cases e : gets rs k with
  | some v =>
    rw [e] at h
    show wpAny _ _ (ret (.bool true)) _ _ _
    exact wpAny_pure ⟨_, rfl, wpAny_truthy_bool (h _)⟩
  | none =>
    rw [e] at h
    show wpAny _ _ (Builtin.Dict.pendingKey? d key >>= _) _ _ _
    exact wpAny_bind (wpAny_pendingKey_other hd (wpAny_pure ⟨_, rfl, wpAny_truthy_bool (h _)⟩))
theorem mx_in {neg : Bool} {Q : Value → Shared → Prop} (hu : A.units + 16 < cLine) (hk : NestedIs s.heap k key) (dk : k.depth ≤ 8) (hd : (d == sysModules) = false) (hm : Of w s.heap d rs) (ks : Ks s.heap rs)
    (h : ∀ t, Q (.bool ((gets rs k).isSome != neg)) { s with toks := t }) : wpAny (model prog w) A (compareOp (if neg then .NotIn else .In) key (.ref d)) Q E s := by
  cases neg with
  | false =>
    show wpAny _ _ (do return .bool (← contains (.ref d) key)) Q E s
    refine wpAny_bind (mx_has hu hk dk hd hm ks fun t => wpAny_pure ?_)
    have := h t
    rw [Bool.bne_false] at this
    exact this
  | true =>
    show wpAny _ _ (do return .bool (!(← contains (.ref d) key))) Q E s
    refine wpAny_bind (mx_has hu hk dk hd hm ks fun t => wpAny_pure ?_)
    have := h t
    rw [Bool.bne_true] at this
    exact this
theorem mx_item {v : Value} {Q : Value → Shared → Prop} (hu : A.units + 16 < cLine) (hk : NestedIs s.heap k key) (dk : k.depth ≤ 8) (hm : Of w s.heap d rs) (ks : Ks s.heap rs) (e : gets rs k = some v)
    (h : ∀ t, Q v { s with toks := t }) : wpAny (model prog w) A (getItem (.ref d) key) Q E s := by
  unfold getItem
  try with_reducible refine wpAny_holding ?_
  refine wpAny_bind (wpAny_sequenceKey hm.typeIs (by decide) ?_)
  refine wpAny_bind (wpAny_callSpecial?_slot (name := Str.ofString "__getitem__") hm.typeIs slot_dict_getitem (wpAny_call_entry slot_dict_getitem hm.typeIs entry_dict_getitem ?_ (args_dict_getitem _ _)))
  show wpAny _ _ (dictGet d key >>= _) _ _ s
  refine wpAny_bind (mx_get (room1 hu) hk dk hm ks ?_)
  rw [e]
  exact wpAny_pure ⟨v, rfl, wpAny_pure (h _)⟩
theorem mx_put {v : Value} {Q : Unit → Shared → Prop} (hu : A.units + 16 < cLine) (hk : NestedIs s.heap k key) (dk : k.depth ≤ 8) (hm : Of w s.heap d rs) (ks : Ks s.heap rs) (hz : rs.length ≤ sizeLine)
    (h : ∀ h' t, Of w h' d (sets rs k key v) → Ks h' (sets rs k key v) → Heap.SameBut d s.heap h' → Q () { s with heap := h', toks := t }) : wpAny (model prog w) A (setItem (.ref d) key v) Q E s := by
  unfold setItem
  try with_reducible refine wpAny_holding ?_
  refine wpAny_bind (wpAny_sequenceKey hm.typeIs (by decide) ?_)
  refine wpAny_bind (wpAny_callSpecial?_slot (name := Str.ofString "__setitem__") hm.typeIs slot_dict_setitem (wpAny_call_entry slot_dict_setitem hm.typeIs entry_dict_setitem ?_ (args_dict_setitem _ _ _)))
  show wpAny _ _ (Builtin.Dict.notOrdered "__setitem__" ⟨[.ref d, key, v], []⟩ >>= _) _ _ s
  refine wpAny_bind (wpAny_notOrdered_dict hm.typeIs ?_)
  show wpAny _ _ (dictSet d key v >>= _) _ _ s
  exact wpAny_bind (mx_set (room1 hu) hk dk hm ks hz fun h' q1 q2 q3 => wpAny_pure ⟨.none, rfl, wpAny_pure (h h' _ q1 q2 q3)⟩)
theorem mx_getM {Q : Value → Shared → Prop} (hu : A.units + 16 < cLine) (hk : NestedIs s.heap k key) (dk : k.depth ≤ 8) (hd : (d == sysModules) = false) (hm : Of w s.heap d rs) (ks : Ks s.heap rs) (ha : argsOk "dict.get" ⟨[.ref d, key], []⟩)
    (h : ∀ t, Q ((gets rs k).getD .none) { s with toks := t }) : wpAny (model prog w) A (call (.builtin "dict.get") [.ref d, key]) Q E s := by
  have mt : MeetsIn prog w (Builtin.«dict.get» ⟨[.ref d, key], []⟩) (fun A R s => A.units + 16 < cLine ∧ ∃ k rs, NestedIs s.heap k key ∧ k.depth ≤ 8 ∧ Of w s.heap d rs ∧ Ks s.heap rs ∧ ∀ t, R (.ok (.ret ((gets rs k).getD .none))) { s with toks := t }) := .of_wp fun A R s ⟨hu, k, rs, hk, dk, hm, ks, h⟩ => by
    show wpAny _ _ (dictGet d key >>= _) _ _ s
    refine wpAny_bind (mx_get (room1 hu) hk dk hm ks ?_)
    cases e : gets rs k with
    | some v =>
      rw [e] at h
      exact wpAny_pure ⟨v, rfl, h _⟩
    | none =>
      rw [e] at h
      show wpAny _ _ (Builtin.Dict.missed d key >>= _) _ _ _
      exact wpAny_bind (wpAny_missed_other hd (wpAny_pure ⟨.none, rfl, h _⟩))
  exact call_meetsIn F.slot_dict_get hm.typeIs F.entry_dict_get ha mt ⟨hu, k, rs, hk, dk, hm, ks, h⟩
theorem mx_del {v : Value} {Q : Unit → Shared → Prop} (hu : A.units + 16 < cLine) (hk : NestedIs s.heap k key) (dk : k.depth ≤ 8) (hd : (d == sysModules) = false) (hm : Of w s.heap d rs) (ks : Ks s.heap rs) (hz : rs.length ≤ sizeLine) (e : gets rs k = some v)
    (h : ∀ h' t, Of w h' d (dels rs k) → Ks h' (dels rs k) → Heap.SameBut d s.heap h' → Q () { s with heap := h', toks := t }) : wpAny (model prog w) A (delItem (.ref d) key) Q E s := by
  have mt : MeetsIn prog w (Builtin.«dict.__delitem__» ⟨[.ref d, key], []⟩) (fun A R s => A.units + 16 < cLine ∧ ∃ k rs v, NestedIs s.heap k key ∧ k.depth ≤ 8 ∧ Of w s.heap d rs ∧ Ks s.heap rs ∧ rs.length ≤ sizeLine ∧ gets rs k = some v ∧ ∀ h' t, Of w h' d (dels rs k) → Ks h' (dels rs k) → Heap.SameBut d s.heap h' → R (.ok (.ret .none)) { s with heap := h', toks := t }) := .of_wp fun A R s ⟨hu, k, rs, v, hk, dk, hm, ks, hz, e, h⟩ => by
    unfold Builtin.«dict.__delitem__»
    refine wpAny_bind ?_
    unfold Builtin.Dict.dictSlotArgs
    refine wpAny_bind (wpAny_notOrdered_dict hm.typeIs ?_)
    show wpAny _ _ (pure (Value.ref d, key)) _ _ s
    refine wpAny_pure ?_
    show wpAny _ _ (Builtin.Dict.takeOut d key >>= _) _ _ s
    refine wpAny_bind (mx_take (room1 hu) hk dk hm ks hz (fun z => by rw [e] at z; cases z) fun ee v' _ _ h' q1 q2 q3 => ?_)
    exact wpAny_bind (wpAny_letGo (wpAny_pure ⟨.none, rfl, h h' _ q1 q2 q3⟩))
  exact wpAny_delItem_slot hm.typeIs (by decide) F.slot_dict_delitem (call_meetsIn F.slot_dict_delitem hm.typeIs F.entry_dict_delitem (F.args_dict_delitem_2 _ _) mt ⟨hu, k, rs, v, hk, dk, hm, ks, hz, e, h⟩)
/-- d.pop(k[, x]) -/
theorem mx_pop {more : List Value} {Q : Value → Shared → Prop} (hmore : more = [] ∨ ∃ x, more = [x]) (ha : argsOk "dict.pop" ⟨.ref d :: key :: more, []⟩) (hu : A.units + 16 < cLine) (hk : NestedIs s.heap k key) (dk : k.depth ≤ 8) (hd : (d == sysModules) = false) (hm : Of w s.heap d rs) (ks : Ks s.heap rs) (hz : rs.length ≤ sizeLine)
    (hy : ∀ v, gets rs k = some v → ∀ h' t, Of w h' d (dels rs k) → Ks h' (dels rs k) → Heap.SameBut d s.heap h' → Q v { s with heap := h', toks := t }) (hn : gets rs k = none → ∃ x, more = [x] ∧ ∀ t, Q x { s with toks := t }) :
    wpAny (model prog w) A (call (.builtin "dict.pop") (.ref d :: key :: more)) Q E s := by
  have mt : MeetsIn prog w (Builtin.«dict.pop» ⟨.ref d :: key :: more, []⟩) (fun A R s => A.units + 16 < cLine ∧ ∃ k rs, NestedIs s.heap k key ∧ k.depth ≤ 8 ∧ Of w s.heap d rs ∧ Ks s.heap rs ∧ rs.length ≤ sizeLine ∧ (∀ v, gets rs k = some v → ∀ h' t, Of w h' d (dels rs k) → Ks h' (dels rs k) → Heap.SameBut d s.heap h' → R (.ok (.ret v)) { s with heap := h', toks := t }) ∧ (gets rs k = none → ∃ x, more = [x] ∧ ∀ t, R (.ok (.ret x)) { s with toks := t })) := .of_wp fun A R s ⟨hu, k, rs, hk, dk, hm, ks, hz, hy, hn⟩ => by
    obtain ⟨ep, o, es, ho, hc, hdat, he⟩ := id hm
    unfold Builtin.«dict.pop»
    refine wpAny_bind ?_
    unfold Builtin.Dict.keyAndDefault
    refine wpAny_bind (wpAny_notOrdered_dict hm.typeIs ?_)
    have sz : es.size = rs.length := by rw [← Array.length_toList, he, List.length_map]
    have emp : es.isEmpty = true → gets rs k = none := fun z => by
      have h0 : es.size = 0 := by simpa using z
      rw [List.length_eq_zero_iff.mp (show rs.length = 0 by omega)]
      rfl
    rcases hmore with rfl | ⟨x, rfl⟩
    · show wpAny _ _ (pure (d, key, none)) _ _ s
      refine wpAny_pure ?_
      dsimp only
      have some_ : gets rs k ≠ none := fun z => by
        obtain ⟨x, e, _⟩ := hn z
        cases e
      refine wpAny_ite_split (fun _ => wpAny_bind (wpAny_pure ?_)) (fun _ => wpAny_bind (wpAny_dictEntries ho hdat (wpAny_bind (wpAny_pure ?_))))
      · refine wpAny_ite_split (fun z => absurd z (by simp)) (fun _ => ?_)
        refine wpAny_bind (mx_take (room1 hu) hk dk hm ks hz (fun z => absurd z some_) fun ee v e1 e2 h' q1 q2 q3 => ?_)
        refine wpAny_ite_split (fun z => absurd z (by simp)) (fun _ => ?_)
        exact wpAny_bind (wpAny_letGo (wpAny_pure ⟨ee.val, rfl, by rw [e2]; exact hy v e1 h' _ q1 q2 q3⟩))
      · refine wpAny_ite_split (fun z => absurd (emp z) some_) (fun _ => ?_)
        refine wpAny_bind (mx_take (room1 hu) hk dk hm ks hz (fun z => absurd z some_) fun ee v e1 e2 h' q1 q2 q3 => ?_)
        refine wpAny_ite_split (fun z => absurd z (by simp)) (fun _ => ?_)
        exact wpAny_bind (wpAny_letGo (wpAny_pure ⟨ee.val, rfl, by rw [e2]; exact hy v e1 h' _ q1 q2 q3⟩))
    · show wpAny _ _ (pure (d, key, some x)) _ _ s
      refine wpAny_pure ?_
      dsimp only
      have out : gets rs k = none → ∀ t, R (.ok (.ret x)) { s with toks := t } := fun z t => by
        obtain ⟨y, e, q⟩ := hn z
        cases e
        exact q t
      refine wpAny_ite_split (fun _ => wpAny_bind (wpAny_pure ?_)) (fun _ => wpAny_bind (wpAny_dictEntries ho hdat (wpAny_bind (wpAny_pure ?_))))
      · refine wpAny_ite_split (fun z => absurd z (by simp)) (fun _ => ?_)
        refine wpAny_bind (mx_take (room1 hu) hk dk hm ks hz (fun z => ?_) fun ee v e1 e2 h' q1 q2 q3 => ?_)
        · refine wpAny_ite_split (fun _ => ?_) (fun y => absurd rfl y)
          refine wpAny_bind (wpAny_missedRemoval_other hd ?_)
          exact wpAny_bind (wpAny_rule (wpAny_pure ⟨x, rfl, out z _⟩))
        · refine wpAny_ite_split (fun z => absurd z (by simp)) (fun _ => ?_)
          exact wpAny_bind (wpAny_letGo (wpAny_pure ⟨ee.val, rfl, by rw [e2]; exact hy v e1 h' _ q1 q2 q3⟩))
      · refine wpAny_ite_split (fun z => ?_) (fun _ => ?_)
        · refine wpAny_bind (wpAny_rule (wpAny_bind (wpAny_pure ?_)))
          refine wpAny_ite_split (fun _ => ?_) (fun y => absurd rfl y)
          refine wpAny_bind (wpAny_missedRemoval_other hd ?_)
          exact wpAny_bind (wpAny_rule (wpAny_pure ⟨x, rfl, out (emp z) _⟩))
        · refine wpAny_bind (mx_take (room1 hu) hk dk hm ks hz (fun z => ?_) fun ee v e1 e2 h' q1 q2 q3 => ?_)
          · refine wpAny_ite_split (fun _ => ?_) (fun y => absurd rfl y)
            refine wpAny_bind (wpAny_missedRemoval_other hd ?_)
            exact wpAny_bind (wpAny_rule (wpAny_pure ⟨x, rfl, out z _⟩))
          · refine wpAny_ite_split (fun z => absurd z (by simp)) (fun _ => ?_)
            exact wpAny_bind (wpAny_letGo (wpAny_pure ⟨ee.val, rfl, by rw [e2]; exact hy v e1 h' _ q1 q2 q3⟩))
  exact call_meetsIn F.slot_dict_pop hm.typeIs F.entry_dict_pop ha mt ⟨hu, k, rs, hk, dk, hm, ks, hz, hy, hn⟩
/-- len(d) -/
theorem mx_len {Q : Value → Shared → Prop} (hd : (d == sysModules) = false) (hm : Of w s.heap d rs) (hz : rs.length ≤ sizeLine) (h : ∀ t u, Q (.int rs.length u) { s with toks := t }) : wpAny (model prog w) A (call (.builtin "len") [.ref d]) Q E s := by
  obtain ⟨ep, o, es, ho, hc, hdat, he⟩ := id hm
  have sz : es.size = rs.length := by rw [← Array.length_toList, he, List.length_map]
  rw [sizeLine_eq] at hz
  exact PyProof.Rows.call_len_slot (n := rs.length) hm.typeIs F.slot_dict_len (fun Q' hq => call_len_raw hd ⟨o, ho, hc, hdat⟩ (by rw [sz]; exact hq)) (by omega) (by omega) (h _ _)
/-- iter(d) -/
theorem mx_iter {ep : Nat} {Q : Value → Shared → Prop} (hd : (d == sysModules) = false) (hm : OfE w s.heap d ep rs)
    (h : Q (.ref s.heap.objs.size) { s with heap := s.heap.push { cls := .type "dict_keyiterator", data := .fields #[.ref d, .int 0 0, .int rs.length 0, .int ep 0] } }) : wpAny (model prog w) A (call (.builtin "iter") [.ref d]) Q E s := by
  obtain ⟨o, es, ho, hc, hdat, he⟩ := hm
  have sz : es.size = rs.length := by rw [← Array.length_toList, he, List.length_map]
  refine Calls.call_function_entry (by decide +kernel) (by decide +kernel) PySem.W.kdk_entry_iter (PySem.W.kdk_args_iter _) ?_
  unfold Builtin.«iter»
  refine wpAny_bind (m := someArgs "iter" 1 2 _) (wpAny_of_eq (a := [Value.ref d]) (by first | rfl | kernel_rfl!) ?_)
  show wpAny _ _ (pyIter (.ref d) >>= _) _ _ _
  refine wpAny_bind (wpAny_pyIter_dict_raw hd ⟨o, ho, hc, hdat⟩ ?_)
  rw [sz]
  exact wpAny_pure ⟨_, rfl, h⟩
/-- next(it, x), an item being left -/
theorem mx_next {it : Addr} {i ep : Nat} {r : MR} {x : Value} {Q : Value → Shared → Prop} (hit : s.heap.IsKeyIter it d i rs.length ep) (hm : OfE w s.heap d ep rs) (hx : rs[i]? = some r)
    (h : ∀ h', h'.IsKeyIter it d (i + 1) rs.length ep → Heap.SameBut it s.heap h' → Q r.2.1 { s with heap := h' }) : wpAny (model prog w) A (call (.builtin "next") [.ref it, x]) Q E s := by
  obtain ⟨o, es, ho, hc, hdat, he⟩ := hm
  have sz : es.size = rs.length := by rw [← Array.length_toList, he, List.length_map]
  have hl : i < es.size := by
    rw [sz]
    exact (List.getElem?_eq_some_iff.mp hx).1
  have ek : es[i].key = r.2.1 := by
    have e : es[i]? = some (ent w r) := by rw [← Array.getElem?_toList, he, List.getElem?_map, hx]; rfl
    rw [Array.getElem?_eq_getElem hl] at e
    rw [Option.some.inj e]
    rfl
  rw [← sz] at hit h
  refine Calls.call_function_entry (by decide +kernel) (by decide +kernel) PySem.W.kdk_entry_next (PySem.W.kdk_args_next2 _ _) ?_
  unfold Builtin.«next»
  refine wpAny_bind (m := someArgs "next" 1 2 _) (wpAny_of_eq (a := [Value.ref it, x]) (by first | rfl | kernel_rfl!) ?_)
  dsimp only
  refine wpAny_bind (wpAny_specialOf (name := Str.ofString "__next__") hit.typeIs PySem.F.slot_dict_keyiterator_next.lookup ?_)
  refine wpAny_ite_split (fun hab => absurd hab (by decide)) (fun _ => ?_)
  refine wpAny_bind (wpAny_pyNext_keys_item_raw hit ⟨o, ho, hc, hdat⟩ hl fun h' q1 q2 => ?_)
  rw [ek]
  exact wpAny_pure ⟨_, rfl, h h' q1 q2⟩
/-- list(d.items()) -/
theorem mx_list {r : Addr} {es : Array DictEntry} {ep : Nat} {Q : Value → Shared → Prop} (hh : A.handled = none) (hv : s.heap.IsItemsView r d) (hm : DT.Raw s.heap d es ep) (hz : es.size ≤ sizeLine)
    (h : ∀ h' t acc c as, (∀ b o, s.heap.get? b = some o → h'.get? b = some o) → h'.get? s.heap.objs.size = some { cls := .type "list", dict := none, data := .seq acc c, slots := #[] } → as.length = es.size → DT.Made es s.heap.objs.size h' as → acc.toList = as.map Value.ref → Q (.ref s.heap.objs.size) { s with heap := h', toks := t }) :
    wpAny (model prog w) A (call (.type "list") [.ref r]) Q E s := by
  have hr : r < s.heap.objs.size := by
    obtain ⟨_, ho, _⟩ := hv
    exact Heap.lt_size ho
  refine callType_codes (Q₁ := fun v s1 => v = .ref s.heap.objs.size ∧ s1 = { s with heap := s.heap.push { cls := .type "list", data := .seq #[] } }) F.called_list (F.typeCall_list_1 _) F.entry_list_init (code_list_new _ ⟨rfl, rfl⟩) fun v s1 ⟨e1, e2⟩ => ?_
  subst e1 e2
  have gS : (s.heap.push { cls := .type "list", data := .seq #[] }).get? s.heap.objs.size = some { cls := .type "list", data := .seq #[] } := Heap.get?_push_size _ rfl
  refine ⟨⟨_, gS, rfl⟩, F.args_list_init_2 _ _, ?_⟩
  show wpAny _ _ (do let old ← Builtin.List.listItems (.ref s.heap.objs.size); Builtin.List.listUpdate (.ref s.heap.objs.size) (fun _ => #[]); letGo old.toList.reverse; Builtin.List.listExtendWith (.ref s.heap.objs.size) (.ref r) .none) _ _ _
  unfold Builtin.List.listItems
  refine wpAny_bind (wpAny_bind (wpAny_seqItems gS rfl (wpAny_pure ?_)))
  show wpAny _ _ (updateSeq s.heap.objs.size (fun _ => #[]) >>= fun _ => letGo (#[] : Array Value).toList.reverse >>= fun _ => Builtin.List.listExtendWith (.ref s.heap.objs.size) (.ref r) .none) _ _ _
  refine wpAny_bind (wpAny_updateSeq gS rfl (wpAny_bind (wpAny_letGo ?_)))
  have gS2 := Heap.get?_update_self (Obj.mapSeq (fun _ => (#[] : Array Value))) gS rfl
  have off : ∀ b o, s.heap.get? b = some o → ((s.heap.push { cls := .type "list", data := .seq #[] }).update s.heap.objs.size (Obj.mapSeq (fun _ => (#[] : Array Value)))).get? b = some o := fun b o e => (Heap.get?_update_other _ _ (Nat.ne_of_gt (Heap.lt_size e))).trans (Heap.get?_push_of_some _ e)
  refine DT.extI (A := A.in1) (es := es) (ep := ep) hh (by
    obtain ⟨o, ho, q⟩ := hv
    exact ⟨o, off r o ho, q⟩) (hm.at' fun o e => off d o e) s.heap.objs.size (Nat.ne_of_gt hr) (Nat.ne_of_lt hm.lt) .none _ gS2 (fun h' tk acc c as q1 q2 q3 q4 q5 => ?_) hz
  exact ⟨rfl, h h' _ acc c as (fun b o e => q1 b o (Nat.ne_of_lt (Heap.lt_size e)) (off b o e)) q2 q3 (q4.low (Nat.le_of_lt (Heap.lt_size gS2))) q5⟩
end
end Mx

/-! ### such a dictionary over the layer -/
mutual
def nk : PyData → NestedKey
  | .int i => .num i
  | .str x => .text x
  | .tuple ds => .tup (nks ds)
  | _ => .none
def nks : List PyData → List NestedKey
  | [] => []
  | d :: ds => nk d :: nks ds
end
theorem nk_flat : ∀ {d e : PyData}, Flat1 d → Flat1 e → nk d = nk e → d = e
  | .int i, .int j, _, _, h => by cases h; rfl
  | .str i, .str j, _, _, h => by cases h; rfl
  | .int i, .str j, _, _, h => by cases h
  | .str i, .int j, _, _, h => by cases h
theorem nks_flat : ∀ {ds es : List PyData}, (∀ d ∈ ds, Flat1 d) → (∀ d ∈ es, Flat1 d) → nks ds = nks es → ds = es
  | [], [], _, _, _ => rfl
  | [], _ :: _, _, _, h => by cases h
  | _ :: _, [], _, _, h => by cases h
  | d :: ds, e :: es, h1, h2, h => by
    obtain ⟨e1, e2⟩ := List.cons.inj (show nk d :: nks ds = nk e :: nks es from h)
    rw [nk_flat (h1 d List.mem_cons_self) (h2 e List.mem_cons_self) e1, nks_flat (fun x hx => h1 x (List.mem_cons_of_mem _ hx)) (fun x hx => h2 x (List.mem_cons_of_mem _ hx)) e2]
theorem nk_inj {d e : PyData} (h1 : Thing d) (h2 : Thing e) (h : nk d = nk e) : d = e := by
  cases d with
  | int i => cases e <;> first | (cases h; rfl) | (exact h2.elim) | cases h
  | str i => cases e <;> first | (cases h; rfl) | (exact h2.elim) | cases h
  | tuple ds =>
    cases e with
    | tuple es => rw [nks_flat h1.2 h2.2 (NestedKey.tup.inj h)]
    | int _ => cases h
    | str _ => cases h
    | _ => exact h2.elim
  | _ => exact h1.elim
theorem flat_noL : ∀ {d : PyData}, Flat1 d → noL d = true
  | .int _, _ => rfl
  | .str _, _ => rfl
theorem flats_noL : ∀ {ds : List PyData}, (∀ d ∈ ds, Flat1 d) → noLs ds = true
  | [], _ => rfl
  | d :: ds, h => by
    show (noL d && noLs ds) = true
    rw [flat_noL (h d List.mem_cons_self), flats_noL fun x hx => h x (List.mem_cons_of_mem _ hx)]
    rfl
theorem opt_noL {d : PyData} (h : Opt d) : noL d = true := by
  rcases h with rfl | h
  · rfl
  · cases d with
    | int _ => rfl
    | str _ => rfl
    | tuple ds => exact flats_noL h.2
    | _ => exact h.elim
/-- an entry: the key, the value, and where they stand -/
structure MEnt where
  kd : PyData
  vd : PyData
  k : V
  v : V
def MEnt.row (e : MEnt) : NestedKey × V × V := (nk e.kd, e.k, e.v)
def PR (r : NestedKey × V × V) (q : Mx.MR) : Prop := r.1 = q.1 ∧ RelV r.2.1 q.2.1 ∧ RelV r.2.2 q.2.2
def mxO (w : World) (d : Addr) (ep : Nat) (rows : List (NestedKey × V × V)) : HO := .ext fun h => rows.length ≤ sizeLine ∧ (d == sysModules) = false ∧ ∃ rs, Mx.OfE w h d ep rs ∧ Paired PR rows rs
theorem mxO_ok {P : Program} {w w' : World} {H : Hp} {h : Heap} {d : Addr} {ep : Nat} {rows : List (NestedKey × V × V)} {rs : List Mx.MR} (z : rows.length ≤ sizeLine) (hd : (d == sysModules) = false) (o : Mx.OfE w h d ep rs) (p : Paired PR rows rs) : ObjOk P w' H h d (mxO w d ep rows) := by
  refine ⟨⟨z, hd, rs, o, p⟩, ?_, fun h1 h2 ⟨a, b, rs', c, e⟩ k => ⟨a, b, rs', c.at' k, e⟩⟩
  obtain ⟨ob, _, ho, _⟩ := o
  exact ⟨ob, ho⟩
structure MxAt (w : World) (H : Hp) (d : Addr) (xs : List MEnt) : Prop where
  g : ∃ ep, H d = some (mxO w d ep (xs.map MEnt.row))
  e : ∀ x ∈ xs, Thing x.kd ∧ Opt x.vd ∧ Dh H x.kd x.k ∧ Dh H x.vd x.v
  nd : (xs.map (·.kd)).Nodup
open Classical in
noncomputable def mget (xs : List MEnt) (kd : PyData) : Option MEnt := xs.find? fun x => decide (x.kd = kd)
open Classical in
noncomputable def mdel (xs : List MEnt) (kd : PyData) : List MEnt := xs.filter fun x => decide (x.kd ≠ kd)
open Classical in
noncomputable def mset (e x : MEnt) : MEnt := if x.kd = e.kd then ⟨x.kd, e.vd, x.k, e.v⟩ else x
open Classical in
noncomputable def mput (xs : List MEnt) (e : MEnt) : List MEnt := if e.kd ∈ xs.map (·.kd) then xs.map (mset e) else xs ++ [e]
/-- tuples stay -/
def Tups (H H' : Hp) : Prop := ∀ a us, H a = some (.tup us) → H' a = some (.tup us)
theorem Tups.same {H H' : Hp} (s : Same H H') : Tups H H' := fun a us g => s a _ g
theorem Tups.trans {H H1 H2 : Hp} (a : Tups H H1) (b : Tups H1 H2) : Tups H H2 := fun c us g => b c us (a c us g)
theorem Tups.put {H : Hp} {d : Addr} {o : HO} (n : ∀ us, H d ≠ some (.tup us)) : Tups H (upd H d o) := fun a us g => by
  rw [upd_ne (fun z => n us (by rw [← z]; exact g))]
  exact g
theorem MxAt.tups {w : World} {H H' : Hp} {d : Addr} {xs : List MEnt} (h : MxAt w H d xs) (t : Tups H H') (k : ∀ o, H d = some o → H' d = some o) : MxAt w H' d xs := by
  obtain ⟨ep, g⟩ := h.g
  refine ⟨⟨ep, k _ g⟩, fun x hx => ?_, h.nd⟩
  obtain ⟨a, b, c, e⟩ := h.e x hx
  exact ⟨a, b, Dh.tups t _ _ (opt_noL (.inr a)) c, Dh.tups t _ _ (opt_noL b) e⟩
theorem MxAt.same {w : World} {H H' : Hp} {d : Addr} {xs : List MEnt} (h : MxAt w H d xs) (s : Same H H') : MxAt w H' d xs := h.tups (Tups.same s) fun o g => s _ _ g
theorem MxAt.noT {w : World} {H : Hp} {d : Addr} {xs : List MEnt} (h : MxAt w H d xs) (us : List V) : H d ≠ some (.tup us) := fun z => by
  obtain ⟨ep, g⟩ := h.g
  rw [z] at g
  cases g
section
variable {X : Cx} {pins : List (Addr × Obj)} {σ : L2.St} {H : Hp} {s : Shared}
theorem flats_nest (I : Inv X pins σ H s) : ∀ {ds : List PyData} {xs : List V} {us : List Value}, (∀ d ∈ ds, Flat1 d) → DhAll H ds xs → Vals xs us → NestedAll s.heap (nks ds) us ∧ NestedKey.depthAll (nks ds) = 0
  | [], xs, us, _, h, r => by
    cases (show xs = [] from h)
    cases r
    exact ⟨.nil, rfl⟩
  | d :: ds, xs, us, hf, h, r => by
    obtain ⟨v, vs, rfl, h1, h2⟩ := h
    cases r with
    | cons r1 r2 =>
      obtain ⟨q1, q2⟩ := flats_nest I (fun x hx => hf x (List.mem_cons_of_mem _ hx)) h2 r2
      have fd := hf d List.mem_cons_self
      cases d with
      | int i =>
        cases (show v = .int i from h1)
        obtain ⟨t, rfl⟩ := r1
        exact ⟨.cons (.int i t) q1, by show max 0 _ = 0; rw [q2]; rfl⟩
      | str x =>
        cases (show v = .str x from h1)
        obtain ⟨t, rfl⟩ := r1
        exact ⟨.cons (.text x t) q1, by show max 0 _ = 0; rw [q2]; rfl⟩
      | _ => exact fd.elim
theorem key_nest (I : Inv X pins σ H s) {d : PyData} {x : V} {u : Value} (ht : Thing d) (h : Dh H d x) (r : RelV x u) : NestedIs s.heap (nk d) u ∧ (nk d).depth ≤ 8 := by
  cases d with
  | int i =>
    cases (show x = .int i from h)
    obtain ⟨t, rfl⟩ := r
    exact ⟨.int i t, Nat.zero_le _⟩
  | str z =>
    cases (show x = .str z from h)
    obtain ⟨t, rfl⟩ := r
    exact ⟨.text z t, Nat.zero_le _⟩
  | tuple ds =>
    obtain ⟨a, xs, rfl, g, hd⟩ := h
    obtain rfl : u = Value.ref a := r
    obtain ⟨_, its, rv, ob, ho, hc, n, hdat⟩ := I.hok a _ g
    obtain ⟨q1, q2⟩ := flats_nest I ht.2 hd rv
    exact ⟨.tup ho hc hdat q1, by show NestedKey.depthAll (nks ds) + 1 ≤ 8; rw [q2]; decide⟩
  | _ => exact ht.elim
/-- what stands there -/
theorem mx_rows (I : Inv X pins σ H s) {d : Addr} {xs : List MEnt} (m : MxAt X.w H d xs) : ∃ rs, Mx.Of X.w s.heap d rs ∧ Mx.Ks s.heap rs ∧ Paired PR (xs.map MEnt.row) rs ∧ rs.length ≤ sizeLine ∧ (d == sysModules) = false := by
  obtain ⟨ep, g⟩ := m.g
  obtain ⟨⟨z, hd, rs, o, p⟩, _⟩ := I.hok d _ g
  refine ⟨rs, ⟨ep, o⟩, ⟨?_, ?_⟩, p, by rw [← Paired.length p]; exact z, hd⟩
  · have gen : ∀ {xs : List MEnt} {rs : List Mx.MR}, (∀ x ∈ xs, Thing x.kd ∧ Opt x.vd ∧ Dh H x.kd x.k ∧ Dh H x.vd x.v) → Paired PR (xs.map MEnt.row) rs → ∀ r ∈ rs, NestedIs s.heap r.1 r.2.1 ∧ r.1.depth ≤ 8 := fun {xs} => by
      induction xs with
      | nil => intro rs _ p r hr; cases p; cases hr
      | cons x xs ih =>
        intro rs he p r hr
        cases p with
        | cons q t =>
          rcases List.mem_cons.mp hr with rfl | hr
          · obtain ⟨a, _, c, _⟩ := he x List.mem_cons_self
            rw [← q.1]
            exact key_nest I a c q.2.1
          · exact ih (fun y hy => he y (List.mem_cons_of_mem _ hy)) t r hr
    exact gen m.e p
  · have e1 : rs.map (·.1) = (xs.map (·.kd)).map nk := by
      have gen : ∀ {xs : List MEnt} {rs : List Mx.MR}, Paired PR (xs.map MEnt.row) rs → rs.map (·.1) = (xs.map (·.kd)).map nk := fun {xs} => by
        induction xs with
        | nil => intro rs p; cases p; rfl
        | cons x xs ih =>
          intro rs p
          cases p with
          | cons q t =>
            rw [List.map_cons, List.map_cons, List.map_cons, ih t, ← q.1]
            rfl
      exact gen p
    rw [e1]
    show List.Pairwise _ _
    rw [List.pairwise_map]
    refine List.Pairwise.imp_of_mem (fun {a b} ha hb ne z => ne ?_) m.nd
    obtain ⟨x, hx, rfl⟩ := List.mem_map.mp ha
    obtain ⟨y, hy, rfl⟩ := List.mem_map.mp hb
    exact nk_inj (m.e x hx).1 (m.e y hy).1 z
end
/-! rows and entries -/
section
variable {xs : List MEnt} {rs : List Mx.MR} {kd : PyData}
theorem pr_get : ∀ {xs : List MEnt} {rs : List Mx.MR}, (∀ x ∈ xs, Thing x.kd) → Thing kd → Paired PR (xs.map MEnt.row) rs → (mget xs kd = none → Mx.gets rs (nk kd) = none) ∧ ∀ x, mget xs kd = some x → ∃ u, Mx.gets rs (nk kd) = some u ∧ RelV x.v u
  | [], rs, _, _, p => by
    cases p
    exact ⟨fun _ => rfl, fun x h => by cases h⟩
  | x :: xs, rs, h, hk, p => by
    cases p with
    | @cons _ q _ rs q1 t =>
      have ih := pr_get (fun y hy => h y (List.mem_cons_of_mem _ hy)) hk t
      have q11 : nk x.kd = q.1 := q1.1
      by_cases e : x.kd = kd
      · have e2 : q.1 = nk kd := by rw [← q11, e]
        refine ⟨fun z => ?_, fun y z => ?_⟩
        · unfold mget at z
          rw [List.find?_cons_of_pos (by simpa using e)] at z
          cases z
        · unfold mget at z
          rw [List.find?_cons_of_pos (by simpa using e)] at z
          cases z
          unfold Mx.gets
          rw [List.find?_cons_of_pos (by simpa using e2)]
          exact ⟨_, rfl, q1.2.2⟩
      · have e2 : ¬ q.1 = nk kd := fun z => e (nk_inj (h x List.mem_cons_self) hk (q11.trans z))
        have e3 : Mx.gets (q :: rs) (nk kd) = Mx.gets rs (nk kd) := by
          unfold Mx.gets
          rw [List.find?_cons_of_neg (by simpa using e2)]
        have e4 : mget (x :: xs) kd = mget xs kd := by
          unfold mget
          rw [List.find?_cons_of_neg (by simpa using e)]
        rw [e3, e4]
        exact ih
theorem pr_del : ∀ {xs : List MEnt} {rs : List Mx.MR}, (∀ x ∈ xs, Thing x.kd) → Thing kd → Paired PR (xs.map MEnt.row) rs → Paired PR ((mdel xs kd).map MEnt.row) (Mx.dels rs (nk kd))
  | [], rs, _, _, p => by
    cases p
    exact .nil
  | x :: xs, rs, h, hk, p => by
    cases p with
    | @cons _ q _ rs q1 t =>
      have ih := pr_del (fun y hy => h y (List.mem_cons_of_mem _ hy)) hk t
      have q11 : nk x.kd = q.1 := q1.1
      by_cases e : x.kd = kd
      · have e2 : q.1 = nk kd := by rw [← q11, e]
        have e3 : Mx.dels (q :: rs) (nk kd) = Mx.dels rs (nk kd) := by
          unfold Mx.dels
          rw [List.filter_cons_of_neg (by simpa using e2)]
        have e4 : mdel (x :: xs) kd = mdel xs kd := by
          unfold mdel
          rw [List.filter_cons_of_neg (by simpa using e)]
        rw [e3, e4]
        exact ih
      · have e2 : ¬ q.1 = nk kd := fun z => e (nk_inj (h x List.mem_cons_self) hk (q11.trans z))
        have e3 : Mx.dels (q :: rs) (nk kd) = q :: Mx.dels rs (nk kd) := by
          unfold Mx.dels
          rw [List.filter_cons_of_pos (by simpa using e2)]
        have e4 : mdel (x :: xs) kd = x :: mdel xs kd := by
          unfold mdel
          rw [List.filter_cons_of_pos (by simpa using e)]
        rw [e3, e4]
        exact .cons q1 ih
theorem pr_keys : ∀ {xs : List MEnt} {rs : List Mx.MR}, (∀ x ∈ xs, Thing x.kd) → Thing kd → Paired PR (xs.map MEnt.row) rs → (kd ∈ xs.map (·.kd) ↔ nk kd ∈ rs.map (·.1))
  | [], rs, _, _, p => by
    cases p
    simp
  | x :: xs, rs, h, hk, p => by
    cases p with
    | @cons _ q _ rs q1 t =>
      have ih := pr_keys (fun y hy => h y (List.mem_cons_of_mem _ hy)) hk t
      have q11 : nk x.kd = q.1 := q1.1
      rw [List.map_cons, List.map_cons, List.mem_cons, List.mem_cons, ih, ← q11]
      refine or_congr ⟨fun z => by rw [z], fun z => nk_inj hk (h x List.mem_cons_self) z⟩ Iff.rfl
theorem pr_set {e : MEnt} {ku vu : Value} (hk : Thing e.kd) (rv : RelV e.v vu) : ∀ {xs : List MEnt} {rs : List Mx.MR}, (∀ x ∈ xs, Thing x.kd) → Paired PR (xs.map MEnt.row) rs → Paired PR ((xs.map (mset e)).map MEnt.row) (rs.map (Mx.setv (nk e.kd) vu))
  | [], rs, _, p => by
    cases p
    exact .nil
  | x :: xs, rs, h, p => by
    cases p with
    | @cons _ q _ rs q1 t =>
      have ih := pr_set (ku := ku) hk rv (fun y hy => h y (List.mem_cons_of_mem _ hy)) t
      have q11 : nk x.kd = q.1 := q1.1
      refine .cons ?_ ih
      by_cases z : x.kd = e.kd
      · have e2 : q.1 = nk e.kd := by rw [← q11, z]
        unfold mset Mx.setv
        rw [if_pos z, if_pos e2]
        exact ⟨q11, q1.2.1, rv⟩
      · have e2 : ¬ q.1 = nk e.kd := fun y => z (nk_inj (h x List.mem_cons_self) hk (q11.trans y))
        unfold mset Mx.setv
        rw [if_neg z, if_neg e2]
        exact q1
theorem pr_app {α β : Type} {R : α → β → Prop} : ∀ {as : List α} {bs : List β} {a : α} {b : β}, Paired R as bs → R a b → Paired R (as ++ [a]) (bs ++ [b])
  | _, _, _, _, .nil, r => .cons r .nil
  | _, _, _, _, .cons q t, r => .cons q (pr_app t r)
theorem pr_put {e : MEnt} {ku vu : Value} (hk : Thing e.kd) (rk : RelV e.k ku) (rv : RelV e.v vu) (h : ∀ x ∈ xs, Thing x.kd) (p : Paired PR (xs.map MEnt.row) rs) : Paired PR ((mput xs e).map MEnt.row) (Mx.sets rs (nk e.kd) ku vu) := by
  unfold mput Mx.sets
  by_cases z : e.kd ∈ xs.map (·.kd)
  · rw [if_pos z, if_pos ((pr_keys h hk p).mp z)]
    exact pr_set (ku := ku) hk rv h p
  · rw [if_neg z, if_neg fun y => z ((pr_keys h hk p).mpr y), List.map_append]
    exact pr_app p ⟨rfl, rk, rv⟩
theorem mput_len (xs : List MEnt) (e : MEnt) : (mput xs e).length ≤ xs.length + 1 := by
  unfold mput
  split
  · rw [List.length_map]
    exact Nat.le_succ _
  · rw [List.length_append]
    exact Nat.le_refl _
theorem mdel_len (xs : List MEnt) (kd : PyData) : (mdel xs kd).length ≤ xs.length := List.length_filter_le _ _
theorem mdel_mem {x : MEnt} (h : x ∈ mdel xs kd) : x ∈ xs := (List.mem_filter.mp h).1
open Classical in
theorem mput_keys (xs : List MEnt) (e : MEnt) : (mput xs e).map (·.kd) = if e.kd ∈ xs.map (·.kd) then xs.map (·.kd) else xs.map (·.kd) ++ [e.kd] := by
  unfold mput
  by_cases z : e.kd ∈ xs.map (·.kd)
  · rw [if_pos z, if_pos z, List.map_map]
    refine List.map_congr_left fun x _ => ?_
    show (mset e x).kd = x.kd
    unfold mset
    split <;> rfl
  · rw [if_neg z, if_neg z, List.map_append]
    rfl
theorem mput_nd {e : MEnt} (h : (xs.map (·.kd)).Nodup) : ((mput xs e).map (·.kd)).Nodup := by
  rw [mput_keys]
  split
  · exact h
  · rename_i z
    rw [List.nodup_append]
    exact ⟨h, by simp, fun a ha b hb y => z (by
      obtain rfl := y.trans (List.mem_singleton.mp hb)
      exact ha)⟩
theorem mdel_nd (h : (xs.map (·.kd)).Nodup) : ((mdel xs kd).map (·.kd)).Nodup := List.Pairwise.sublist (List.Sublist.map _ List.filter_sublist) h
theorem mput_mem {P : MEnt → Prop} {e : MEnt} (h : ∀ x ∈ xs, P x) (he : P e) (hm : ∀ x ∈ xs, P (mset e x)) : ∀ x ∈ mput xs e, P x := fun x hx => by
  unfold mput at hx
  split at hx
  · obtain ⟨y, hy, rfl⟩ := List.mem_map.mp hx
    exact hm y hy
  · rcases List.mem_append.mp hx with z | z
    · exact h x z
    · rw [List.mem_singleton.mp z]
      exact he
end

/-! ### the rules for such a dictionary -/
/-- all but d stays -/
def But (H H' : Hp) (d : Addr) : Prop := ∀ b o, b ≠ d → H b = some o → H' b = some o
theorem But.put {H : Hp} {d : Addr} {o : HO} : But H (upd H d o) d := fun b u n h => by
  rw [upd_ne n]
  exact h
theorem But.trans {H H1 H2 : Hp} {p : Addr} (a : But H H1 p) (b : But H1 H2 p) : But H H2 p := fun c o n e => b c o n (a c o n e)
theorem Same.but {H H' : Hp} {p : Addr} (s : Same H H') : But H H' p := fun c o _ e => s c o e
theorem same_one {H H1 H2 : Hp} {p : Addr} (s : Same H H1) (n : H p = none) (b : But H1 H2 p) : Same H H2 := fun c o e => b c o (ne_of_none e n) (s c o e)
theorem But.tups {H H' : Hp} {d : Addr} (b : But H H' d) (n : ∀ us, H d ≠ some (.tup us)) : Tups H H' := fun a us g => b a _ (fun z => n us (by rw [← z]; exact g)) g
/-- a dictionary is written -/
theorem mx_written {w : World} {H : Hp} {d : Addr} {xs ys : List MEnt} {ep : Nat} (m : MxAt w H d xs) (e : ∀ x ∈ ys, Thing x.kd ∧ Opt x.vd ∧ Dh H x.kd x.k ∧ Dh H x.vd x.v) (nd : (ys.map (·.kd)).Nodup) : MxAt w (upd H d (mxO w d ep (ys.map MEnt.row))) d ys := by
  have t : Tups H (upd H d (mxO w d ep (ys.map MEnt.row))) := Tups.put m.noT
  refine ⟨⟨ep, upd_same⟩, fun x hx => ?_, nd⟩
  obtain ⟨a, b, c, f⟩ := e x hx
  exact ⟨a, b, Dh.tups t _ _ (opt_noL (.inr a)) c, Dh.tups t _ _ (opt_noL b) f⟩
section
variable {X : Cx} {pins : List (Addr × Obj)} {σ : L2.St} {H : Hp} {s : Shared}
theorem mx_inv {d : Addr} {xs ys : List MEnt} {rs : List Mx.MR} {h' : Heap} (I : Inv X pins σ H s) (m : MxAt X.w H d xs) (o : Mx.Of X.w h' d rs) (hl : ys.length ≤ sizeLine) (hd : (d == sysModules) = false) (p : Paired PR (ys.map MEnt.row) rs) (sb : Heap.SameBut d s.heap h')
    (e : ∀ x ∈ ys, Thing x.kd ∧ Opt x.vd ∧ Dh H x.kd x.k ∧ Dh H x.vd x.v) (nd : (ys.map (·.kd)).Nodup) (t : Nat) : ∃ H', Inv X pins σ H' { s with heap := h', toks := t } ∧ MxAt X.w H' d ys ∧ But H H' d := by
  obtain ⟨ep0, g⟩ := m.g
  obtain ⟨ep, oe⟩ := o
  have mu : Mut (H d) := by
    rw [g]
    trivial
  refine ⟨upd H d (mxO X.w d ep (ys.map MEnt.row)), I.write (x := d) (e := d) mu (.inl rfl) (fun b q hb z => (sb.2 b hb).trans z) ?_ (mxO_ok (by rw [List.length_map]; exact hl) hd oe p), mx_written m e nd, But.put⟩
  obtain ⟨ob, _, ho, _⟩ := oe
  exact ⟨ob, ho⟩
end
def rInM (w : World) (neg : Bool) : R2 := fun x y H Q => ∃ (d : Addr) (xs : List MEnt) (kd : PyData), y = .ref d ∧ MxAt w H d xs ∧ Thing kd ∧ Dh H kd x ∧ ((mget xs kd).isSome = true → Q (.bl (!neg)) H) ∧ (mget xs kd = none → Q (.bl neg) H)
def rIxM (w : World) : R2 := fun x y H Q => ∃ (d : Addr) (xs : List MEnt) (kd : PyData) (e : MEnt), x = .ref d ∧ MxAt w H d xs ∧ Thing kd ∧ Dh H kd y ∧ mget xs kd = some e ∧ Q e.v H
def rGetM (w : World) : V → List V → Hp → VK → Prop := fun x xs H Q => ∃ (d : Addr) (es : List MEnt) (kd : PyData) (k : V), x = .ref d ∧ xs = [k] ∧ MxAt w H d es ∧ Thing kd ∧ Dh H kd k ∧ (mget es kd = none → Q .non H) ∧ ∀ e, mget es kd = some e → Q e.v H
def rPopM (w : World) : V → List V → Hp → VK → Prop := fun x xs H Q => ∃ (d : Addr) (es : List MEnt) (kd : PyData) (k : V) (ms : List V), x = .ref d ∧ xs = k :: ms ∧ (ms = [] ∨ ∃ y, ms = [y]) ∧ MxAt w H d es ∧ Thing kd ∧ Dh H kd k ∧ (mget es kd = none → ∃ y, ms = [y] ∧ Q y H) ∧ ∀ e, mget es kd = some e → ∀ H', MxAt w H' d (mdel es kd) → But H H' d → Q e.v H'
def rSetM (w : World) : TSet := fun o i v H Q => ∃ (d : Addr) (xs : List MEnt) (kd vd : PyData), o = .ref d ∧ MxAt w H d xs ∧ Thing kd ∧ Dh H kd i ∧ Opt vd ∧ Dh H vd v ∧ xs.length < sizeLine ∧ ∀ H', MxAt w H' d (mput xs ⟨kd, vd, i, v⟩) → But H H' d → Q H'
def rDelM (w : World) (o i : V) (H : Hp) (Q : Hp → Prop) : Prop := ∃ (d : Addr) (xs : List MEnt) (kd : PyData), o = .ref d ∧ MxAt w H d xs ∧ Thing kd ∧ Dh H kd i ∧ (mget xs kd).isSome = true ∧ ∀ H', MxAt w H' d (mdel xs kd) → But H H' d → Q H'
def rLenM (w : World) : List V → Hp → VK → Prop := fun xs H Q => ∃ (d : Addr) (es : List MEnt), xs = [.ref d] ∧ MxAt w H d es ∧ Q (.int es.length) H
def kitO (it d : Addr) (i n ep : Nat) : HO := .ext fun h => h.IsKeyIter it d i n ep
def rIterM (w : World) : List V → Hp → VK → Prop := fun xs H Q => ∃ (d : Addr) (es : List MEnt), xs = [.ref d] ∧ MxAt w H d es ∧ ∀ it ep, H d = some (mxO w d ep (es.map MEnt.row)) → H it = none → Q (.ref it) (upd H it (kitO it d 0 es.length ep))
def rNextM (w : World) : List V → Hp → VK → Prop := fun xs H Q => ∃ (it d : Addr) (es : List MEnt) (ep i : Nat) (e : MEnt) (y : V), xs = [.ref it, y] ∧ H it = some (kitO it d i es.length ep) ∧ H d = some (mxO w d ep (es.map MEnt.row)) ∧ es[i]? = some e ∧ Q e.k (upd H it (kitO it d (i + 1) es.length ep))
def rItemsM (w : World) : V → List V → Hp → VK → Prop := fun x xs H Q => ∃ (d : Addr) (es : List MEnt), x = .ref d ∧ xs = [] ∧ MxAt w H d es ∧ ∀ p, H p = none → Q (.ref p) (upd H p (L2.DX.itemsO p d))
def pairD (e : MEnt) : PyData := .tuple [e.kd, e.vd]
def rListM (w : World) : List V → Hp → VK → Prop := fun xs H Q => ∃ (p d : Addr) (es : List MEnt), xs = [.ref p] ∧ H p = some (L2.DX.itemsO p d) ∧ MxAt w H d es ∧ ∀ (H' : Hp) (l : Addr) (us : List V), Same H H' → H l = none → H' l = some (.lst us) → DhAll H' (es.map pairD) us → Q (.ref l) H'
def isMx (w : World) (x : V) (H : Hp) : Prop := ∃ (d : Addr) (es : List MEnt), x = .ref d ∧ MxAt w H d es
def tBX (w : World) (r : V → List V → Hp → VK → Prop) (to : TE) (t : TA) : TE := fun σ H Q => to σ H fun x H1 => isMx w x H1 ∧ t σ H1 fun xs H2 => r x xs H2 Q
def tBX0 (w : World) (r : V → List V → Hp → VK → Prop) (to : TE) : TE := fun σ H Q => to σ H fun x H1 => isMx w x H1 ∧ r x [] H1 Q
def tDelM (w : World) (td ty : TE) : TS := fun D σ H => td σ H fun x H1 => ty σ H1 fun y H2 => rDelM w x y H2 fun H3 => D.nx σ H3
def tNewM (w : World) : TE := fun _ H Q => ∀ d H', MxAt w H' d [] → H d = none → Same H H' → (∀ b, b ≠ d → H' b = H b) → Q (.ref d) H'
theorem kitO_ok {P : Program} {w : World} {H : Hp} {h : Heap} {it d : Addr} {i n ep : Nat} (e : h.IsKeyIter it d i n ep) : ObjOk P w H h it (kitO it d i n ep) := by
  obtain ⟨o, ho, hc, hd⟩ := e
  exact ⟨⟨o, ho, hc, hd⟩, ⟨o, ho⟩, fun h1 h2 ⟨o, ho, r⟩ k => ⟨o, k o ho, r⟩⟩
section
variable {X : Cx}
theorem rel_some {xs : List MEnt} {kd : PyData} {rs : List Mx.MR} (p : Paired PR (xs.map MEnt.row) rs) (h : ∀ x ∈ xs, Thing x.kd) (hk : Thing kd) : (Mx.gets rs (nk kd)).isSome = (mget xs kd).isSome := by
  obtain ⟨h1, h2⟩ := pr_get h hk p
  cases e : mget xs kd with
  | none =>
    rw [h1 e]
    rfl
  | some x =>
    obtain ⟨u, e2, _⟩ := h2 x e
    rw [e2]
    rfl
theorem op_inM {w : World} (hw : X.w = w) (hu : X.A.units + 64 < cLine) : OpR X (compareOp .In) (rInM w false) := by
  subst hw
  intro pins s σ H x y v u Q I rx ry h
  obtain ⟨d, xs, kd, rfl, m, hk, hx, q1, q2⟩ := h
  cases ry
  obtain ⟨rs, o, ks, p, z, hd⟩ := mx_rows I m
  obtain ⟨n1, n2⟩ := key_nest I hk hx rx
  have rs' := rel_some p (fun x hx => (m.e x hx).1) hk
  refine Mx.mx_in (neg := false) (by omega) n1 n2 hd o ks fun t => ⟨.bl (mget xs kd).isSome, H, I.tok t, ?_, ?_⟩
  · rw [rs', Bool.bne_false]
    rfl
  · cases e : mget xs kd with
    | none => exact q2 e
    | some _ => exact q1 (by rw [e]; rfl)
theorem op_notinM {w : World} (hw : X.w = w) (hu : X.A.units + 64 < cLine) : OpR X (compareOp .NotIn) (rInM w true) := by
  subst hw
  intro pins s σ H x y v u Q I rx ry h
  obtain ⟨d, xs, kd, rfl, m, hk, hx, q1, q2⟩ := h
  cases ry
  obtain ⟨rs, o, ks, p, z, hd⟩ := mx_rows I m
  obtain ⟨n1, n2⟩ := key_nest I hk hx rx
  have rs' := rel_some p (fun x hx => (m.e x hx).1) hk
  refine Mx.mx_in (neg := true) (by omega) n1 n2 hd o ks fun t => ⟨.bl (!(mget xs kd).isSome), H, I.tok t, ?_, ?_⟩
  · rw [rs', Bool.bne_true]
    rfl
  · cases e : mget xs kd with
    | none => exact q2 e
    | some _ => exact q1 (by rw [e]; rfl)
theorem ix_mx {w : World} (hw : X.w = w) (hu : X.A.units + 64 < cLine) : IxR X (rIxM w) := by
  subst hw
  intro value slice pins s σ H x y v u Q I rx ry h hs
  obtain ⟨d, xs, kd, e, rfl, m, hk, hy, he, q⟩ := h
  cases rx
  obtain ⟨rs, o, ks, p, z, hd⟩ := mx_rows I m
  obtain ⟨n1, n2⟩ := key_nest I hk hy ry
  obtain ⟨u', e1, r1⟩ := (pr_get (fun x hx => (m.e x hx).1) hk p).2 e he
  exact subscriptTail_builtinR (x := u') o.typeIs PySem.F.slot_dict_getitem.lookup (Mx.mx_item (Q := fun r s' => r = u' ∧ EP X pins σ Q r s') (by omega) n1 n2 o ks e1 fun t => ⟨rfl, e.v, H, I.tok t, r1, q⟩) hs
theorem mt_getM {w : World} (hw : X.w = w) (hu : X.A.units + 64 < cLine) : MtR X "dict.get" (rGetM w) := by
  subst hw
  intro pins s σ H x xs v us Q I rx rxs h
  obtain ⟨d, es, kd, k, rfl, rfl, m, hk, hx, q1, q2⟩ := h
  cases rx
  obtain ⟨u, rfl, ru⟩ := vals1 rxs
  obtain ⟨rs, o, ks, p, z, hd⟩ := mx_rows I m
  obtain ⟨n1, n2⟩ := key_nest I hk hx ru
  obtain ⟨g1, g2⟩ := pr_get (fun x hx => (m.e x hx).1) hk p
  refine Mx.mx_getM (by omega) n1 n2 hd o ks (PySem.F.args_dict_get_2 _ _) fun t => ?_
  cases e : mget es kd with
  | none =>
    rw [g1 e]
    exact ⟨.non, H, I.tok t, rfl, q1 e⟩
  | some x =>
    obtain ⟨u', e1, r1⟩ := g2 x e
    rw [e1]
    exact ⟨x.v, H, I.tok t, r1, q2 x e⟩
theorem mt_popM {w : World} (hw : X.w = w) (hu : X.A.units + 64 < cLine) : MtR X "dict.pop" (rPopM w) := by
  subst hw
  intro pins s σ H x xs v us Q I rx rxs h
  obtain ⟨d, es, kd, k, ms, rfl, rfl, hms, m, hk, hx, q1, q2⟩ := h
  cases rx
  cases rxs with
  | @cons _ u _ us ru rs2 =>
    obtain ⟨rs, o, ks, p, z, hd⟩ := mx_rows I m
    obtain ⟨n1, n2⟩ := key_nest I hk hx ru
    obtain ⟨g1, g2⟩ := pr_get (fun x hx => (m.e x hx).1) hk p
    have more : us = [] ∨ ∃ y, us = [y] := by
      rcases hms with rfl | ⟨y, rfl⟩
      · cases rs2
        exact .inl rfl
      · obtain ⟨y', rfl, _⟩ := vals1 rs2
        exact .inr ⟨y', rfl⟩
    have args : argsOk "dict.pop" ⟨.ref d :: u :: us, []⟩ := by
      rcases more with rfl | ⟨y, rfl⟩
      · exact PySem.F.args_dict_pop_2 _ _
      · exact PySem.F.args_dict_pop_3 _ _ _
    refine Mx.mx_pop more args (by omega) n1 n2 hd o ks z (fun v e h' t o' ks' sb => ?_) (fun e => ?_)
    · cases em : mget es kd with
      | none =>
        rw [g1 em] at e
        cases e
      | some x =>
        obtain ⟨u', e1, r1⟩ := g2 x em
        rw [e1] at e
        cases e
        obtain ⟨H', I', m', b'⟩ := mx_inv (ys := mdel es kd) I m o' (by
          have := mdel_len es kd
          have := Paired.length p
          rw [List.length_map] at this
          omega) hd (pr_del (fun x hx => (m.e x hx).1) hk p) sb (fun x hx => m.e x (mdel_mem hx)) (mdel_nd m.nd) t
        exact ⟨x.v, H', I', r1, q2 x em H' m' b'⟩
    · cases em : mget es kd with
      | some x =>
        obtain ⟨u', e1, _⟩ := g2 x em
        rw [e1] at e
        cases e
      | none =>
        obtain ⟨y, rfl, q⟩ := q1 em
        obtain ⟨y', rfl, ry⟩ := vals1 rs2
        exact ⟨y', rfl, fun t => ⟨y, H, I.tok t, ry, q⟩⟩
theorem set_mx {w : World} (hw : X.w = w) (hu : X.A.units + 64 < cLine) : PSet X (rSetM w) := by
  subst hw
  intro pins s σ H o i v ov iv u Q I ro ri rv h
  obtain ⟨d, xs, kd, vd, rfl, m, hk, hx, hv, hxv, hl, q⟩ := h
  cases ro
  obtain ⟨rs, ob, ks, p, z, hd⟩ := mx_rows I m
  obtain ⟨n1, n2⟩ := key_nest I hk hx ri
  refine Mx.mx_put (by omega) n1 n2 ob ks z fun h' t o' ks' sb => ?_
  obtain ⟨H', I', m', b'⟩ := mx_inv (ys := mput xs ⟨kd, vd, i, v⟩) I m o' (by
    have := mput_len xs ⟨kd, vd, i, v⟩
    omega) hd (pr_put (e := ⟨kd, vd, i, v⟩) hk ri rv (fun x hx => (m.e x hx).1) p) sb (mput_mem m.e ⟨hk, hv, hx, hxv⟩ fun x hx => by
      obtain ⟨a, b, c, f⟩ := m.e x hx
      unfold mset
      split
      · exact ⟨a, hv, c, hxv⟩
      · exact ⟨a, b, c, f⟩) (mput_nd m.nd) t
  exact ⟨H', I', q H' m' b'⟩
theorem call_lenM {w : World} (hw : X.w = w) : CallR X (.builtin "len") (rLenM w) := by
  subst hw
  intro pins s σ H xs us Q I r h
  obtain ⟨d, es, rfl, m, q⟩ := h
  rw [Vals.ref1 r]
  obtain ⟨rs, o, ks, p, z, hd⟩ := mx_rows I m
  have e := Paired.length p
  rw [List.length_map] at e
  refine Mx.mx_len hd o z fun t u => ⟨.int es.length, H, I.tok t, ⟨u, by rw [e]⟩, q⟩
theorem call_iterM {w : World} (hw : X.w = w) : CallR X (.builtin "iter") (rIterM w) := by
  subst hw
  intro pins s σ H xs us Q I r h
  obtain ⟨d, es, rfl, m, q⟩ := h
  rw [Vals.ref1 r]
  obtain ⟨ep, g⟩ := m.g
  obtain ⟨⟨z, hd, rs, o, p⟩, _⟩ := I.hok d _ g
  have e := Paired.length p
  rw [List.length_map] at e
  refine Mx.mx_iter hd o ?_
  refine ⟨.ref s.heap.objs.size, _, I.laid (t' := s.toks) (fun b u e => Heap.get?_push_of_some _ e) (Nat.le_refl _) (kitO_ok ?_), rfl, q _ ep g (I.hok.fresh (Nat.le_refl _))⟩
  rw [e]
  exact ⟨_, Heap.get?_push_size _ rfl, rfl, rfl⟩
theorem call_nextM {w : World} (hw : X.w = w) : CallR X (.builtin "next") (rNextM w) := by
  subst hw
  intro pins s σ H xs us Q I r h
  obtain ⟨it, d, es, ep, i, e, y, rfl, gi, gd, he, q⟩ := h
  cases r with
  | @cons _ u1 _ us r1 r2 =>
    obtain ⟨u2, rfl, _⟩ := vals1 r2
    obtain rfl : u1 = Value.ref it := r1
    obtain ⟨⟨z, hd, rs, o, p⟩, _⟩ := I.hok d _ gd
    have kit : s.heap.IsKeyIter it d i es.length ep := (I.hok it _ gi).1
    have el := Paired.length p
    rw [List.length_map] at el
    obtain ⟨r, hr, rr⟩ : ∃ r, rs[i]? = some r ∧ PR e.row r := by
      have gen : ∀ {as : List MEnt} {rs : List Mx.MR} {i : Nat}, Paired PR (as.map MEnt.row) rs → as[i]? = some e → ∃ r, rs[i]? = some r ∧ PR e.row r := fun {as} => by
        induction as with
        | nil => intro rs i _ h; simp at h
        | cons a as ih =>
          intro rs i p h
          cases p with
          | cons qq t =>
            cases i with
            | zero =>
              obtain rfl : a = e := by simpa using h
              exact ⟨_, rfl, qq⟩
            | succ i => exact ih (i := i) t (by simpa using h)
      exact gen p he
    rw [el] at kit
    refine Mx.mx_next kit o hr fun h' k' sb => ?_
    have mu : Mut (H it) := by
      rw [gi]
      trivial
    rw [← el] at k'
    have he' : ∃ u, h'.get? it = some u := by
      obtain ⟨o, ho, _⟩ := k'
      exact ⟨o, ho⟩
    exact ⟨e.k, _, I.write (x := it) (e := it) (t' := s.toks) mu (.inl rfl) (fun b o nb z => (sb.2 b nb).trans z) he' (kitO_ok k'), rr.2.1, q⟩
theorem mt_itemsM {w : World} (hw : X.w = w) : MtR X "dict.items" (rItemsM w) := by
  subst hw
  intro pins s σ H x xs v us Q I rx rxs h
  obtain ⟨d, es, rfl, rfl, m, q⟩ := h
  cases rx
  cases rxs
  obtain ⟨rs, ⟨ep, o, ob, ho, hc, hdat, _⟩, _, _, _, hd⟩ := mx_rows I m
  refine DT.callItems (es := ob) (ep := ep) hd ⟨o, ho, hc, hdat⟩ ?_
  exact ⟨.ref _, upd H _ (L2.DX.itemsO _ d), I.laid (t' := s.toks) (fun b u e => Heap.get?_push_of_some _ e) (Nat.le_refl _) (L2.DX.itemsO_ok (Heap.get?_push_size _ rfl)), rfl, q _ (I.hok.fresh (Nat.le_refl _))⟩
end

/-! ### calls of its methods, del, {}, list(d.items()) -/
theorem pr_at {α β γ : Type} {F : β → γ → Prop} {f : α → β} : ∀ {xs : List α} {ys : List γ}, Paired F (xs.map f) ys → ∀ {j : Nat} {y : γ}, ys[j]? = some y → ∃ x, xs[j]? = some x ∧ F (f x) y
  | [], _, .nil, j, y, h => by simp at h
  | x :: xs, _, .cons r t, 0, y, h => by
    obtain rfl := Option.some.inj h
    exact ⟨x, rfl, r⟩
  | x :: xs, _, .cons r t, j + 1, y, h => pr_at t (by simpa using h)
theorem dhAll_at {H : Hp} : ∀ {ds : List PyData} {as : List Addr}, as.length = ds.length → (∀ (j : Nat) a d, as[j]? = some a → ds[j]? = some d → Dh H d (.ref a)) → DhAll H ds (as.map V.ref)
  | [], [], _, _ => rfl
  | [], _ :: _, h, _ => by cases h
  | _ :: _, [], h, _ => by cases h
  | d :: ds, a :: as, h, g => ⟨.ref a, as.map V.ref, rfl, g 0 a d rfl rfl, dhAll_at (by simpa using h) fun j b e h1 h2 => g (j + 1) b e (by simpa using h1) (by simpa using h2)⟩
section
variable {X : Cx}
theorem isMx_is {pins : List (Addr × Obj)} {σ : L2.St} {H : Hp} {s : Shared} {x : V} {v : Value} (I : Inv X pins σ H s) (rv : RelV x v) (h : isMx X.w x H) : s.TypeIs v "dict" ∧ ∀ a, v = .ref a → ∃ ob, s.heap.get? a = some ob ∧ ob.dict = none := by
  obtain ⟨d, es, rfl, m⟩ := h
  obtain rfl : v = Value.ref d := rv
  obtain ⟨rs, ⟨ep, o, ob, ho, hc, _⟩, _⟩ := mx_rows I m
  refine ⟨⟨o, ho, hc.1⟩, fun a e => ?_⟩
  cases e
  exact ⟨o, ho, hc.2.1⟩
variable {o e : Expr} {es : List Expr} {to : TE} {t : TA} {name : Str} {apos cpos : Pos} {id : String} {r : V → List V → Hp → VK → Prop} {w : World}
theorem pe_bx0 (hw : X.w = w) (pa : PlainAttrs "dict") (slot : Slot "dict" name id) (ty : typeOf (.builtin id) = pure (.type "method_descriptor")) (hm : MtR X id r) (ho : PE X o to) (h1 : attributeBase o name X.env (eval o X.env) = eval o X.env := by rfl) (h2 : (apos.endLine == cpos.line) = true := by rfl) :
    PE X (.Call (.Attribute o name apos) [] [] cpos) (tBX0 w r to) := by
  subst hw
  refine ⟨fun pins s σ H Q I z => wpAny_Call_method0_late h1 h2 (thn (ho.run pins s σ H _ I z) fun v s1 ⟨x, H1, I1, rx, mx, q⟩ => ?_)⟩
  obtain ⟨t1, t2⟩ := isMx_is I1 rx mx
  exact ⟨"dict", id, pa, slot, ty, t1, t2, Calls.callWith_builtin rfl (PySem.evalArgs_none (hm pins s1 σ H1 x [] v [] Q I1 rx .nil q))⟩
theorem pe_bx (hw : X.w = w) (pa : PlainAttrs "dict") (slot : Slot "dict" name id) (ty : typeOf (.builtin id) = pure (.type "method_descriptor")) (hm : MtR X id r) (ho : PE X o to) (ha : PA X (e :: es) t) (h1 : attributeBase o name X.env (eval o X.env) = eval o X.env := by rfl)
    (h2 : ((backTo cpos (starEach (e :: es) X.env)).all (fun x => !x.1) && (backToKw cpos (keywordEach [] X.env)).all (fun x => x.1.isSome) && decide ((e :: es).length + ([] : List Keyword).length + (if ([] : List Keyword).isEmpty then 0 else 1) < 30)) = true := by rfl)
    (h3 : (apos.endLine == cpos.line) = true := by rfl) (h4 : starEach (e :: es) X.env = (false, eval e X.env) :: starEach es X.env := by rfl) (h5 : (backTo cpos (starEach es X.env)).any (·.1) = false := by rfl) :
    PE X (.Call (.Attribute o name apos) (e :: es) [] cpos) (tBX w r to t) := by
  subst hw
  refine ⟨fun pins s σ H Q I z => wpAny_Call_method_late h1 h2 h3 rfl (thn (ho.run pins s σ H _ I z) fun v s1 ⟨x, H1, I1, rx, mx, q⟩ => ?_)⟩
  obtain ⟨t1, t2⟩ := isMx_is I1 rx mx
  refine ⟨"dict", id, pa, slot, ty, t1, t2, ?_⟩
  have run := ha.run cpos pins s1 σ H1 _ I1 q
  rw [h4] at run ⊢
  exact Calls.callWith_builtin (by show (false || (backTo cpos (starEach es X.env)).any (·.1)) = false; rw [h5]; rfl) (Calls.evalArgs_plain (thn run fun us s2 ⟨vs, H2, I2, rs, q2⟩ => hm pins s2 σ H2 x vs v us Q I2 rx rs q2))
theorem ps_delM {i : Expr} {td ty : TE} {tpos pos : Pos} (hw : X.w = w) (hu : X.A.units + 64 < cLine) (ho : PE X o td) (hi : PE X i ty) : PS X (.Delete [.Subscript o i tpos] pos) (tDelM w td ty) := by
  subst hw
  refine ⟨fun pins s σ H D I h => wpAny_Delete (wpAny_deleteEach_cons (wpAny_delete_Subscript (thn (ho.run pins s σ H _ I h) fun u s1 ⟨x, H1, I1, rx, q1⟩ => thn (hi.run pins s1 σ H1 _ I1 q1) fun iv s2 ⟨y, H2, I2, ry, d, xs, kd, e1, m, hk, hy, hs, q2⟩ => ?_)))⟩
  subst e1
  obtain rfl : u = Value.ref d := rx
  obtain ⟨rs, ob, ks, p, z, hd⟩ := mx_rows I2 m
  obtain ⟨n1, n2⟩ := key_nest I2 hk hy ry
  obtain ⟨en, em⟩ := Option.isSome_iff_exists.mp hs
  obtain ⟨vu, ev, _⟩ := (pr_get (fun x hx => (m.e x hx).1) hk p).2 en em
  refine Mx.mx_del (by omega) n1 n2 hd ob ks z ev fun h' tk o' ks' sb => wpAny_deleteEach_nil ?_
  obtain ⟨H', I', m', b'⟩ := mx_inv (ys := mdel xs kd) I2 m o' (by
    have := mdel_len xs kd
    have := Paired.length p
    rw [List.length_map] at this
    omega) hd (pr_del (fun x hx => (m.e x hx).1) hk p) sb (fun x hx => m.e x (mdel_mem hx)) (mdel_nd m.nd) tk
  exact ⟨σ, H', I', q2 H' m' b'⟩
theorem pe_dnewM {pos : Pos} (hw : X.w = w) : PE X (.Dict [] [] pos) (tNewM w) := by
  subst hw
  refine ⟨fun pins s σ H Q I h => wpAny_Dict_empty ?_⟩
  have oe : Mx.OfE X.w (s.heap.push { cls := .type "dict", data := .dict #[] }) s.heap.objs.size 0 [] := ⟨_, #[], Heap.get?_push_size _ rfl, ⟨rfl, rfl, rfl⟩, rfl, rfl⟩
  have ne : (s.heap.objs.size == sysModules) = false := beq_eq_false_iff_ne.mpr (Nat.ne_of_gt I.big)
  have nf := I.hok.fresh (Nat.le_refl s.heap.objs.size)
  exact ⟨.ref s.heap.objs.size, _, I.laid (t' := s.toks) (fun _ _ q => Heap.get?_push_of_some _ q) (Nat.le_refl _) (mxO_ok (w := X.w) (ep := 0) (rows := []) (Nat.zero_le _) ne oe .nil), rfl, h _ _ ⟨⟨0, upd_same⟩, by simp, List.nodup_nil⟩ nf (same_upd nf) fun b hb => upd_ne hb⟩
theorem call_listM (hw : X.w = w) (hc : X.calm = true) : CallR X (.type "list") (rListM w) := by
  subst hw
  intro pins s σ H vs us Q I r h
  obtain ⟨p, d, es, rfl, gp, m, q⟩ := h
  rw [Vals.ref1 r]
  have view : s.heap.IsItemsView p d := (I.hok p _ gp).1
  obtain ⟨rs, ⟨ep, o, ob, ho, hx, hdat, he⟩, ks, pr, z, hd⟩ := mx_rows I m
  have sz : ob.size = rs.length := by rw [← Array.length_toList, he, List.length_map]
  have el := Paired.length pr
  rw [List.length_map] at el
  refine Mx.mx_list (es := ob) (ep := ep) (I.ok.hd hc) view ⟨o, ho, hx, hdat⟩ (by omega) fun h' tk acc c as q1 q2 q3 q4 q5 => ?_
  have nd : as.Nodup := List.Pairwise.imp (fun h => Nat.ne_of_lt h) q4.rise
  have made : ∀ (j : Nat) (t : Addr), as[j]? = some t → ∃ (e : MEnt) (ku vu : Value), es[j]? = some e ∧ h'.get? t = some { cls := .type "tuple", data := .seq #[ku, vu] } ∧ RelV e.k ku ∧ RelV e.v vu ∧ e ∈ es := fun j t hj => by
    obtain ⟨en, h1, h2⟩ := q4.pairs j t hj
    rw [← Array.getElem?_toList, he, List.getElem?_map] at h1
    obtain ⟨r, hr, rfl⟩ := Option.map_eq_some_iff.mp h1
    obtain ⟨e, h3, h4⟩ := pr_at pr hr
    exact ⟨e, _, _, h3, h2, h4.2.1, h4.2.2, List.mem_of_getElem? h3⟩
  have nL : H s.heap.objs.size = none := I.hok.fresh (Nat.le_refl _)
  have I1 : Inv X pins σ H { s with heap := h', toks := tk } := I.kept (t' := tk) q1
  have I2 : Inv X pins σ (upd H s.heap.objs.size (.lst (as.map V.ref))) { s with heap := h', toks := tk } :=
    I1.take (h' := h') (t' := tk) (fun b ob _ e => e) (I.fpOk (Nat.le_refl _) nL) ⟨by rw [List.length_map]; omega, acc.toList, c, by rw [q5]; exact vals_maps V.ref Value.ref as fun _ _ => rfl, q2⟩
  obtain ⟨H2, I3, kH, tH⟩ := L2.DX.takeT (P := fun t ts => ∃ (j : Nat) (e : MEnt), as[j]? = some t ∧ es[j]? = some e ∧ ts = [e.k, e.v] ∧ e ∈ es) I as _ I2 nd fun t ht => by
    obtain ⟨j, hj⟩ := List.mem_iff_getElem?.mp ht
    obtain ⟨e, ku, vu, h1, h2, rk, rv, hm⟩ := made j t hj
    have hb := q4.above t ht
    refine ⟨Nat.le_of_lt hb, ?_, _, ⟨j, e, hj, h1, rfl, hm⟩, fun H3 => ⟨by rw [sizeLine_eq]; show 2 ≤ 16777216; omega, [ku, vu], .cons rk (.cons rv .nil), ⟨_, h2, rfl, 0, rfl⟩⟩⟩
    rw [upd_ne (Nat.ne_of_gt hb)]
    exact I.hok.fresh (Nat.le_of_lt hb)
  have sm : Same H H2 := fun b ob e => kH b ob (by rw [upd_ne (ne_of_none e nL)]; exact e)
  refine ⟨.ref s.heap.objs.size, H2, I3, rfl, q H2 s.heap.objs.size _ sm nL (kH _ _ upd_same) ?_⟩
  refine dhAll_at (by rw [List.length_map]; omega) fun j a dd h1 h2 => ?_
  obtain ⟨ts, ⟨i, e, i1, i2, rfl, hm⟩, hH⟩ := tH a (List.mem_of_getElem? h1)
  obtain rfl : i = j := (List.getElem?_inj (List.getElem?_eq_some_iff.mp i1).1 nd).mp (i1.trans h1.symm)
  rw [List.getElem?_map, i2] at h2
  rw [← Option.some.inj h2]
  obtain ⟨_, _, k1, k2⟩ := m.e e hm
  exact ⟨a, _, rfl, hH, _, _, rfl, Dh.mono sm _ _ k1, _, _, rfl, Dh.mono sm _ _ k2, rfl⟩
end

/-! ### entries as data -/
abbrev DE := PyData × PyData
def MEnt.dat (e : MEnt) : DE := (e.kd, e.vd)
open Classical in
noncomputable def eget (es : List DE) (k : PyData) : Option PyData := (es.find? fun e => decide (e.1 = k)).map (·.2)
open Classical in
noncomputable def edel (es : List DE) (k : PyData) : List DE := es.filter fun e => decide (e.1 ≠ k)
theorem eget_dat (xs : List MEnt) (k : PyData) : (mget xs k).map (·.vd) = eget (xs.map MEnt.dat) k := by
  unfold mget eget
  rw [List.find?_map, Option.map_map]
  rfl
theorem edel_dat (xs : List MEnt) (k : PyData) : (mdel xs k).map MEnt.dat = edel (xs.map MEnt.dat) k := by
  unfold mdel edel
  rw [List.filter_map]
  rfl
theorem keys_dat (xs : List MEnt) : (xs.map MEnt.dat).map (·.1) = xs.map (·.kd) := by
  rw [List.map_map]
  rfl
theorem mget_dat_none {xs : List MEnt} {k : PyData} : mget xs k = none ↔ eget (xs.map MEnt.dat) k = none := by
  rw [← eget_dat, Option.map_eq_none_iff]
theorem mget_dat_some {xs : List MEnt} {k : PyData} {e : MEnt} (h : mget xs k = some e) : eget (xs.map MEnt.dat) k = some e.vd := by
  rw [← eget_dat, h]
  rfl
theorem mget_mem {xs : List MEnt} {k : PyData} {e : MEnt} (h : mget xs k = some e) : e ∈ xs ∧ e.kd = k := by
  unfold mget at h
  refine ⟨List.mem_of_find?_eq_some h, ?_⟩
  have := List.find?_some h
  simpa using this
theorem mget_in {xs : List MEnt} {k : PyData} : (mget xs k).isSome = true ↔ k ∈ xs.map (·.kd) := by
  constructor
  · intro h
    obtain ⟨e, he⟩ := Option.isSome_iff_exists.mp h
    obtain ⟨h1, h2⟩ := mget_mem he
    exact List.mem_map.mpr ⟨e, h1, h2⟩
  · intro h
    obtain ⟨e, h1, h2⟩ := List.mem_map.mp h
    cases z : mget xs k with
    | some _ => rfl
    | none =>
      have := List.find?_eq_none.mp (show xs.find? _ = none from z) e h1
      simp at this
      exact absurd h2 this
theorem mdel_not {xs : List MEnt} {k : PyData} : k ∉ (mdel xs k).map (·.kd) := fun h => by
  obtain ⟨e, h1, h2⟩ := List.mem_map.mp h
  have := (List.mem_filter.mp h1).2
  simp at this
  exact this h2
theorem mdel_none {xs : List MEnt} {k : PyData} (h : mget xs k = none) : mdel xs k = xs := by
  refine List.filter_eq_self.mpr fun x hx => ?_
  have := List.find?_eq_none.mp (show xs.find? _ = none from h) x hx
  simp at this
  simpa using this
theorem mput_new {xs : List MEnt} {e : MEnt} (h : e.kd ∉ xs.map (·.kd)) : mput xs e = xs ++ [e] := by
  unfold mput
  rw [if_neg h]
theorem mdel_head {x : MEnt} {xs : List MEnt} (nd : ((x :: xs).map (·.kd)).Nodup) : mdel (x :: xs) x.kd = xs := by
  have n := List.nodup_cons.mp (show (x.kd :: xs.map (·.kd)).Nodup from nd)
  unfold mdel
  rw [List.filter_cons_of_neg (by simp)]
  refine List.filter_eq_self.mpr fun y hy => ?_
  have : ¬ y.kd = x.kd := fun z => n.1 (List.mem_map.mpr ⟨y, hy, z⟩)
  simpa using this
theorem edel_none {es : List DE} {k : PyData} (h : eget es k = none) : edel es k = es := by
  refine List.filter_eq_self.mpr fun x hx => ?_
  unfold eget at h
  rw [Option.map_eq_none_iff] at h
  have := List.find?_eq_none.mp h x hx
  simp at this
  simpa using this
theorem mdel_same {xs : List MEnt} {k : PyData} {e : MEnt} (h : e.kd = k) : mdel (xs ++ [e]) k = mdel xs k := by
  unfold mdel
  rw [List.filter_append, List.filter_cons_of_neg (by simpa using h)]
  simp
theorem mdel_lt {xs : List MEnt} {k : PyData} (h : (mget xs k).isSome = true) : (mdel xs k).length < xs.length := by
  refine Nat.lt_of_le_of_ne (mdel_len xs k) fun z => ?_
  have z2 : mdel xs k = xs := List.Sublist.eq_of_length List.filter_sublist z
  have := mdel_not (xs := xs) (k := k)
  rw [z2] at this
  exact this (mget_in.mp h)
theorem eget_nil (k : PyData) : eget [] k = none := rfl
theorem eget_pos {e : DE} {es : List DE} {k : PyData} (h : e.1 = k) : eget (e :: es) k = some e.2 := by
  unfold eget
  rw [List.find?_cons_of_pos (by simpa using h)]
  rfl
theorem eget_neg {e : DE} {es : List DE} {k : PyData} (h : ¬ e.1 = k) : eget (e :: es) k = eget es k := by
  unfold eget
  rw [List.find?_cons_of_neg (by simpa using h)]
theorem edel_pos {e : DE} {es : List DE} {k : PyData} (h : e.1 = k) : edel (e :: es) k = edel es k := by
  unfold edel
  rw [List.filter_cons_of_neg (by simpa using h)]
theorem edel_neg {e : DE} {es : List DE} {k : PyData} (h : ¬ e.1 = k) : edel (e :: es) k = e :: edel es k := by
  unfold edel
  rw [List.filter_cons_of_pos (by simpa using h)]
theorem eget_none : ∀ {es : List DE} {k : PyData}, eget es k = none ↔ ∀ e ∈ es, e.1 ≠ k
  | [], k => by simp [eget_nil]
  | e :: es, k => by
    by_cases h : e.1 = k
    · rw [eget_pos h]
      constructor
      · intro z
        cases z
      · intro z
        exact absurd h (z e List.mem_cons_self)
    · rw [eget_neg h, eget_none (es := es)]
      constructor
      · intro z x hx
        rcases List.mem_cons.mp hx with rfl | hx
        · exact h
        · exact z x hx
      · intro z x hx
        exact z x (List.mem_cons_of_mem _ hx)
theorem edel_all {es : List DE} {k : PyData} (h : ∀ e ∈ es, e.1 ≠ k) : edel es k = es := edel_none (eget_none.mpr h)

section

-- a condition of an operator
local macro_rules | `(tactic| walk_at "cond") => `(tactic| first
  | (show (0 : Int) < _; omega)
  | (show CDiv _ _; constructor <;> (first | decide | omega))
  | (show CMul _ _; first | (refine cmul_l ?_; constructor <;> (first | decide | omega)) | (refine cmul_r ?_; constructor <;> (first | decide | omega)))
  | (show CPow _ _; exact (by refine ⟨by decide, by decide, by decide⟩))
  | (show CDivW _ _; exact ⟨by decide, by decide +kernel⟩))
local macro_rules | `(tactic| walk_at "sq") => `(tactic| first | assumption | exact Dh.mono (same_upd (by assumption)) _ _ (by assumption) | exact .inl (.inl (.inl (by assumption))) | exact .inr (.inl (.inl (by assumption))) | exact SqL.of (by assumption) | exact .inl (by assumption) | exact .inl (SqL.of (by assumption)) | exact SqT.of (by assumption) | exact .inr (SqT.of (by assumption)))
local macro_rules | `(tactic| walk_at "st") => `(tactic| first
  | refine ⟨_, rfl, ?_⟩
  | refine ⟨_, _, rfl, rfl, ?_⟩
  | refine .inl ⟨_, rfl, ?_⟩
  | refine ⟨rfl, ?_⟩
  | refine ⟨_, _, rfl, by walk_at "sq", ?_⟩
  | refine ⟨.inl ⟨rfl, _, SqL.of (by assumption)⟩, ?_⟩
  | refine ⟨by walk_at "cond", ?_⟩
  | (refine' ifBT ?hh ?_; (case hh => first | rfl | assumption))
  | (refine' ifBF ?hh ?_; (case hh => first | rfl | assumption)))
local macro_rules | `(tactic| walk_at "go") => `(tactic| repeat walk_at "st")
local macro_rules | `(tactic| walk_at "yes") => `(tactic| (refine' ifT ?hh ?_; (case hh => first | rfl | decide +kernel)))
local macro_rules | `(tactic| walk_at "no") => `(tactic| (refine' ifF ?hh ?_; (case hh => first | decide +kernel | (intro z; cases z; done))))

-- facts carried to the heap at hand, from the facts of the context
local macro_rules | `(tactic| walk_at "lnk") => `(tactic| first | assumption | exact same_upd (by assumption))
local macro_rules | `(tactic| walk_at "sm") => `(tactic| first | walk_at "lnk" | exact same_rfl | (refine Same.trans ?_ (by walk_at "lnk"); walk_at "sm"))
local macro_rules | `(tactic| walk_at "at") => `(tactic| first | assumption | exact upd_same | (refine Same.get (by walk_at "lnk") ?_; walk_at "at"))
local macro_rules | `(tactic| walk_at "ix") => `(tactic| first
  | exact atI_nat (j := 0) rfl | exact atI_nat (j := 1) rfl | exact atI_nat (j := 2) rfl | exact atI_nat (j := 3) rfl
  | exact atI_nat (j := 4) rfl | exact atI_nat (j := 5) rfl | exact atI_nat (j := 6) rfl | assumption)
local macro_rules | `(tactic| walk_at "sT") => `(tactic| first | exact SqT.of (by walk_at "at") | exact SqL.of (by walk_at "at"))
local macro_rules | `(tactic| walk_at "st") => `(tactic| refine ⟨_, _, _, _, rfl, rfl, by walk_at "sT", by walk_at "ix", ?_⟩)
local macro_rules | `(tactic| walk_at "side") => `(tactic| first | rfl | assumption | walk_at "at" | walk_at "sm" | omega | decide)
-- a call: the promise's letters from its arguments, then what is asked from the context
local macro_rules | `(tactic| walk_at "call") => `(tactic| ((repeat (apply Exists.intro)); refine And.intro rfl ?_; repeat (refine And.intro (by walk_at "side") ?_)))

local macro_rules | `(tactic| walk_at "st") => `(tactic| refine ⟨_, _, _, _, _, rfl, by assumption, by assumption, by omega, by omega, by omega, by omega, by omega, ?_⟩)
local macro_rules | `(tactic| walk_at "st") => `(tactic| refine ⟨_, _, _, _, _, rfl, Same.seq (by assumption) (by assumption), by assumption, by omega, by omega, by omega, by omega, by omega, ?_⟩)

/-! ### the program's Cache -/
abbrev s_Cache___init__ : Stmt := inClass (topS 1) 0
theorem sc_Cache___init__ : FnScope ["self", "capacity"] ["self", "capacity"] (C8.fnScope s_Cache___init__) := C8.fnScope_by (by decide +kernel)
abbrev s_Cache_look : Stmt := inClass (topS 1) 1
theorem sc_Cache_look : FnScope ["self", "key", "value"] ["self", "key"] (C8.fnScope s_Cache_look) := C8.fnScope_by (by decide +kernel)
abbrev s_Cache_fill : Stmt := inClass (topS 1) 2
theorem sc_Cache_fill : FnScope ["self", "key", "value", "oldest"] ["self", "key", "value"] (C8.fnScope s_Cache_fill) := C8.fnScope_by (by decide +kernel)
abbrev s_Cache_drop : Stmt := inClass (topS 1) 3
theorem sc_Cache_drop : FnScope ["self", "key"] ["self", "key"] (C8.fnScope s_Cache_drop) := C8.fnScope_by (by decide +kernel)
abbrev s_Cache_clear_all : Stmt := inClass (topS 1) 4
theorem sc_Cache_clear_all : FnScope ["self", "count"] ["self"] (C8.fnScope s_Cache_clear_all) := C8.fnScope_by (by decide +kernel)
theorem kce : ¬ (("_capacity" : Str) = "_entries") := by decide +kernel
def flds (c : Int) (d : Addr) : List (Str × V) := putF "_entries" (.ref d) (putF "_capacity" (.int c) [])
theorem flds_eq (c : Int) (d : Addr) : flds c d = ([("_capacity", V.int c), ("_entries", V.ref d)] : List (Str × V)) := by
  show (if ("_capacity" : Str) = "_entries" then [(("_capacity" : Str), V.ref d)] else (("_capacity" : Str), V.int c) :: putF "_entries" (V.ref d) []) = _
  rw [if_neg kce]
  all_goals rfl
theorem flds_c (c : Int) (d : Addr) : (flds c d).lookup ("_capacity" : Str) = some (.int c) := by
  unfold flds
  rw [lookup_putF, if_neg kce, lookup_putF, if_pos rfl]
theorem flds_e (c : Int) (d : Addr) : (flds c d).lookup ("_entries" : Str) = some (.ref d) := by
  unfold flds
  rw [lookup_putF, if_pos rfl]
theorem flds_no (c : Int) (d : Addr) {m : Str} (h1 : ¬ m = "_entries") (h2 : ¬ m = "_capacity") : (flds c d).lookup m = none := by
  unfold flds
  rw [lookup_putF, if_neg h1, lookup_putF, if_neg h2]
  all_goals rfl
theorem flds_put (c : Int) (d d' : Addr) : putF "_entries" (.ref d') (flds c d) = flds c d' := by
  rw [flds_eq, flds_eq]
  show (if ("_capacity" : Str) = "_entries" then _ else (("_capacity" : Str), V.int c) :: (if ("_entries" : Str) = "_entries" then [(("_entries" : Str), V.ref d')] else _)) = _
  rw [if_neg kce, if_pos rfl]
structure CTxt (K : PySem.W.Frag) (mg : Str → Option Value) (C : Addr) : Prop where
  cl : Cls K C
  nC : NoAttr K C "_capacity"
  nE : NoAttr K C "_entries"
  mgC : mg "Cache" = some (.ref C)
  len : mg "len" = none
  list : mg "list" = none
  next : mg "next" = none
  iter : mg "iter" = none
structure CacheAt (C : Addr) (w : World) (H : Hp) (p d : Addr) (c : Int) (xs : List MEnt) : Prop where
  g : ∃ dx, H p = some (.ins C dx (flds c d))
  m : MxAt w H d xs
  l : xs.length ≤ 100000
theorem CacheAt.ne {C : Addr} {w : World} {H : Hp} {p d : Addr} {c : Int} {xs : List MEnt} (h : CacheAt C w H p d c xs) : p ≠ d := fun z => by
  obtain ⟨dx, g⟩ := h.g
  obtain ⟨ep, g2⟩ := h.m.g
  rw [z, g2] at g
  cases g
theorem CacheAt.behind {C : Addr} {w : World} {H H' : Hp} {p d : Addr} {c : Int} {xs ys : List MEnt} (h : CacheAt C w H p d c xs) (b : But H H' d) (m : MxAt w H' d ys) (l : ys.length ≤ 100000) : CacheAt C w H' p d c ys := by
  obtain ⟨dx, g⟩ := h.g
  exact ⟨⟨dx, b _ _ h.ne g⟩, m, l⟩
theorem CacheAt.same {C : Addr} {w : World} {H H' : Hp} {p d : Addr} {c : Int} {xs : List MEnt} (h : CacheAt C w H p d c xs) (s : Same H H') : CacheAt C w H' p d c xs := by
  obtain ⟨dx, g⟩ := h.g
  exact ⟨⟨dx, s _ _ g⟩, h.m.same s, h.l⟩
def spInit (C : Addr) (w : World) : Sp := fun vs H Q _ => ∃ (p dx : Addr) (c : Int), vs = [.ref p, .int c] ∧ H p = some (.ins C dx []) ∧ ∀ (d : Addr) (H' : Hp), H d = none → CacheAt C w H' p d c [] → But H H' p → Q .non H'
def spLook (C : Addr) (w : World) : Sp := fun vs H Q _ => ∃ (p d : Addr) (k : V) (c : Int) (kd : PyData) (xs : List MEnt), vs = [.ref p, k] ∧ CacheAt C w H p d c xs ∧ Thing kd ∧ Dh H kd k ∧ (mget xs kd = none → Q .non H) ∧ ∀ e, mget xs kd = some e → ∀ H', CacheAt C w H' p d c (mdel xs kd ++ [⟨kd, e.vd, k, e.v⟩]) → But H H' d → Q e.v H'
def spDrop (C : Addr) (w : World) : Sp := fun vs H Q _ => ∃ (p d : Addr) (k : V) (c : Int) (kd : PyData) (xs : List MEnt), vs = [.ref p, k] ∧ CacheAt C w H p d c xs ∧ Thing kd ∧ Dh H kd k ∧ ∀ H', CacheAt C w H' p d c (mdel xs kd) → But H H' d → Q (.bl (mget xs kd).isSome) H'
def spFill (C : Addr) (w : World) : Sp := fun vs H Q _ => ∃ (p d : Addr) (k v : V) (c : Int) (kd vd : PyData) (xs : List MEnt), vs = [.ref p, k, v] ∧ CacheAt C w H p d c xs ∧ xs.length ≤ 90000 ∧ Thing kd ∧ Dh H kd k ∧ Opt vd ∧ Dh H vd v ∧ 0 ≤ c ∧
  (c = 0 → Q .non H) ∧ (c ≠ 0 → (((mdel xs kd).length + 1 : Nat) : Int) ≤ c → ∀ H', CacheAt C w H' p d c (mdel xs kd ++ [MEnt.mk kd vd k v]) → But H H' d → Q .non H') ∧
  (c ≠ 0 → ¬ (((mdel xs kd).length + 1 : Nat) : Int) ≤ c → ∀ y ys, mdel xs kd ++ [MEnt.mk kd vd k v] = y :: ys → ∀ H', CacheAt C w H' p d c ys → But H H' d → Thing y.kd → Dh H' y.kd y.k → Q y.k H')
def spClear (C : Addr) (w : World) : Sp := fun vs H Q _ => ∃ (p d : Addr) (c : Int) (xs : List MEnt), vs = [.ref p] ∧ CacheAt C w H p d c xs ∧ ∀ d' H', H d' = none → CacheAt C w H' p d' c [] → But H H' p → Q (.int xs.length) H'
section
variable {P : Program} {w : World} {K : PySem.W.Frag} {mg : Str → Option Value} {base : Heap} {C : Addr}
theorem ok_init {f : Addr} {fd : FuncData} (F : C8.Fun K "__init__" "Cache.__init__" s_Cache___init__ f fd) (M : Mk K C f) (b : Binds K fd ["self", "capacity"] []) (T : CTxt K mg C) : C8.Mak P w K mg base 1 "Cache" C (spInit C w) [] := by
  refine C8.mak0 M T.mgC F b .nil sc_Cache___init__ (fun vs H Q E h => ?_) (fun cdv A outer s H vs Q E hr h => ?_)
  · obtain ⟨p, dx, c, rfl, _⟩ := h
    rfl
  obtain ⟨p, dx, c, rfl, hp, q⟩ := h
  refine ⟨_, (pss_cons (ps_fld (pv 0) (pv 1) rfl)
      (pss_one (ps_fld (pv 0) (pe_dnewM rfl) rfl))), ?_⟩
  walk_at "go"
  refine ⟨p, C, dx, [], rfl, hp, T.cl, T.nC, (by show 0 < 1000; decide), ?_⟩
  have g1 := upd_same (H := H) (a := p) (o := HO.ins C dx (putF "_capacity" (V.int c) []))
  have b1 := But.put (H := H) (d := p) (o := HO.ins C dx (putF "_capacity" (V.int c) []))
  have fr : ∀ b, b ≠ p → (upd H p (HO.ins C dx (putF "_capacity" (V.int c) []))) b = H b := fun b hb => upd_ne hb
  show _
  generalize upd H p (HO.ins C dx (putF "_capacity" (V.int c) [])) = H1 at *
  intro d H2 m2 nd s2 _
  have np : p ≠ d := ne_of_none g1 nd
  have g2 := s2 _ _ g1
  walk_at "go"
  refine ⟨p, C, dx, _, rfl, g2, T.cl, T.nE, (by show 1 < 1000; decide), ?_⟩
  have m3 : MxAt w (upd H2 p (HO.ins C dx (flds c d))) d [] := m2.tups (Tups.put fun us z => by rw [g2] at z; cases z) fun o ho => by
    rw [upd_ne np.symm]
    exact ho
  exact q d _ (by rw [← fr d np.symm]; exact nd) ⟨⟨dx, upd_same⟩, m3, Nat.zero_le _⟩ (b1.trans ((Same.but s2).trans But.put))
theorem ok_drop {f : Addr} {fd : FuncData} (F : C8.Fun K "drop" "Cache.drop" s_Cache_drop f fd) (M : Meth K C "drop" f) (b : Binds K fd ["self", "key"] []) (T : CTxt K mg C) : C8.Met P w K mg base 1 C "drop" (spDrop C w) [] := by
  refine C8.met0 T.cl M F b sc_Cache_drop (fun vs H Q E h => ?_) (fun cdv A outer s H vs Q E hr h => ?_)
  · obtain ⟨p, d, k, c, kd, xs, rfl, _⟩ := h
    rfl
  obtain ⟨p, d, k, c, kd, xs, rfl, hc, hk, hx, q⟩ := h
  obtain ⟨dx, h1⟩ := hc.g
  refine ⟨_, (pss_cons (ps_mk (ps_if (pt_cmpR (op_notinM rfl hr.units) (pv 1) (pe_fld (pv 0) rfl) (by rfl))
      (pss_one (ps_ret pe_bl))
      pss_nil))
      (pss_cons (ps_delM rfl hr.units (pe_fld (pv 0) rfl) (pv 1))
      (pss_one (ps_ret pe_bl)))), ?_⟩
  have lh := mdel_len xs kd
  have hl := hc.l
  refine un ?_
  walk_at "go"
  refine ⟨_, _, _, _, _, rfl, h1, T.cl, T.nE, flds_e _ _, ?_⟩
  refine ⟨d, xs, kd, rfl, hc.m, hk, hx, fun z => ?_, fun z => ?_⟩
  · walk_at "go"
    refine ⟨_, _, _, _, _, rfl, h1, T.cl, T.nE, flds_e _ _, ?_⟩
    walk_at "go"
    refine ⟨d, xs, kd, rfl, hc.m, hk, hx, z, fun H' m' b' => ?_⟩
    walk_at "go"
    have := q _ (hc.behind b' m' (by omega)) b'
    rw [z] at this
    exact this
  · walk_at "go"
    have := q H (by rw [mdel_none z]; exact hc) fun _ _ _ z => z
    rw [z] at this
    exact this
theorem ok_look {f : Addr} {fd : FuncData} (F : C8.Fun K "look" "Cache.look" s_Cache_look f fd) (M : Meth K C "look" f) (b : Binds K fd ["self", "key"] []) (T : CTxt K mg C) : C8.Met P w K mg base 1 C "look" (spLook C w) [] := by
  refine C8.met0 T.cl M F b sc_Cache_look (fun vs H Q E h => ?_) (fun cdv A outer s H vs Q E hr h => ?_)
  · obtain ⟨p, d, k, c, kd, xs, rfl, _⟩ := h
    rfl
  obtain ⟨p, d, k, c, kd, xs, rfl, hc, hk, hx, q1, q2⟩ := h
  obtain ⟨dx, h1⟩ := hc.g
  refine ⟨_, (pss_cons (ps_mk (ps_if (pt_cmpR (op_notinM rfl hr.units) (pv 1) (pe_fld (pv 0) rfl) (by rfl))
      (pss_one (ps_ret pe_non))
      pss_nil))
      (pss_cons (ps_set (i := 2) sc_Cache_look.nd rfl (.inl rfl) (pe_bx rfl PySem.F.plainAttrs_dict PySem.F.slot_dict_pop PySem.F.type_dict_pop (mt_popM rfl hr.units) (pe_fld (pv 0) rfl) (pa_cons (pv 1) pa_nil)))
      (pss_cons (ps_asg (pv 2) (pg_sub (pe_fld (pv 0) rfl) (pv 1) (set_mx rfl hr.units)))
      (pss_one (ps_ret (pv 2)))))), ?_⟩
  have lh := mdel_len xs kd
  have hl := hc.l
  refine jnS (M := fun σ H' => H' = H ∧ (mget xs kd).isSome = true ∧ σ = [sR p, some k, none]) ?_ (fun N kk => ?_)
  rotate_left
  · walk_at "go"
    refine ⟨_, _, _, _, _, rfl, h1, T.cl, T.nE, flds_e _ _, ?_⟩
    refine ⟨d, xs, kd, rfl, hc.m, hk, hx, fun z => ?_, fun z => ?_⟩
    · walk_at "go"
      exact kk _ _ ⟨rfl, z, rfl⟩
    · walk_at "go"
      exact q1 z
  rintro σ H1 ⟨e1, hs, rfl⟩
  subst e1
  obtain ⟨e, em⟩ := Option.isSome_iff_exists.mp hs
  walk_at "go"
  refine ⟨_, _, _, _, _, rfl, h1, T.cl, T.nE, flds_e _ _, ?_⟩
  refine ⟨⟨d, xs, rfl, hc.m⟩, ?_⟩
  walk_at "go"
  refine ⟨d, xs, kd, k, [], rfl, rfl, .inl rfl, hc.m, hk, hx, fun z => (by rw [em] at z; cases z), fun e' em' H2 m2 b2 => ?_⟩
  rw [em] at em'
  cases em'
  have hc2 := hc.behind b2 m2 (by omega)
  have g2 := b2 _ _ hc.ne h1
  have noT := hc.m.noT
  have hx2 := Dh.tups (But.tups b2 noT) _ _ (opt_noL (.inr hk)) hx
  obtain ⟨_, ov, _, dv⟩ := hc.m.e e (mget_mem em).1
  have dv2 := Dh.tups (But.tups b2 noT) _ _ (opt_noL ov) dv
  walk_at "go"
  refine ⟨_, _, _, _, _, rfl, g2, T.cl, T.nE, flds_e _ _, ?_⟩
  walk_at "go"
  refine ⟨d, _, kd, e.vd, rfl, m2, hk, hx2, ov, dv2, sz5 (by omega), fun H3 m3 b3 => ?_⟩
  have m3 : MxAt w H3 d (mdel xs kd ++ [MEnt.mk kd e.vd k e.v]) := by
    rw [← mput_new (xs := mdel xs kd) (e := ⟨kd, e.vd, k, e.v⟩) mdel_not]
    exact m3
  walk_at "go"
  exact q2 e em H3 (hc2.behind b3 m3 (by
    rw [List.length_append]
    have := mdel_lt hs
    show (mdel xs kd).length + 1 ≤ _
    omega)) (b2.trans b3)
theorem ok_fill {f : Addr} {fd : FuncData} (F : C8.Fun K "fill" "Cache.fill" s_Cache_fill f fd) (M : Meth K C "fill" f) (b : Binds K fd ["self", "key", "value"] []) (T : CTxt K mg C) (m_drop : C8.Met P w K mg base 1 C "drop" (spDrop C w) []) : C8.Met P w K mg base 2 C "fill" (spFill C w) [] := by
  refine C8.met0 T.cl M F b sc_Cache_fill (fun vs H Q E h => ?_) (fun cdv A outer s H vs Q E hr h => ?_)
  · obtain ⟨p, d, k, v, c, kd, vd, xs, rfl, _⟩ := h
    rfl
  obtain ⟨p, d, k, v, c, kd, vd, xs, rfl, hc, hl, hk, hx, ov, hv, c0, q1, q2, q3⟩ := h
  obtain ⟨dx, h1⟩ := hc.g
  refine ⟨_, (pss_cons (ps_mk (ps_if (pt_cmpR op_eq (pe_fld (pv 0) rfl) pe_int (nomark _))
      (pss_one (ps_ret pe_non))
      pss_nil))
      (pss_cons (ps_expr (C8.pe_mt m_drop hr (by omega) (pv 0) (pa_cons (pv 1) pa_nil)))
      (pss_cons (ps_asg (pv 2) (pg_sub (pe_fld (pv 0) rfl) (pv 1) (set_mx rfl hr.units)))
      (pss_cons (ps_mk (ps_if (pt_cmpR op_le (pe_callB (call_lenM rfl) (by rfl) T.len PySem.boot_len (pa_cons (pe_fld (pv 0) rfl) pa_nil)) (pe_fld (pv 0) rfl) (nomark _))
      (pss_one (ps_ret pe_non))
      pss_nil))
      (pss_cons (ps_set (i := 3) sc_Cache_fill.nd rfl (.inl rfl) (pe_callB (call_nextM rfl) (by rfl) T.next (by decide +kernel) (pa_cons (pe_callB (call_iterM rfl) (by rfl) T.iter (by decide +kernel) (pa_cons (pe_fld (pv 0) rfl) pa_nil)) (pa_cons pe_non pa_nil))))
      (pss_cons (ps_expr (C8.pe_mt m_drop hr (by omega) (pv 0) (pa_cons (pv 3) pa_nil)))
      (pss_one (ps_ret (pv 3))))))))), ?_⟩
  have lh := mdel_len xs kd
  have hl0 := hc.l
  refine jnS (M := fun σ H' => H' = H ∧ c ≠ 0 ∧ σ = [sR p, some k, some v, none]) ?_ (fun N kk => ?_)
  rotate_left
  · walk_at "go"
    refine ⟨_, _, _, _, _, rfl, h1, T.cl, T.nC, flds_c _ _, ?_⟩
    walk_at "go"
    refine ifEq (fun z => ?_) (fun z => ?_)
    · walk_at "go"
      exact q1 z
    · walk_at "go"
      exact kk _ _ ⟨rfl, z, rfl⟩
  rintro σ H1 ⟨e1, cz, rfl⟩
  subst e1
  have q2 := q2 cz
  have q3 := q3 cz
  walk_at "go"
  refine ⟨p, dx, _, rfl, h1, flds_no _ _ (by decide +kernel) (by decide +kernel), ?_⟩
  walk_at "go"
  refine ⟨p, d, k, c, kd, xs, rfl, hc, hk, hx, fun H2 hc2 b2 => ?_⟩
  have g2 := b2 _ _ hc.ne h1
  have t2 := But.tups b2 hc.m.noT
  have hx2 := Dh.tups t2 _ _ (opt_noL (.inr hk)) hx
  have hv2 := Dh.tups t2 _ _ (opt_noL ov) hv
  walk_at "go"
  refine ⟨_, _, _, _, _, rfl, g2, T.cl, T.nE, flds_e _ _, ?_⟩
  walk_at "go"
  refine ⟨d, _, kd, vd, rfl, hc2.m, hk, hx2, ov, hv2, sz5 (by omega), fun H3 m3 b3 => ?_⟩
  have m3 : MxAt w H3 d (mdel xs kd ++ [MEnt.mk kd vd k v]) := by
    rw [← mput_new (xs := mdel xs kd) (e := ⟨kd, vd, k, v⟩) mdel_not]
    exact m3
  have hc3 := hc2.behind b3 m3 (by rw [List.length_append]; show (mdel xs kd).length + 1 ≤ _; omega)
  have g3 := b3 _ _ hc2.ne g2
  have b13 := b2.trans b3
  have el : (mdel xs kd ++ [MEnt.mk kd vd k v]).length = (mdel xs kd).length + 1 := by rw [List.length_append]; rfl
  obtain ⟨y, ys, ey⟩ : ∃ y ys, mdel xs kd ++ [MEnt.mk kd vd k v] = y :: ys := by
    cases z : mdel xs kd ++ [MEnt.mk kd vd k v] with
    | nil => rw [z] at el; cases el
    | cons y ys => exact ⟨y, ys, rfl⟩
  have q3 := fun z => q3 z y ys ey
  rw [ey] at m3 hc3 el q2
  have hy := m3.e y List.mem_cons_self
  have nd := m3.nd
  clear hc2 m3 b2 b3 ey
  refine jnS (M := fun σ H' => H' = H3 ∧ ¬ (((mdel xs kd).length + 1 : Nat) : Int) ≤ c ∧ σ = [sR p, some k, some v, none]) ?_ (fun N kk => ?_)
  rotate_left
  · walk_at "go"
    refine ⟨_, _, _, _, _, rfl, g3, T.cl, T.nE, flds_e _ _, ?_⟩
    refine ⟨d, _, rfl, hc3.m, ?_⟩
    rw [el]
    walk_at "go"
    refine ⟨_, _, _, _, _, rfl, g3, T.cl, T.nC, flds_c _ _, ?_⟩
    walk_at "go"
    refine ifD (fun z => ?_) (fun z => ?_)
    · walk_at "go"
      exact q2 z H3 hc3 b13
    · walk_at "go"
      exact kk _ _ ⟨rfl, z, rfl⟩
  rintro σ H4 ⟨e4, hgt, rfl⟩
  subst e4
  have q3 := q3 hgt
  walk_at "go"
  refine ⟨_, _, _, _, _, rfl, g3, T.cl, T.nE, flds_e _ _, ?_⟩
  refine ⟨d, _, rfl, hc3.m, fun it ep gd nit => ?_⟩
  have s5 := same_upd (o := kitO it d 0 (y :: ys).length ep) nit
  have g5 := upd_same (H := H4) (a := it) (o := kitO it d 0 (y :: ys).length ep)
  show _
  generalize upd H4 it (kitO it d 0 (y :: ys).length ep) = H5 at *
  walk_at "go"
  refine ⟨it, d, y :: ys, ep, 0, y, .non, rfl, g5, s5 _ _ gd, rfl, ?_⟩
  have s6 : Same H4 (upd H5 it (kitO it d (0 + 1) (y :: ys).length ep)) := same_put s5 nit
  generalize upd H5 it (kitO it d (0 + 1) (y :: ys).length ep) = H6 at *
  have hc6 := hc3.same s6
  have g6 := s6 _ _ g3
  have dk6 := Dh.mono s6 _ _ hy.2.2.1
  walk_at "go"
  refine ⟨p, dx, _, rfl, g6, flds_no _ _ (by decide +kernel) (by decide +kernel), ?_⟩
  walk_at "go"
  refine ⟨p, d, y.k, c, y.kd, _, rfl, hc6, hy.1, dk6, fun H7 hc7 b7 => ?_⟩
  rw [mdel_head nd] at hc7
  walk_at "go"
  exact q3 H7 hc7 (b13.trans ((Same.but s6).trans b7)) hy.1 (Dh.tups (But.tups b7 hc6.m.noT) _ _ (opt_noL (.inr hy.1)) dk6)
theorem ok_clear {f : Addr} {fd : FuncData} (F : C8.Fun K "clear_all" "Cache.clear_all" s_Cache_clear_all f fd) (M : Meth K C "clear_all" f) (b : Binds K fd ["self"] []) (T : CTxt K mg C) : C8.Met P w K mg base 1 C "clear_all" (spClear C w) [] := by
  refine C8.met0 T.cl M F b sc_Cache_clear_all (fun vs H Q E h => ?_) (fun cdv A outer s H vs Q E hr h => ?_)
  · obtain ⟨p, d, c, xs, rfl, _⟩ := h
    rfl
  obtain ⟨p, d, c, xs, rfl, hc, q⟩ := h
  obtain ⟨dx, h1⟩ := hc.g
  refine ⟨_, (pss_cons (ps_set (i := 1) sc_Cache_clear_all.nd rfl (.inl rfl) (pe_callB (call_lenM rfl) (by rfl) T.len PySem.boot_len (pa_cons (pe_fld (pv 0) rfl) pa_nil)))
      (pss_cons (ps_fld (pv 0) (pe_dnewM rfl) rfl)
      (pss_one (ps_ret (pv 1))))), ?_⟩
  walk_at "go"
  refine ⟨_, _, _, _, _, rfl, h1, T.cl, T.nE, flds_e _ _, ?_⟩
  refine ⟨d, _, rfl, hc.m, ?_⟩
  walk_at "go"
  intro d2 H2 m2 nd s2 _
  have g2 := s2 _ _ h1
  have np : p ≠ d2 := ne_of_none h1 nd
  walk_at "go"
  refine ⟨p, C, dx, _, rfl, g2, T.cl, T.nE, (by rw [flds_eq]; show 2 < 1000; decide), ?_⟩
  rw [flds_put]
  have m3 : MxAt w (upd H2 p (HO.ins C dx (flds c d2))) d2 [] := m2.tups (Tups.put fun us z => by rw [g2] at z; cases z) fun o ho => by
    rw [upd_ne np.symm]
    exact ho
  have b3 : But H (upd H2 p (HO.ins C dx (flds c d2))) p := (Same.but s2).trans But.put
  have g3 := upd_same (H := H2) (a := p) (o := HO.ins C dx (flds c d2))
  generalize upd H2 p (HO.ins C dx (flds c d2)) = H3 at *
  walk_at "go"
  exact q d2 H3 nd ⟨⟨dx, g3⟩, m3, Nat.zero_le _⟩ b3
end

end

section

-- a condition of an operator
local macro_rules | `(tactic| walk_at "cond") => `(tactic| first
  | (show (0 : Int) < _; omega)
  | (show CDiv _ _; constructor <;> (first | decide | omega))
  | (show CMul _ _; first | (refine cmul_l ?_; constructor <;> (first | decide | omega)) | (refine cmul_r ?_; constructor <;> (first | decide | omega)))
  | (show CPow _ _; exact (by refine ⟨by decide, by decide, by decide⟩))
  | (show CDivW _ _; exact ⟨by decide, by decide +kernel⟩))
local macro_rules | `(tactic| walk_at "sq") => `(tactic| first | assumption | exact Dh.mono (same_upd (by assumption)) _ _ (by assumption) | exact .inl (.inl (.inl (by assumption))) | exact .inr (.inl (.inl (by assumption))) | exact SqL.of (by assumption) | exact .inl (by assumption) | exact .inl (SqL.of (by assumption)) | exact SqT.of (by assumption) | exact .inr (SqT.of (by assumption)))
local macro_rules | `(tactic| walk_at "st") => `(tactic| first
  | refine ⟨_, rfl, ?_⟩
  | refine ⟨_, _, rfl, rfl, ?_⟩
  | refine .inl ⟨_, rfl, ?_⟩
  | refine ⟨rfl, ?_⟩
  | refine ⟨_, _, rfl, by walk_at "sq", ?_⟩
  | refine ⟨.inl ⟨rfl, _, SqL.of (by assumption)⟩, ?_⟩
  | refine ⟨by walk_at "cond", ?_⟩
  | (refine' ifBT ?hh ?_; (case hh => first | rfl | assumption))
  | (refine' ifBF ?hh ?_; (case hh => first | rfl | assumption)))
local macro_rules | `(tactic| walk_at "go") => `(tactic| repeat walk_at "st")
local macro_rules | `(tactic| walk_at "yes") => `(tactic| (refine' ifT ?hh ?_; (case hh => first | rfl | decide +kernel)))
local macro_rules | `(tactic| walk_at "no") => `(tactic| (refine' ifF ?hh ?_; (case hh => first | decide +kernel | (intro z; cases z; done))))

-- facts carried to the heap at hand, from the facts of the context
local macro_rules | `(tactic| walk_at "lnk") => `(tactic| first | assumption | exact same_upd (by assumption))
local macro_rules | `(tactic| walk_at "sm") => `(tactic| first | walk_at "lnk" | exact same_rfl | (refine Same.trans ?_ (by walk_at "lnk"); walk_at "sm"))
local macro_rules | `(tactic| walk_at "at") => `(tactic| first | assumption | exact upd_same | (refine Same.get (by walk_at "lnk") ?_; walk_at "at"))
local macro_rules | `(tactic| walk_at "ix") => `(tactic| first
  | exact atI_nat (j := 0) rfl | exact atI_nat (j := 1) rfl | exact atI_nat (j := 2) rfl | exact atI_nat (j := 3) rfl
  | exact atI_nat (j := 4) rfl | exact atI_nat (j := 5) rfl | exact atI_nat (j := 6) rfl | assumption)
local macro_rules | `(tactic| walk_at "sT") => `(tactic| first | exact SqT.of (by walk_at "at") | exact SqL.of (by walk_at "at"))
local macro_rules | `(tactic| walk_at "st") => `(tactic| refine ⟨_, _, _, _, rfl, rfl, by walk_at "sT", by walk_at "ix", ?_⟩)
local macro_rules | `(tactic| walk_at "side") => `(tactic| first | rfl | assumption | walk_at "at" | walk_at "sm" | omega | decide)
-- a call: the promise's letters from its arguments, then what is asked from the context
local macro_rules | `(tactic| walk_at "call") => `(tactic| ((repeat (apply Exists.intro)); refine And.intro rfl ?_; repeat (refine And.intro (by walk_at "side") ?_)))

local macro_rules | `(tactic| walk_at "st") => `(tactic| refine ⟨_, _, _, _, _, rfl, by assumption, by assumption, by omega, by omega, by omega, by omega, by omega, ?_⟩)
local macro_rules | `(tactic| walk_at "st") => `(tactic| refine ⟨_, _, _, _, _, rfl, Same.seq (by assumption) (by assumption), by assumption, by omega, by omega, by omega, by omega, by omega, ?_⟩)

/-! ### Cache.entries, Cache.__contains__ -/
abbrev s_Cache_entries : Stmt := inClass (topS 1) 5
theorem sc_Cache_entries : FnScope ["self"] ["self"] (C8.fnScope s_Cache_entries) := C8.fnScope_by (by decide +kernel)
abbrev s_Cache___contains__ : Stmt := inClass (topS 1) 6
theorem sc_Cache___contains__ : FnScope ["self", "key"] ["self", "key"] (C8.fnScope s_Cache___contains__) := C8.fnScope_by (by decide +kernel)
def spEntries (C : Addr) (w : World) : Sp := fun vs H Q _ => ∃ (p d : Addr) (c : Int) (xs : List MEnt), vs = [.ref p] ∧ CacheAt C w H p d c xs ∧ ∀ l us H', Same H H' → H l = none → H' l = some (.lst us) → DhAll H' (xs.map pairD) us → Q (.ref l) H'
def spHas (C : Addr) (w : World) : Sp := fun vs H Q _ => ∃ (p d : Addr) (k : V) (c : Int) (kd : PyData) (xs : List MEnt), vs = [.ref p, k] ∧ CacheAt C w H p d c xs ∧ Thing kd ∧ Dh H kd k ∧ Q (.bl (mget xs kd).isSome) H
section
variable {P : Program} {w : World} {K : PySem.W.Frag} {mg : Str → Option Value} {base : Heap} {C : Addr}
theorem ok_entries {f : Addr} {fd : FuncData} (F : C8.Fun K "entries" "Cache.entries" s_Cache_entries f fd) (M : Meth K C "entries" f) (b : Binds K fd ["self"] []) (T : CTxt K mg C) : C8.Met P w K mg base 1 C "entries" (spEntries C w) [] := by
  refine C8.met0 T.cl M F b sc_Cache_entries (fun vs H Q E h => ?_) (fun cdv A outer s H vs Q E hr h => ?_)
  · obtain ⟨p, d, c, xs, rfl, _⟩ := h
    rfl
  obtain ⟨p, d, c, xs, rfl, hc, q⟩ := h
  obtain ⟨dx, h1⟩ := hc.g
  refine ⟨_, (pss_one (ps_ret (pe_callTy (call_listM rfl rfl) (by rfl) T.list (by decide +kernel) (pa_cons (pe_bx0 rfl PySem.F.plainAttrs_dict PySem.F.slot_dict_items PySem.F.type_dict_items (mt_itemsM rfl) (pe_fld (pv 0) rfl)) pa_nil)))), ?_⟩
  walk_at "go"
  refine ⟨_, _, _, _, _, rfl, h1, T.cl, T.nE, flds_e _ _, ?_⟩
  refine ⟨⟨d, xs, rfl, hc.m⟩, d, xs, rfl, rfl, hc.m, fun v nv => ?_⟩
  have s1 := same_upd (o := L2.DX.itemsO v d) nv
  have gv := upd_same (H := H) (a := v) (o := L2.DX.itemsO v d)
  show _
  generalize upd H v (L2.DX.itemsO v d) = H1 at *
  walk_at "go"
  refine ⟨v, d, xs, rfl, gv, hc.m.same s1, fun H2 l us s2 nl gl dl => ?_⟩
  exact q l us H2 (s1.trans s2) (s1.free nl) gl dl
theorem ok_has {f : Addr} {fd : FuncData} (F : C8.Fun K "__contains__" "Cache.__contains__" s_Cache___contains__ f fd) (M : Meth K C "__contains__" f) (b : Binds K fd ["self", "key"] []) (T : CTxt K mg C) : C8.Met P w K mg base 1 C "__contains__" (spHas C w) [] := by
  refine C8.met0 T.cl M F b sc_Cache___contains__ (fun vs H Q E h => ?_) (fun cdv A outer s H vs Q E hr h => ?_)
  · obtain ⟨p, d, k, c, kd, xs, rfl, _⟩ := h
    rfl
  obtain ⟨p, d, k, c, kd, xs, rfl, hc, hk, hx, q⟩ := h
  obtain ⟨dx, h1⟩ := hc.g
  refine ⟨_, (pss_one (ps_ret (pe_cmpR (op_inM rfl hr.units) (pv 1) (pe_fld (pv 0) rfl) (by rfl)))), ?_⟩
  walk_at "go"
  refine ⟨_, _, _, _, _, rfl, h1, T.cl, T.nE, flds_e _ _, ?_⟩
  refine ⟨d, xs, kd, rfl, hc.m, hk, hx, fun z => ?_, fun z => ?_⟩
  · rw [z] at q
    exact q
  · rw [z] at q
    exact q
end

end

section

-- a condition of an operator
local macro_rules | `(tactic| walk_at "cond") => `(tactic| first
  | (show (0 : Int) < _; omega)
  | (show CDiv _ _; constructor <;> (first | decide | omega))
  | (show CMul _ _; first | (refine cmul_l ?_; constructor <;> (first | decide | omega)) | (refine cmul_r ?_; constructor <;> (first | decide | omega)))
  | (show CPow _ _; exact (by refine ⟨by decide, by decide, by decide⟩))
  | (show CDivW _ _; exact ⟨by decide, by decide +kernel⟩))
local macro_rules | `(tactic| walk_at "sq") => `(tactic| first | assumption | exact Dh.mono (same_upd (by assumption)) _ _ (by assumption) | exact .inl (.inl (.inl (by assumption))) | exact .inr (.inl (.inl (by assumption))) | exact SqL.of (by assumption) | exact .inl (by assumption) | exact .inl (SqL.of (by assumption)) | exact SqT.of (by assumption) | exact .inr (SqT.of (by assumption)))
local macro_rules | `(tactic| walk_at "st") => `(tactic| first
  | refine ⟨_, rfl, ?_⟩
  | refine ⟨_, _, rfl, rfl, ?_⟩
  | refine .inl ⟨_, rfl, ?_⟩
  | refine ⟨rfl, ?_⟩
  | refine ⟨_, _, rfl, by walk_at "sq", ?_⟩
  | refine ⟨.inl ⟨rfl, _, SqL.of (by assumption)⟩, ?_⟩
  | refine ⟨by walk_at "cond", ?_⟩
  | (refine' ifBT ?hh ?_; (case hh => first | rfl | assumption))
  | (refine' ifBF ?hh ?_; (case hh => first | rfl | assumption)))
local macro_rules | `(tactic| walk_at "go") => `(tactic| repeat walk_at "st")
local macro_rules | `(tactic| walk_at "yes") => `(tactic| (refine' ifT ?hh ?_; (case hh => first | rfl | decide +kernel)))
local macro_rules | `(tactic| walk_at "no") => `(tactic| (refine' ifF ?hh ?_; (case hh => first | decide +kernel | (intro z; cases z; done))))

-- facts carried to the heap at hand, from the facts of the context
local macro_rules | `(tactic| walk_at "lnk") => `(tactic| first | assumption | exact same_upd (by assumption))
local macro_rules | `(tactic| walk_at "sm") => `(tactic| first | walk_at "lnk" | exact same_rfl | (refine Same.trans ?_ (by walk_at "lnk"); walk_at "sm"))
local macro_rules | `(tactic| walk_at "at") => `(tactic| first | assumption | exact upd_same | (refine Same.get (by walk_at "lnk") ?_; walk_at "at"))
local macro_rules | `(tactic| walk_at "ix") => `(tactic| first
  | exact atI_nat (j := 0) rfl | exact atI_nat (j := 1) rfl | exact atI_nat (j := 2) rfl | exact atI_nat (j := 3) rfl
  | exact atI_nat (j := 4) rfl | exact atI_nat (j := 5) rfl | exact atI_nat (j := 6) rfl | assumption)
local macro_rules | `(tactic| walk_at "sT") => `(tactic| first | exact SqT.of (by walk_at "at") | exact SqL.of (by walk_at "at"))
local macro_rules | `(tactic| walk_at "st") => `(tactic| refine ⟨_, _, _, _, rfl, rfl, by walk_at "sT", by walk_at "ix", ?_⟩)
local macro_rules | `(tactic| walk_at "side") => `(tactic| first | rfl | assumption | walk_at "at" | walk_at "sm" | omega | decide)
-- a call: the promise's letters from its arguments, then what is asked from the context
local macro_rules | `(tactic| walk_at "call") => `(tactic| ((repeat (apply Exists.intro)); refine And.intro rfl ?_; repeat (refine And.intro (by walk_at "side") ?_)))

local macro_rules | `(tactic| walk_at "st") => `(tactic| refine ⟨_, _, _, _, _, rfl, by assumption, by assumption, by omega, by omega, by omega, by omega, by omega, ?_⟩)
local macro_rules | `(tactic| walk_at "st") => `(tactic| refine ⟨_, _, _, _, _, rfl, Same.seq (by assumption) (by assumption), by assumption, by omega, by omega, by omega, by omega, by omega, ?_⟩)

/-! ### the law's list of entries -/
abbrev s_kept_find : Stmt := topS 7
theorem sc_kept_find : FnScope ["_law_kept", "_law_key", "_law_k"] ["_law_kept", "_law_key"] (C8.fnScope s_kept_find) := C8.fnScope_by (by decide +kernel)
abbrev s_kept_look : Stmt := topS 8
theorem sc_kept_look : FnScope ["_law_kept", "_law_key", "_law_at", "_law_entry"] ["_law_kept", "_law_key"] (C8.fnScope s_kept_look) := C8.fnScope_by (by decide +kernel)
abbrev s_kept_fill : Stmt := topS 9
theorem sc_kept_fill : FnScope ["_law_kept", "_law_size", "_law_key", "_law_value", "_law_at"] ["_law_kept", "_law_size", "_law_key", "_law_value"] (C8.fnScope s_kept_fill) := C8.fnScope_by (by decide +kernel)
abbrev s_kept_drop : Stmt := topS 10
theorem sc_kept_drop : FnScope ["_law_kept", "_law_key", "_law_at"] ["_law_kept", "_law_key"] (C8.fnScope s_kept_drop) := C8.fnScope_by (by decide +kernel)
structure KeptAt (H : Hp) (L : Addr) (rs : List (Addr × MEnt)) : Prop where
  g : H L = some (.lst (rs.map fun r => V.ref r.1))
  e : ∀ r ∈ rs, H r.1 = some (.lst [r.2.k, r.2.v]) ∧ Thing r.2.kd ∧ Opt r.2.vd ∧ Dh H r.2.kd r.2.k ∧ Dh H r.2.vd r.2.v
  nd : (rs.map fun r => r.2.kd).Nodup
  ad : (rs.map (·.1)).Nodup
  nl : ∀ r ∈ rs, r.1 ≠ L
  l : rs.length ≤ 100000
theorem KeptAt.but {H H' : Hp} {L q : Addr} {rs : List (Addr × MEnt)} (h : KeptAt H L rs) (b : But H H' q) (nt : ∀ us, H q ≠ some (.tup us)) (ne : L ≠ q) (off : ∀ r ∈ rs, r.1 ≠ q) : KeptAt H' L rs := by
  have t := But.tups b nt
  refine ⟨b _ _ ne h.g, fun r hr => ?_, h.nd, h.ad, h.nl, h.l⟩
  obtain ⟨k1, k2, k3, k4, k5⟩ := h.e r hr
  exact ⟨b _ _ (off r hr) k1, k2, k3, Dh.tups t _ _ (opt_noL (.inr k2)) k4, Dh.tups t _ _ (opt_noL k3) k5⟩
theorem KeptAt.same {H H' : Hp} {L : Addr} {rs : List (Addr × MEnt)} (h : KeptAt H L rs) (s : Same H H') : KeptAt H' L rs := by
  refine ⟨s _ _ h.g, fun r hr => ?_, h.nd, h.ad, h.nl, h.l⟩
  obtain ⟨k1, k2, k3, k4, k5⟩ := h.e r hr
  exact ⟨s _ _ k1, k2, k3, Dh.mono s _ _ k4, Dh.mono s _ _ k5⟩
/-- the list is written: entries of the old one, or new ones -/
theorem KeptAt.put {H : Hp} {L : Addr} {rs rs' : List (Addr × MEnt)} (h : KeptAt H L rs) (e : ∀ r ∈ rs', r ∈ rs ∨ (r.1 ≠ L ∧ H r.1 = some (.lst [r.2.k, r.2.v]) ∧ Thing r.2.kd ∧ Opt r.2.vd ∧ Dh H r.2.kd r.2.k ∧ Dh H r.2.vd r.2.v)) (nd : (rs'.map fun r => r.2.kd).Nodup) (ad : (rs'.map (·.1)).Nodup) (l : rs'.length ≤ 100000) : KeptAt (upd H L (.lst (rs'.map fun r => V.ref r.1))) L rs' := by
  have t : Tups H (upd H L (.lst (rs'.map fun r => V.ref r.1))) := Tups.put fun us z => by rw [h.g] at z; cases z
  have e2 : ∀ r ∈ rs', r.1 ≠ L ∧ H r.1 = some (.lst [r.2.k, r.2.v]) ∧ Thing r.2.kd ∧ Opt r.2.vd ∧ Dh H r.2.kd r.2.k ∧ Dh H r.2.vd r.2.v := fun r hr => (e r hr).elim (fun z => ⟨h.nl r z, h.e r z⟩) fun z => z
  refine ⟨upd_same, fun r hr => ?_, nd, ad, fun r hr => (e2 r hr).1, l⟩
  obtain ⟨k0, k1, k2, k3, k4, k5⟩ := e2 r hr
  exact ⟨by rw [upd_ne k0]; exact k1, k2, k3, Dh.tups t _ _ (opt_noL (.inr k2)) k4, Dh.tups t _ _ (opt_noL k3) k5⟩
theorem KeptAt.cut {H : Hp} {L : Addr} {rs : List (Addr × MEnt)} (h : KeptAt H L rs) (i : Nat) : KeptAt (upd H L (.lst ((rs.eraseIdx i).map fun r => V.ref r.1))) L (rs.eraseIdx i) :=
  h.put (fun r hr => .inl (List.mem_of_mem_eraseIdx hr)) (((List.eraseIdx_sublist rs i).map _).nodup h.nd) (((List.eraseIdx_sublist rs i).map _).nodup h.ad) (Nat.le_trans (List.eraseIdx_sublist rs i).length_le h.l)
def kdat (rs : List (Addr × MEnt)) : List DE := rs.map fun r => r.2.dat
theorem KeptAt.no {H : Hp} {L : Addr} {rs : List (Addr × MEnt)} (h : KeptAt H L rs) (us : List V) : H L ≠ some (.tup us) := fun z => by
  rw [h.g] at z
  cases z
/-- where a key stands -/
theorem kept_none {rs : List (Addr × MEnt)} {kd : PyData} : (∀ r ∈ rs, r.2.kd ≠ kd) ↔ eget (kdat rs) kd = none := by
  rw [eget_none]
  constructor
  · intro h x hx
    obtain ⟨r, hr, rfl⟩ := List.mem_map.mp hx
    exact h r hr
  · intro h r hr
    exact h _ (List.mem_map.mpr ⟨r, hr, rfl⟩)
theorem kept_some : ∀ {rs : List (Addr × MEnt)} {i : Nat} {r : Addr × MEnt}, (rs.map fun r => r.2.kd).Nodup → rs[i]? = some r → eget (kdat rs) r.2.kd = some r.2.vd ∧ kdat (rs.eraseIdx i) = edel (kdat rs) r.2.kd
  | [], i, r, _, h => by simp at h
  | x :: rs, 0, r, nd, h => by
    obtain rfl : x = r := by simpa using h
    have n := List.nodup_cons.mp (show (x.2.kd :: rs.map fun r => r.2.kd).Nodup from nd)
    constructor
    · exact eget_pos (e := x.2.dat) (es := kdat rs) rfl
    · refine Eq.trans ?_ (edel_pos (e := x.2.dat) (es := kdat rs) rfl).symm
      refine (edel_all fun y hy z => ?_).symm
      obtain ⟨u, hu, rfl⟩ := List.mem_map.mp hy
      exact n.1 (List.mem_map.mpr ⟨u, hu, z⟩)
  | x :: rs, i + 1, r, nd, h => by
    have n := List.nodup_cons.mp (show (x.2.kd :: rs.map fun r => r.2.kd).Nodup from nd)
    have h : rs[i]? = some r := by simpa using h
    obtain ⟨k1, k2⟩ := kept_some n.2 h
    have ne : ¬ x.2.kd = r.2.kd := fun e => n.1 (List.mem_map.mpr ⟨r, List.mem_of_getElem? h, e.symm⟩)
    constructor
    · rw [← k1]
      exact eget_neg (e := x.2.dat) (es := kdat rs) ne
    · show x.2.dat :: kdat (rs.eraseIdx i) = _
      rw [k2]
      exact (edel_neg (e := x.2.dat) (es := kdat rs) ne).symm
theorem seqI {i n : Nat} (h : i < n) : seqIndex? (i : Int) n = some i := by
  unfold seqIndex?
  rw [if_neg (show ¬ ((i : Int) < 0) by omega)]
  rw [if_pos (by rw [Bool.and_eq_true, decide_eq_true_iff, decide_eq_true_iff]; omega), Int.toNat_natCast]
theorem mv_perm {α : Type} {xs : List α} {i : Nat} {x : α} (h : xs[i]? = some x) : (xs.eraseIdx i ++ [x]).Perm xs := by
  obtain ⟨hi, e⟩ := List.getElem?_eq_some_iff.mp h
  rw [List.eraseIdx_eq_take_drop_succ]
  have : xs = xs.take i ++ x :: xs.drop (i + 1) := by
    rw [← e, List.getElem_cons_drop, List.take_append_drop]
  refine List.Perm.trans ?_ (List.Perm.of_eq this.symm)
  rw [List.append_assoc]
  exact List.Perm.append_left _ (List.perm_append_singleton _ _)
theorem erase_map {α β : Type} (f : α → β) : ∀ (xs : List α) (i : Nat), (xs.map f).eraseIdx i = (xs.eraseIdx i).map f
  | [], _ => rfl
  | _ :: _, 0 => rfl
  | x :: xs, i + 1 => by
    show f x :: (xs.map f).eraseIdx i = f x :: (xs.eraseIdx i).map f
    rw [erase_map f xs i]
theorem find_or (rs : List (Addr × MEnt)) (kd : PyData) : (∀ r ∈ rs, r.2.kd ≠ kd) ∨ ∃ (i : Nat) (r : Addr × MEnt), rs[i]? = some r ∧ r.2.kd = kd := by
  by_cases h : ∀ r ∈ rs, r.2.kd ≠ kd
  · exact .inl h
  · refine .inr ?_
    obtain ⟨r, hr⟩ := Classical.not_forall.mp h
    obtain ⟨h1, h2⟩ := Classical.not_imp.mp hr
    obtain ⟨i, hi⟩ := List.mem_iff_getElem?.mp h1
    exact ⟨i, r, hi, Classical.not_not.mp h2⟩
@[irreducible] def spFind : Sp := fun vs H Q _ => ∃ (L : Addr) (k : V) (kd : PyData) (rs : List (Addr × MEnt)), vs = [.ref L, k] ∧ KeptAt H L rs ∧ Thing kd ∧ Dh H kd k ∧ ((∀ r ∈ rs, r.2.kd ≠ kd) → Q (.int (-1)) H) ∧ ∀ (i : Nat) (r : Addr × MEnt), rs[i]? = some r → r.2.kd = kd → Q (.int i) H
theorem kdat_len (rs : List (Addr × MEnt)) : (kdat rs).length = rs.length := List.length_map _
theorem edel_len (es : List DE) (k : PyData) : (edel es k).length ≤ es.length := List.length_filter_le _ _
theorem edel_mem {es : List DE} {k : PyData} {x : DE} (h : x ∈ edel es k) : x ∈ es ∧ x.1 ≠ k := by
  have := List.mem_filter.mp h
  exact ⟨this.1, by simpa using this.2⟩
theorem find_mk {L : Addr} {k : V} {kd : PyData} {rs : List (Addr × MEnt)} {H : Hp} {Q : VK} {E : XK} (hc : KeptAt H L rs) (hk : Thing kd) (hx : Dh H kd k) (h : ∀ i : Int, ((i = -1 ∧ ∀ r ∈ rs, r.2.kd ≠ kd) ∨ ∃ (n : Nat) (r : Addr × MEnt), i = n ∧ rs[n]? = some r ∧ r.2.kd = kd) → Q (.int i) H) : spFind [.ref L, k] H Q E := by
  unfold spFind
  exact ⟨L, k, kd, rs, rfl, hc, hk, hx, fun z => h _ (.inl ⟨rfl, z⟩), fun i r er z => h _ (.inr ⟨i, r, rfl, er, z⟩)⟩
def spKLook : Sp := fun vs H Q _ => ∃ (L : Addr) (k : V) (kd : PyData) (rs : List (Addr × MEnt)), vs = [.ref L, k] ∧ KeptAt H L rs ∧ Thing kd ∧ Dh H kd k ∧ (eget (kdat rs) kd = none → Q .non H) ∧ ∀ vd, eget (kdat rs) kd = some vd → ∀ v rs' H', Dh H' vd v → KeptAt H' L rs' → kdat rs' = edel (kdat rs) kd ++ [(kd, vd)] → (∀ r ∈ rs', r ∈ rs) → But H H' L → Q v H'
def spKDrop : Sp := fun vs H Q _ => ∃ (L : Addr) (k : V) (kd : PyData) (rs : List (Addr × MEnt)), vs = [.ref L, k] ∧ KeptAt H L rs ∧ Thing kd ∧ Dh H kd k ∧ ∀ rs' H', KeptAt H' L rs' → kdat rs' = edel (kdat rs) kd → (∀ r ∈ rs', r ∈ rs) → But H H' L → Q (.bl (eget (kdat rs) kd).isSome) H'
def spKFill : Sp := fun vs H Q _ => ∃ (L : Addr) (k v : V) (size : Int) (kd vd : PyData) (rs : List (Addr × MEnt)), vs = [.ref L, .int size, k, v] ∧ KeptAt H L rs ∧ rs.length ≤ 90000 ∧ Thing kd ∧ Dh H kd k ∧ Opt vd ∧ Dh H vd v ∧ 0 ≤ size ∧ (rs.length : Int) ≤ size ∧
  (size = 0 → Q .non H) ∧ (size ≠ 0 → (((edel (kdat rs) kd).length + 1 : Nat) : Int) ≤ size → ∀ rs' H', KeptAt H' L rs' → kdat rs' = edel (kdat rs) kd ++ [(kd, vd)] → (∀ r ∈ rs', r ∈ rs ∨ H r.1 = none) → But H H' L → Q .non H') ∧
  (size ≠ 0 → ¬ (((edel (kdat rs) kd).length + 1 : Nat) : Int) ≤ size → ∀ yk yv es, edel (kdat rs) kd ++ [(kd, vd)] = (yk, yv) :: es → ∀ y rs' H', KeptAt H' L rs' → kdat rs' = es → (∀ r ∈ rs', r ∈ rs ∨ H r.1 = none) → But H H' L → Thing yk → Dh H' yk y → Q y H')
section
variable {P : Program} {w : World} {K : PySem.W.Frag} {mg : Str → Option Value} {base : Heap}
theorem ok_find {f : Addr} {fd : FuncData} (Df : Def K mg "_law_kept_find" s_kept_find f fd) (b : Binds K fd ["_law_kept", "_law_key"] []) (T : Txt mg) : Cal P w K mg base 1 "_law_kept_find" spFind [] := by
  refine cal0 Df b .nil sc_kept_find (fun vs H Q E h => ?_) (fun cdv A outer s H vs Q E hr h => ?_)
  · unfold spFind at h
    obtain ⟨L, k, kd, rs, rfl, _⟩ := h
    rfl
  unfold spFind at h
  obtain ⟨L, k, kd, rs, rfl, hc, hk, hx, q1, q2⟩ := h
  refine ⟨_, (pss_cons (ps_mk (ps_for PassesOwn.never rfl (pi_range1 (by rfl) T.range (pa_cons (pe_callB (lenQ K rfl) (by rfl) T.len PySem.boot_len (pa_cons (pv 0) pa_nil)) pa_nil)) (pg_name (i := 2) sc_kept_find.nd rfl (.inl rfl))
      (pss_one (ps_mk (ps_if (pt_cmpR (eqQ K rfl hr.units) (pe_ix (ixL K rfl) (pe_ix (ixL K rfl) (pv 0) (pv 2) (fun _ _ => rfl)) pe_int (fun _ _ => rfl)) (pv 1) (nomark _))
      (pss_one (ps_ret (pv 2)))
      pss_nil)))))
      (pss_one (ps_ret (pe_un un_neg pe_int)))), ?_⟩
  have gL := hc.g
  have hl := hc.l
  refine jnS (M := fun σ H' => H' = H ∧ ∀ r ∈ rs, r.2.kd ≠ kd) (fun σ H1 h => ?_) (fun N kk => ?_)
  · obtain ⟨e, h⟩ := h
    subst e
    walk_at "go"
    exact q1 h
  obtain ⟨vs, evs⟩ : ∃ vs : List V, vs = rs.map fun r => V.ref r.1 := ⟨_, rfl⟩
  have el : vs.length = rs.length := by rw [evs, List.length_map]
  rw [← evs] at gL
  walk_at "go"
  refine ⟨by omega, by omega, for_range (lo := 0) (n := vs.length) (fun i σ H' => Ob (H' = H ∧ (∀ r ∈ rs.take i, r.2.kd ≠ kd) ∧ ∃ y2, σ = [sR L, some k, y2])) (ob ⟨rfl, by simp, _, rfl⟩) ?_ ?_⟩
  · intro i σ H1 hi h
    obtain ⟨e, hno, y2, rfl⟩ := unob h
    subst e
    clear h kk
    rw [el] at hi
    obtain ⟨r, er⟩ : ∃ r, rs[i]? = some r := ⟨_, List.getElem?_eq_getElem hi⟩
    obtain ⟨k1, k2, k3, k4, k5⟩ := hc.e r (List.mem_of_getElem? er)
    have at1 : atI vs ((i : Nat) : Int) = some (.ref r.1) := atI_nat (by rw [evs, List.getElem?_map, er]; rfl)
    rw [Int.zero_add]
    refine un ?_
    walk_at "go"
    refine ⟨r.2.kd, kd, Dh.dp _ _ k4, Dh.dp _ _ hx, shaped_opt (.inr k2), shaped_opt (.inr hk), ?_⟩
    refine ⟨_, rfl, ?_⟩
    by_cases z : r.2.kd = kd
    · refine ifBT ((eqv_thing (.inr k2) (.inr hk)).mpr z) ?_
      walk_at "go"
      exact q2 i r er z
    · refine ifBF (by
        cases hb : PyData.eqv r.2.kd kd with
        | false => rfl
        | true => exact absurd ((eqv_thing (.inr k2) (.inr hk)).mp hb) z) ?_
      walk_at "go"
      refine ob ⟨rfl, fun x hx => ?_, _, rfl⟩
      rw [List.take_add_one, er] at hx
      rcases List.mem_append.mp hx with y | y
      · exact hno x y
      · have : x = r := by simpa using y
        rw [this]
        exact z
  · intro σ H1 h
    obtain ⟨e, hno, y2, rfl⟩ := unob h
    rw [el, List.take_length] at hno
    exact kk _ _ ⟨e, hno⟩
theorem ok_klook {f : Addr} {fd : FuncData} (Df : Def K mg "_law_kept_look" s_kept_look f fd) (b : Binds K fd ["_law_kept", "_law_key"] []) (T : Txt mg) (c_kept_find : Cal P w K mg base 1 "_law_kept_find" spFind []) : Cal P w K mg base 2 "_law_kept_look" spKLook [] := by
  refine cal0 Df b .nil sc_kept_look (fun vs H Q E h => ?_) (fun cdv A outer s H vs Q E hr h => ?_)
  · obtain ⟨L, k, kd, rs, rfl, _⟩ := h
    rfl
  obtain ⟨L, k, kd, rs, rfl, hc, hk, hx, q1, q2⟩ := h
  refine ⟨_, (pss_cons (ps_set (i := 2) sc_kept_look.nd rfl (.inl rfl) (C8.pe_c c_kept_find hr (by omega) (by rfl) (pa_cons (pv 0) (pa_cons (pv 1) pa_nil))))
      (pss_cons (ps_mk (ps_if (pt_cmpR op_lt (pv 2) pe_int (nomark _))
      (pss_one (ps_ret pe_non))
      pss_nil))
      (pss_cons (ps_set (i := 3) sc_kept_look.nd rfl (.inl rfl) (pe_bm PySem.F.plainAttrs_list PySem.F.slot_list_pop PySem.F.type_list_pop mt_popAt (pv 0) (pa_cons (pv 2) pa_nil)))
      (pss_cons (ps_expr (pe_bm PySem.F.plainAttrs_list PySem.F.slot_list_append PySem.F.type_list_append mt_append (pv 0) (pa_cons (pv 3) pa_nil)))
      (pss_one (ps_ret (pe_ix (ixL K rfl) (pv 3) pe_int (fun _ _ => rfl)))))))), ?_⟩
  have gL := hc.g
  have hl := hc.l
  walk_at "go"
  unfold spFind
  refine ⟨L, k, kd, rs, rfl, hc, hk, hx, fun hno => ?_, fun i r er hkd => ?_⟩
  · walk_at "go"
    refine un ?_
    walk_at "go"
    exact q1 (kept_none.mp hno)
  obtain ⟨k1, k2, k3, k4, k5⟩ := hc.e r (List.mem_of_getElem? er)
  obtain ⟨e1, e2⟩ := kept_some hc.nd er
  rw [hkd] at e1 e2
  obtain ⟨il, ei⟩ := List.getElem?_eq_some_iff.mp er
  have el : (rs.map fun r => V.ref r.1).length = rs.length := List.length_map _
  refine jnS (M := fun σ H' => H' = H ∧ σ = [sR L, some k, sI i, none]) ?_ (fun N kk => ?_)
  rotate_left
  · walk_at "go"
    exact kk _ _ ⟨rfl, rfl⟩
  rintro σ H1 ⟨e0, rfl⟩
  subst e0
  walk_at "go"
  refine ⟨L, _, i, i, .ref r.1, rfl, rfl, gL, by omega, by omega, seqI (by rw [el]; exact il), by rw [List.getElem?_map, er]; rfl, ?_⟩
  have eid : (rs.map fun r => V.ref r.1).eraseIdx i = (rs.eraseIdx i).map fun r => V.ref r.1 := erase_map _ _ _
  rw [eid]
  walk_at "go"
  refine ⟨.inl ⟨rfl, _, SqL.of upd_same⟩, ?_⟩
  walk_at "go"
  refine ⟨L, _, _, rfl, rfl, upd_same, sz5 (by rw [List.length_map]; have := (List.eraseIdx_sublist rs i).length_le; omega), ?_⟩
  rw [upd_upd]
  have ep : (rs.eraseIdx i).map (fun r => V.ref r.1) ++ [V.ref r.1] = ((rs.eraseIdx i ++ [r]).map fun r => V.ref r.1) := by rw [List.map_append]; rfl
  rw [ep]
  have hp := mv_perm er
  have hc2 : KeptAt (upd H1 L (.lst ((rs.eraseIdx i ++ [r]).map fun r => V.ref r.1))) L (rs.eraseIdx i ++ [r]) := hc.put (fun x hx => .inl (hp.mem_iff.mp hx)) ((hp.map _).nodup_iff.mpr hc.nd) ((hp.map _).nodup_iff.mpr hc.ad) (by rw [hp.length_eq]; exact hl)
  have b2 : But H1 (upd H1 L (.lst ((rs.eraseIdx i ++ [r]).map fun r => V.ref r.1))) L := But.put
  have d2 := (hc2.e r (List.mem_append_right _ List.mem_cons_self)).2.2.2.2
  have g2 := (hc2.e r (List.mem_append_right _ List.mem_cons_self)).1
  generalize upd H1 L (.lst ((rs.eraseIdx i ++ [r]).map fun r => V.ref r.1)) = H2 at *
  walk_at "go"
  refine q2 r.2.vd e1 _ _ _ d2 hc2 ?_ (fun x hx => hp.mem_iff.mp hx) b2
  show List.map _ _ = _
  rw [List.map_append]
  show kdat (rs.eraseIdx i) ++ [(r.2.kd, r.2.vd)] = _
  rw [e2, hkd]
theorem ok_kdrop {f : Addr} {fd : FuncData} (Df : Def K mg "_law_kept_drop" s_kept_drop f fd) (b : Binds K fd ["_law_kept", "_law_key"] []) (T : Txt mg) (c_kept_find : Cal P w K mg base 1 "_law_kept_find" spFind []) : Cal P w K mg base 2 "_law_kept_drop" spKDrop [] := by
  refine cal0 Df b .nil sc_kept_drop (fun vs H Q E h => ?_) (fun cdv A outer s H vs Q E hr h => ?_)
  · obtain ⟨L, k, kd, rs, rfl, _⟩ := h
    rfl
  obtain ⟨L, k, kd, rs, rfl, hc, hk, hx, q⟩ := h
  refine ⟨_, (pss_cons (ps_set (i := 2) sc_kept_drop.nd rfl (.inl rfl) (C8.pe_c c_kept_find hr (by omega) (by rfl) (pa_cons (pv 0) (pa_cons (pv 1) pa_nil))))
      (pss_cons (ps_mk (ps_if (pt_cmpR op_ge (pv 2) pe_int (nomark _))
      (pss_one (ps_expr (pe_bm PySem.F.plainAttrs_list PySem.F.slot_list_pop PySem.F.type_list_pop mt_popAt (pv 0) (pa_cons (pv 2) pa_nil))))
      pss_nil))
      (pss_one (ps_ret (pe_cmpR op_ge (pv 2) pe_int (nomark _)))))), ?_⟩
  have gL := hc.g
  have hl := hc.l
  walk_at "go"
  unfold spFind
  refine ⟨L, k, kd, rs, rfl, hc, hk, hx, fun hno => ?_, fun i r er hkd => ?_⟩
  · have q := q rs H hc (edel_none (kept_none.mp hno)).symm (fun r hr => hr) (fun _ _ _ z => z)
    rw [kept_none.mp hno] at q
    walk_at "go"
    refine un ?_
    walk_at "go"
    exact q
  obtain ⟨e1, e2⟩ := kept_some hc.nd er
  rw [hkd] at e1 e2
  obtain ⟨il, ei⟩ := List.getElem?_eq_some_iff.mp er
  have el : (rs.map fun r => V.ref r.1).length = rs.length := List.length_map _
  rw [e1] at q
  refine jnS (M := fun σ H' => (∃ rs', KeptAt H' L rs' ∧ kdat rs' = edel (kdat rs) kd ∧ (∀ r ∈ rs', r ∈ rs) ∧ But H H' L) ∧ σ = [sR L, some k, sI i]) ?_ (fun N kk => ?_)
  rotate_left
  · walk_at "go"
    refine ⟨L, _, i, i, .ref r.1, rfl, rfl, gL, by omega, by omega, seqI (by rw [el]; exact il), by rw [List.getElem?_map, er]; rfl, ?_⟩
    walk_at "go"
    rw [erase_map]
    exact kk _ _ ⟨⟨rs.eraseIdx i, hc.cut i, e2, fun x hx => List.mem_of_mem_eraseIdx hx, But.put⟩, rfl⟩
  rintro σ H1 ⟨⟨rs', h1, h2, h3, h4⟩, rfl⟩
  walk_at "go"
  exact q rs' _ h1 h2 h3 h4
theorem ok_kfill {f : Addr} {fd : FuncData} (Df : Def K mg "_law_kept_fill" s_kept_fill f fd) (b : Binds K fd ["_law_kept", "_law_size", "_law_key", "_law_value"] []) (T : Txt mg) (c_kept_find : Cal P w K mg base 1 "_law_kept_find" spFind []) : Cal P w K mg base 2 "_law_kept_fill" spKFill [] := by
  refine cal0 Df b .nil sc_kept_fill (fun vs H Q E h => ?_) (fun cdv A outer s H vs Q E hr h => ?_)
  · obtain ⟨L, k, v, size, kd, vd, rs, rfl, _⟩ := h
    rfl
  obtain ⟨L, k, v, size, kd, vd, rs, rfl, hc, hl, hk, hx, ov, hv, s0, sl, q1, q2, q3⟩ := h
  refine ⟨_, (pss_cons (ps_set (i := 4) sc_kept_fill.nd rfl (.inl rfl) (C8.pe_c c_kept_find hr (by omega) (by rfl) (pa_cons (pv 0) (pa_cons (pv 2) pa_nil))))
      (pss_cons (ps_mk (ps_if (pt_cmpR op_ge (pv 4) pe_int (nomark _))
      (pss_one (ps_expr (pe_bm PySem.F.plainAttrs_list PySem.F.slot_list_pop PySem.F.type_list_pop mt_popAt (pv 0) (pa_cons (pv 4) pa_nil))))
      pss_nil))
      (pss_cons (ps_mk (ps_if (pt_cmpR op_gt (pv 1) pe_int (nomark _))
      (pss_one (ps_expr (pe_bm PySem.F.plainAttrs_list PySem.F.slot_list_append PySem.F.type_list_append mt_append (pv 0) (pa_cons (pe_lst (pa_cons (pv 2) (pa_cons (pv 3) pa_nil))) pa_nil))))
      pss_nil))
      (pss_cons (ps_mk (ps_if (pt_cmpR op_gt (pe_callB (lenQ K rfl) (by rfl) T.len PySem.boot_len (pa_cons (pv 0) pa_nil)) (pv 1) (nomark _))
      (pss_one (ps_ret (pe_ix (ixL K rfl) (pe_bm PySem.F.plainAttrs_list PySem.F.slot_list_pop PySem.F.type_list_pop mt_popAt (pv 0) (pa_cons pe_int pa_nil)) pe_int (fun _ _ => rfl))))
      pss_nil))
      (pss_one (ps_ret pe_non)))))), ?_⟩
  walk_at "go"
  refine find_mk hc hk hx fun i hi => ?_
  refine jnS (M := fun σ H' => ∃ rs', KeptAt H' L rs' ∧ kdat rs' = edel (kdat rs) kd ∧ (∀ r ∈ rs', r ∈ rs) ∧ But H H' L ∧ (size = 0 → H' = H) ∧ σ = [sR L, sI size, some k, some v, sI i]) ?_ (fun N kk => ?_)
  rotate_left
  · have gL := hc.g
    rcases hi with ⟨rfl, hno⟩ | ⟨i, r, rfl, er, hkd⟩
    · walk_at "go"
      exact kk _ _ ⟨rs, hc, (edel_none (kept_none.mp hno)).symm, fun r hr => hr, fun _ _ _ z => z, fun _ => rfl, rfl⟩
    obtain ⟨e1, e2⟩ := kept_some hc.nd er
    rw [hkd] at e1 e2
    obtain ⟨il, ei⟩ := List.getElem?_eq_some_iff.mp er
    have el : (rs.map fun r => V.ref r.1).length = rs.length := List.length_map _
    have hl0 := hc.l
    walk_at "go"
    refine ⟨L, _, i, i, .ref r.1, rfl, rfl, gL, by omega, by omega, seqI (by rw [el]; exact il), by rw [List.getElem?_map, er]; rfl, ?_⟩
    walk_at "go"
    rw [erase_map]
    exact kk _ _ ⟨rs.eraseIdx i, hc.cut i, e2, fun x hx => List.mem_of_mem_eraseIdx hx, But.put, fun z => absurd sl (by omega), rfl⟩
  rintro σ H1 ⟨rs1, h1, h2, h3, h4, h5, rfl⟩
  refine jnS (M := fun σ H' => ∃ rs', KeptAt H' L rs' ∧ (size = 0 → H' = H ∧ rs' = []) ∧ (size ≠ 0 → kdat rs' = edel (kdat rs) kd ++ [(kd, vd)]) ∧ (∀ r ∈ rs', r ∈ rs ∨ H r.1 = none) ∧ But H H' L ∧ σ = [sR L, sI size, some k, some v, sI i]) ?_ (fun N kk => ?_)
  rotate_left
  · have hl1 : rs1.length ≤ rs.length := by
      have e := congrArg List.length h2
      rw [kdat_len] at e
      have := edel_len (kdat rs) kd
      rw [kdat_len] at this
      omega
    walk_at "go"
    refine ifD (fun z => ?_) (fun z => ?_)
    · have hx1 := Dh.tups (But.tups h4 hc.no) _ _ (opt_noL (.inr hk)) hx
      have hv1 := Dh.tups (But.tups h4 hc.no) _ _ (opt_noL ov) hv
      have gL := h1.g
      walk_at "go"
      refine ⟨sz, fun p hp => ?_⟩
      have s2 := same_upd (o := HO.lst [k, v]) hp
      have gp := upd_same (H := H1) (a := p) (o := HO.lst [k, v])
      show _
      generalize upd H1 p (HO.lst [k, v]) = H2 at *
      have hc2 := h1.same s2
      have g2 := hc2.g
      have np : p ≠ L := (ne_of_none gL hp).symm
      walk_at "go"
      refine ⟨L, _, _, rfl, rfl, g2, sz5 (by rw [List.length_map]; omega), ?_⟩
      have ep : rs1.map (fun r => V.ref r.1) ++ [V.ref p] = ((rs1 ++ [(p, MEnt.mk kd vd k v)]).map fun r => V.ref r.1) := by rw [List.map_append]; rfl
      rw [ep]
      walk_at "go"
      have nin : ∀ r ∈ rs1, r.2.kd ≠ kd := fun r hr z => by
        have : r.2.dat ∈ kdat rs1 := List.mem_map_of_mem hr
        rw [h2] at this
        exact (edel_mem this).2 z
      have nad : ∀ r ∈ rs1, r.1 ≠ p := fun r hr z => by
        have := (h1.e r hr).1
        rw [z, hp] at this
        cases this
      have hc3 : KeptAt (upd H2 L (.lst ((rs1 ++ [(p, MEnt.mk kd vd k v)]).map fun r => V.ref r.1))) L (rs1 ++ [(p, MEnt.mk kd vd k v)]) := by
        refine hc2.put (fun x hx => ?_) ?_ ?_ (by rw [List.length_append]; show rs1.length + 1 ≤ _; omega)
        · rcases List.mem_append.mp hx with y | y
          · exact .inl y
          · obtain rfl : x = (p, MEnt.mk kd vd k v) := by simpa using y
            exact .inr ⟨np, gp, hk, ov, Dh.mono s2 _ _ hx1, Dh.mono s2 _ _ hv1⟩
        · rw [List.map_append]
          refine List.nodup_append.mpr ⟨hc2.nd, by simp, fun a ha b hb z => ?_⟩
          obtain ⟨r, hr, rfl⟩ := List.mem_map.mp ha
          have : b = kd := by simpa using hb
          exact nin r hr (z.trans this)
        · rw [List.map_append]
          refine List.nodup_append.mpr ⟨hc2.ad, by simp, fun a ha b hb z => ?_⟩
          obtain ⟨r, hr, rfl⟩ := List.mem_map.mp ha
          have : b = p := by simpa using hb
          exact nad r hr (z.trans this)
      refine kk _ _ ⟨_, hc3, fun z => absurd z (by omega), fun _ => ?_, fun r hr => ?_, h4.trans ((Same.but s2).trans But.put), rfl⟩
      · show List.map _ _ = _
        rw [List.map_append]
        show kdat rs1 ++ _ = _
        rw [h2]
        rfl
      · rcases List.mem_append.mp hr with y | y
        · exact .inl (h3 r y)
        · obtain rfl : r = (p, MEnt.mk kd vd k v) := by simpa using y
          refine .inr ?_
          cases z : H p with
          | none => rfl
          | some o =>
            have := h4 p o np z
            rw [hp] at this
            cases this
    · walk_at "go"
      refine kk _ _ ⟨rs1, h1, fun z => ⟨h5 z, ?_⟩, fun z => absurd z (by omega), fun r hr => .inl (h3 r hr), h4, rfl⟩
      cases rs1 with
      | nil => rfl
      | cons y ys => simp at hl1; omega
  clear h1 h2 h3 h4 h5
  rintro σ H2 ⟨rs2, h1, h2, h3, h4, h5, rfl⟩
  have gL := h1.g
  have hl2 := h1.l
  have el : (rs2.map fun r => V.ref r.1).length = rs2.length := List.length_map _
  refine un ?_
  walk_at "go"
  rw [el]
  refine ifD (fun z => ?_) (fun z => ?_)
  · have z : size < (rs2.length : Int) := z
    cases rs2 with
    | nil => simp at z; omega
    | cons y ys =>
    have nz : size ≠ 0 := fun z0 => by
      have := (h2 z0).2
      cases this
    have e3 := h3 nz
    have e4 : (edel (kdat rs) kd ++ [(kd, vd)]) = (y.2.kd, y.2.vd) :: kdat ys := e3.symm
    have l4 := congrArg List.length e4
    rw [List.length_append] at l4
    have l4 : (edel (kdat rs) kd).length + 1 = (kdat ys).length + 1 := l4
    rw [kdat_len] at l4
    have z2 : ¬ (((edel (kdat rs) kd).length + 1 : Nat) : Int) ≤ size := by
      have z : size < ((ys.length + 1 : Nat) : Int) := z
      omega
    have hc3 := h1.cut 0
    have hc3 : KeptAt (upd H2 L (.lst (ys.map fun r => V.ref r.1))) L ys := hc3
    walk_at "go"
    refine ⟨L, _, 0, 0, .ref y.1, rfl, rfl, gL, by decide, by decide, seqI (i := 0) (by rw [el]; exact Nat.succ_pos _), rfl, ?_⟩
    show _
    have eid : ((y :: ys).map fun r => V.ref r.1).eraseIdx 0 = ys.map fun r => V.ref r.1 := rfl
    rw [eid]
    have ny : y.1 ≠ L := h1.nl y List.mem_cons_self
    obtain ⟨k1, k2, k3, k4, k5⟩ := h1.e y List.mem_cons_self
    have b3 : But H2 (upd H2 L (.lst (ys.map fun r => V.ref r.1))) L := But.put
    have g3 := b3 _ _ ny k1
    have d3 := Dh.tups (But.tups b3 h1.no) _ _ (opt_noL (.inr k2)) k4
    generalize upd H2 L (.lst (ys.map fun r => V.ref r.1)) = H3 at *
    walk_at "go"
    refine q3 nz z2 _ _ _ e4 _ ys _ hc3 rfl (fun r hr => h4 r (List.mem_cons_of_mem _ hr)) (h5.trans b3) k2 d3
  · walk_at "go"
    by_cases z0 : size = 0
    · obtain ⟨rfl, rfl⟩ := h2 z0
      exact q1 z0
    · have e3 := h3 z0
      refine q2 z0 ?_ rs2 H2 h1 e3 h4 h5
      have := congrArg List.length e3
      rw [kdat_len, List.length_append] at this
      have : rs2.length = (edel (kdat rs) kd).length + 1 := this
      omega
end

end

/-! ### x in o, list(o), o an own object -/
def rInO (C : Addr) (sp : Sp) (neg : Bool) : R2 := fun x y H Q => ∃ a dx fs, y = .ref a ∧ H a = some (.ins C dx fs) ∧ sp [.ref a, x] H (fun v H1 => ∃ b, v = .bl b ∧ Q (.bl (if neg then !b else b)) H1) C8.E0
theorem op_inO {X : Cx} {j k : Nat} {C : Addr} {sp : Sp} (c : C8.Met X.prog X.w X.K X.mg X.base k C "__contains__" sp []) (hr : Room j X.A) (hk : k ≤ j) : OpR X (compareOp .In) (rInO C sp false) := by
  intro pins s σ H x y v u Q I rx ry h
  obtain ⟨f, fd, ps, ds, hc, hm, F, b, d⟩ := c.ex
  obtain rfl : ds = [] := by cases d; rfl
  obtain ⟨a, dx, fs, rfl, ha, q⟩ := h
  obtain rfl : u = Value.ref a := ry
  obtain ⟨mA, J, _⟩ := ins_get I.hok ha
  obtain ⟨od, J, _⟩ := J.look
  obtain ⟨m, hF⟩ := I.fr
  refine PySem.W.in_K hF I.ok.mod.kin J hm.at_ hm.fn ?_
  refine wpAny_mono (run_fn (us := [.ref a, v]) (vs := [.ref a, x]) (dvs := []) (ds := []) F (hr.mono hk) b .nil C8.pass0 I (.cons rfl (.cons rx .nil)) q) (fun r s2 hv => ?_) fun _ _ z => z
  obtain ⟨y, H2, I2, r2, bb, rfl, q2⟩ := hv
  obtain rfl : r = Value.bool bb := r2
  exact wpAny_truthy_bool ⟨.bl bb, H2, I2, rfl, q2⟩
theorem op_notInO {X : Cx} {j k : Nat} {C : Addr} {sp : Sp} (c : C8.Met X.prog X.w X.K X.mg X.base k C "__contains__" sp []) (hr : Room j X.A) (hk : k ≤ j) : OpR X (compareOp .NotIn) (rInO C sp true) := by
  intro pins s σ H x y v u Q I rx ry h
  obtain ⟨f, fd, ps, ds, hc, hm, F, b, d⟩ := c.ex
  obtain rfl : ds = [] := by cases d; rfl
  obtain ⟨a, dx, fs, rfl, ha, q⟩ := h
  obtain rfl : u = Value.ref a := ry
  obtain ⟨mA, J, _⟩ := ins_get I.hok ha
  obtain ⟨od, J, _⟩ := J.look
  obtain ⟨m, hF⟩ := I.fr
  refine PySem.W.notIn_K hF I.ok.mod.kin J hm.at_ hm.fn ?_
  refine wpAny_mono (run_fn (us := [.ref a, v]) (vs := [.ref a, x]) (dvs := []) (ds := []) F (hr.mono hk) b .nil C8.pass0 I (.cons rfl (.cons rx .nil)) q) (fun r s2 hv => ?_) fun _ _ z => z
  obtain ⟨y, H2, I2, r2, bb, rfl, q2⟩ := hv
  obtain rfl : r = Value.bool bb := r2
  exact wpAny_truthy_bool ⟨.bl (!bb), H2, I2, rfl, q2⟩

section

-- a condition of an operator
local macro_rules | `(tactic| walk_at "cond") => `(tactic| first
  | (show (0 : Int) < _; omega)
  | (show CDiv _ _; constructor <;> (first | decide | omega))
  | (show CMul _ _; first | (refine cmul_l ?_; constructor <;> (first | decide | omega)) | (refine cmul_r ?_; constructor <;> (first | decide | omega)))
  | (show CPow _ _; exact (by refine ⟨by decide, by decide, by decide⟩))
  | (show CDivW _ _; exact ⟨by decide, by decide +kernel⟩))
local macro_rules | `(tactic| walk_at "sq") => `(tactic| first | assumption | exact Dh.mono (same_upd (by assumption)) _ _ (by assumption) | exact .inl (.inl (.inl (by assumption))) | exact .inr (.inl (.inl (by assumption))) | exact SqL.of (by assumption) | exact .inl (by assumption) | exact .inl (SqL.of (by assumption)) | exact SqT.of (by assumption) | exact .inr (SqT.of (by assumption)))
local macro_rules | `(tactic| walk_at "st") => `(tactic| first
  | refine ⟨_, rfl, ?_⟩
  | refine ⟨_, _, rfl, rfl, ?_⟩
  | refine .inl ⟨_, rfl, ?_⟩
  | refine ⟨rfl, ?_⟩
  | refine ⟨_, _, rfl, by walk_at "sq", ?_⟩
  | refine ⟨.inl ⟨rfl, _, SqL.of (by assumption)⟩, ?_⟩
  | refine ⟨by walk_at "cond", ?_⟩
  | (refine' ifBT ?hh ?_; (case hh => first | rfl | assumption))
  | (refine' ifBF ?hh ?_; (case hh => first | rfl | assumption)))
local macro_rules | `(tactic| walk_at "go") => `(tactic| repeat walk_at "st")
local macro_rules | `(tactic| walk_at "yes") => `(tactic| (refine' ifT ?hh ?_; (case hh => first | rfl | decide +kernel)))
local macro_rules | `(tactic| walk_at "no") => `(tactic| (refine' ifF ?hh ?_; (case hh => first | decide +kernel | (intro z; cases z; done))))

-- facts carried to the heap at hand, from the facts of the context
local macro_rules | `(tactic| walk_at "lnk") => `(tactic| first | assumption | exact same_upd (by assumption))
local macro_rules | `(tactic| walk_at "sm") => `(tactic| first | walk_at "lnk" | exact same_rfl | (refine Same.trans ?_ (by walk_at "lnk"); walk_at "sm"))
local macro_rules | `(tactic| walk_at "at") => `(tactic| first | assumption | exact upd_same | (refine Same.get (by walk_at "lnk") ?_; walk_at "at"))
local macro_rules | `(tactic| walk_at "ix") => `(tactic| first
  | exact atI_nat (j := 0) rfl | exact atI_nat (j := 1) rfl | exact atI_nat (j := 2) rfl | exact atI_nat (j := 3) rfl
  | exact atI_nat (j := 4) rfl | exact atI_nat (j := 5) rfl | exact atI_nat (j := 6) rfl | assumption)
local macro_rules | `(tactic| walk_at "sT") => `(tactic| first | exact SqT.of (by walk_at "at") | exact SqL.of (by walk_at "at"))
local macro_rules | `(tactic| walk_at "st") => `(tactic| refine ⟨_, _, _, _, rfl, rfl, by walk_at "sT", by walk_at "ix", ?_⟩)
local macro_rules | `(tactic| walk_at "side") => `(tactic| first | rfl | assumption | walk_at "at" | walk_at "sm" | omega | decide)
-- a call: the promise's letters from its arguments, then what is asked from the context
local macro_rules | `(tactic| walk_at "call") => `(tactic| ((repeat (apply Exists.intro)); refine And.intro rfl ?_; repeat (refine And.intro (by walk_at "side") ?_)))

local macro_rules | `(tactic| walk_at "st") => `(tactic| refine ⟨_, _, _, _, _, rfl, by assumption, by assumption, by omega, by omega, by omega, by omega, by omega, ?_⟩)
local macro_rules | `(tactic| walk_at "st") => `(tactic| refine ⟨_, _, _, _, _, rfl, Same.seq (by assumption) (by assumption), by assumption, by omega, by omega, by omega, by omega, by omega, ?_⟩)

/-! ### _law_kept_deed -/
abbrev s_kept_deed : Stmt := topS 11
theorem sc_kept_deed : FnScope ["_law_kind", "_law_key", "_law_value"] ["_law_kind", "_law_key", "_law_value"] (C8.fnScope s_kept_deed) := C8.fnScope_by (by decide +kernel)
inductive KDeed
  | fill (k v : PyData)
  | look (k : PyData)
  | drop (k : PyData)
  | idle
  | clear
def KDeed.dat : KDeed → PyData
  | .fill k v => .tuple [.str "fill", k, v]
  | .look k => .tuple [.str "look", k]
  | .drop k => .tuple [.str "drop", k]
  | .idle => .tuple [.str "none"]
  | .clear => .tuple [.str "clear_all"]
def KDeed.ok : KDeed → Prop
  | .fill k v => Thing k ∧ Opt v
  | .look k => Thing k
  | .drop k => Thing k
  | _ => True
theorem dle_up : ∀ {n : Nat} {d : PyData}, Dle n d → Dle (n + 1) d
  | 0, _, h => h.elim
  | n + 1, .list ds, h => ⟨h.1, fun d hd => dle_up (h.2 d hd)⟩
  | n + 1, .tuple ds, h => ⟨h.1, fun d hd => dle_up (h.2 d hd)⟩
  | n + 1, .none, _ => trivial
  | n + 1, .bool _, _ => trivial
  | n + 1, .int _, _ => trivial
  | n + 1, .str _, _ => trivial
  | n + 1, .dict _, h => h.elim
theorem dle5 {d : PyData} (h : Opt d) : Dle 5 d := dle_up (dle_up (dle_up (dle_opt h)))
theorem same_eq {n : Nat} {x y : V} {d : PyData} {H : Hp} {Q : VK} {E : XK} (hx : Dh H d x) (hy : Dh H d y) (hd : Dle n d) (q : ∀ H', Same H H' → Q (.bl true) H') : spSame n [x, y] H Q E :=
  ⟨x, y, d, d, rfl, hx, hy, hd, fun b H' hb s => by
    rw [hb.mpr rfl]
    exact q H' s⟩
def spKDeed : Sp := fun vs H Q _ => ∃ (kind : Int) (k v : V) (kd vd : PyData), vs = [.int kind, k, v] ∧ Thing kd ∧ Dh H kd k ∧ Opt vd ∧ Dh H vd v ∧ ∀ t dd H', Same H H' → KDeed.ok dd → Dh H' dd.dat (.ref t) → Q (.ref t) H'
section
variable {P : Program} {w : World} {K : PySem.W.Frag} {mg : Str → Option Value} {base : Heap}
theorem ok_kept_deed {f : Addr} {fd : FuncData} (Df : Def K mg "_law_kept_deed" s_kept_deed f fd) (b : Binds K fd ["_law_kind", "_law_key", "_law_value"] []) (T : Txt mg) : Cal P w K mg base 1 "_law_kept_deed" spKDeed [] := by
  refine cal0 Df b .nil sc_kept_deed (fun vs H Q E h => ?_) (fun cdv A outer s H vs Q E hr h => ?_)
  · obtain ⟨kind, k, v, kd, vd, rfl, _⟩ := h
    rfl
  obtain ⟨kind, k, v, kd, vd, rfl, hk, hx, ov, hv, q⟩ := h
  refine ⟨_, (pss_cons (ps_mk (ps_if (pt_cmpR op_lt (pv 0) pe_int (nomark _))
      (pss_one (ps_ret (pe_tup (pa_cons pe_str (pa_cons (pv 1) (pa_cons (pv 2) pa_nil))))))
      pss_nil))
      (pss_cons (ps_mk (ps_if (pt_cmpR op_lt (pv 0) pe_int (nomark _))
      (pss_one (ps_ret (pe_tup (pa_cons pe_str (pa_cons (pv 1) pa_nil)))))
      pss_nil))
      (pss_cons (ps_mk (ps_if (pt_cmpR op_lt (pv 0) pe_int (nomark _))
      (pss_one (ps_ret (pe_tup (pa_cons pe_str (pa_cons (pv 1) pa_nil)))))
      pss_nil))
      (pss_cons (ps_mk (ps_if (pt_cmpR op_lt (pv 0) pe_int (nomark _))
      (pss_one (ps_ret (pe_tup (pa_cons pe_str pa_nil))))
      pss_nil))
      (pss_one (ps_ret (pe_tup (pa_cons pe_str pa_nil)))))))), ?_⟩
  have tl : ∀ (dd : KDeed) (ds : List PyData) (us : List V) (p : Addr), dd.dat = .tuple ds → dd.ok → H p = none → (∀ H', Same H H' → DhAll H' ds us) → Q (.ref p) (upd H p (.tup us)) := fun dd ds us p e ok hp hd => by
    refine q p dd _ (same_upd hp) ok ?_
    rw [e]
    exact ⟨p, us, rfl, upd_same, hd _ (same_upd hp)⟩
  walk_at "go"
  refine un ?_
  walk_at "go"
  refine ifD (fun _ => ?_) (fun _ => ?_)
  · walk_at "go"
    refine ⟨sz, fun p hp => ?_⟩
    walk_at "go"
    exact tl (.fill kd vd) _ _ p rfl ⟨hk, ov⟩ hp fun H' s => ⟨_, _, rfl, rfl, _, _, rfl, Dh.mono s _ _ hx, _, _, rfl, Dh.mono s _ _ hv, rfl⟩
  walk_at "go"
  refine un ?_
  walk_at "go"
  refine ifD (fun _ => ?_) (fun _ => ?_)
  · walk_at "go"
    refine ⟨sz, fun p hp => ?_⟩
    walk_at "go"
    exact tl (.look kd) _ _ p rfl hk hp fun H' s => ⟨_, _, rfl, rfl, _, _, rfl, Dh.mono s _ _ hx, rfl⟩
  walk_at "go"
  refine un ?_
  walk_at "go"
  refine ifD (fun _ => ?_) (fun _ => ?_)
  · walk_at "go"
    refine ⟨sz, fun p hp => ?_⟩
    walk_at "go"
    exact tl (.drop kd) _ _ p rfl hk hp fun H' s => ⟨_, _, rfl, rfl, _, _, rfl, Dh.mono s _ _ hx, rfl⟩
  walk_at "go"
  refine un ?_
  walk_at "go"
  refine ifD (fun _ => ?_) (fun _ => ?_)
  · walk_at "go"
    refine ⟨sz, fun p hp => ?_⟩
    walk_at "go"
    exact tl .idle _ _ p rfl trivial hp fun H' s => ⟨_, _, rfl, rfl, rfl⟩
  walk_at "go"
  refine ⟨sz, fun p hp => ?_⟩
  walk_at "go"
  exact tl .clear _ _ p rfl trivial hp fun H' s => ⟨_, _, rfl, rfl, rfl⟩
end

end

section

-- a condition of an operator
local macro_rules | `(tactic| walk_at "cond") => `(tactic| first
  | (show (0 : Int) < _; omega)
  | (show CDiv _ _; constructor <;> (first | decide | omega))
  | (show CMul _ _; first | (refine cmul_l ?_; constructor <;> (first | decide | omega)) | (refine cmul_r ?_; constructor <;> (first | decide | omega)))
  | (show CPow _ _; exact (by refine ⟨by decide, by decide, by decide⟩))
  | (show CDivW _ _; exact ⟨by decide, by decide +kernel⟩))
local macro_rules | `(tactic| walk_at "sq") => `(tactic| first | assumption | exact Dh.mono (same_upd (by assumption)) _ _ (by assumption) | exact .inl (.inl (.inl (by assumption))) | exact .inr (.inl (.inl (by assumption))) | exact SqL.of (by assumption) | exact .inl (by assumption) | exact .inl (SqL.of (by assumption)) | exact SqT.of (by assumption) | exact .inr (SqT.of (by assumption)))
local macro_rules | `(tactic| walk_at "st") => `(tactic| first
  | refine ⟨_, rfl, ?_⟩
  | refine ⟨_, _, rfl, rfl, ?_⟩
  | refine .inl ⟨_, rfl, ?_⟩
  | refine ⟨rfl, ?_⟩
  | refine ⟨_, _, rfl, by walk_at "sq", ?_⟩
  | refine ⟨.inl ⟨rfl, _, SqL.of (by assumption)⟩, ?_⟩
  | refine ⟨by walk_at "cond", ?_⟩
  | (refine' ifBT ?hh ?_; (case hh => first | rfl | assumption))
  | (refine' ifBF ?hh ?_; (case hh => first | rfl | assumption)))
local macro_rules | `(tactic| walk_at "go") => `(tactic| repeat walk_at "st")
local macro_rules | `(tactic| walk_at "yes") => `(tactic| (refine' ifT ?hh ?_; (case hh => first | rfl | decide +kernel)))
local macro_rules | `(tactic| walk_at "no") => `(tactic| (refine' ifF ?hh ?_; (case hh => first | decide +kernel | (intro z; cases z; done))))

-- facts carried to the heap at hand, from the facts of the context
local macro_rules | `(tactic| walk_at "lnk") => `(tactic| first | assumption | exact same_upd (by assumption))
local macro_rules | `(tactic| walk_at "sm") => `(tactic| first | walk_at "lnk" | exact same_rfl | (refine Same.trans ?_ (by walk_at "lnk"); walk_at "sm"))
local macro_rules | `(tactic| walk_at "at") => `(tactic| first | assumption | exact upd_same | (refine Same.get (by walk_at "lnk") ?_; walk_at "at"))
local macro_rules | `(tactic| walk_at "ix") => `(tactic| first
  | exact atI_nat (j := 0) rfl | exact atI_nat (j := 1) rfl | exact atI_nat (j := 2) rfl | exact atI_nat (j := 3) rfl
  | exact atI_nat (j := 4) rfl | exact atI_nat (j := 5) rfl | exact atI_nat (j := 6) rfl | assumption)
local macro_rules | `(tactic| walk_at "sT") => `(tactic| first | exact SqT.of (by walk_at "at") | exact SqL.of (by walk_at "at"))
local macro_rules | `(tactic| walk_at "st") => `(tactic| refine ⟨_, _, _, _, rfl, rfl, by walk_at "sT", by walk_at "ix", ?_⟩)
local macro_rules | `(tactic| walk_at "side") => `(tactic| first | rfl | assumption | walk_at "at" | walk_at "sm" | omega | decide)
-- a call: the promise's letters from its arguments, then what is asked from the context
local macro_rules | `(tactic| walk_at "call") => `(tactic| ((repeat (apply Exists.intro)); refine And.intro rfl ?_; repeat (refine And.intro (by walk_at "side") ?_)))

local macro_rules | `(tactic| walk_at "st") => `(tactic| refine ⟨_, _, _, _, _, rfl, by assumption, by assumption, by omega, by omega, by omega, by omega, by omega, ?_⟩)
local macro_rules | `(tactic| walk_at "st") => `(tactic| refine ⟨_, _, _, _, _, rfl, Same.seq (by assumption) (by assumption), by assumption, by omega, by omega, by omega, by omega, by omega, ?_⟩)

/-! ### _law_kept_call -/
abbrev s_kept_call : Stmt := topS 12
theorem sc_kept_call : FnScope ["_law_tested", "_law_kept", "_law_size", "_law_deed", "_law_due"] ["_law_tested", "_law_kept", "_law_size", "_law_deed"] (C8.fnScope s_kept_call) := C8.fnScope_by (by decide +kernel)
def But3 (H H' : Hp) (p d L : Addr) : Prop := ∀ b o, b ≠ p → b ≠ d → b ≠ L → H b = some o → H' b = some o
theorem But3.trans {H H1 H2 : Hp} {p d L : Addr} (a : But3 H H1 p d L) (b : But3 H1 H2 p d L) : But3 H H2 p d L := fun c o n1 n2 n3 e => b c o n1 n2 n3 (a c o n1 n2 n3 e)
theorem But3.p {H H' : Hp} {p d L : Addr} (b : But H H' p) : But3 H H' p d L := fun c o n1 _ _ e => b c o n1 e
theorem But3.d {H H' : Hp} {p d L : Addr} (b : But H H' d) : But3 H H' p d L := fun c o _ n1 _ e => b c o n1 e
theorem But3.l {H H' : Hp} {p d L : Addr} (b : But H H' L) : But3 H H' p d L := fun c o _ _ n1 e => b c o n1 e
theorem But3.same {H H' : Hp} {p d L : Addr} (s : Same H H') : But3 H H' p d L := fun c o _ _ _ e => s c o e
structure Both (C : Addr) (w : World) (H : Hp) (p d : Addr) (c : Int) (L : Addr) (xs : List MEnt) (rs : List (Addr × MEnt)) : Prop where
  ca : CacheAt C w H p d c xs
  k : KeptAt H L rs
  e : xs.map MEnt.dat = kdat rs
  n : (rs.length : Int) ≤ c
theorem CacheAt.pL {C : Addr} {w : World} {H : Hp} {p d L : Addr} {c : Int} {xs : List MEnt} {us : List V} (h : CacheAt C w H p d c xs) (g : H L = some (.lst us)) : p ≠ L ∧ d ≠ L := by
  obtain ⟨dx, g1⟩ := h.g
  obtain ⟨ep, g2⟩ := h.m.g
  constructor
  · intro z
    rw [z, g] at g1
    cases g1
  · intro z
    rw [z, g] at g2
    cases g2
theorem CacheAt.off {C : Addr} {w : World} {H H' : Hp} {p d L : Addr} {c : Int} {xs : List MEnt} {us : List V} (h : CacheAt C w H p d c xs) (g : H L = some (.lst us)) (b : But H H' L) : CacheAt C w H' p d c xs := by
  obtain ⟨np, nd⟩ := h.pL g
  obtain ⟨dx, g1⟩ := h.g
  exact ⟨⟨dx, b _ _ np g1⟩, h.m.tups (But.tups b fun us z => by rw [g] at z; cases z) fun o ho => b _ _ nd ho, h.l⟩
theorem KeptAt.offd {C : Addr} {w : World} {H H' : Hp} {p d L : Addr} {c : Int} {xs : List MEnt} {rs : List (Addr × MEnt)} (h : CacheAt C w H p d c xs) (k : KeptAt H L rs) (b : But H H' d) : KeptAt H' L rs := k.but b h.m.noT (h.pL k.g).2.symm fun r hr => (h.pL (k.e r hr).1).2.symm
theorem KeptAt.offp {C : Addr} {w : World} {H H' : Hp} {p d L : Addr} {c : Int} {xs : List MEnt} {rs : List (Addr × MEnt)} (h : CacheAt C w H p d c xs) (k : KeptAt H L rs) (b : But H H' p) : KeptAt H' L rs := k.but b (fun us z => by
  obtain ⟨dx, g⟩ := h.g
  rw [g] at z
  cases z) (h.pL k.g).1.symm fun r hr => (h.pL (k.e r hr).1).1.symm
theorem Both.len {C : Addr} {w : World} {H : Hp} {p d L : Addr} {c : Int} {xs : List MEnt} {rs : List (Addr × MEnt)} (h : Both C w H p d c L xs rs) : xs.length = rs.length := by
  have := congrArg List.length h.e
  rw [List.length_map, kdat_len] at this
  exact this
theorem Both.get {C : Addr} {w : World} {H : Hp} {p d L : Addr} {c : Int} {xs : List MEnt} {rs : List (Addr × MEnt)} (h : Both C w H p d c L xs rs) (kd : PyData) : (mget xs kd).map (·.vd) = eget (kdat rs) kd := by
  rw [eget_dat, h.e]
theorem Both.del {C : Addr} {w : World} {H : Hp} {p d L : Addr} {c : Int} {xs : List MEnt} {rs : List (Addr × MEnt)} (h : Both C w H p d c L xs rs) (kd : PyData) : (mdel xs kd).map MEnt.dat = edel (kdat rs) kd := by
  rw [edel_dat, h.e]
theorem Both.dlen {C : Addr} {w : World} {H : Hp} {p d L : Addr} {c : Int} {xs : List MEnt} {rs : List (Addr × MEnt)} (h : Both C w H p d c L xs rs) (kd : PyData) : (mdel xs kd).length = (edel (kdat rs) kd).length := by
  rw [← h.del kd, List.length_map]
theorem kdat_le {rs' : List (Addr × MEnt)} {es : List DE} (h : kdat rs' = es) : rs'.length = es.length := by
  rw [← h, kdat_len]
def spKCall (C : Addr) (w : World) : Sp := fun vs H Q _ => ∃ (p d L t : Addr) (c : Int) (xs : List MEnt) (rs : List (Addr × MEnt)) (dd : KDeed), vs = [.ref p, .ref L, .int c, .ref t] ∧ Both C w H p d c L xs rs ∧ 0 ≤ c ∧ c ≤ 80000 ∧ dd.ok ∧ Dh H dd.dat (.ref t) ∧
  ∀ d' xs' rs' H', Both C w H' p d' c L xs' rs' → (d' = d ∨ H d' = none) → (∀ r ∈ rs', r ∈ rs ∨ H r.1 = none) → But3 H H' p d L → Q (.bl true) H'
section
variable {P : Program} {w : World} {K : PySem.W.Frag} {mg : Str → Option Value} {base : Heap} {C : Addr}
theorem ok_kept_call {f : Addr} {fd : FuncData} (Df : Def K mg "_law_kept_call" s_kept_call f fd) (b : Binds K fd ["_law_tested", "_law_kept", "_law_size", "_law_deed"] []) (T : Txt mg) (c_same : Cal P w K mg base 6 "_law_same" (spSame 5) []) (m_fill : C8.Met P w K mg base 2 C "fill" (spFill C w) []) (m_look : C8.Met P w K mg base 1 C "look" (spLook C w) []) (m_drop : C8.Met P w K mg base 1 C "drop" (spDrop C w) []) (m_clear_all : C8.Met P w K mg base 1 C "clear_all" (spClear C w) [])
    (c_kept_fill : Cal P w K mg base 2 "_law_kept_fill" spKFill []) (c_kept_look : Cal P w K mg base 2 "_law_kept_look" spKLook []) (c_kept_drop : Cal P w K mg base 2 "_law_kept_drop" spKDrop []) : Cal P w K mg base 7 "_law_kept_call" (spKCall C w) [] := by
  refine cal0 Df b .nil sc_kept_call (fun vs H Q E h => ?_) (fun cdv A outer s H vs Q E hr h => ?_)
  · obtain ⟨p, d, L, t, c, xs, rs, dd, rfl, _⟩ := h
    rfl
  obtain ⟨p, d, L, t, c, xs, rs, dd, rfl, hp, c0, c8, ok, hd, q⟩ := h
  refine ⟨_, (pss_cons (ps_mk (ps_if (pt_cmpR op_eq (pe_ix (ixT K rfl) (pv 3) pe_int (fun _ _ => rfl)) pe_str (nomark _))
      (pss_one (ps_ret (C8.pe_c c_same hr (by omega) (by rfl) (pa_cons (C8.pe_mt m_fill hr (by omega) (pv 0) (pa_cons (pe_ix (ixT K rfl) (pv 3) pe_int (fun _ _ => rfl)) (pa_cons (pe_ix (ixT K rfl) (pv 3) pe_int (fun _ _ => rfl)) pa_nil))) (pa_cons (C8.pe_c c_kept_fill hr (by omega) (by rfl) (pa_cons (pv 1) (pa_cons (pv 2) (pa_cons (pe_ix (ixT K rfl) (pv 3) pe_int (fun _ _ => rfl)) (pa_cons (pe_ix (ixT K rfl) (pv 3) pe_int (fun _ _ => rfl)) pa_nil))))) pa_nil)))))
      pss_nil))
      (pss_cons (ps_mk (ps_if (pt_cmpR op_eq (pe_ix (ixT K rfl) (pv 3) pe_int (fun _ _ => rfl)) pe_str (nomark _))
      (pss_one (ps_ret (C8.pe_c c_same hr (by omega) (by rfl) (pa_cons (C8.pe_mt m_look hr (by omega) (pv 0) (pa_cons (pe_ix (ixT K rfl) (pv 3) pe_int (fun _ _ => rfl)) pa_nil)) (pa_cons (C8.pe_c c_kept_look hr (by omega) (by rfl) (pa_cons (pv 1) (pa_cons (pe_ix (ixT K rfl) (pv 3) pe_int (fun _ _ => rfl)) pa_nil))) pa_nil)))))
      pss_nil))
      (pss_cons (ps_mk (ps_if (pt_cmpR op_eq (pe_ix (ixT K rfl) (pv 3) pe_int (fun _ _ => rfl)) pe_str (nomark _))
      (pss_one (ps_ret (C8.pe_c c_same hr (by omega) (by rfl) (pa_cons (C8.pe_mt m_drop hr (by omega) (pv 0) (pa_cons (pe_ix (ixT K rfl) (pv 3) pe_int (fun _ _ => rfl)) pa_nil)) (pa_cons (C8.pe_c c_kept_drop hr (by omega) (by rfl) (pa_cons (pv 1) (pa_cons (pe_ix (ixT K rfl) (pv 3) pe_int (fun _ _ => rfl)) pa_nil))) pa_nil)))))
      pss_nil))
      (pss_cons (ps_mk (ps_if (pt_cmpR op_eq (pe_ix (ixT K rfl) (pv 3) pe_int (fun _ _ => rfl)) pe_str (nomark _))
      (pss_cons (ps_set (i := 4) sc_kept_call.nd rfl (.inl rfl) (pe_callB (lenQ K rfl) (by rfl) T.len PySem.boot_len (pa_cons (pv 1) pa_nil)))
      (pss_cons (ps_expr (pe_bm0 PySem.F.plainAttrs_list PySem.F.slot_list_clear PySem.F.type_list_clear mt_clear (pv 1)))
      (pss_one (ps_ret (C8.pe_c c_same hr (by omega) (by rfl) (pa_cons (C8.pe_mt0 m_clear_all hr (by omega) (pv 0) ) (pa_cons (pv 4) pa_nil)))))))
      pss_nil))
      (pss_one (ps_ret pe_bl)))))), ?_⟩
  obtain ⟨dx, gp⟩ := hp.ca.g
  have pl := hp.len
  have pn := hp.n
  have hk0 := hp.k
  -- what follows the cache's call
  have fin : ∀ H1 H2 d' xs' rs' (x y : V) (o : PyData), CacheAt C w H1 p d c xs' → But H H1 d → KeptAt H2 L rs' → But H1 H2 L → xs'.map MEnt.dat = kdat rs' → (rs'.length : Int) ≤ c → (∀ r ∈ rs', r ∈ rs ∨ H1 r.1 = none) → Dle 5 o → Dh H2 o x → Dh H2 o y → d' = d → spSame 5 [x, y] H2 (fun v H' => Q v H') E := fun H1 H2 d' xs' rs' x y o h1 h2 h3 h4 h5 h6 h7 h8 h9 h10 _ => by
    have hk1 := hk0.offd hp.ca h2
    refine same_eq h9 h10 h8 fun H3 s3 => ?_
    refine q d xs' rs' H3 ⟨(h1.off hk1.g h4).same s3, h3.same s3, h5, h6⟩ (.inl rfl) (fun r hr => ?_) (((But3.d h2).trans (But3.l h4)).trans (But3.same s3))
    rcases h7 r hr with z | z
    · exact .inl z
    · refine .inr ?_
      cases e : H r.1 with
      | none => rfl
      | some o =>
        by_cases nd : r.1 = d
        · obtain ⟨_, g⟩ := h1.m.g
          rw [nd, g] at z
          cases z
        · have := h2 _ _ nd e
          rw [z] at this
          cases this
  cases dd with
  | fill kd vd =>
    obtain ⟨_, us, et, gt, _, _, rfl, rfl, k0, _, rfl, dk, kv, _, rfl, dv, rfl⟩ := hd
    cases et
    obtain ⟨hk, ov⟩ := ok
    walk_at "go"
    refine un ?_
    walk_at "go"
    refine ⟨p, dx, _, rfl, gp, flds_no _ _ (by decide +kernel) (by decide +kernel), ?_⟩
    walk_at "go"
    have dl := hp.dlen kd
    have lx := mdel_len xs kd
    refine ⟨p, d, k0, kv, c, kd, vd, xs, rfl, hp.ca, by omega, hk, dk, ov, dv, c0, fun z => ?_, fun cz z H1 h1 b1 => ?_, fun cz z y ys ey H1 h1 b1 ty dy => ?_⟩
    · walk_at "go"
      refine ⟨L, k0, kv, c, kd, vd, rs, rfl, hk0, by omega, hk, dk, ov, dv, c0, pn, fun _ => ?_, fun z2 => absurd z z2, fun z2 => absurd z z2⟩
      walk_at "go"
      exact fin H H d xs rs .non .non .none hp.ca (fun _ _ _ z => z) hk0 (fun _ _ _ z => z) hp.e pn (fun r hr => .inl hr) trivial rfl rfl rfl
    · have t1 := But.tups b1 hp.ca.m.noT
      have gt1 := t1 _ _ gt
      have dk1 := Dh.tups t1 _ _ (opt_noL (.inr hk)) dk
      have dv1 := Dh.tups t1 _ _ (opt_noL ov) dv
      have hk1 := hk0.offd hp.ca b1
      walk_at "go"
      refine ⟨L, k0, kv, c, kd, vd, rs, rfl, hk1, by omega, hk, dk1, ov, dv1, c0, pn, fun z2 => absurd z2 cz, fun _ _ rs2 H2 h2 e2 f2 b2 => ?_, fun _ z2 => absurd (show (((edel (kdat rs) kd).length + 1 : Nat) : Int) ≤ c by rw [← dl]; exact z) z2⟩
      walk_at "go"
      refine fin H1 H2 d _ rs2 .non .non .none h1 b1 h2 b2 ?_ ?_ f2 trivial rfl rfl rfl
      · rw [List.map_append, hp.del, e2]
        rfl
      · rw [kdat_le e2, List.length_append, ← dl]
        exact z
    · have t1 := But.tups b1 hp.ca.m.noT
      have gt1 := t1 _ _ gt
      have dk1 := Dh.tups t1 _ _ (opt_noL (.inr hk)) dk
      have dv1 := Dh.tups t1 _ _ (opt_noL ov) dv
      have hk1 := hk0.offd hp.ca b1
      have e1 : edel (kdat rs) kd ++ [(kd, vd)] = (y.kd, y.vd) :: ys.map MEnt.dat := by
        have := congrArg (List.map MEnt.dat) ey
        rw [List.map_append, hp.del] at this
        exact this
      walk_at "go"
      refine ⟨L, k0, kv, c, kd, vd, rs, rfl, hk1, by omega, hk, dk1, ov, dv1, c0, pn, fun z2 => absurd z2 cz, fun _ z2 => absurd (by rw [← dl] at z2; exact z2) z, fun _ z2 yk yv es e2 y2 rs2 H2 h2 f2 g2 b2 tyk dyk => ?_⟩
      rw [e1] at e2
      cases e2
      walk_at "go"
      have dl2 : (ys.map MEnt.dat).length = (edel (kdat rs) kd).length := by
        have := congrArg List.length e1
        rw [List.length_append] at this
        exact (Nat.succ.inj this).symm
      refine fin H1 H2 d ys rs2 _ _ y.kd h1 b1 h2 b2 f2.symm ?_ g2 (dle5 (.inr ty)) (Dh.tups (But.tups b2 hk1.no) _ _ (opt_noL (.inr ty)) dy) dyk rfl
      rw [kdat_le f2, dl2, ← dl]
      have := mdel_len xs kd
      omega
  | look kd =>
    obtain ⟨_, us, et, gt, _, _, rfl, rfl, k0, _, rfl, dk, rfl⟩ := hd
    cases et
    have hk : Thing kd := ok
    have eg := hp.get kd
    walk_at "go"
    refine un ?_
    walk_at "go"
    refine un ?_
    walk_at "go"
    refine ⟨p, dx, _, rfl, gp, flds_no _ _ (by decide +kernel) (by decide +kernel), ?_⟩
    walk_at "go"
    refine ⟨p, d, k0, c, kd, xs, rfl, hp.ca, hk, dk, fun z => ?_, fun e ee H1 h1 b1 => ?_⟩
    · rw [z] at eg
      walk_at "go"
      refine ⟨L, k0, kd, rs, rfl, hk0, hk, dk, fun _ => ?_, fun vd z2 => ?_⟩
      · walk_at "go"
        exact fin H H d xs rs .non .non .none hp.ca (fun _ _ _ z => z) hk0 (fun _ _ _ z => z) hp.e pn (fun r hr => .inl hr) trivial rfl rfl rfl
      · rw [z2] at eg
        cases eg
    · rw [ee] at eg
      have t1 := But.tups b1 hp.ca.m.noT
      have gt1 := t1 _ _ gt
      have dk1 := Dh.tups t1 _ _ (opt_noL (.inr hk)) dk
      have hk1 := hk0.offd hp.ca b1
      obtain ⟨_, ov, _, dv⟩ := hp.ca.m.e e (mget_mem ee).1
      have dv1 := Dh.tups t1 _ _ (opt_noL ov) dv
      walk_at "go"
      refine ⟨L, k0, kd, rs, rfl, hk1, hk, dk1, fun z2 => ?_, fun vd z2 v rs2 H2 dv2 h2 e2 f2 b2 => ?_⟩
      · rw [z2] at eg
        cases eg
      rw [z2] at eg
      cases eg
      walk_at "go"
      refine fin H1 H2 d _ rs2 _ _ e.vd h1 b1 h2 b2 ?_ ?_ (fun r hr => .inl (f2 r hr)) (dle5 ov) (Dh.tups (But.tups b2 hk1.no) _ _ (opt_noL ov) dv1) dv2 rfl
      · rw [List.map_append, hp.del, e2]
        rfl
      · rw [kdat_le e2, List.length_append, ← hp.dlen]
        have := mdel_lt (xs := xs) (k := kd) (by rw [ee]; rfl)
        show (((mdel xs kd).length + 1 : Nat) : Int) ≤ c
        omega
  | drop kd =>
    obtain ⟨_, us, et, gt, _, _, rfl, rfl, k0, _, rfl, dk, rfl⟩ := hd
    cases et
    have hk : Thing kd := ok
    have eg := hp.get kd
    walk_at "go"
    refine un ?_
    walk_at "go"
    refine un ?_
    walk_at "go"
    refine un ?_
    walk_at "go"
    refine ⟨p, dx, _, rfl, gp, flds_no _ _ (by decide +kernel) (by decide +kernel), ?_⟩
    walk_at "go"
    refine ⟨p, d, k0, c, kd, xs, rfl, hp.ca, hk, dk, fun H1 h1 b1 => ?_⟩
    have t1 := But.tups b1 hp.ca.m.noT
    have gt1 := t1 _ _ gt
    have dk1 := Dh.tups t1 _ _ (opt_noL (.inr hk)) dk
    have hk1 := hk0.offd hp.ca b1
    walk_at "go"
    refine ⟨L, k0, kd, rs, rfl, hk1, hk, dk1, fun rs2 H2 h2 e2 f2 b2 => ?_⟩
    have eb : (eget (kdat rs) kd).isSome = (mget xs kd).isSome := by rw [← eg, Option.isSome_map]
    rw [eb]
    walk_at "go"
    refine fin H1 H2 d _ rs2 _ _ (.bool (mget xs kd).isSome) h1 b1 h2 b2 ?_ ?_ (fun r hr => .inl (f2 r hr)) trivial rfl rfl rfl
    · rw [hp.del, e2]
    · rw [kdat_le e2]
      have := edel_len (kdat rs) kd
      rw [kdat_len] at this
      omega
  | idle =>
    obtain ⟨_, us, et, gt, _, _, rfl, rfl, rfl⟩ := hd
    cases et
    walk_at "go"
    refine un ?_
    walk_at "go"
    refine un ?_
    walk_at "go"
    refine un ?_
    walk_at "go"
    refine un ?_
    walk_at "go"
    exact q d xs rs H hp (.inl rfl) (fun r hr => .inl hr) (But3.same same_rfl)
  | clear =>
    obtain ⟨_, us, et, gt, _, _, rfl, rfl, rfl⟩ := hd
    cases et
    have gL := hk0.g
    walk_at "go"
    refine un ?_
    walk_at "go"
    refine un ?_
    walk_at "go"
    refine un ?_
    walk_at "go"
    refine un ?_
    walk_at "go"
    refine ⟨L, _, rfl, rfl, gL, ?_⟩
    have b1 : But H (upd H L (.lst [])) L := But.put
    have h1 : KeptAt (upd H L (.lst [])) L [] := hk0.put (rs' := []) (fun _ h => nomatch h) .nil .nil (Nat.zero_le _)
    have c1 := hp.ca.off gL b1
    have gp1 := b1 _ _ (hp.ca.pL gL).1 gp
    generalize upd H L (.lst []) = H1 at *
    walk_at "go"
    refine ⟨p, dx, _, rfl, gp1, flds_no _ _ (by decide +kernel) (by decide +kernel), ?_⟩
    walk_at "go"
    refine ⟨p, d, c, xs, rfl, c1, fun d' H2 nd h2 b2 => ?_⟩
    walk_at "go"
    refine same_eq (E := E) (d := .int xs.length) rfl (by rw [pl, List.length_map]; rfl) trivial fun H3 s3 => ?_
    refine q d' [] [] H3 ⟨h2.same s3, (h1.offp c1 b2).same s3, rfl, by simpa using c0⟩ (.inr ?_) (fun _ h => nomatch h) (((But3.l b1).trans (But3.p b2)).trans (But3.same s3))
    cases e : H d' with
    | none => rfl
    | some o =>
      by_cases z : d' = L
      · have := h1.g
        rw [z, this] at nd
        cases nd
      · have := b1 _ _ z e
        rw [nd] at this
        cases this
end

end

section

-- a condition of an operator
local macro_rules | `(tactic| walk_at "cond") => `(tactic| first
  | (show (0 : Int) < _; omega)
  | (show CDiv _ _; constructor <;> (first | decide | omega))
  | (show CMul _ _; first | (refine cmul_l ?_; constructor <;> (first | decide | omega)) | (refine cmul_r ?_; constructor <;> (first | decide | omega)))
  | (show CPow _ _; exact (by refine ⟨by decide, by decide, by decide⟩))
  | (show CDivW _ _; exact ⟨by decide, by decide +kernel⟩))
local macro_rules | `(tactic| walk_at "sq") => `(tactic| first | assumption | exact Dh.mono (same_upd (by assumption)) _ _ (by assumption) | exact .inl (.inl (.inl (by assumption))) | exact .inr (.inl (.inl (by assumption))) | exact SqL.of (by assumption) | exact .inl (by assumption) | exact .inl (SqL.of (by assumption)) | exact SqT.of (by assumption) | exact .inr (SqT.of (by assumption)))
local macro_rules | `(tactic| walk_at "st") => `(tactic| first
  | refine ⟨_, rfl, ?_⟩
  | refine ⟨_, _, rfl, rfl, ?_⟩
  | refine .inl ⟨_, rfl, ?_⟩
  | refine ⟨rfl, ?_⟩
  | refine ⟨_, _, rfl, by walk_at "sq", ?_⟩
  | refine ⟨.inl ⟨rfl, _, SqL.of (by assumption)⟩, ?_⟩
  | refine ⟨by walk_at "cond", ?_⟩
  | (refine' ifBT ?hh ?_; (case hh => first | rfl | assumption))
  | (refine' ifBF ?hh ?_; (case hh => first | rfl | assumption)))
local macro_rules | `(tactic| walk_at "go") => `(tactic| repeat walk_at "st")
local macro_rules | `(tactic| walk_at "yes") => `(tactic| (refine' ifT ?hh ?_; (case hh => first | rfl | decide +kernel)))
local macro_rules | `(tactic| walk_at "no") => `(tactic| (refine' ifF ?hh ?_; (case hh => first | decide +kernel | (intro z; cases z; done))))

-- facts carried to the heap at hand, from the facts of the context
local macro_rules | `(tactic| walk_at "lnk") => `(tactic| first | assumption | exact same_upd (by assumption))
local macro_rules | `(tactic| walk_at "sm") => `(tactic| first | walk_at "lnk" | exact same_rfl | (refine Same.trans ?_ (by walk_at "lnk"); walk_at "sm"))
local macro_rules | `(tactic| walk_at "at") => `(tactic| first | assumption | exact upd_same | (refine Same.get (by walk_at "lnk") ?_; walk_at "at"))
local macro_rules | `(tactic| walk_at "ix") => `(tactic| first
  | exact atI_nat (j := 0) rfl | exact atI_nat (j := 1) rfl | exact atI_nat (j := 2) rfl | exact atI_nat (j := 3) rfl
  | exact atI_nat (j := 4) rfl | exact atI_nat (j := 5) rfl | exact atI_nat (j := 6) rfl | assumption)
local macro_rules | `(tactic| walk_at "sT") => `(tactic| first | exact SqT.of (by walk_at "at") | exact SqL.of (by walk_at "at"))
local macro_rules | `(tactic| walk_at "st") => `(tactic| refine ⟨_, _, _, _, rfl, rfl, by walk_at "sT", by walk_at "ix", ?_⟩)
local macro_rules | `(tactic| walk_at "side") => `(tactic| first | rfl | assumption | walk_at "at" | walk_at "sm" | omega | decide)
-- a call: the promise's letters from its arguments, then what is asked from the context
local macro_rules | `(tactic| walk_at "call") => `(tactic| ((repeat (apply Exists.intro)); refine And.intro rfl ?_; repeat (refine And.intro (by walk_at "side") ?_)))

local macro_rules | `(tactic| walk_at "st") => `(tactic| refine ⟨_, _, _, _, _, rfl, by assumption, by assumption, by omega, by omega, by omega, by omega, by omega, ?_⟩)
local macro_rules | `(tactic| walk_at "st") => `(tactic| refine ⟨_, _, _, _, _, rfl, Same.seq (by assumption) (by assumption), by assumption, by omega, by omega, by omega, by omega, by omega, ?_⟩)

/-! ### _law_kept_agrees -/
abbrev s_kept_agrees : Stmt := topS 13
theorem sc_kept_agrees : FnScope ["_law_tested", "_law_kept", "_law_keys", "_law_due", "_law_entry", "_law_told", "_law_key"] ["_law_tested", "_law_kept", "_law_keys"] (C8.fnScope s_kept_agrees) := C8.fnScope_by (by decide +kernel)
def pr2 (x : DE) : PyData := .tuple [x.1, x.2]
theorem pr2_dat (xs : List MEnt) : xs.map pairD = (xs.map MEnt.dat).map pr2 := by
  rw [List.map_map]
  rfl
theorem pr2_noL {x : DE} (h : Thing x.1) (o : Opt x.2) : noL (pr2 x) = true := by
  show (noL x.1 && (noL x.2 && true)) = true
  rw [opt_noL (.inr h), opt_noL o]
  rfl
theorem pr2s_noL : ∀ {xs : List DE}, (∀ x ∈ xs, Thing x.1 ∧ Opt x.2) → noLs (xs.map pr2) = true
  | [], _ => rfl
  | x :: xs, h => by
    show (noL (pr2 x) && noLs (xs.map pr2)) = true
    rw [pr2_noL (h x List.mem_cons_self).1 (h x List.mem_cons_self).2, pr2s_noL fun y hy => h y (List.mem_cons_of_mem _ hy)]
    rfl
theorem dle_pr {xs : List DE} (l : xs.length ≤ 100000) (h : ∀ x ∈ xs, Thing x.1 ∧ Opt x.2) : Dle 5 (.list (xs.map pr2)) := by
  refine ⟨by rw [List.length_map]; exact l, fun d hd => ?_⟩
  obtain ⟨x, hx, rfl⟩ := List.mem_map.mp hd
  refine ⟨(by decide : 2 ≤ 100000), fun e he => ?_⟩
  rcases List.mem_cons.mp he with rfl | he
  · exact dle_up (dle_opt (.inr (h x hx).1))
  · obtain rfl : e = x.2 := by simpa using he
    exact dle_up (dle_opt (h x hx).2)
def spKAgr (C : Addr) (w : World) : Sp := fun vs H Q _ => ∃ (p d L ks : Addr) (c : Int) (xs : List MEnt) (rs : List (Addr × MEnt)) (kds : List PyData) (kvs : List V), vs = [.ref p, .ref L, .ref ks] ∧ Both C w H p d c L xs rs ∧ H ks = some (.lst kvs) ∧ DhAll H kds kvs ∧ (∀ k ∈ kds, Thing k) ∧ kvs.length ≤ 1000 ∧
  ∀ H', Same H H' → Q (.bl true) H'
section
variable {P : Program} {w : World} {K : PySem.W.Frag} {mg : Str → Option Value} {base : Heap} {C : Addr}
theorem ok_kept_agrees {f : Addr} {fd : FuncData} (Df : Def K mg "_law_kept_agrees" s_kept_agrees f fd) (b : Binds K fd ["_law_tested", "_law_kept", "_law_keys"] []) (T : Txt mg) (c_same : Cal P w K mg base 6 "_law_same" (spSame 5) []) (m_entries : C8.Met P w K mg base 1 C "entries" (spEntries C w) []) (m_has : C8.Met P w K mg base 1 C "__contains__" (spHas C w) [])
    (c_kept_find : Cal P w K mg base 1 "_law_kept_find" spFind []) : Cal P w K mg base 7 "_law_kept_agrees" (spKAgr C w) [] := by
  refine cal0 Df b .nil sc_kept_agrees (fun vs H Q E h => ?_) (fun cdv A outer s H vs Q E hr h => ?_)
  · obtain ⟨p, d, L, ks, c, xs, rs, kds, kvs, rfl, _⟩ := h
    rfl
  obtain ⟨p, d, L, ks, c, xs, rs, kds, kvs, rfl, hp, gk, dk, tk, lk, q⟩ := h
  refine ⟨_, (pss_cons (ps_setLc (i := 3) (own := [("_law_entry", 4)]) (g := gName 4) (tt := tYes) rfl sc_kept_agrees.nd rfl rfl (sw_true rfl rfl rfl (by decide +kernel)) (pi_list (pv 1)) (blkOk_by (own := [("_law_entry", 4)]) (N := ["_law_tested", "_law_kept", "_law_keys", "_law_due", "_law_entry", "_law_told", "_law_key"]) (sc := C8.fnScope s_kept_agrees) (by decide +kernel)) (fun _ _ _ _ _ => (pg_name (i := 4) sc_kept_agrees.nd rfl (.inl rfl))) (fun _ _ _ _ _ => pts_nil) (fun _ _ _ _ _ => (pe_tup (pa_cons (pe_ix (ixL K rfl) (pv 4) pe_int (fun _ _ => rfl)) (pa_cons (pe_ix (ixL K rfl) (pv 4) pe_int (fun _ _ => rfl)) pa_nil)))))
      (pss_cons (ps_set (i := 5) sc_kept_agrees.nd rfl (.inl rfl) (C8.pe_mt0 m_entries hr (by omega) (pv 0) ))
      (pss_cons (ps_mk (ps_if (pt_not (pt_val (C8.pe_c c_same hr (by omega) (by rfl) (pa_cons (pv 5) (pa_cons (pv 3) pa_nil)))))
      (pss_one (ps_ret pe_bl))
      pss_nil))
      (pss_cons (ps_expr (pe_bm PySem.F.plainAttrs_list PySem.F.slot_list_append PySem.F.type_list_append mt_append (pv 5) (pa_cons (pe_tup (pa_cons pe_str (pa_cons pe_int pa_nil))) pa_nil)))
      (pss_cons (ps_mk (ps_for PassesOwn.never rfl (pi_list (pv 2)) (pg_name (i := 6) sc_kept_agrees.nd rfl (.inl rfl))
      (pss_one (ps_mk (ps_if (pt_cmpR op_ne (pe_cmpR (op_inO m_has hr (by omega)) (pv 6) (pv 0) (by rfl)) (pe_cmpR op_ge (C8.pe_c c_kept_find hr (by omega) (by rfl) (pa_cons (pv 1) (pa_cons (pv 6) pa_nil))) pe_int (nomark _)) (nomark _))
      (pss_one (ps_ret pe_bl))
      pss_nil)))))
      (pss_one (ps_ret (C8.pe_c c_same hr (by omega) (by rfl) (pa_cons (C8.pe_mt0 m_entries hr (by omega) (pv 0) ) (pa_cons (pv 3) pa_nil)))))))))), ?_⟩
  obtain ⟨dx, gp⟩ := hp.ca.g
  have pl := hp.len
  have pn := hp.n
  have hk := hp.k
  have gL := hk.g
  have hl := hk.l
  have el : (rs.map fun r => V.ref r.1).length = rs.length := List.length_map _
  have okd : ∀ x ∈ kdat rs, Thing x.1 ∧ Opt x.2 := fun x hx => by
    obtain ⟨r, hr, rfl⟩ := List.mem_map.mp hx
    exact ⟨(hk.e r hr).2.1, (hk.e r hr).2.2.1⟩
  have dls : Dle 5 (.list ((kdat rs).map pr2)) := dle_pr (by rw [kdat_len]; exact hl) okd
  walk_at "go"
  refine ⟨⟨_, SqL.of gL⟩, fun D nD => lc_list (K := K) (a := L) (xs := rs.map fun r => V.ref r.1) (fun j H' => Ob (Same H H' ∧ ∃ us, H' D = some (.lst us) ∧ DhAll H' ((kdat (rs.take j)).map pr2) us)) (ob ⟨same_upd nD, [], upd_same, rfl⟩) (fun j H' _ h => SqL.of ((unob h).1 _ _ gL)) ?_ ?_⟩
  · intro j v H1 hi h
    obtain ⟨s1, us, gD, du⟩ := unob h
    clear h
    rw [List.getElem?_map] at hi
    obtain ⟨r, er, rfl⟩ := Option.map_eq_some_iff.mp hi
    have lj := (List.getElem?_eq_some_iff.mp er).1
    obtain ⟨k1, k2, k3, k4, k5⟩ := hk.e r (List.mem_of_getElem? er)
    have g1 := s1 _ _ k1
    have lu := du.len
    rw [List.length_map, kdat_len, List.length_take] at lu
    have tkj : (kdat (rs.take (j + 1))).map pr2 = (kdat (rs.take j)).map pr2 ++ [pr2 r.2.dat] := by
      rw [List.take_add_one, er]
      show (List.map _ (rs.take j ++ [r])).map pr2 = _
      rw [List.map_append, List.map_append]
      rfl
    have okj : ∀ x ∈ kdat (rs.take (j + 1)), Thing x.1 ∧ Opt x.2 := fun x hx => by
      obtain ⟨r, hr, rfl⟩ := List.mem_map.mp hx
      exact okd _ (List.mem_map.mpr ⟨r, List.mem_of_mem_take hr, rfl⟩)
    refine ⟨rfl, ?_⟩
    walk_at "go"
    refine ⟨sz, fun t nt => ?_⟩
    have s5 := same_upd (o := HO.tup [r.2.k, r.2.v]) nt
    have gt5 := upd_same (H := H1) (a := t) (o := HO.tup [r.2.k, r.2.v])
    have g5 := s5 _ _ gD
    have d5 := DhAll.mono s5 _ _ du
    have s15 := s1.trans s5
    show _
    generalize upd H1 t (HO.tup [r.2.k, r.2.v]) = H5 at *
    have sn : DhAll H5 ((kdat (rs.take (j + 1))).map pr2) (us ++ [.ref t]) := by
      rw [tkj]
      exact DhAll.snoc d5 ⟨t, _, rfl, gt5, _, _, rfl, Dh.mono s15 _ _ k4, _, _, rfl, Dh.mono s15 _ _ k5, rfl⟩
    exact ⟨us, g5, sz5 (by omega), ob ⟨same_put s15 nD, us ++ [.ref t], upd_same, DhAll.tups (Tups.put fun us z => by rw [g5] at z; cases z) _ _ (pr2s_noL okj) sn⟩⟩
  intro H1 h
  obtain ⟨s1, us, gD, du⟩ := unob h
  clear h
  rw [el, ← el, List.length_map, List.take_length] at du
  have dD : Dh H1 (.list ((kdat rs).map pr2)) (.ref D) := ⟨D, us, rfl, gD, du⟩
  clear gD
  have hp1 := hp.ca.same s1
  have gp1 := s1 _ _ gp
  try dsimp only
  walk_at "go"
  refine ⟨p, dx, _, rfl, gp1, flds_no _ _ (by decide +kernel) (by decide +kernel), ?_⟩
  walk_at "go"
  refine ⟨p, d, c, xs, rfl, hp1, fun l ts H2 s2 nl gl dl => ?_⟩
  rw [pr2_dat, hp.e] at dl
  have d2 : Dh H2 (.list ((kdat rs).map pr2)) (.ref l) := ⟨l, ts, rfl, gl, dl⟩
  refine jnS (M := fun σ H' => Same H2 H' ∧ σ = [sR p, sR L, sR ks, sR D, none, sR l, none]) ?_ (fun N kk => ?_)
  rotate_left
  · walk_at "go"
    refine ⟨_, _, _, _, rfl, d2, Dh.mono s2 _ _ dD, dls, fun bb H3 hb s3 => ?_⟩
    obtain rfl : bb = true := hb.mpr rfl
    walk_at "go"
    exact kk _ _ ⟨s3, rfl⟩
  rintro σ H3 ⟨s3, rfl⟩
  have gl3 := s3 _ _ gl
  have lts := dl.len
  rw [List.length_map, kdat_len] at lts
  have s13 := s1.trans (s2.trans s3)
  have nl0 : H l = none := s1.free nl
  have dD3 := Dh.mono (s2.trans s3) _ _ dD
  walk_at "go"
  refine ⟨sz, fun t nt => ?_⟩
  have s4 := same_upd (o := HO.tup [V.str "a", V.int 1]) nt
  have gl4 := s4 _ _ gl3
  have s14 := s13.trans s4
  have dD4 := Dh.mono s4 _ _ dD3
  show _
  generalize upd H3 t (HO.tup [V.str "a", V.int 1]) = H4 at *
  walk_at "go"
  refine ⟨l, _, _, rfl, rfl, gl4, sz5 (by omega), ?_⟩
  have s5 : Same H (upd H4 l (.lst (ts ++ [.ref t]))) := same_put s14 nl0
  have dD5 : Dh (upd H4 l (.lst (ts ++ [.ref t]))) (.list ((kdat rs).map pr2)) (.ref D) := by
    obtain ⟨_, us, e, gD, du⟩ := dD4
    cases e
    have nD' : D ≠ l := fun z => by
      obtain ⟨_, _, e, gD0, _⟩ := dD
      cases e
      rw [← z, gD0] at nl
      cases nl
    exact ⟨D, us, rfl, by rw [upd_ne nD']; exact gD, DhAll.tups (Tups.put fun us z => by rw [gl4] at z; cases z) _ _ (pr2s_noL okd) du⟩
  generalize upd H4 l (.lst (ts ++ [.ref t])) = H5 at *
  have gk5 := s5 _ _ gk
  have hp5 := hp.ca.same s5
  have hk5 := hk.same s5
  have gp5 := s5 _ _ gp
  have dk5 := DhAll.mono s5 _ _ dk
  refine jnS (M := fun σ H' => H' = H5 ∧ ∃ y, σ = [sR p, sR L, sR ks, sR D, none, sR l, y]) ?_ (fun N kk => ?_)
  rotate_left
  · walk_at "go"
    refine ⟨⟨_, SqL.of gk5⟩, ?_⟩
    refine for_list (K := K) (a := ks) (xs := kvs) (fun j σ H' => Ob (H' = H5 ∧ ∃ y, σ = [sR p, sR L, sR ks, sR D, none, sR l, y])) (ob ⟨rfl, _, rfl⟩) (fun j σ H' _ h => by rw [(unob h).1]; exact SqL.of gk5) ?_ ?_
    · intro j v σ H6 hv h
      obtain ⟨rfl, y, rfl⟩ := unob h
      clear h
      have lj := (List.getElem?_eq_some_iff.mp hv).1
      obtain ⟨kd, ek⟩ : ∃ kd, kds[j]? = some kd := ⟨_, List.getElem?_eq_getElem (by rw [← dk.len]; exact lj)⟩
      obtain ⟨v', ev, dv⟩ := dk5.get ek
      rw [hv] at ev
      cases ev
      have tkd := tk kd (List.mem_of_getElem? ek)
      have eg := hp.get kd
      refine un ?_
      walk_at "go"
      refine ⟨p, dx, _, rfl, gp5, ?_⟩
      refine ⟨p, d, v, c, kd, xs, rfl, hp5, tkd, dv, _, rfl, ?_⟩
      walk_at "go"
      refine find_mk hk5 tkd dv fun i hi => ?_
      walk_at "go"
      have es : (mget xs kd).isSome = decide (0 ≤ i) := by
        rw [← Option.isSome_map (f := fun e : MEnt => e.vd), eg]
        rcases hi with ⟨rfl, hno⟩ | ⟨n, r, rfl, er, rfl⟩
        · rw [kept_none.mp hno]
          rfl
        · rw [(kept_some hk.nd er).1]
          exact (decide_eq_true (Int.natCast_nonneg n)).symm
      refine ifBF (show (!decide (V.bl (mget xs kd).isSome = V.bl (decide (0 ≤ i)))) = false by rw [es, decide_eq_true rfl]; rfl) ?_
      walk_at "go"
      exact ob ⟨rfl, _, rfl⟩
    · intro σ H6 h
      obtain ⟨rfl, y, rfl⟩ := unob h
      exact kk _ _ ⟨rfl, _, rfl⟩
  rintro σ H6 ⟨rfl, y, rfl⟩
  walk_at "go"
  refine ⟨p, dx, _, rfl, gp5, flds_no _ _ (by decide +kernel) (by decide +kernel), ?_⟩
  walk_at "go"
  refine ⟨p, d, c, xs, rfl, hp5, fun l2 ts2 H7 s7 nl2 gl2 dl2 => ?_⟩
  rw [pr2_dat, hp.e] at dl2
  have d7 : Dh H7 (.list ((kdat rs).map pr2)) (.ref l2) := ⟨l2, ts2, rfl, gl2, dl2⟩
  walk_at "go"
  refine ⟨_, _, _, _, rfl, d7, Dh.mono s7 _ _ dD5, dls, fun bb H8 hb s8 => ?_⟩
  obtain rfl : bb = true := hb.mpr rfl
  exact q H8 (s5.trans (s7.trans s8))
end

end

section

-- a condition of an operator
local macro_rules | `(tactic| walk_at "cond") => `(tactic| first
  | (show (0 : Int) < _; omega)
  | (show CDiv _ _; constructor <;> (first | decide | omega))
  | (show CMul _ _; first | (refine cmul_l ?_; constructor <;> (first | decide | omega)) | (refine cmul_r ?_; constructor <;> (first | decide | omega)))
  | (show CPow _ _; exact (by refine ⟨by decide, by decide, by decide⟩))
  | (show CDivW _ _; exact ⟨by decide, by decide +kernel⟩))
local macro_rules | `(tactic| walk_at "sq") => `(tactic| first | assumption | exact Dh.mono (same_upd (by assumption)) _ _ (by assumption) | exact .inl (.inl (.inl (by assumption))) | exact .inr (.inl (.inl (by assumption))) | exact SqL.of (by assumption) | exact .inl (by assumption) | exact .inl (SqL.of (by assumption)) | exact SqT.of (by assumption) | exact .inr (SqT.of (by assumption)))
local macro_rules | `(tactic| walk_at "st") => `(tactic| first
  | refine ⟨_, rfl, ?_⟩
  | refine ⟨_, _, rfl, rfl, ?_⟩
  | refine .inl ⟨_, rfl, ?_⟩
  | refine ⟨rfl, ?_⟩
  | refine ⟨_, _, rfl, by walk_at "sq", ?_⟩
  | refine ⟨.inl ⟨rfl, _, SqL.of (by assumption)⟩, ?_⟩
  | refine ⟨by walk_at "cond", ?_⟩
  | (refine' ifBT ?hh ?_; (case hh => first | rfl | assumption))
  | (refine' ifBF ?hh ?_; (case hh => first | rfl | assumption)))
local macro_rules | `(tactic| walk_at "go") => `(tactic| repeat walk_at "st")
local macro_rules | `(tactic| walk_at "yes") => `(tactic| (refine' ifT ?hh ?_; (case hh => first | rfl | decide +kernel)))
local macro_rules | `(tactic| walk_at "no") => `(tactic| (refine' ifF ?hh ?_; (case hh => first | decide +kernel | (intro z; cases z; done))))

-- facts carried to the heap at hand, from the facts of the context
local macro_rules | `(tactic| walk_at "lnk") => `(tactic| first | assumption | exact same_upd (by assumption))
local macro_rules | `(tactic| walk_at "sm") => `(tactic| first | walk_at "lnk" | exact same_rfl | (refine Same.trans ?_ (by walk_at "lnk"); walk_at "sm"))
local macro_rules | `(tactic| walk_at "at") => `(tactic| first | assumption | exact upd_same | (refine Same.get (by walk_at "lnk") ?_; walk_at "at"))
local macro_rules | `(tactic| walk_at "ix") => `(tactic| first
  | exact atI_nat (j := 0) rfl | exact atI_nat (j := 1) rfl | exact atI_nat (j := 2) rfl | exact atI_nat (j := 3) rfl
  | exact atI_nat (j := 4) rfl | exact atI_nat (j := 5) rfl | exact atI_nat (j := 6) rfl | assumption)
local macro_rules | `(tactic| walk_at "sT") => `(tactic| first | exact SqT.of (by walk_at "at") | exact SqL.of (by walk_at "at"))
local macro_rules | `(tactic| walk_at "st") => `(tactic| refine ⟨_, _, _, _, rfl, rfl, by walk_at "sT", by walk_at "ix", ?_⟩)
local macro_rules | `(tactic| walk_at "side") => `(tactic| first | rfl | assumption | walk_at "at" | walk_at "sm" | omega | decide)
-- a call: the promise's letters from its arguments, then what is asked from the context
local macro_rules | `(tactic| walk_at "call") => `(tactic| ((repeat (apply Exists.intro)); refine And.intro rfl ?_; repeat (refine And.intro (by walk_at "side") ?_)))

local macro_rules | `(tactic| walk_at "st") => `(tactic| refine ⟨_, _, _, _, _, rfl, by assumption, by assumption, by omega, by omega, by omega, by omega, by omega, ?_⟩)
local macro_rules | `(tactic| walk_at "st") => `(tactic| refine ⟨_, _, _, _, _, rfl, Same.seq (by assumption) (by assumption), by assumption, by omega, by omega, by omega, by omega, by omega, ?_⟩)

/-! ### two caches and two lists -/
def LA (H : Hp) (A : Addr) (ds : List PyData) : Prop := ∃ xs, H A = some (.lst xs) ∧ DhAll H ds xs
theorem LA.same {H H' : Hp} {A : Addr} {ds : List PyData} (h : LA H A ds) (s : Same H H') : LA H' A ds := by
  obtain ⟨xs, g, d⟩ := h
  exact ⟨xs, s _ _ g, DhAll.mono s _ _ d⟩
theorem LA.but {H H' : Hp} {A : Addr} {ds : List PyData} (h : LA H A ds) (t : Tups H H') (n : noLs ds = true) (k : ∀ us, H A = some (.lst us) → H' A = some (.lst us)) : LA H' A ds := by
  obtain ⟨xs, g, d⟩ := h
  exact ⟨xs, k _ g, DhAll.tups t _ _ n d⟩
theorem noLs_of : ∀ {ds : List PyData}, (∀ d ∈ ds, Opt d) → noLs ds = true
  | [], _ => rfl
  | d :: ds, h => by
    show (noL d && noLs ds) = true
    rw [opt_noL (h d List.mem_cons_self), noLs_of fun x hx => h x (List.mem_cons_of_mem _ hx)]
    rfl
/-- a cache's own two addresses are no lists, no tuples -/
theorem CacheAt.mut {C : Addr} {w : World} {H : Hp} {p d : Addr} {c : Int} {xs : List MEnt} (h : CacheAt C w H p d c xs) {b : Addr} {us : List V} (g : H b = some (.lst us) ∨ H b = some (.tup us)) : b ≠ p ∧ b ≠ d := by
  obtain ⟨dx, g1⟩ := h.g
  obtain ⟨ep, g2⟩ := h.m.g
  constructor <;> rintro rfl <;> rcases g with g | g <;> first | (rw [g] at g1; cases g1; done) | (rw [g] at g2; cases g2; done)
theorem But3.tups {C : Addr} {w : World} {H H' : Hp} {p d L : Addr} {c : Int} {xs : List MEnt} {us : List V} (b : But3 H H' p d L) (h : CacheAt C w H p d c xs) (g : H L = some (.lst us)) : Tups H H' := fun a vs ga => by
  obtain ⟨n1, n2⟩ := h.mut (.inr ga)
  exact b a _ n1 n2 (fun z => by rw [z, g] at ga; cases ga) ga
theorem But3.lst {C : Addr} {w : World} {H H' : Hp} {p d L : Addr} {c : Int} {xs : List MEnt} (b : But3 H H' p d L) (h : CacheAt C w H p d c xs) {A : Addr} (n : A ≠ L) : ∀ us, H A = some (.lst us) → H' A = some (.lst us) := fun us g => by
  obtain ⟨n1, n2⟩ := h.mut (.inl g)
  exact b A _ n1 n2 n g
theorem But3.sq {K : PySem.W.Frag} {C : Addr} {w : World} {H H' : Hp} {p d L : Addr} {c : Int} {xs : List MEnt} {us vs : List V} (b : But3 H H' p d L) (h : CacheAt C w H p d c xs) (g : H L = some (.lst us)) {A : Addr} (n : A ≠ L ∨ ∀ H, SqL K H A vs) (q : SqL K H A vs) : SqL K H' A vs := by
  rcases n with n | n
  rotate_left
  · exact n H'
  obtain ⟨dx, g1⟩ := h.g
  obtain ⟨ep, g2⟩ := h.m.g
  rcases q with (q | ⟨o, q⟩) | q
  · exact .inl (.inl (b.lst h n _ q))
  · refine .inl (.inr ⟨o, b A _ ?_ ?_ n q⟩)
    · rintro rfl
      rw [q] at g1
      cases g1
    · rintro rfl
      rw [q] at g2
      cases g2
  · exact .inr q
theorem kept0 {H : Hp} {L : Addr} (g : H L = some (.lst [])) : KeptAt H L [] := ⟨g, (fun _ h => by cases h), .nil, .nil, (fun _ h => by cases h), Nat.zero_le _⟩
theorem SqL.off {K : PySem.W.Frag} {H H' : Hp} {A L : Addr} {vs : List V} (b : But H H' L) (n : A ≠ L ∨ ∀ H, SqL K H A vs) (q : SqL K H A vs) : SqL K H' A vs := by
  rcases n with n | n
  · rcases q with (q | ⟨o, q⟩) | q
    · exact .inl (.inl (b _ _ n q))
    · exact .inl (.inr ⟨o, b _ _ n q⟩)
    · exact .inr q
  · exact n H'
/-- a list that was there, or one that is always -/
theorem SqL.was {K : PySem.W.Frag} {H : Hp} {A : Addr} {vs : List V} (q : SqL K H A vs) : ∀ {H' : Hp} {L : Addr}, Same H H' → H' L = none → A ≠ L ∨ ∀ H, SqL K H A vs := fun s n => by
  rcases q with (q | ⟨o, q⟩) | q
  · exact .inl (ne_of_none (s _ _ q) n)
  · exact .inl (ne_of_none (s _ _ q) n)
  · exact .inr fun H => .inr q
structure Two (C : Addr) (w : World) (F : Addr) (H : Hp) (p d : Addr) (c : Int) (L : Addr) (xs : List MEnt) (rs : List (Addr × MEnt)) (p' d' : Addr) (c' : Int) (L' : Addr) (xs' : List MEnt) (rs' : List (Addr × MEnt)) : Prop where
  b1 : Both C w H p d c L xs rs
  b2 : Both C w H p' d' c' L' xs' rs'
  np : p ≠ p'
  nd : d ≠ d'
  nl : L ≠ L'
  e1 : ∀ r ∈ rs, r.1 ≠ L' ∧ r.1 ≠ F
  e2 : ∀ r ∈ rs', r.1 ≠ L ∧ r.1 ≠ F
  fr : H F ≠ none
variable {C : Addr} {w : World} {F : Addr} {H H' : Hp} {p d : Addr} {c : Int} {L : Addr} {xs : List MEnt} {rs : List (Addr × MEnt)} {p' d' : Addr} {c' : Int} {L' : Addr} {xs' : List MEnt} {rs' : List (Addr × MEnt)}
theorem Two.swap (h : Two C w F H p d c L xs rs p' d' c' L' xs' rs') : Two C w F H p' d' c' L' xs' rs' p d c L xs rs := ⟨h.b2, h.b1, h.np.symm, h.nd.symm, h.nl.symm, h.e2, h.e1, h.fr⟩
theorem Both.same (h : Both C w H p d c L xs rs) (s : Same H H') : Both C w H' p d c L xs rs := ⟨h.ca.same s, h.k.same s, h.e, h.n⟩
theorem Two.same (h : Two C w F H p d c L xs rs p' d' c' L' xs' rs') (s : Same H H') : Two C w F H' p d c L xs rs p' d' c' L' xs' rs' := ⟨h.b1.same s, h.b2.same s, h.np, h.nd, h.nl, h.e1, h.e2, fun z => h.fr (s.free z)⟩
theorem CacheAt.both (h : CacheAt C w H p d c xs) {b : Addr} (g : H b = none) : p ≠ b ∧ d ≠ b := by
  obtain ⟨dx, g1⟩ := h.g
  obtain ⟨ep, g2⟩ := h.m.g
  exact ⟨ne_of_none g1 g, ne_of_none g2 g⟩
theorem CacheAt.cross {p2 d2 : Addr} {c2 : Int} {xs2 : List MEnt} (h : CacheAt C w H p d c xs) (h2 : CacheAt C w H p2 d2 c2 xs2) : p ≠ d2 := by
  obtain ⟨dx, g1⟩ := h.g
  obtain ⟨ep, g2⟩ := h2.m.g
  rintro rfl
  rw [g1] at g2
  cases g2
/-- a call of the first cache leaves the second one -/
theorem Two.step {d2 : Addr} {xs2 : List MEnt} {rs2 : List (Addr × MEnt)} (h : Two C w F H p d c L xs rs p' d' c' L' xs' rs') (b : Both C w H' p d2 c L xs2 rs2) (e : d2 = d ∨ H d2 = none) (f : ∀ r ∈ rs2, r ∈ rs ∨ H r.1 = none) (o : But3 H H' p d L) (fr : H' F ≠ none) : Two C w F H' p d2 c L xs2 rs2 p' d' c' L' xs' rs' := by
  have t : Tups H H' := o.tups h.b1.ca h.b1.k.g
  have k2 := h.b2.k
  have c2 := h.b2.ca
  obtain ⟨n1, n2⟩ := h.b1.ca.mut (.inl k2.g)
  have pd := c2.cross h.b1.ca
  have dp := h.b1.ca.cross c2
  have pl := c2.pL h.b1.k.g
  obtain ⟨dx, g1⟩ := c2.g
  refine ⟨b, ⟨⟨⟨dx, o _ _ h.np.symm pd pl.1 g1⟩, c2.m.tups t fun q gq => o _ _ dp.symm h.nd.symm pl.2 gq, c2.l⟩, ⟨o.lst h.b1.ca h.nl.symm _ k2.g, fun r hr => ?_, k2.nd, k2.ad, k2.nl, k2.l⟩, h.b2.e, h.b2.n⟩, h.np, ?_, h.nl, fun r hr => ?_, h.e2, fr⟩
  · obtain ⟨x1, x2, x3, x4, x5⟩ := k2.e r hr
    exact ⟨o.lst h.b1.ca (h.e2 r hr).1 _ x1, x2, x3, Dh.tups t _ _ (opt_noL (.inr x2)) x4, Dh.tups t _ _ (opt_noL x3) x5⟩
  · rcases e with rfl | e
    · exact h.nd
    · exact (c2.both e).2.symm
  · rcases f r hr with z | z
    · exact h.e1 r z
    · refine ⟨fun y => ?_, fun y => h.fr (by rw [← y]; exact z)⟩
      have := k2.g
      rw [← y, z] at this
      cases this
/-- a list off both is written -/
theorem Both.off {us : List V} (h : Both C w H p d c L xs rs) (b : But H H' F) (g : H F = some (.lst us)) (n : L ≠ F) (e : ∀ r ∈ rs, r.1 ≠ F) : Both C w H' p d c L xs rs := ⟨h.ca.off g b, h.k.but b (fun vs z => by rw [g] at z; cases z) n e, h.e, h.n⟩
theorem Two.off {us : List V} (h : Two C w F H p d c L xs rs p' d' c' L' xs' rs') (b : But H H' F) (g : H F = some (.lst us)) (n1 : L ≠ F) (n2 : L' ≠ F) (fr : H' F ≠ none) : Two C w F H' p d c L xs rs p' d' c' L' xs' rs' := ⟨h.b1.off b g n1 fun r hr => (h.e1 r hr).2, h.b2.off b g n2 fun r hr => (h.e2 r hr).2, h.np, h.nd, h.nl, h.e1, h.e2, fr⟩
def St2 (C : Addr) (w : World) (F : Addr) (H : Hp) (p : Addr) (c : Int) (L p' : Addr) (c' : Int) (L' : Addr) : Prop := ∃ d xs rs d' xs' rs', Two C w F H p d c L xs rs p' d' c' L' xs' rs'
/-- what stays through a call of one of the two -/
structure Stay (K : PySem.W.Frag) (H : Hp) (a : Addr) (ns : List Int) (Z TL KL KS VS : Addr) (p : Addr) (c : Int) (L p' : Addr) (c' : Int) (L' : Addr) (kds vds : List PyData) : Prop where
  a : SqL K H a (ns.map V.int)
  z : H Z = some (.lst [.int c, .int c'])
  tl : H TL = some (.lst [.ref p, .ref p'])
  kl : H KL = some (.lst [.ref L, .ref L'])
  ks : LA H KS kds
  vs : LA H VS vds
structure Apart (K : PySem.W.Frag) (ns : List Int) (a Z TL KL KS VS L : Addr) : Prop where
  a : a ≠ L ∨ ∀ H, SqL K H a (ns.map V.int)
  z : Z ≠ L
  tl : TL ≠ L
  kl : KL ≠ L
  ks : KS ≠ L
  vs : VS ≠ L
variable {K : PySem.W.Frag} {a Z TL KL KS VS : Addr} {ns : List Int} {kds vds : List PyData}
theorem Stay.same (h : Stay K H a ns Z TL KL KS VS p c L p' c' L' kds vds) (s : Same H H') : Stay K H' a ns Z TL KL KS VS p c L p' c' L' kds vds := ⟨s.seq h.a, s _ _ h.z, s _ _ h.tl, s _ _ h.kl, h.ks.same s, h.vs.same s⟩
theorem Stay.step {q d q1 q2 L1 L2 A : Addr} {c1 c2 e : Int} {xs : List MEnt} {us : List V} (h : Stay K H a ns Z TL KL KS VS q1 c1 L1 q2 c2 L2 kds vds) (o : But3 H H' q d A) (ca : CacheAt C w H q d e xs) (g : H A = some (.lst us)) (n : Apart K ns a Z TL KL KS VS A) (hk : ∀ k ∈ kds, Thing k) (hv : ∀ k ∈ vds, Opt k) : Stay K H' a ns Z TL KL KS VS q1 c1 L1 q2 c2 L2 kds vds := by
  have t := o.tups ca g
  exact ⟨o.sq ca g n.a h.a, o.lst ca n.z _ h.z, o.lst ca n.tl _ h.tl, o.lst ca n.kl _ h.kl, h.ks.but t (noLs_of fun k hh => .inr (hk k hh)) (o.lst ca n.ks), h.vs.but t (noLs_of hv) (o.lst ca n.vs)⟩
/-- the cache and the list at a place -/
theorem St2.pick {j : Int} (h : St2 C w F H p c L p' c' L') (j0 : 0 ≤ j) (j2 : j < 2) : ∃ q e A d xs rs, atI [V.ref p, V.ref p'] j = some (.ref q) ∧ atI [V.ref L, V.ref L'] j = some (.ref A) ∧ atI [V.int c, V.int c'] j = some (.int e) ∧ (e = c ∨ e = c') ∧ (A = L ∨ A = L') ∧ Both C w H q d e A xs rs ∧
    ∀ H' d2 xs2 rs2, Both C w H' q d2 e A xs2 rs2 → (d2 = d ∨ H d2 = none) → (∀ r ∈ rs2, r ∈ rs ∨ H r.1 = none) → But3 H H' q d A → H' F ≠ none → St2 C w F H' p c L p' c' L' := by
  obtain ⟨d, xs, rs, d', xs', rs', t⟩ := h
  have : j = 0 ∨ j = 1 := by omega
  rcases this with rfl | rfl
  · exact ⟨p, c, L, d, xs, rs, rfl, rfl, rfl, .inl rfl, .inl rfl, t.b1, fun H' d2 xs2 rs2 b e f o fr => ⟨d2, xs2, rs2, d', xs', rs', t.step b e f o fr⟩⟩
  · exact ⟨p', c', L', d', xs', rs', rfl, rfl, rfl, .inr rfl, .inr rfl, t.b2, fun H' d2 xs2 rs2 b e f o fr => ⟨d, xs, rs, d2, xs2, rs2, (t.swap.step b e f o fr).swap⟩⟩
theorem St2.same (h : St2 C w F H p c L p' c' L') (s : Same H H') : St2 C w F H' p c L p' c' L' := by
  obtain ⟨d, xs, rs, d', xs', rs', t⟩ := h
  exact ⟨d, xs, rs, d', xs', rs', t.same s⟩
theorem St2.off {us : List V} (h : St2 C w F H p c L p' c' L') (b : But H H' F) (g : H F = some (.lst us)) (n1 : L ≠ F) (n2 : L' ≠ F) (fr : H' F ≠ none) : St2 C w F H' p c L p' c' L' := by
  obtain ⟨d, xs, rs, d', xs', rs', t⟩ := h
  exact ⟨d, xs, rs, d', xs', rs', t.off b g n1 n2 fr⟩
/-- the list of keys is written -/
theorem Stay.ext {q1 q2 L1 L2 : Addr} {c1 c2 : Int} {nds : List PyData} (h : Stay K H a ns Z TL KL KS VS q1 c1 L1 q2 c2 L2 kds vds) (b : But H H' KS) (n : Apart K ns a Z TL KL VS VS KS) (t : Tups H H') (hv : ∀ k ∈ vds, Opt k) (new : LA H' KS nds) : Stay K H' a ns Z TL KL KS VS q1 c1 L1 q2 c2 L2 nds vds :=
  ⟨SqL.off b n.a h.a, b _ _ n.z h.z, b _ _ n.tl h.tl, b _ _ n.kl h.kl, new, h.vs.but t (noLs_of hv) fun us g => b _ _ n.vs g⟩
theorem both_step {j : Int} (st : St2 C w KS H p c L p' c' L') (sy : Stay K H a ns Z TL KL KS VS p c L p' c' L' kds vds) (n1 : Apart K ns a Z TL KL KS VS L) (n2 : Apart K ns a Z TL KL KS VS L') (hk : ∀ k ∈ kds, Thing k) (hv : ∀ k ∈ vds, Opt k) (j0 : 0 ≤ j) (j2 : j < 2) :
    ∃ q e A d xs rs, atI [V.ref p, V.ref p'] j = some (.ref q) ∧ atI [V.ref L, V.ref L'] j = some (.ref A) ∧ atI [V.int c, V.int c'] j = some (.int e) ∧ (e = c ∨ e = c') ∧ Both C w H q d e A xs rs ∧
    ∀ H' d2 xs2 rs2, Both C w H' q d2 e A xs2 rs2 → (d2 = d ∨ H d2 = none) → (∀ r ∈ rs2, r ∈ rs ∨ H r.1 = none) → But3 H H' q d A → St2 C w KS H' p c L p' c' L' ∧ Stay K H' a ns Z TL KL KS VS p c L p' c' L' kds vds := by
  obtain ⟨q, e, A, d, xs, rs, h1, h2, h3, h4, h5, h6, h7⟩ := st.pick j0 j2
  refine ⟨q, e, A, d, xs, rs, h1, h2, h3, h4, h6, fun H' d2 xs2 rs2 b ed f o => ?_⟩
  have n : Apart K ns a Z TL KL KS VS A := by
    rcases h5 with rfl | rfl
    · exact n1
    · exact n2
  have sy2 := sy.step o h6.ca h6.k.g n hk hv
  refine ⟨h7 H' d2 xs2 rs2 b ed f o ?_, sy2⟩
  obtain ⟨_, g, _⟩ := sy2.ks
  rw [g]
  intro z
  cases z

end

section

-- a condition of an operator
local macro_rules | `(tactic| walk_at "cond") => `(tactic| first
  | (show (0 : Int) < _; omega)
  | (show CDiv _ _; constructor <;> (first | decide | omega))
  | (show CMul _ _; first | (refine cmul_l ?_; constructor <;> (first | decide | omega)) | (refine cmul_r ?_; constructor <;> (first | decide | omega)))
  | (show CPow _ _; exact (by refine ⟨by decide, by decide, by decide⟩))
  | (show CDivW _ _; exact ⟨by decide, by decide +kernel⟩))
local macro_rules | `(tactic| walk_at "sq") => `(tactic| first | assumption | exact Dh.mono (same_upd (by assumption)) _ _ (by assumption) | exact .inl (.inl (.inl (by assumption))) | exact .inr (.inl (.inl (by assumption))) | exact SqL.of (by assumption) | exact .inl (by assumption) | exact .inl (SqL.of (by assumption)) | exact SqT.of (by assumption) | exact .inr (SqT.of (by assumption)))
local macro_rules | `(tactic| walk_at "st") => `(tactic| first
  | refine ⟨_, rfl, ?_⟩
  | refine ⟨_, _, rfl, rfl, ?_⟩
  | refine .inl ⟨_, rfl, ?_⟩
  | refine ⟨rfl, ?_⟩
  | refine ⟨_, _, rfl, by walk_at "sq", ?_⟩
  | refine ⟨.inl ⟨rfl, _, SqL.of (by assumption)⟩, ?_⟩
  | refine ⟨by walk_at "cond", ?_⟩
  | (refine' ifBT ?hh ?_; (case hh => first | rfl | assumption))
  | (refine' ifBF ?hh ?_; (case hh => first | rfl | assumption)))
local macro_rules | `(tactic| walk_at "go") => `(tactic| repeat walk_at "st")
local macro_rules | `(tactic| walk_at "yes") => `(tactic| (refine' ifT ?hh ?_; (case hh => first | rfl | decide +kernel)))
local macro_rules | `(tactic| walk_at "no") => `(tactic| (refine' ifF ?hh ?_; (case hh => first | decide +kernel | (intro z; cases z; done))))

-- facts carried to the heap at hand, from the facts of the context
local macro_rules | `(tactic| walk_at "lnk") => `(tactic| first | assumption | exact same_upd (by assumption))
local macro_rules | `(tactic| walk_at "sm") => `(tactic| first | walk_at "lnk" | exact same_rfl | (refine Same.trans ?_ (by walk_at "lnk"); walk_at "sm"))
local macro_rules | `(tactic| walk_at "at") => `(tactic| first | assumption | exact upd_same | (refine Same.get (by walk_at "lnk") ?_; walk_at "at"))
local macro_rules | `(tactic| walk_at "ix") => `(tactic| first
  | exact atI_nat (j := 0) rfl | exact atI_nat (j := 1) rfl | exact atI_nat (j := 2) rfl | exact atI_nat (j := 3) rfl
  | exact atI_nat (j := 4) rfl | exact atI_nat (j := 5) rfl | exact atI_nat (j := 6) rfl | assumption)
local macro_rules | `(tactic| walk_at "sT") => `(tactic| first | exact SqT.of (by walk_at "at") | exact SqL.of (by walk_at "at"))
local macro_rules | `(tactic| walk_at "st") => `(tactic| refine ⟨_, _, _, _, rfl, rfl, by walk_at "sT", by walk_at "ix", ?_⟩)
local macro_rules | `(tactic| walk_at "side") => `(tactic| first | rfl | assumption | walk_at "at" | walk_at "sm" | omega | decide)
-- a call: the promise's letters from its arguments, then what is asked from the context
local macro_rules | `(tactic| walk_at "call") => `(tactic| ((repeat (apply Exists.intro)); refine And.intro rfl ?_; repeat (refine And.intro (by walk_at "side") ?_)))

local macro_rules | `(tactic| walk_at "st") => `(tactic| refine ⟨_, _, _, _, _, rfl, by assumption, by assumption, by omega, by omega, by omega, by omega, by omega, ?_⟩)
local macro_rules | `(tactic| walk_at "st") => `(tactic| refine ⟨_, _, _, _, _, rfl, Same.seq (by assumption) (by assumption), by assumption, by omega, by omega, by omega, by omega, by omega, ?_⟩)

/-! ### the law -/
abbrev s_law : Stmt := topS 14
theorem sc_law : FnScope ["_law_script", "_law_size", "_law_filled", "_law_sizes", "_law_tested", "_law_kept", "_law_keys", "_law_k", "_law_values", "_law_at", "_law_pick", "_law_which", "_law_key", "_law_value"] ["_law_script"] (C8.fnScope s_law) := C8.fnScope_by (by decide +kernel)
def spLaw (K : PySem.W.Frag) : Sp := fun vs H Q _ => ∃ (a : Addr) (ns : List Int), vs = [.ref a] ∧ SqL K H a (ns.map V.int) ∧ ns.length ≤ 63 ∧ ∀ H', Q (.bl true) H'
theorem DhAll.put {H : Hp} {L : Addr} {o : HO} {ds : List PyData} {us xs : List V} (d : DhAll H ds us) (g : H L = some (.lst xs)) (t : ∀ k ∈ ds, Thing k) : DhAll (upd H L o) ds us :=
  DhAll.tups (Tups.put fun vs z => by rw [g] at z; cases z) _ _ (noLs_of fun k hk => .inr (t k hk)) d
theorem dh_app {H : Hp} : ∀ {ds es : List PyData} {us vs : List V}, DhAll H ds us → DhAll H es vs → DhAll H (ds ++ es) (us ++ vs)
  | [], es, us, vs, h, h2 => by
    cases (show us = [] from h)
    exact h2
  | d :: ds, es, us, vs, h, h2 => by
    obtain ⟨v, ws, rfl, h3, h4⟩ := h
    exact ⟨v, ws ++ vs, rfl, h3, dh_app h4 h2⟩
theorem dh_ints {H : Hp} : ∀ (ns : List Int), DhAll H (ns.map PyData.int) (ns.map V.int)
  | [] => rfl
  | _ :: ns => ⟨_, _, rfl, rfl, dh_ints ns⟩
theorem pick_of {H : Hp} {ds : List PyData} {us : List V} {j : Int} (h : DhAll H ds us) (h0 : 0 ≤ j) (h1 : j < (us.length : Nat)) : ∃ v d, atI us j = some v ∧ d ∈ ds ∧ Dh H d v := by
  have e : j = ((j.toNat : Nat) : Int) := by omega
  have hj : j.toNat < ds.length := by
    rw [← h.len]
    omega
  obtain ⟨v, ev, dv⟩ := h.get (List.getElem?_eq_getElem hj)
  refine ⟨v, _, ?_, List.getElem_mem hj, dv⟩
  rw [e]
  exact atI_nat ev
theorem thing_app {ds es : List PyData} (h : ∀ k ∈ ds, Thing k) (h2 : ∀ k ∈ es, Thing k) : ∀ k ∈ ds ++ es, Thing k := fun k hk => (List.mem_append.mp hk).elim (h k) (h2 k)
section
variable {P : Program} {w : World} {K : PySem.W.Frag} {mg : Str → Option Value} {base : Heap} {C : Addr}
theorem ok_law {f : Addr} {fd : FuncData} (D : Def K mg "law" s_law f fd) (T : Txt mg) (c_number : Cal P w K mg base 1 "_law_number" (spNum K) []) (c_thing : Cal P w K mg base 2 "_law_thing" (spThing K) []) (c_Cache : C8.Mak P w K mg base 1 "Cache" C (spInit C w) []) (c_kept_deed : Cal P w K mg base 1 "_law_kept_deed" spKDeed [])
    (c_kept_call : Cal P w K mg base 7 "_law_kept_call" (spKCall C w) []) (c_kept_agrees : Cal P w K mg base 7 "_law_kept_agrees" (spKAgr C w) []) : FnOk P w K mg base C8.CX0 8 f fd ["_law_script"] (spLaw K) := by
  refine C8.fn0 D.fn sc_law (fun vs H Q E h => ?_) (fun cdv A outer s H vs Q E hr h => ?_)
  · obtain ⟨a, ns, rfl, _⟩ := h
    rfl
  obtain ⟨a, ns, rfl, hS, hl, q⟩ := h
  refine ⟨_, (pss_cons (ps_set (i := 1) sc_law.nd rfl (.inl rfl) (C8.pe_c c_number hr (by omega) (by rfl) (pa_cons (pv 0) (pa_cons pe_int (pa_cons pe_int (pa_cons pe_int pa_nil))))))
      (pss_cons (ps_set (i := 2) sc_law.nd rfl (.inr rfl) pe_int)
      (pss_cons (ps_mk (ps_if (pt_cmpR op_eq (C8.pe_c c_number hr (by omega) (by rfl) (pa_cons (pv 0) (pa_cons pe_int (pa_cons pe_int (pa_cons pe_int pa_nil))))) pe_int (nomark _))
      (pss_cons (ps_set (i := 1) sc_law.nd rfl (.inl rfl) (pe_op op_add pe_int (C8.pe_c c_number hr (by omega) (by rfl) (pa_cons (pv 0) (pa_cons pe_int (pa_cons pe_int (pa_cons pe_int pa_nil)))))))
      (pss_one (ps_set (i := 2) sc_law.nd rfl (.inr rfl) (C8.pe_c c_number hr (by omega) (by rfl) (pa_cons (pv 0) (pa_cons pe_int (pa_cons pe_int (pa_cons (pe_op op_add (pv 1) pe_int) pa_nil))))))))
      pss_nil))
      (pss_cons (ps_set (i := 3) sc_law.nd rfl (.inl rfl) (pe_lst (pa_cons (pv 1) (pa_cons (C8.pe_c c_number hr (by omega) (by rfl) (pa_cons (pv 0) (pa_cons pe_int (pa_cons pe_int (pa_cons pe_int pa_nil))))) pa_nil))))
      (pss_cons (ps_set (i := 4) sc_law.nd rfl (.inl rfl) (pe_lst (pa_cons (C8.pe_mk c_Cache hr (by omega) (by rfl) (pa_cons (pe_ix (ixL K rfl) (pv 3) pe_int (fun _ _ => rfl)) pa_nil)) (pa_cons (C8.pe_mk c_Cache hr (by omega) (by rfl) (pa_cons (pe_ix (ixL K rfl) (pv 3) pe_int (fun _ _ => rfl)) pa_nil)) pa_nil))))
      (pss_cons (ps_set (i := 5) sc_law.nd rfl (.inl rfl) (pe_lst (pa_cons (pe_lst pa_nil) (pa_cons (pe_lst pa_nil) pa_nil))))
      (pss_cons (ps_setLc (i := 6) (own := [("_law_k", 7)]) (g := gName 7) (tt := tYes) rfl sc_law.nd rfl rfl (sw_true rfl rfl rfl (by decide +kernel)) (pi_range1 (by rfl) T.range (pa_cons (pe_op op_add pe_int (C8.pe_c c_number hr (by omega) (by rfl) (pa_cons (pv 0) (pa_cons pe_int (pa_cons pe_int (pa_cons pe_int pa_nil)))))) pa_nil)) (blkOk_by (own := [("_law_k", 7)]) (N := ["_law_script", "_law_size", "_law_filled", "_law_sizes", "_law_tested", "_law_kept", "_law_keys", "_law_k", "_law_values", "_law_at", "_law_pick", "_law_which", "_law_key", "_law_value"]) (sc := C8.fnScope s_law) (by decide +kernel)) (fun _ _ _ _ _ => (pg_name (i := 7) sc_law.nd rfl (.inl rfl))) (fun _ _ _ _ _ => pts_nil) (fun _ _ _ _ _ => (C8.pe_c c_thing hr (by omega) (by rfl) (pa_cons (pv 0) (pa_cons (pe_op op_add pe_int (pv 7)) (pa_cons pe_int pa_nil))))))
      (pss_cons (ps_mk (ps_if (pt_cmpR op_eq (C8.pe_c c_number hr (by omega) (by rfl) (pa_cons (pv 0) (pa_cons pe_int (pa_cons pe_int (pa_cons pe_int pa_nil))))) pe_int (nomark _))
      (pss_one (ps_expr (pe_bm PySem.F.plainAttrs_list PySem.F.slot_list_extend PySem.F.type_list_extend mt_extend (pv 6) (pa_cons (pe_lst (pa_cons pe_int (pa_cons pe_str (pa_cons (pe_tup (pa_cons pe_int pa_nil)) (pa_cons (pe_tup (pa_cons pe_str pa_nil)) (pa_cons pe_int (pa_cons pe_str (pa_cons (pe_tup pa_nil) pa_nil)))))))) pa_nil))))
      pss_nil))
      (pss_cons (ps_set (i := 8) sc_law.nd rfl (.inl rfl) (pe_lst (pa_cons pe_int (pa_cons (C8.pe_c c_thing hr (by omega) (by rfl) (pa_cons (pv 0) (pa_cons pe_int (pa_cons pe_int pa_nil)))) (pa_cons (C8.pe_c c_thing hr (by omega) (by rfl) (pa_cons (pv 0) (pa_cons pe_int (pa_cons pe_int pa_nil)))) pa_nil)))))
      (pss_cons (ps_mk (ps_for PassesOwn.never rfl (pi_range1 (by rfl) T.range (pa_cons (pv 2) pa_nil)) (pg_name (i := 7) sc_law.nd rfl (.inl rfl))
      (pss_one (ps_mk (ps_if (pt_not (pt_val (C8.pe_c c_kept_call hr (by omega) (by rfl) (pa_cons (pe_ix (ixL K rfl) (pv 4) pe_int (fun _ _ => rfl)) (pa_cons (pe_ix (ixL K rfl) (pv 5) pe_int (fun _ _ => rfl)) (pa_cons (pv 1) (pa_cons (pe_tup (pa_cons pe_str (pa_cons (pe_op op_add pe_int (pv 7)) (pa_cons (pv 7) pa_nil)))) pa_nil)))))))
      (pss_one (ps_ret pe_bl))
      pss_nil)))))
      (pss_cons (ps_mk (ps_if (pt_cmpR op_gt (pv 2) pe_int (nomark _))
      (pss_one (ps_expr (pe_bm PySem.F.plainAttrs_list PySem.F.slot_list_extend PySem.F.type_list_extend mt_extend (pv 6) (pa_cons (pe_lc (own := [("_law_k", 7)]) (g := gName 7) (tt := tYes) rfl sc_law.nd (pi_range1 (by rfl) T.range (pa_cons pe_int pa_nil)) (blkOk_by (own := [("_law_k", 7)]) (N := ["_law_script", "_law_size", "_law_filled", "_law_sizes", "_law_tested", "_law_kept", "_law_keys", "_law_k", "_law_values", "_law_at", "_law_pick", "_law_which", "_law_key", "_law_value"]) (sc := C8.fnScope s_law) (by decide +kernel)) (fun _ _ _ _ _ => (pg_name (i := 7) sc_law.nd rfl (.inl rfl))) (fun _ _ _ _ _ => pts_nil) (fun _ _ _ _ _ => (pe_op op_add pe_int (C8.pe_c c_number hr (by omega) (by rfl) (pa_cons (pv 0) (pa_cons pe_int (pa_cons (pv 7) (pa_cons (pv 2) pa_nil)))))))) pa_nil))))
      pss_nil))
      (pss_cons (ps_mk (ps_for PassesOwn.never rfl (pi_range2 (by rfl) T.range (pa_cons pe_int (pa_cons (pe_op op_add pe_int (C8.pe_c c_number hr (by omega) (by rfl) (pa_cons (pv 0) (pa_cons pe_int (pa_cons pe_int (pa_cons pe_int pa_nil)))))) pa_nil))) (pg_name (i := 9) sc_law.nd rfl (.inl rfl))
      (pss_cons (ps_set (i := 10) sc_law.nd rfl (.inl rfl) (C8.pe_c c_number hr (by omega) (by rfl) (pa_cons (pv 0) (pa_cons (pv 9) (pa_cons pe_int (pa_cons pe_int pa_nil))))))
      (pss_cons (ps_set (i := 11) sc_law.nd rfl (.inl rfl) (pe_op op_fdiv (pv 10) pe_int))
      (pss_cons (ps_set (i := 12) sc_law.nd rfl (.inl rfl) (pe_ix (ixL K rfl) (pv 6) (C8.pe_c c_number hr (by omega) (by rfl) (pa_cons (pv 0) (pa_cons (pv 9) (pa_cons pe_int (pa_cons (pe_callB (lenQ K rfl) (by rfl) T.len PySem.boot_len (pa_cons (pv 6) pa_nil)) pa_nil))))) (fun _ _ => rfl)))
      (pss_cons (ps_set (i := 13) sc_law.nd rfl (.inl rfl) (pe_ix (ixL K rfl) (pe_op op_cat (pv 8) (pe_lst (pa_cons (pv 9) pa_nil))) (C8.pe_c c_number hr (by omega) (by rfl) (pa_cons (pv 0) (pa_cons (pv 9) (pa_cons pe_int (pa_cons pe_int pa_nil))))) (fun _ _ => rfl)))
      (pss_cons (ps_mk (ps_if (pt_not (pt_val (C8.pe_c c_kept_call hr (by omega) (by rfl) (pa_cons (pe_ix (ixL K rfl) (pv 4) (pv 11) (fun _ _ => rfl)) (pa_cons (pe_ix (ixL K rfl) (pv 5) (pv 11) (fun _ _ => rfl)) (pa_cons (pe_ix (ixL K rfl) (pv 3) (pv 11) (fun _ _ => rfl)) (pa_cons (C8.pe_c c_kept_deed hr (by omega) (by rfl) (pa_cons (pe_op op_mod (pe_callTy call_int1 (by rfl) T.int (by decide +kernel) (pa_cons (pv 10) pa_nil)) pe_int) (pa_cons (pv 12) (pa_cons (pv 13) pa_nil)))) pa_nil)))))))
      (pss_one (ps_ret pe_bl))
      pss_nil))
      (pss_one (ps_mk (ps_if (PW.pt (pw_and (pt_cmpR op_eq (C8.pe_c c_number hr (by omega) (by rfl) (pa_cons (pv 0) (pa_cons pe_int (pa_cons pe_int (pa_cons pe_int pa_nil))))) pe_int (nomark _)) (pw_and1 (pt_cmpR op_lt (pe_callB (lenQ K rfl) (by rfl) T.len PySem.boot_len (pa_cons (pe_ix (ixL K rfl) (pv 5) (pv 11) (fun _ _ => rfl)) pa_nil)) pe_int (nomark _)))))
      (pss_one (ps_mk (ps_if (pt_not (pt_val (C8.pe_c c_kept_agrees hr (by omega) (by rfl) (pa_cons (pe_ix (ixL K rfl) (pv 4) (pv 11) (fun _ _ => rfl)) (pa_cons (pe_ix (ixL K rfl) (pv 5) (pv 11) (fun _ _ => rfl)) (pa_cons (pv 6) pa_nil))))))
      (pss_one (ps_ret pe_bl))
      pss_nil)))
      pss_nil))))))))))
      (pss_cons (ps_mk (ps_for PassesOwn.never rfl (pi_range1 (by rfl) T.range (pa_cons pe_int pa_nil)) (pg_name (i := 11) sc_law.nd rfl (.inl rfl))
      (pss_one (ps_mk (ps_if (pt_not (pt_val (C8.pe_c c_kept_agrees hr (by omega) (by rfl) (pa_cons (pe_ix (ixL K rfl) (pv 4) (pv 11) (fun _ _ => rfl)) (pa_cons (pe_ix (ixL K rfl) (pv 5) (pv 11) (fun _ _ => rfl)) (pa_cons (pv 6) pa_nil))))))
      (pss_one (ps_ret pe_bl))
      pss_nil)))))
      (pss_one (ps_ret pe_bl))))))))))))))), ?_⟩
  walk_at "go"
  refine jnS (M := fun σ H' => ∃ c m : Int, 0 ≤ c ∧ c ≤ 70 ∧ 0 ≤ m ∧ m ≤ 73 ∧ H' = H ∧ σ = [sR a, sI c, sI m, none, none, none, none, none, none, none, none, none, none, none]) ?_ (fun N kk => ?_)
  rotate_left
  · have u0 : 0 ≤ num ns 0 11 7 := num_nn (by decide)
    have u1 : num ns 0 11 7 < 7 := num_lt (by decide)
    walk_at "go"
    refine ifEq (fun _ => ?_) (fun _ => ?_)
    · have v0 : 0 ≤ num ns 0 1 64 := num_nn (by decide)
      have v1 : num ns 0 1 64 < 64 := num_lt (by decide)
      have w0 : 0 ≤ num ns 0 14 (7 + num ns 0 1 64 + 4) := num_nn (by omega)
      have w1 : num ns 0 14 (7 + num ns 0 1 64 + 4) < 7 + num ns 0 1 64 + 4 := num_lt (by omega)
      walk_at "go"
      exact kk _ _ ⟨7 + num ns 0 1 64, _, by omega, by omega, w0, by omega, rfl, rfl⟩
    · walk_at "go"
      exact kk _ _ ⟨_, 0, u0, by omega, by decide, by decide, rfl, rfl⟩
  rintro σ H1 ⟨c, m, c0, c70, m0, m73, rfl, rfl⟩
  have u0 : 0 ≤ num ns 0 13 4 := num_nn (by decide)
  have u1 : num ns 0 13 4 < 4 := num_lt (by decide)
  walk_at "go"
  generalize num ns 0 13 4 = c' at *
  refine ⟨sz, fun Z nZ => ?_⟩
  have sZ := same_upd (o := HO.lst [V.int c, V.int c']) nZ
  have gZ := upd_same (H := H1) (a := Z) (o := HO.lst [V.int c, V.int c'])
  show _
  generalize upd H1 Z (HO.lst [V.int c, V.int c']) = H2 at *
  walk_at "go"
  intro p1 dx1 np1 ndx1 ne1
  refine ⟨p1, dx1, c, rfl, upd_same, fun d1 H3 nd1 ca1 b1 => ⟨rfl, ?_⟩⟩
  have s2 : Same H2 H3 := same_one ((same_upd ndx1).trans (same_upd (by rw [upd_ne ne1.symm]; exact np1))) np1 b1
  have fd1 : H2 d1 = none := ((same_upd ndx1).trans (same_upd (by rw [upd_ne ne1.symm]; exact np1))).free nd1
  have gZ3 := s2 _ _ gZ
  walk_at "go"
  intro p2 dx2 np2 ndx2 ne2
  have sIn := (same_upd (o := HO.own p2) ndx2).trans (same_upd (o := HO.ins C dx2 []) (by rw [upd_ne ne2.symm]; exact np2))
  refine ⟨p2, dx2, c', rfl, upd_same, fun d2 H4 nd2 ca2 b2 => ⟨rfl, ?_⟩⟩
  have s3 : Same H3 H4 := same_one sIn np2 b2
  have fd2 : H3 d2 = none := sIn.free nd2
  have n12 := ca1.both np2
  have m12 := ca1.both fd2
  have ca1 := ca1.same s3
  have s24 := s2.trans s3
  have gZ4 := s3 _ _ gZ3
  walk_at "go"
  refine ⟨sz, fun TL nT => ?_⟩
  have sT := same_upd (o := HO.lst [V.ref p1, V.ref p2]) nT
  have gT := upd_same (H := H4) (a := TL) (o := HO.lst [V.ref p1, V.ref p2])
  have ca1 := ca1.same sT
  have ca2 := ca2.same sT
  have s25 := s24.trans sT
  have gZ5 := sT _ _ gZ4
  show _
  generalize upd H4 TL (HO.lst [V.ref p1, V.ref p2]) = H5 at *
  walk_at "go"
  refine ⟨sz, fun L1 nL1 => ?_⟩
  have sL1 := same_upd (o := HO.lst []) nL1
  have gL1 := upd_same (H := H5) (a := L1) (o := HO.lst [])
  walk_at "go"
  refine ⟨sz, fun L2 nL2 => ?_⟩
  have sL2 := same_upd (o := HO.lst []) nL2
  have gL2 := upd_same (H := upd H5 L1 (HO.lst [])) (a := L2) (o := HO.lst [])
  have gL1' := sL2 _ _ gL1
  have n3 : L1 ≠ L2 := ne_of_none gL1 nL2
  have sL := sL1.trans sL2
  show _
  generalize upd (upd H5 L1 (HO.lst [])) L2 (HO.lst []) = H6 at *
  walk_at "go"
  refine ⟨sz, fun KL nK => ?_⟩
  have aK : KL ≠ L1 ∧ KL ≠ L2 := ⟨(ne_of_none gL1' nK).symm, (ne_of_none gL2 nK).symm⟩
  have aS1 := SqL.was hS (sZ.trans s25) nL1
  have aS2 := SqL.was hS ((sZ.trans s25).trans sL1) nL2
  have sK := same_upd (o := HO.lst [V.ref L1, V.ref L2]) nK
  have gK := upd_same (H := H6) (a := KL) (o := HO.lst [V.ref L1, V.ref L2])
  show _
  generalize upd H6 KL (HO.lst [V.ref L1, V.ref L2]) = H7 at *
  have s57 := sL.trans sK
  have s17 := sZ.trans (s25.trans s57)
  have t7 : ∀ F H', Same H7 H' → H' F ≠ none → St2 C w F H' p1 c L1 p2 c' L2 := fun F H' s nF => ⟨d1, [], [], d2, [], [], ⟨⟨(ca1.same s57).same s, kept0 (s _ _ (sK _ _ gL1')), rfl, c0⟩, ⟨(ca2.same s57).same s, kept0 (s _ _ (sK _ _ gL2)), rfl, u0⟩, n12.1, m12.2, n3, (fun _ h => by cases h), (fun _ h => by cases h), nF⟩⟩
  have hS7 := s17.seq hS
  have gZ7 := s57 _ _ gZ5
  have gT7 := s57 _ _ gT
  have gL1 := sK _ _ gL1'
  have gL2 := sK _ _ gL2
  -- none of them is one of the two lists
  have noL : ∀ b o, H5 b = some o → b ≠ L1 ∧ b ≠ L2 := fun b o e => ⟨ne_of_none e nL1, ne_of_none (sL1 _ _ e) nL2⟩
  have aZ := noL _ _ gZ5
  have aT := noL _ _ gT
  clear sL2 sL1 gL1' ca1 ca2 gZ gZ3 gZ4 gZ5 sT gT sL s57 sK s2 s3 s24 s25 sZ fd1 fd2 n12 m12
  have y0 : 0 ≤ num ns 0 4 8 := num_nn (by decide)
  have y1 : num ns 0 4 8 < 8 := num_lt (by decide)
  try dsimp only
  walk_at "go"
  generalize num ns 0 4 8 = nk at *
  refine ⟨by omega, by omega, fun KS nKS => lc_range (lo := 0) (n := (1 + nk).toNat) (fun j H' => Ob (Same H7 H' ∧ ∃ us kds, H' KS = some (.lst us) ∧ DhAll H' kds us ∧ (∀ k ∈ kds, Thing k) ∧ us.length = j)) (ob ⟨same_upd nKS, [], [], upd_same, rfl, (fun _ h => by cases h), rfl⟩) ?_ ?_⟩
  · intro j H8 hj h
    obtain ⟨s8, us, kds, g8, d8, t8, l8⟩ := unob h
    clear h
    have hS8 := s8.seq hS7
    refine ⟨rfl, ?_⟩
    rw [Int.zero_add]
    walk_at "go"
    refine ⟨a, ns, _, _, rfl, hS8, hl, by omega, by omega, by decide, by decide, fun v d9 H9 s9 dv tv => ?_⟩
    walk_at "go"
    refine ⟨us, s9 _ _ g8, sz5 (by omega), ob ⟨same_put (s8.trans s9) nKS, us ++ [v], kds ++ [d9], upd_same, ?_, fun k hk => ?_, by rw [List.length_append, l8]; rfl⟩⟩
    · have t := Tups.put (o := HO.lst (us ++ [v])) (fun vs (z : H9 KS = some (.tup vs)) => by rw [s9 _ _ g8] at z; cases z)
      exact DhAll.snoc (DhAll.tups t _ _ (noLs_of fun k hk => .inr (t8 k hk)) (DhAll.mono s9 _ _ d8)) (Dh.tups t _ _ (opt_noL (.inr tv)) dv)
    · rcases List.mem_append.mp hk with z | z
      · exact t8 k z
      · obtain rfl : k = d9 := by simpa using z
        exact tv
  intro H8 h
  obtain ⟨s8, us, kds, g8, d8, t8, l8⟩ := unob h
  clear h
  try dsimp only
  walk_at "go"
  refine jnS (M := fun σ H' => Same H7 H' ∧ (∃ us kds, H' KS = some (.lst us) ∧ DhAll H' kds us ∧ (∀ k ∈ kds, Thing k) ∧ 1 ≤ us.length ∧ us.length ≤ 15) ∧ σ = [sR a, sI c, sI m, sR Z, sR TL, sR KL, sR KS, none, none, none, none, none, none, none]) ?_ (fun N kk => ?_)
  rotate_left
  · have hS8 := s8.seq hS7
    walk_at "go"
    refine ifEq (fun _ => ?_) (fun _ => ?_)
    · walk_at "go"
      refine ⟨sz, fun p0 n0 => ?_⟩
      have e0 := same_upd (o := HO.tup [V.int 1]) n0
      have g0 := upd_same (H := H8) (a := p0) (o := HO.tup [V.int 1])
      have s9 := s8.trans e0
      have d9 := DhAll.mono e0 _ _ d8
      have g9 := e0 _ _ g8
      show _
      generalize upd H8 p0 (HO.tup [V.int 1]) = H9 at *
      walk_at "go"
      refine ⟨sz, fun p1 n1 => ?_⟩
      have e1 := same_upd (o := HO.tup [V.str "1"]) n1
      have g1 := upd_same (H := H9) (a := p1) (o := HO.tup [V.str "1"])
      have s9 := s9.trans e1
      have d9 := DhAll.mono e1 _ _ d9
      have g9 := e1 _ _ g9
      have g0 := e1 _ _ g0
      show _
      generalize upd H9 p1 (HO.tup [V.str "1"]) = H10 at *
      walk_at "go"
      refine ⟨sz, fun p2 n2 => ?_⟩
      have e2 := same_upd (o := HO.tup []) n2
      have g2 := upd_same (H := H10) (a := p2) (o := HO.tup [])
      have s9 := s9.trans e2
      have d9 := DhAll.mono e2 _ _ d9
      have g9 := e2 _ _ g9
      have g0 := e2 _ _ g0
      have g1 := e2 _ _ g1
      show _
      generalize upd H10 p2 (HO.tup []) = H11 at *
      walk_at "go"
      refine ⟨sz, fun E nE => ?_⟩
      have e3 := same_upd (o := HO.lst [V.int 1, V.str "1", V.ref p0, V.ref p1, V.int 0, V.str "", V.ref p2]) nE
      have g3 := upd_same (H := H11) (a := E) (o := HO.lst [V.int 1, V.str "1", V.ref p0, V.ref p1, V.int 0, V.str "", V.ref p2])
      have s9 := s9.trans e3
      have d9 := DhAll.mono e3 _ _ d9
      have g9 := e3 _ _ g9
      have g0 := e3 _ _ g0
      have g1 := e3 _ _ g1
      have g2 := e3 _ _ g2
      show _
      generalize upd H11 E (HO.lst [V.int 1, V.str "1", V.ref p0, V.ref p1, V.int 0, V.str "", V.ref p2]) = H12 at *
      walk_at "go"
      refine ⟨KS, E, us, _, rfl, rfl, g9, g3, Nat.le_of_lt (sz5 (by show us.length + 7 ≤ _; omega)), ?_⟩
      walk_at "go"
      have tn : ∀ k ∈ [PyData.int 1, .str "1", .tuple [.int 1], .tuple [.str "1"], .int 0, .str "", .tuple []], Thing k := fun k hk => by
        simp only [List.mem_cons, List.not_mem_nil, or_false] at hk
        rcases hk with rfl | rfl | rfl | rfl | rfl | rfl | rfl
        · trivial
        · exact okk_one
        · exact ⟨by decide, fun d hd => by obtain rfl : d = .int 1 := by simpa using hd
                                           trivial⟩
        · exact ⟨by decide, fun d hd => by obtain rfl : d = .str "1" := by simpa using hd
                                           exact okk_one⟩
        · trivial
        · exact okk_nil
        · exact ⟨by decide, fun d hd => by cases hd⟩
      have ta := thing_app t8 tn
      have dn : DhAll H12 [PyData.int 1, .str "1", .tuple [.int 1], .tuple [.str "1"], .int 0, .str "", .tuple []] [V.int 1, V.str "1", V.ref p0, V.ref p1, V.int 0, V.str "", V.ref p2] := ⟨_, _, rfl, rfl, _, _, rfl, rfl, _, _, rfl, ⟨p0, _, rfl, g0, _, _, rfl, rfl, rfl⟩, _, _, rfl, ⟨p1, _, rfl, g1, _, _, rfl, rfl, rfl⟩, _, _, rfl, rfl, _, _, rfl, rfl, _, _, rfl, ⟨p2, _, rfl, g2, rfl⟩, rfl⟩
      refine kk _ _ ⟨same_put s9 nKS, ⟨_, _, upd_same, DhAll.put (dh_app d9 dn) g9 ta, ta, ?_, ?_⟩, rfl⟩
      · rw [List.length_append]
        omega
      · rw [List.length_append]
        show us.length + 7 ≤ 15
        omega
    · walk_at "go"
      exact kk _ _ ⟨s8, ⟨us, kds, g8, d8, t8, by omega, by omega⟩, rfl⟩
  clear s8 g8 d8 t8 l8
  rintro σ H9 ⟨s9, ⟨us, kds, g9, d9, t9, l9, l15⟩, rfl⟩
  have hS9 := s9.seq hS7
  walk_at "go"
  refine ⟨a, ns, _, _, rfl, hS9, hl, by omega, by omega, by decide, by decide, fun v1 k1 H10 s10 dv1 tv1 => ?_⟩
  have hS10 := s10.seq hS9
  walk_at "go"
  refine ⟨a, ns, _, _, rfl, hS10, hl, by omega, by omega, by decide, by decide, fun v2 k2 H11 s11 dv2 tv2 => ?_⟩
  have dv1 := Dh.mono s11 _ _ dv1
  walk_at "go"
  refine ⟨sz, fun VS nVS => ?_⟩
  have s12 := same_upd (o := HO.lst [V.int 0, v1, v2]) nVS
  have gV := upd_same (H := H11) (a := VS) (o := HO.lst [V.int 0, v1, v2])
  have sA := s10.trans (s11.trans s12)
  have g12 := sA _ _ g9
  have d12 := DhAll.mono sA _ _ d9
  have nVK : VS ≠ KS := (ne_of_none (s11 _ _ (s10 _ _ g9)) nVS).symm
  show _
  generalize upd H11 VS (HO.lst [V.int 0, v1, v2]) = H12 at *
  have s712 := s9.trans sA
  have LV : LA H12 VS [.int 0, k1, k2] := ⟨_, gV, _, _, rfl, rfl, _, _, rfl, Dh.mono s12 _ _ dv1, _, _, rfl, Dh.mono s12 _ _ dv2, rfl⟩
  have tV : ∀ k ∈ [PyData.int 0, k1, k2], Thing k := fun k hk => by
    simp only [List.mem_cons, List.not_mem_nil, or_false] at hk
    rcases hk with rfl | rfl | rfl
    · trivial
    · exact tv1
    · exact tv2
  have t12 : St2 C w KS H12 p1 c L1 p2 c' L2 := t7 KS H12 s712 (by rw [g12]; intro z; cases z)
  have y12 : Stay K H12 a ns Z TL KL KS VS p1 c L1 p2 c' L2 kds [.int 0, k1, k2] := ⟨s712.seq hS7, s712 _ _ gZ7, s712 _ _ gT7, s712 _ _ gK, ⟨us, g12, d12⟩, LV⟩
  have nKS1 : KS ≠ L1 := (ne_of_none gL1 nKS).symm
  have nKS2 : KS ≠ L2 := (ne_of_none gL2 nKS).symm
  have nVS1 : VS ≠ L1 := (ne_of_none (s11 _ _ (s10 _ _ (s9 _ _ gL1))) nVS).symm
  have nVS2 : VS ≠ L2 := (ne_of_none (s11 _ _ (s10 _ _ (s9 _ _ gL2))) nVS).symm
  have A1 : Apart K ns a Z TL KL KS VS L1 := ⟨aS1, aZ.1, aT.1, aK.1, nKS1, nVS1⟩
  have A2 : Apart K ns a Z TL KL KS VS L2 := ⟨aS2, aZ.2, aT.2, aK.2, nKS2, nVS2⟩
  have A3 : Apart K ns a Z TL KL VS VS KS := ⟨SqL.was hS7 same_rfl nKS, ne_of_none gZ7 nKS, ne_of_none gT7 nKS, ne_of_none gK nKS, nVK, nVK⟩
  have hv : ∀ k ∈ [PyData.int 0, k1, k2], Opt k := fun k hk => .inr (tV k hk)
  have d9' : ∀ k ∈ kds, Thing k := t9
  have l12 : 1 ≤ kds.length ∧ kds.length ≤ 15 := by
    rw [← d12.len]
    exact ⟨l9, l15⟩
  clear hS9 hS10 g9 d9 s9 sA s10 s11 s12 gV dv1 dv2 LV tV g12 d12 s712 t7 gZ7 gT7 gK hS7 nKS nVS gL1 gL2 aS1 aS2 aZ aT aK nKS1 nKS2 nVS1 nVS2 nVK l9 l15 us s17
  walk_at "go"
  refine jnS (M := fun σ H' => St2 C w KS H' p1 c L1 p2 c' L2 ∧ Stay K H' a ns Z TL KL KS VS p1 c L1 p2 c' L2 kds [.int 0, k1, k2] ∧ ∃ y, σ = [sR a, sI c, sI m, sR Z, sR TL, sR KL, sR KS, y, sR VS, none, none, none, none, none]) ?_ (fun N kk => ?_)
  rotate_left
  · walk_at "go"
    refine ⟨by omega, by omega, for_range (lo := 0) (n := m.toNat) (fun j σ H' => Ob (St2 C w KS H' p1 c L1 p2 c' L2 ∧ Stay K H' a ns Z TL KL KS VS p1 c L1 p2 c' L2 kds [.int 0, k1, k2] ∧ ∃ y, σ = [sR a, sI c, sI m, sR Z, sR TL, sR KL, sR KS, y, sR VS, none, none, none, none, none])) (ob ⟨t12, y12, _, rfl⟩) ?_ ?_⟩
    · intro j σ H13 hj h
      obtain ⟨t13, y13, y, rfl⟩ := unob h
      clear h
      have gT := y13.tl
      have gK := y13.kl
      rw [Int.zero_add]
      refine un ?_
      walk_at "go"
      refine ⟨sz, fun t nt => ?_⟩
      have s14 := same_upd (o := HO.tup [V.str "fill", V.int (1000 + (j : Nat)), V.int (j : Nat)]) nt
      have gt := upd_same (H := H13) (a := t) (o := HO.tup [V.str "fill", V.int (1000 + (j : Nat)), V.int (j : Nat)])
      have t14 := t13.same s14
      have y14 := y13.same s14
      show _
      generalize upd H13 t (HO.tup [V.str "fill", V.int (1000 + (j : Nat)), V.int (j : Nat)]) = H14 at *
      obtain ⟨q1, e, A1', d, xs, rs, h1, h2, h3, _, hb, stp⟩ := both_step (j := 0) t14 y14 A1 A2 d9' hv (by decide) (by decide)
      cases h1
      cases h2
      cases h3
      walk_at "go"
      refine ⟨p1, d, L1, t, c, xs, rs, .fill (.int (1000 + (j : Nat))) (.int (j : Nat)), rfl, hb, c0, by omega, ⟨trivial, .inr trivial⟩, ⟨t, _, rfl, gt, _, _, rfl, rfl, _, _, rfl, rfl, _, _, rfl, rfl, rfl⟩, fun d2 xs2 rs2 H15 hb2 f1 f2 f3 => ?_⟩
      obtain ⟨t15, y15⟩ := stp H15 d2 xs2 rs2 hb2 f1 f2 f3
      walk_at "go"
      exact ob ⟨t15, y15, _, rfl⟩
    · intro σ H13 h
      obtain ⟨t13, y13, y, rfl⟩ := unob h
      exact kk _ _ ⟨t13, y13, _, rfl⟩
  clear t12 y12
  rintro σ H13 ⟨t13, y13, y, rfl⟩
  refine jnS (M := fun σ H' => St2 C w KS H' p1 c L1 p2 c' L2 ∧ (∃ kds, Stay K H' a ns Z TL KL KS VS p1 c L1 p2 c' L2 kds [.int 0, k1, k2] ∧ (∀ k ∈ kds, Thing k) ∧ 1 ≤ kds.length ∧ kds.length ≤ 19) ∧ ∃ y, σ = [sR a, sI c, sI m, sR Z, sR TL, sR KL, sR KS, y, sR VS, none, none, none, none, none]) ?_ (fun N kk => ?_)
  rotate_left
  · obtain ⟨us, gk, dk⟩ := y13.ks
    have lus := dk.len
    have hS13 := y13.a
    walk_at "go"
    refine ifD (fun mp => ?_) (fun _ => ?_)
    · walk_at "go"
      refine ⟨by omega, by omega, fun D nD => lc_range (lo := 0) (n := 4) (fun j H' => Ob (Same H13 H' ∧ ∃ is : List Int, H' D = some (.lst (is.map V.int)) ∧ is.length = j)) (ob ⟨same_upd nD, [], upd_same, rfl⟩) ?_ ?_⟩
      · intro j H14 hj h
        obtain ⟨s14, is, g14, l14⟩ := unob h
        clear h
        have hS14 := s14.seq hS13
        refine ⟨rfl, ?_⟩
        rw [Int.zero_add]
        walk_at "go"
        refine ⟨_, g14, sz5 (by rw [List.length_map]; omega), ob ⟨same_put s14 nD, is ++ [1000 + num ns 53 (j : Nat) m], by rw [List.map_append]; exact upd_same, by rw [List.length_append, l14]; rfl⟩⟩
      intro H14 h
      obtain ⟨s14, is, g14, l14⟩ := unob h
      clear h
      have t14 := t13.same s14
      have y14 := y13.same s14
      have gk14 := s14 _ _ gk
      try dsimp only
      walk_at "go"
      refine ⟨KS, D, us, _, rfl, rfl, gk14, g14, Nat.le_of_lt (sz5 (by rw [List.length_map]; omega)), ?_⟩
      walk_at "go"
      have tn : ∀ k ∈ is.map PyData.int, Thing k := fun k hk => by
        obtain ⟨i, _, rfl⟩ := List.mem_map.mp hk
        trivial
      have ta := thing_app t9 tn
      have bK : But H14 (upd H14 KS (HO.lst (us ++ is.map V.int))) KS := But.put
      refine kk _ _ ⟨t14.off bK gk14 A1.ks.symm A2.ks.symm (by rw [upd_same]; intro z; cases z), ⟨kds ++ is.map PyData.int, y14.ext bK A3 (Tups.put fun vs z => by rw [gk14] at z; cases z) hv ⟨_, upd_same, DhAll.put (dh_app (DhAll.mono s14 _ _ dk) (dh_ints is)) gk14 ta⟩, ta, ?_, ?_⟩, _, rfl⟩
      · rw [List.length_append]
        omega
      · rw [List.length_append, List.length_map]
        omega
    · walk_at "go"
      exact kk _ _ ⟨t13, ⟨kds, y13, t9, l12.1, by omega⟩, _, rfl⟩
  clear t13 y13 t9 l12 d9' A3 kds
  rintro σ H14 ⟨t14, ⟨kds, y14, tk, l1, l19⟩, y, rfl⟩
  have z0 : 0 ≤ num ns 0 0 41 := num_nn (by decide)
  have z1 : num ns 0 0 41 < 41 := num_lt (by decide)
  refine jnS (M := fun σ H' => St2 C w KS H' p1 c L1 p2 c' L2 ∧ Stay K H' a ns Z TL KL KS VS p1 c L1 p2 c' L2 kds [.int 0, k1, k2] ∧ ∃ y y9 y10 y11 y12 y13, σ = [sR a, sI c, sI m, sR Z, sR TL, sR KL, sR KS, y, sR VS, y9, y10, y11, y12, y13]) ?_ (fun N kk => ?_)
  rotate_left
  · have hS14 := y14.a
    walk_at "go"
    refine ⟨_, _, rfl, ⟨by omega, by omega, by omega, by omega⟩, for_range (lo := 1) (n := (1 + num ns 0 0 41 - 1).toNat) (fun j σ H' => Ob (St2 C w KS H' p1 c L1 p2 c' L2 ∧ Stay K H' a ns Z TL KL KS VS p1 c L1 p2 c' L2 kds [.int 0, k1, k2] ∧ ∃ y y9 y10 y11 y12 y13, σ = [sR a, sI c, sI m, sR Z, sR TL, sR KL, sR KS, y, sR VS, y9, y10, y11, y12, y13])) (ob ⟨t14, y14, _, _, _, _, _, _, rfl⟩) ?_ ?_⟩
    rotate_left
    · intro σ H15 h
      obtain ⟨t15, y15, y, y9, y10, y11, y12, y13, rfl⟩ := unob h
      exact kk _ _ ⟨t15, y15, _, _, _, _, _, _, rfl⟩
    intro j σ H15 hj h
    obtain ⟨t15, y15, y, y9, y10, y11, y12, y13, rfl⟩ := unob h
    clear h t14 y14 hS14 kk
    have hS15 := y15.a
    have jb : 0 ≤ 1 + (j : Int) ∧ 1 + (j : Int) ≤ 41 := by omega
    obtain ⟨i, ei⟩ : ∃ i, i = 1 + (j : Int) := ⟨_, rfl⟩
    rw [← ei] at jb ⊢
    clear ei hj
    obtain ⟨i0, i41⟩ := jb
    have x0 : 0 ≤ num ns i 0 96 := num_nn (by decide)
    have x1 : num ns i 0 96 < 96 := num_lt (by decide)
    obtain ⟨us, gk, dk⟩ := y15.ks
    have lus := dk.len
    obtain ⟨vs, gv, dvs⟩ := y15.vs
    have x2 : 0 ≤ num ns i 1 (us.length : Nat) := num_nn (by omega)
    have x3 : num ns i 1 (us.length : Nat) < (us.length : Nat) := num_lt (by omega)
    walk_at "go"
    obtain ⟨kv, kd, ekv, mkd, dkv⟩ := pick_of dk x2 x3
    have tkd := tk kd mkd
    refine ⟨_, _, _, _, rfl, rfl, SqL.of gk, ekv, ?_⟩
    clear x2 x3 ekv
    have x4 : 0 ≤ num ns i 2 4 := num_nn (by decide)
    have x5 : num ns i 2 4 < 4 := num_lt (by decide)
    walk_at "go"
    refine ⟨sz, fun B nB => ?_⟩
    have s16 := same_upd (o := HO.lst [V.int i]) nB
    have g16 := upd_same (H := H15) (a := B) (o := HO.lst [V.int i])
    have t16 := t15.same s16
    have y16 := y15.same s16
    have gv16 := s16 _ _ gv
    have dkv := Dh.mono s16 _ _ dkv
    have dvs := DhAll.mono s16 _ _ dvs
    show _
    generalize upd H15 B (HO.lst [V.int i]) = H16 at *
    walk_at "go"
    have lvs := dvs.len
    have lvs : vs.length = 3 := lvs
    refine ⟨VS, B, vs, _, rfl, rfl, gv16, g16, sz (by rw [lvs]; show 3 + 1 ≤ 1000; decide), fun G nG => ?_⟩
    have s17 := same_upd (o := HO.lst (vs ++ [V.int i])) nG
    have g17 := upd_same (H := H16) (a := G) (o := HO.lst (vs ++ [V.int i]))
    have t17 := t16.same s17
    have y17 := y16.same s17
    have dkv := Dh.mono s17 _ _ dkv
    have dvs := DhAll.snoc (d := .int i) (x := .int i) (DhAll.mono s17 _ _ dvs) rfl
    show _
    generalize upd H16 G (HO.lst (vs ++ [V.int i])) = H17 at *
    have hS17 := y17.a
    obtain ⟨vv, vd, evv, mvd, dvv⟩ := pick_of dvs x4 (by rw [List.length_append, lvs]; exact x5)
    have ovd : Opt vd := by
      rcases List.mem_append.mp mvd with z | z
      · exact hv vd z
      · obtain rfl : vd = .int i := by simpa using z
        exact .inr trivial
    walk_at "go"
    have gT17 := y17.tl
    have gK17 := y17.kl
    have gZ17 := y17.z
    have wj0 : 0 ≤ num ns i 0 96 / 72 := Int.ediv_nonneg x0 (by decide)
    have wj2 : num ns i 0 96 / 72 < 2 := by omega
    obtain ⟨q1, e, A1', d, xs, rs, h1, h2, h3, _, hb, _⟩ := both_step t17 y17 A1 A2 tk hv wj0 wj2
    clear x4 x5 evv mvd mkd
    try dsimp only
    refine jnS (M := fun σ H' => St2 C w KS H' p1 c L1 p2 c' L2 ∧ Stay K H' a ns Z TL KL KS VS p1 c L1 p2 c' L2 kds [.int 0, k1, k2] ∧ σ = [sR a, sI c, sI m, sR Z, sR TL, sR KL, sR KS, y, sR VS, sI i, sI (num ns i 0 96), sI (num ns i 0 96 / 72), some kv, some vv]) ?_ (fun N kk => ?_)
    rotate_left
    · walk_at "go"
      refine ⟨_, kv, vv, kd, vd, rfl, tkd, dkv, ovd, dvv, fun t dd H18 s18 ok d18 => ?_⟩
      have t18 := t17.same s18
      have y18 := y17.same s18
      walk_at "go"
      obtain ⟨q1', e', A1'', d', xs', rs', h1', h2', h3', he, hb', stp⟩ := both_step t18 y18 A1 A2 tk hv wj0 wj2
      rw [h1] at h1'
      cases h1'
      rw [h2] at h2'
      cases h2'
      rw [h3] at h3'
      cases h3'
      have e0 : 0 ≤ e ∧ e ≤ 80000 := by
        rcases he with rfl | rfl
        · exact ⟨c0, by omega⟩
        · exact ⟨u0, by omega⟩
      refine ⟨q1, d', A1', t, e, xs', rs', dd, rfl, hb', e0.1, e0.2, ok, d18, fun d2 xs2 rs2 H19 hb2 f1 f2 f3 => ?_⟩
      obtain ⟨t19, y19⟩ := stp H19 d2 xs2 rs2 hb2 f1 f2 f3
      walk_at "go"
      exact kk _ _ ⟨t19, y19, rfl⟩
    clear t17 y17 gT17 gK17 gZ17 hb h1 h2 h3 dkv dvv dvs g17 s17 t16 y16 gv16 g16 s16 hS17
    rintro σ H18 ⟨t18, y18, rfl⟩
    have hS18 := y18.a
    have gT18 := y18.tl
    have gK18 := y18.kl
    obtain ⟨q1, e, A1', d, xs, rs, h1, h2, h3, _, hb, stp⟩ := both_step t18 y18 A1 A2 tk hv wj0 wj2
    have gA := hb.k.g
    obtain ⟨us2, gk2, dk2⟩ := y18.ks
    have lus2 := dk2.len
    have stay : Ob (St2 C w KS H18 p1 c L1 p2 c' L2 ∧ Stay K H18 a ns Z TL KL KS VS p1 c L1 p2 c' L2 kds [.int 0, k1, k2] ∧ ∃ z z9 z10 z11 z12 z13, [sR a, sI c, sI m, sR Z, sR TL, sR KL, sR KS, y, sR VS, sI i, sI (num ns i 0 96), sI (num ns i 0 96 / 72), some kv, some vv] = [sR a, sI c, sI m, sR Z, sR TL, sR KL, sR KS, z, sR VS, z9, z10, z11, z12, z13]) := ob ⟨t18, y18, _, _, _, _, _, _, rfl⟩
    refine un ?_
    walk_at "go"
    refine ifEq (fun _ => ?_) (fun _ => ?_)
    · walk_at "go"
      refine ifD (fun _ => ?_) (fun _ => ?_)
      · refine un ?_
        walk_at "go"
        refine ⟨q1, d, A1', KS, e, xs, rs, kds, us2, rfl, hb, gk2, dk2, tk, by omega, fun H19 s19 => ?_⟩
        walk_at "go"
        exact ob ⟨t18.same s19, y18.same s19, _, _, _, _, _, _, rfl⟩
      · walk_at "go"
        exact stay
    · walk_at "go"
      exact stay
  clear t14 y14
  rintro σ H15 ⟨t15, y15, y, y9, y10, y11, y12, y13, rfl⟩
  refine jnS (M := fun σ H' => True) ?_ (fun N kk => ?_)
  · intro σ H' _
    walk_at "go"
    exact q _
  walk_at "go"
  refine ⟨by omega, by omega, for_range (lo := 0) (n := 2) (fun j σ H' => Ob (St2 C w KS H' p1 c L1 p2 c' L2 ∧ Stay K H' a ns Z TL KL KS VS p1 c L1 p2 c' L2 kds [.int 0, k1, k2] ∧ ∃ y11, σ = [sR a, sI c, sI m, sR Z, sR TL, sR KL, sR KS, y, sR VS, y9, y10, y11, y12, y13])) (ob ⟨t15, y15, _, rfl⟩) ?_ ?_⟩
  · intro j σ H16 hj h
    obtain ⟨t16, y16, y11, rfl⟩ := unob h
    clear h t15 y15 kk
    rw [Int.zero_add]
    have gT := y16.tl
    have gK := y16.kl
    obtain ⟨q1, e, A1', d, xs, rs, h1, h2, h3, _, hb, stp⟩ := both_step (j := (j : Nat)) t16 y16 A1 A2 tk hv (by omega) (by omega)
    obtain ⟨us2, gk2, dk2⟩ := y16.ks
    have lus2 := dk2.len
    refine un ?_
    walk_at "go"
    refine ⟨q1, d, A1', KS, e, xs, rs, kds, us2, rfl, hb, gk2, dk2, tk, by omega, fun H19 s19 => ?_⟩
    walk_at "go"
    exact ob ⟨t16.same s19, y16.same s19, _, rfl⟩
  · intro σ H16 h
    exact kk _ _ trivial
end

end

section

-- a condition of an operator
local macro_rules | `(tactic| walk_at "cond") => `(tactic| first
  | (show (0 : Int) < _; omega)
  | (show CDiv _ _; constructor <;> (first | decide | omega))
  | (show CMul _ _; first | (refine cmul_l ?_; constructor <;> (first | decide | omega)) | (refine cmul_r ?_; constructor <;> (first | decide | omega)))
  | (show CPow _ _; exact (by refine ⟨by decide, by decide, by decide⟩))
  | (show CDivW _ _; exact ⟨by decide, by decide +kernel⟩))
local macro_rules | `(tactic| walk_at "sq") => `(tactic| first | assumption | exact Dh.mono (same_upd (by assumption)) _ _ (by assumption) | exact .inl (.inl (.inl (by assumption))) | exact .inr (.inl (.inl (by assumption))) | exact SqL.of (by assumption) | exact .inl (by assumption) | exact .inl (SqL.of (by assumption)) | exact SqT.of (by assumption) | exact .inr (SqT.of (by assumption)))
local macro_rules | `(tactic| walk_at "st") => `(tactic| first
  | refine ⟨_, rfl, ?_⟩
  | refine ⟨_, _, rfl, rfl, ?_⟩
  | refine .inl ⟨_, rfl, ?_⟩
  | refine ⟨rfl, ?_⟩
  | refine ⟨_, _, rfl, by walk_at "sq", ?_⟩
  | refine ⟨.inl ⟨rfl, _, SqL.of (by assumption)⟩, ?_⟩
  | refine ⟨by walk_at "cond", ?_⟩
  | (refine' ifBT ?hh ?_; (case hh => first | rfl | assumption))
  | (refine' ifBF ?hh ?_; (case hh => first | rfl | assumption)))
local macro_rules | `(tactic| walk_at "go") => `(tactic| repeat walk_at "st")
local macro_rules | `(tactic| walk_at "yes") => `(tactic| (refine' ifT ?hh ?_; (case hh => first | rfl | decide +kernel)))
local macro_rules | `(tactic| walk_at "no") => `(tactic| (refine' ifF ?hh ?_; (case hh => first | decide +kernel | (intro z; cases z; done))))

theorem all_mk {l : PySem.W.OpenLaw} {w : World} {K : PySem.W.Frag} {h : Heap} {mg : Str → Option Value} {fa : Addr} (X : K.In h) (G : h.Ns mainGlobals mg) (hfa : mg "law" = some (.ref fa))
    {C : Addr} (aC : PySem.W.nsIn K mainGlobals "Cache" = some (some (.ref C)))
    {od_m_init an_m_init : Option Addr} {sl_m_init : Array (Option Value)} {f_m_init : Addr} {oc_m_init kV_m_init dc_m_init pm_m_init cd_m_init ct_m_init : Value}
    (a_m_init : PySem.W.findIn K (.ref C) "__init__" = some (some (.ref f_m_init))) (i_m_init : PySem.W.isFn K (.ref f_m_init) = true)
    (l_m_init : K.lookup f_m_init = some ⟨oc_m_init, od_m_init, .func (PySem.W.fnOf "__init__" "Cache.__init__" (C8.fnArgs s_Cache___init__) (C8.fnBody s_Cache___init__) (C8.fnScope s_Cache___init__) .none kV_m_init dc_m_init pm_m_init an_m_init cd_m_init ct_m_init), sl_m_init⟩)
    (c_m_init : PySem.W.codeIn K cd_m_init "Cache.__init__" = true) (k_m_init : PySem.W.keepIn K (.ref f_m_init) = true)
    {od_m_look an_m_look : Option Addr} {sl_m_look : Array (Option Value)} {f_m_look : Addr} {oc_m_look kV_m_look dc_m_look pm_m_look cd_m_look ct_m_look : Value}
    (a_m_look : PySem.W.findIn K (.ref C) "look" = some (some (.ref f_m_look))) (i_m_look : PySem.W.isFn K (.ref f_m_look) = true)
    (l_m_look : K.lookup f_m_look = some ⟨oc_m_look, od_m_look, .func (PySem.W.fnOf "look" "Cache.look" (C8.fnArgs s_Cache_look) (C8.fnBody s_Cache_look) (C8.fnScope s_Cache_look) .none kV_m_look dc_m_look pm_m_look an_m_look cd_m_look ct_m_look), sl_m_look⟩)
    (c_m_look : PySem.W.codeIn K cd_m_look "Cache.look" = true) (k_m_look : PySem.W.keepIn K (.ref f_m_look) = true)
    {od_m_fill an_m_fill : Option Addr} {sl_m_fill : Array (Option Value)} {f_m_fill : Addr} {oc_m_fill kV_m_fill dc_m_fill pm_m_fill cd_m_fill ct_m_fill : Value}
    (a_m_fill : PySem.W.findIn K (.ref C) "fill" = some (some (.ref f_m_fill))) (i_m_fill : PySem.W.isFn K (.ref f_m_fill) = true)
    (l_m_fill : K.lookup f_m_fill = some ⟨oc_m_fill, od_m_fill, .func (PySem.W.fnOf "fill" "Cache.fill" (C8.fnArgs s_Cache_fill) (C8.fnBody s_Cache_fill) (C8.fnScope s_Cache_fill) .none kV_m_fill dc_m_fill pm_m_fill an_m_fill cd_m_fill ct_m_fill), sl_m_fill⟩)
    (c_m_fill : PySem.W.codeIn K cd_m_fill "Cache.fill" = true) (k_m_fill : PySem.W.keepIn K (.ref f_m_fill) = true)
    {od_m_drop an_m_drop : Option Addr} {sl_m_drop : Array (Option Value)} {f_m_drop : Addr} {oc_m_drop kV_m_drop dc_m_drop pm_m_drop cd_m_drop ct_m_drop : Value}
    (a_m_drop : PySem.W.findIn K (.ref C) "drop" = some (some (.ref f_m_drop))) (i_m_drop : PySem.W.isFn K (.ref f_m_drop) = true)
    (l_m_drop : K.lookup f_m_drop = some ⟨oc_m_drop, od_m_drop, .func (PySem.W.fnOf "drop" "Cache.drop" (C8.fnArgs s_Cache_drop) (C8.fnBody s_Cache_drop) (C8.fnScope s_Cache_drop) .none kV_m_drop dc_m_drop pm_m_drop an_m_drop cd_m_drop ct_m_drop), sl_m_drop⟩)
    (c_m_drop : PySem.W.codeIn K cd_m_drop "Cache.drop" = true) (k_m_drop : PySem.W.keepIn K (.ref f_m_drop) = true)
    {od_m_clear_all an_m_clear_all : Option Addr} {sl_m_clear_all : Array (Option Value)} {f_m_clear_all : Addr} {oc_m_clear_all kV_m_clear_all dc_m_clear_all pm_m_clear_all cd_m_clear_all ct_m_clear_all : Value}
    (a_m_clear_all : PySem.W.findIn K (.ref C) "clear_all" = some (some (.ref f_m_clear_all))) (i_m_clear_all : PySem.W.isFn K (.ref f_m_clear_all) = true)
    (l_m_clear_all : K.lookup f_m_clear_all = some ⟨oc_m_clear_all, od_m_clear_all, .func (PySem.W.fnOf "clear_all" "Cache.clear_all" (C8.fnArgs s_Cache_clear_all) (C8.fnBody s_Cache_clear_all) (C8.fnScope s_Cache_clear_all) .none kV_m_clear_all dc_m_clear_all pm_m_clear_all an_m_clear_all cd_m_clear_all ct_m_clear_all), sl_m_clear_all⟩)
    (c_m_clear_all : PySem.W.codeIn K cd_m_clear_all "Cache.clear_all" = true) (k_m_clear_all : PySem.W.keepIn K (.ref f_m_clear_all) = true)
    {od_m_entries an_m_entries : Option Addr} {sl_m_entries : Array (Option Value)} {f_m_entries : Addr} {oc_m_entries kV_m_entries dc_m_entries pm_m_entries cd_m_entries ct_m_entries : Value}
    (a_m_entries : PySem.W.findIn K (.ref C) "entries" = some (some (.ref f_m_entries))) (i_m_entries : PySem.W.isFn K (.ref f_m_entries) = true)
    (l_m_entries : K.lookup f_m_entries = some ⟨oc_m_entries, od_m_entries, .func (PySem.W.fnOf "entries" "Cache.entries" (C8.fnArgs s_Cache_entries) (C8.fnBody s_Cache_entries) (C8.fnScope s_Cache_entries) .none kV_m_entries dc_m_entries pm_m_entries an_m_entries cd_m_entries ct_m_entries), sl_m_entries⟩)
    (c_m_entries : PySem.W.codeIn K cd_m_entries "Cache.entries" = true) (k_m_entries : PySem.W.keepIn K (.ref f_m_entries) = true)
    {od_m_contains an_m_contains : Option Addr} {sl_m_contains : Array (Option Value)} {f_m_contains : Addr} {oc_m_contains kV_m_contains dc_m_contains pm_m_contains cd_m_contains ct_m_contains : Value}
    (a_m_contains : PySem.W.findIn K (.ref C) "__contains__" = some (some (.ref f_m_contains))) (i_m_contains : PySem.W.isFn K (.ref f_m_contains) = true)
    (l_m_contains : K.lookup f_m_contains = some ⟨oc_m_contains, od_m_contains, .func (PySem.W.fnOf "__contains__" "Cache.__contains__" (C8.fnArgs s_Cache___contains__) (C8.fnBody s_Cache___contains__) (C8.fnScope s_Cache___contains__) .none kV_m_contains dc_m_contains pm_m_contains an_m_contains cd_m_contains ct_m_contains), sl_m_contains⟩)
    (c_m_contains : PySem.W.codeIn K cd_m_contains "Cache.__contains__" = true) (k_m_contains : PySem.W.keepIn K (.ref f_m_contains) = true)
    (pgC : PySem.W.plainGet K C Str.empty = true) (hdC : PySem.W.hasDictIn K C = true) (poC : PySem.W.plainOver K C = true) (saC : PySem.W.findIn K (.ref C) "__setattr__" = some (some (.builtin "object.__setattr__"))) (mkC : PySem.W.makesIn K C = true) (kcC : PySem.W.keepIn K (.ref C) = true)
    (nC : PySem.W.findIn K (.ref C) "_capacity" = some none)
    (nE : PySem.W.findIn K (.ref C) "_entries" = some none)
    {od_number an_number : Option Addr} {sl_number : Array (Option Value)} {f_number : Addr} {oc_number kV_number dc_number pm_number cd_number ct_number : Value}
    (a_number : PySem.W.nsIn K mainGlobals "_law_number" = some (some (.ref f_number)))
    (l_number : K.lookup f_number = some ⟨oc_number, od_number, .func (PySem.W.fnOf "_law_number" "_law_number" (C8.fnArgs s_number) (C8.fnBody s_number) (C8.fnScope s_number) .none kV_number dc_number pm_number an_number cd_number ct_number), sl_number⟩)
    (c_number : PySem.W.codeIn K cd_number "_law_number" = true) (k_number : PySem.W.keepIn K (.ref f_number) = true)
    {od_is_whole an_is_whole : Option Addr} {sl_is_whole : Array (Option Value)} {f_is_whole : Addr} {oc_is_whole kV_is_whole dc_is_whole pm_is_whole cd_is_whole ct_is_whole : Value}
    (a_is_whole : PySem.W.nsIn K mainGlobals "_law_is_whole" = some (some (.ref f_is_whole)))
    (l_is_whole : K.lookup f_is_whole = some ⟨oc_is_whole, od_is_whole, .func (PySem.W.fnOf "_law_is_whole" "_law_is_whole" (C8.fnArgs s_is_whole) (C8.fnBody s_is_whole) (C8.fnScope s_is_whole) .none kV_is_whole dc_is_whole pm_is_whole an_is_whole cd_is_whole ct_is_whole), sl_is_whole⟩)
    (c_is_whole : PySem.W.codeIn K cd_is_whole "_law_is_whole" = true) (k_is_whole : PySem.W.keepIn K (.ref f_is_whole) = true)
    {od_same an_same : Option Addr} {sl_same : Array (Option Value)} {f_same : Addr} {oc_same kV_same dc_same pm_same cd_same ct_same : Value}
    (a_same : PySem.W.nsIn K mainGlobals "_law_same" = some (some (.ref f_same)))
    (l_same : K.lookup f_same = some ⟨oc_same, od_same, .func (PySem.W.fnOf "_law_same" "_law_same" (C8.fnArgs s_same) (C8.fnBody s_same) (C8.fnScope s_same) .none kV_same dc_same pm_same an_same cd_same ct_same), sl_same⟩)
    (c_same : PySem.W.codeIn K cd_same "_law_same" = true) (k_same : PySem.W.keepIn K (.ref f_same) = true)
    {od_thing an_thing : Option Addr} {sl_thing : Array (Option Value)} {f_thing : Addr} {oc_thing kV_thing dc_thing pm_thing cd_thing ct_thing : Value}
    (a_thing : PySem.W.nsIn K mainGlobals "_law_thing" = some (some (.ref f_thing)))
    (l_thing : K.lookup f_thing = some ⟨oc_thing, od_thing, .func (PySem.W.fnOf "_law_thing" "_law_thing" (C8.fnArgs s_thing) (C8.fnBody s_thing) (C8.fnScope s_thing) .none kV_thing dc_thing pm_thing an_thing cd_thing ct_thing), sl_thing⟩)
    (c_thing : PySem.W.codeIn K cd_thing "_law_thing" = true) (k_thing : PySem.W.keepIn K (.ref f_thing) = true)
    {od_kept_find an_kept_find : Option Addr} {sl_kept_find : Array (Option Value)} {f_kept_find : Addr} {oc_kept_find kV_kept_find dc_kept_find pm_kept_find cd_kept_find ct_kept_find : Value}
    (a_kept_find : PySem.W.nsIn K mainGlobals "_law_kept_find" = some (some (.ref f_kept_find)))
    (l_kept_find : K.lookup f_kept_find = some ⟨oc_kept_find, od_kept_find, .func (PySem.W.fnOf "_law_kept_find" "_law_kept_find" (C8.fnArgs s_kept_find) (C8.fnBody s_kept_find) (C8.fnScope s_kept_find) .none kV_kept_find dc_kept_find pm_kept_find an_kept_find cd_kept_find ct_kept_find), sl_kept_find⟩)
    (c_kept_find : PySem.W.codeIn K cd_kept_find "_law_kept_find" = true) (k_kept_find : PySem.W.keepIn K (.ref f_kept_find) = true)
    {od_kept_look an_kept_look : Option Addr} {sl_kept_look : Array (Option Value)} {f_kept_look : Addr} {oc_kept_look kV_kept_look dc_kept_look pm_kept_look cd_kept_look ct_kept_look : Value}
    (a_kept_look : PySem.W.nsIn K mainGlobals "_law_kept_look" = some (some (.ref f_kept_look)))
    (l_kept_look : K.lookup f_kept_look = some ⟨oc_kept_look, od_kept_look, .func (PySem.W.fnOf "_law_kept_look" "_law_kept_look" (C8.fnArgs s_kept_look) (C8.fnBody s_kept_look) (C8.fnScope s_kept_look) .none kV_kept_look dc_kept_look pm_kept_look an_kept_look cd_kept_look ct_kept_look), sl_kept_look⟩)
    (c_kept_look : PySem.W.codeIn K cd_kept_look "_law_kept_look" = true) (k_kept_look : PySem.W.keepIn K (.ref f_kept_look) = true)
    {od_kept_fill an_kept_fill : Option Addr} {sl_kept_fill : Array (Option Value)} {f_kept_fill : Addr} {oc_kept_fill kV_kept_fill dc_kept_fill pm_kept_fill cd_kept_fill ct_kept_fill : Value}
    (a_kept_fill : PySem.W.nsIn K mainGlobals "_law_kept_fill" = some (some (.ref f_kept_fill)))
    (l_kept_fill : K.lookup f_kept_fill = some ⟨oc_kept_fill, od_kept_fill, .func (PySem.W.fnOf "_law_kept_fill" "_law_kept_fill" (C8.fnArgs s_kept_fill) (C8.fnBody s_kept_fill) (C8.fnScope s_kept_fill) .none kV_kept_fill dc_kept_fill pm_kept_fill an_kept_fill cd_kept_fill ct_kept_fill), sl_kept_fill⟩)
    (c_kept_fill : PySem.W.codeIn K cd_kept_fill "_law_kept_fill" = true) (k_kept_fill : PySem.W.keepIn K (.ref f_kept_fill) = true)
    {od_kept_drop an_kept_drop : Option Addr} {sl_kept_drop : Array (Option Value)} {f_kept_drop : Addr} {oc_kept_drop kV_kept_drop dc_kept_drop pm_kept_drop cd_kept_drop ct_kept_drop : Value}
    (a_kept_drop : PySem.W.nsIn K mainGlobals "_law_kept_drop" = some (some (.ref f_kept_drop)))
    (l_kept_drop : K.lookup f_kept_drop = some ⟨oc_kept_drop, od_kept_drop, .func (PySem.W.fnOf "_law_kept_drop" "_law_kept_drop" (C8.fnArgs s_kept_drop) (C8.fnBody s_kept_drop) (C8.fnScope s_kept_drop) .none kV_kept_drop dc_kept_drop pm_kept_drop an_kept_drop cd_kept_drop ct_kept_drop), sl_kept_drop⟩)
    (c_kept_drop : PySem.W.codeIn K cd_kept_drop "_law_kept_drop" = true) (k_kept_drop : PySem.W.keepIn K (.ref f_kept_drop) = true)
    {od_kept_deed an_kept_deed : Option Addr} {sl_kept_deed : Array (Option Value)} {f_kept_deed : Addr} {oc_kept_deed kV_kept_deed dc_kept_deed pm_kept_deed cd_kept_deed ct_kept_deed : Value}
    (a_kept_deed : PySem.W.nsIn K mainGlobals "_law_kept_deed" = some (some (.ref f_kept_deed)))
    (l_kept_deed : K.lookup f_kept_deed = some ⟨oc_kept_deed, od_kept_deed, .func (PySem.W.fnOf "_law_kept_deed" "_law_kept_deed" (C8.fnArgs s_kept_deed) (C8.fnBody s_kept_deed) (C8.fnScope s_kept_deed) .none kV_kept_deed dc_kept_deed pm_kept_deed an_kept_deed cd_kept_deed ct_kept_deed), sl_kept_deed⟩)
    (c_kept_deed : PySem.W.codeIn K cd_kept_deed "_law_kept_deed" = true) (k_kept_deed : PySem.W.keepIn K (.ref f_kept_deed) = true)
    {od_kept_call an_kept_call : Option Addr} {sl_kept_call : Array (Option Value)} {f_kept_call : Addr} {oc_kept_call kV_kept_call dc_kept_call pm_kept_call cd_kept_call ct_kept_call : Value}
    (a_kept_call : PySem.W.nsIn K mainGlobals "_law_kept_call" = some (some (.ref f_kept_call)))
    (l_kept_call : K.lookup f_kept_call = some ⟨oc_kept_call, od_kept_call, .func (PySem.W.fnOf "_law_kept_call" "_law_kept_call" (C8.fnArgs s_kept_call) (C8.fnBody s_kept_call) (C8.fnScope s_kept_call) .none kV_kept_call dc_kept_call pm_kept_call an_kept_call cd_kept_call ct_kept_call), sl_kept_call⟩)
    (c_kept_call : PySem.W.codeIn K cd_kept_call "_law_kept_call" = true) (k_kept_call : PySem.W.keepIn K (.ref f_kept_call) = true)
    {od_kept_agrees an_kept_agrees : Option Addr} {sl_kept_agrees : Array (Option Value)} {f_kept_agrees : Addr} {oc_kept_agrees kV_kept_agrees dc_kept_agrees pm_kept_agrees cd_kept_agrees ct_kept_agrees : Value}
    (a_kept_agrees : PySem.W.nsIn K mainGlobals "_law_kept_agrees" = some (some (.ref f_kept_agrees)))
    (l_kept_agrees : K.lookup f_kept_agrees = some ⟨oc_kept_agrees, od_kept_agrees, .func (PySem.W.fnOf "_law_kept_agrees" "_law_kept_agrees" (C8.fnArgs s_kept_agrees) (C8.fnBody s_kept_agrees) (C8.fnScope s_kept_agrees) .none kV_kept_agrees dc_kept_agrees pm_kept_agrees an_kept_agrees cd_kept_agrees ct_kept_agrees), sl_kept_agrees⟩)
    (c_kept_agrees : PySem.W.codeIn K cd_kept_agrees "_law_kept_agrees" = true) (k_kept_agrees : PySem.W.keepIn K (.ref f_kept_agrees) = true)
    {od_law an_law : Option Addr} {sl_law : Array (Option Value)} {f_law : Addr} {oc_law kV_law dc_law pm_law cd_law ct_law : Value}
    (a_law : PySem.W.nsIn K mainGlobals "law" = some (some (.ref f_law)))
    (l_law : K.lookup f_law = some ⟨oc_law, od_law, .func (PySem.W.fnOf "law" "law" (C8.fnArgs s_law) (C8.fnBody s_law) (C8.fnScope s_law) .none kV_law dc_law pm_law an_law cd_law ct_law), sl_law⟩)
    (c_law : PySem.W.codeIn K cd_law "law" = true) (k_law : PySem.W.keepIn K (.ref f_law) = true)
    (z_len : PySem.W.nsIn K mainGlobals "len" = some none)
    (z_abs : PySem.W.nsIn K mainGlobals "abs" = some none)
    (z_int : PySem.W.nsIn K mainGlobals "int" = some none)
    (z_range : PySem.W.nsIn K mainGlobals "range" = some none)
    (z_isinstance : PySem.W.nsIn K mainGlobals "isinstance" = some none)
    (z_bool : PySem.W.nsIn K mainGlobals "bool" = some none)
    (z_str : PySem.W.nsIn K mainGlobals "str" = some none)
    (z_list : PySem.W.nsIn K mainGlobals "list" = some none)
    (z_tuple : PySem.W.nsIn K mainGlobals "tuple" = some none)
    (z_next : PySem.W.nsIn K mainGlobals "next" = some none)
    (z_iter : PySem.W.nsIn K mainGlobals "iter" = some none) :
    ∃ fd : FuncData, (∀ (s : Shared) (v : Value), BindsTo s fd ⟨[v], []⟩ [("_law_script", v)]) ∧ ∀ base : Heap, K.In base → base.Ns mainGlobals mg → FnOk l.prog w K mg base C8.CX0 8 fa fd ["_law_script"] (spLaw K) := by
  have e := hfa.symm.trans (PySem.W.mg_of X G a_law)
  cases e
  have T : Txt mg := ⟨PySem.W.mg_none_of X G z_len, PySem.W.mg_none_of X G z_abs, PySem.W.mg_none_of X G z_int, PySem.W.mg_none_of X G z_range, PySem.W.mg_none_of X G z_isinstance, PySem.W.mg_none_of X G z_bool, PySem.W.mg_none_of X G z_str, PySem.W.mg_none_of X G z_list, PySem.W.mg_none_of X G z_tuple⟩
  have F_m_init : C8.Fun K "__init__" "Cache.__init__" s_Cache___init__ f_m_init _ := ⟨oc_m_init, od_m_init, .none, kV_m_init, dc_m_init, pm_m_init, an_m_init, cd_m_init, ct_m_init, sl_m_init, rfl, l_m_init, c_m_init⟩
  have b_m_init := F_m_init.binds (ps := ["self", "capacity"]) rfl fun _ _ _ _ _ _ us hl => match us, hl with | [_, _], _ => rfl
  have F_m_look : C8.Fun K "look" "Cache.look" s_Cache_look f_m_look _ := ⟨oc_m_look, od_m_look, .none, kV_m_look, dc_m_look, pm_m_look, an_m_look, cd_m_look, ct_m_look, sl_m_look, rfl, l_m_look, c_m_look⟩
  have b_m_look := F_m_look.binds (ps := ["self", "key"]) rfl fun _ _ _ _ _ _ us hl => match us, hl with | [_, _], _ => rfl
  have F_m_fill : C8.Fun K "fill" "Cache.fill" s_Cache_fill f_m_fill _ := ⟨oc_m_fill, od_m_fill, .none, kV_m_fill, dc_m_fill, pm_m_fill, an_m_fill, cd_m_fill, ct_m_fill, sl_m_fill, rfl, l_m_fill, c_m_fill⟩
  have b_m_fill := F_m_fill.binds (ps := ["self", "key", "value"]) rfl fun _ _ _ _ _ _ us hl => match us, hl with | [_, _, _], _ => rfl
  have F_m_drop : C8.Fun K "drop" "Cache.drop" s_Cache_drop f_m_drop _ := ⟨oc_m_drop, od_m_drop, .none, kV_m_drop, dc_m_drop, pm_m_drop, an_m_drop, cd_m_drop, ct_m_drop, sl_m_drop, rfl, l_m_drop, c_m_drop⟩
  have b_m_drop := F_m_drop.binds (ps := ["self", "key"]) rfl fun _ _ _ _ _ _ us hl => match us, hl with | [_, _], _ => rfl
  have F_m_clear_all : C8.Fun K "clear_all" "Cache.clear_all" s_Cache_clear_all f_m_clear_all _ := ⟨oc_m_clear_all, od_m_clear_all, .none, kV_m_clear_all, dc_m_clear_all, pm_m_clear_all, an_m_clear_all, cd_m_clear_all, ct_m_clear_all, sl_m_clear_all, rfl, l_m_clear_all, c_m_clear_all⟩
  have b_m_clear_all := F_m_clear_all.binds (ps := ["self"]) rfl fun _ _ _ _ _ _ us hl => match us, hl with | [_], _ => rfl
  have F_m_entries : C8.Fun K "entries" "Cache.entries" s_Cache_entries f_m_entries _ := ⟨oc_m_entries, od_m_entries, .none, kV_m_entries, dc_m_entries, pm_m_entries, an_m_entries, cd_m_entries, ct_m_entries, sl_m_entries, rfl, l_m_entries, c_m_entries⟩
  have b_m_entries := F_m_entries.binds (ps := ["self"]) rfl fun _ _ _ _ _ _ us hl => match us, hl with | [_], _ => rfl
  have F_m_contains : C8.Fun K "__contains__" "Cache.__contains__" s_Cache___contains__ f_m_contains _ := ⟨oc_m_contains, od_m_contains, .none, kV_m_contains, dc_m_contains, pm_m_contains, an_m_contains, cd_m_contains, ct_m_contains, sl_m_contains, rfl, l_m_contains, c_m_contains⟩
  have b_m_contains := F_m_contains.binds (ps := ["self", "key"]) rfl fun _ _ _ _ _ _ us hl => match us, hl with | [_, _], _ => rfl
  have TC : CTxt K mg C := ⟨⟨pgC, hdC, poC, saC⟩, nC, nE, PySem.W.mg_of X G aC, PySem.W.mg_none_of X G z_len, PySem.W.mg_none_of X G z_list, PySem.W.mg_none_of X G z_next, PySem.W.mg_none_of X G z_iter⟩
  have D_number : Def K mg "_law_number" s_number f_number _ := ⟨⟨oc_number, od_number, .none, kV_number, dc_number, pm_number, an_number, cd_number, ct_number, sl_number, rfl, l_number, c_number⟩, PySem.W.mg_of X G a_number, k_number⟩
  have b_number := D_number.fn.binds (ps := ["_law_script", "_law_at", "_law_k", "_law_size"]) rfl fun _ _ _ _ _ _ us hl => match us, hl with | [_, _, _, _], _ => rfl
  have D_is_whole : Def K mg "_law_is_whole" s_is_whole f_is_whole _ := ⟨⟨oc_is_whole, od_is_whole, .none, kV_is_whole, dc_is_whole, pm_is_whole, an_is_whole, cd_is_whole, ct_is_whole, sl_is_whole, rfl, l_is_whole, c_is_whole⟩, PySem.W.mg_of X G a_is_whole, k_is_whole⟩
  have b_is_whole := D_is_whole.fn.binds (ps := ["_law_told"]) rfl fun _ _ _ _ _ _ us hl => match us, hl with | [_], _ => rfl
  have D_same : Def K mg "_law_same" s_same f_same _ := ⟨⟨oc_same, od_same, .none, kV_same, dc_same, pm_same, an_same, cd_same, ct_same, sl_same, rfl, l_same, c_same⟩, PySem.W.mg_of X G a_same, k_same⟩
  have b_same := D_same.fn.binds (ps := ["_law_told", "_law_due"]) rfl fun _ _ _ _ _ _ us hl => match us, hl with | [_, _], _ => rfl
  have D_thing : Def K mg "_law_thing" s_thing f_thing _ := ⟨⟨oc_thing, od_thing, .none, kV_thing, dc_thing, pm_thing, an_thing, cd_thing, ct_thing, sl_thing, rfl, l_thing, c_thing⟩, PySem.W.mg_of X G a_thing, k_thing⟩
  have b_thing := D_thing.fn.binds (ps := ["_law_script", "_law_at", "_law_k"]) rfl fun _ _ _ _ _ _ us hl => match us, hl with | [_, _, _], _ => rfl
  have D_kept_find : Def K mg "_law_kept_find" s_kept_find f_kept_find _ := ⟨⟨oc_kept_find, od_kept_find, .none, kV_kept_find, dc_kept_find, pm_kept_find, an_kept_find, cd_kept_find, ct_kept_find, sl_kept_find, rfl, l_kept_find, c_kept_find⟩, PySem.W.mg_of X G a_kept_find, k_kept_find⟩
  have b_kept_find := D_kept_find.fn.binds (ps := ["_law_kept", "_law_key"]) rfl fun _ _ _ _ _ _ us hl => match us, hl with | [_, _], _ => rfl
  have D_kept_look : Def K mg "_law_kept_look" s_kept_look f_kept_look _ := ⟨⟨oc_kept_look, od_kept_look, .none, kV_kept_look, dc_kept_look, pm_kept_look, an_kept_look, cd_kept_look, ct_kept_look, sl_kept_look, rfl, l_kept_look, c_kept_look⟩, PySem.W.mg_of X G a_kept_look, k_kept_look⟩
  have b_kept_look := D_kept_look.fn.binds (ps := ["_law_kept", "_law_key"]) rfl fun _ _ _ _ _ _ us hl => match us, hl with | [_, _], _ => rfl
  have D_kept_fill : Def K mg "_law_kept_fill" s_kept_fill f_kept_fill _ := ⟨⟨oc_kept_fill, od_kept_fill, .none, kV_kept_fill, dc_kept_fill, pm_kept_fill, an_kept_fill, cd_kept_fill, ct_kept_fill, sl_kept_fill, rfl, l_kept_fill, c_kept_fill⟩, PySem.W.mg_of X G a_kept_fill, k_kept_fill⟩
  have b_kept_fill := D_kept_fill.fn.binds (ps := ["_law_kept", "_law_size", "_law_key", "_law_value"]) rfl fun _ _ _ _ _ _ us hl => match us, hl with | [_, _, _, _], _ => rfl
  have D_kept_drop : Def K mg "_law_kept_drop" s_kept_drop f_kept_drop _ := ⟨⟨oc_kept_drop, od_kept_drop, .none, kV_kept_drop, dc_kept_drop, pm_kept_drop, an_kept_drop, cd_kept_drop, ct_kept_drop, sl_kept_drop, rfl, l_kept_drop, c_kept_drop⟩, PySem.W.mg_of X G a_kept_drop, k_kept_drop⟩
  have b_kept_drop := D_kept_drop.fn.binds (ps := ["_law_kept", "_law_key"]) rfl fun _ _ _ _ _ _ us hl => match us, hl with | [_, _], _ => rfl
  have D_kept_deed : Def K mg "_law_kept_deed" s_kept_deed f_kept_deed _ := ⟨⟨oc_kept_deed, od_kept_deed, .none, kV_kept_deed, dc_kept_deed, pm_kept_deed, an_kept_deed, cd_kept_deed, ct_kept_deed, sl_kept_deed, rfl, l_kept_deed, c_kept_deed⟩, PySem.W.mg_of X G a_kept_deed, k_kept_deed⟩
  have b_kept_deed := D_kept_deed.fn.binds (ps := ["_law_kind", "_law_key", "_law_value"]) rfl fun _ _ _ _ _ _ us hl => match us, hl with | [_, _, _], _ => rfl
  have D_kept_call : Def K mg "_law_kept_call" s_kept_call f_kept_call _ := ⟨⟨oc_kept_call, od_kept_call, .none, kV_kept_call, dc_kept_call, pm_kept_call, an_kept_call, cd_kept_call, ct_kept_call, sl_kept_call, rfl, l_kept_call, c_kept_call⟩, PySem.W.mg_of X G a_kept_call, k_kept_call⟩
  have b_kept_call := D_kept_call.fn.binds (ps := ["_law_tested", "_law_kept", "_law_size", "_law_deed"]) rfl fun _ _ _ _ _ _ us hl => match us, hl with | [_, _, _, _], _ => rfl
  have D_kept_agrees : Def K mg "_law_kept_agrees" s_kept_agrees f_kept_agrees _ := ⟨⟨oc_kept_agrees, od_kept_agrees, .none, kV_kept_agrees, dc_kept_agrees, pm_kept_agrees, an_kept_agrees, cd_kept_agrees, ct_kept_agrees, sl_kept_agrees, rfl, l_kept_agrees, c_kept_agrees⟩, PySem.W.mg_of X G a_kept_agrees, k_kept_agrees⟩
  have b_kept_agrees := D_kept_agrees.fn.binds (ps := ["_law_tested", "_law_kept", "_law_keys"]) rfl fun _ _ _ _ _ _ us hl => match us, hl with | [_, _, _], _ => rfl
  have D_law : Def K mg "law" s_law fa _ := ⟨⟨oc_law, od_law, .none, kV_law, dc_law, pm_law, an_law, cd_law, ct_law, sl_law, rfl, l_law, c_law⟩, PySem.W.mg_of X G a_law, k_law⟩
  refine ⟨PySem.W.fnOf "law" "law" (C8.fnArgs s_law) (C8.fnBody s_law) (C8.fnScope s_law) .none kV_law dc_law pm_law an_law cd_law ct_law, fun s v => .of_eq rfl, fun base _ _ => ?_⟩
  have c_number := ok_number (P := l.prog) (w := w) (base := base) D_number b_number T
  have c_whole := ok_whole (P := l.prog) (w := w) (base := base) D_is_whole b_is_whole T
  have c_same := ok_same D_same b_same T c_whole 5
  have c_thing := ok_thing D_thing b_thing T c_number
  have c_Cache := ok_init (P := l.prog) (w := w) (base := base) F_m_init ⟨mkC, a_m_init, i_m_init, kcC⟩ b_m_init TC
  have m_drop := ok_drop (P := l.prog) (w := w) (base := base) F_m_drop ⟨a_m_drop, i_m_drop, k_m_drop⟩ b_m_drop TC
  have m_look := ok_look (P := l.prog) (w := w) (base := base) F_m_look ⟨a_m_look, i_m_look, k_m_look⟩ b_m_look TC
  have m_clear := ok_clear (P := l.prog) (w := w) (base := base) F_m_clear_all ⟨a_m_clear_all, i_m_clear_all, k_m_clear_all⟩ b_m_clear_all TC
  have m_fill := ok_fill F_m_fill ⟨a_m_fill, i_m_fill, k_m_fill⟩ b_m_fill TC m_drop
  have m_entries := ok_entries (P := l.prog) (w := w) (base := base) F_m_entries ⟨a_m_entries, i_m_entries, k_m_entries⟩ b_m_entries TC
  have m_has := ok_has (P := l.prog) (w := w) (base := base) F_m_contains ⟨a_m_contains, i_m_contains, k_m_contains⟩ b_m_contains TC
  have c_find := ok_find (P := l.prog) (w := w) (base := base) D_kept_find b_kept_find T
  have c_klook := ok_klook D_kept_look b_kept_look T c_find
  have c_kdrop := ok_kdrop D_kept_drop b_kept_drop T c_find
  have c_kfill := ok_kfill D_kept_fill b_kept_fill T c_find
  have c_deed := ok_kept_deed (P := l.prog) (w := w) (base := base) D_kept_deed b_kept_deed T
  have c_call := ok_kept_call D_kept_call b_kept_call T c_same m_fill m_look m_drop m_clear c_kfill c_klook c_kdrop
  have c_agr := ok_kept_agrees D_kept_agrees b_kept_agrees T c_same m_entries m_has c_find
  exact ok_law D_law T c_number c_thing c_Cache c_deed c_call c_agr

end

end Lw
open PySem PySem.W PyProof.Rows
set_option maxRecDepth 100000 in
set_option maxHeartbeats 0 in
theorem PySem.Challenge.cw_lentpages_k09_cache_recency_holds : PySem.Challenge.rw_lentpages_k09_cache_recency.Holds := by
  w_on; o_law; k_head; (case hw => w_witness2)
  k_fill
  refine L2.walk_of (l := PySem.Challenge.rw_lentpages_k09_cache_recency) (n := 63) (k := 8) (x := "_law_script") (CX := fun _ => C8.CX0) (sp := fun w => Lw.spLaw _) rfl (by decide) rfl ⟨rfl, by decide, by decide⟩ (fun w h Y => by first | exact PySem.W.kIn_of Y | exact PySem.W.km_in_of Y) ?F (fun _ _ a ns hl _ hS => ⟨a, ns, rfl, hS, hl, fun _ => rfl⟩) (fun _ _ _ _ _ h => h)
  case F =>
    intro w mg fa h KX G hmg
    refine' Lw.all_mk KX G hmg ?aC ?a_m_init ?i_m_init ?l_m_init ?c_m_init ?k_m_init ?a_m_look ?i_m_look ?l_m_look ?c_m_look ?k_m_look ?a_m_fill ?i_m_fill ?l_m_fill ?c_m_fill ?k_m_fill ?a_m_drop ?i_m_drop ?l_m_drop ?c_m_drop ?k_m_drop ?a_m_clear_all ?i_m_clear_all ?l_m_clear_all ?c_m_clear_all ?k_m_clear_all ?a_m_entries ?i_m_entries ?l_m_entries ?c_m_entries ?k_m_entries ?a_m_contains ?i_m_contains ?l_m_contains ?c_m_contains ?k_m_contains ?pgC ?hdC ?poC ?saC ?mkC ?kcC ?nC ?nE ?a_number ?l_number ?c_number ?k_number ?a_is_whole ?l_is_whole ?c_is_whole ?k_is_whole ?a_same ?l_same ?c_same ?k_same ?a_thing ?l_thing ?c_thing ?k_thing ?a_kept_find ?l_kept_find ?c_kept_find ?k_kept_find ?a_kept_look ?l_kept_look ?c_kept_look ?k_kept_look ?a_kept_fill ?l_kept_fill ?c_kept_fill ?k_kept_fill ?a_kept_drop ?l_kept_drop ?c_kept_drop ?k_kept_drop ?a_kept_deed ?l_kept_deed ?c_kept_deed ?k_kept_deed ?a_kept_call ?l_kept_call ?c_kept_call ?k_kept_call ?a_kept_agrees ?l_kept_agrees ?c_kept_agrees ?k_kept_agrees ?a_law ?l_law ?c_law ?k_law ?z_len ?z_abs ?z_int ?z_range ?z_isinstance ?z_bool ?z_str ?z_list ?z_tuple ?z_next ?z_iter
    (case aC => k_is)
    (case a_m_init => k_is)
    (case i_m_init => k_is)
    (case l_m_init => k_is)
    (case c_m_init => k_is)
    (case k_m_init => k_is)
    (case a_m_look => k_is)
    (case i_m_look => k_is)
    (case l_m_look => k_is)
    (case c_m_look => k_is)
    (case k_m_look => k_is)
    (case a_m_fill => k_is)
    (case i_m_fill => k_is)
    (case l_m_fill => k_is)
    (case c_m_fill => k_is)
    (case k_m_fill => k_is)
    (case a_m_drop => k_is)
    (case i_m_drop => k_is)
    (case l_m_drop => k_is)
    (case c_m_drop => k_is)
    (case k_m_drop => k_is)
    (case a_m_clear_all => k_is)
    (case i_m_clear_all => k_is)
    (case l_m_clear_all => k_is)
    (case c_m_clear_all => k_is)
    (case k_m_clear_all => k_is)
    (case a_m_entries => k_is)
    (case i_m_entries => k_is)
    (case l_m_entries => k_is)
    (case c_m_entries => k_is)
    (case k_m_entries => k_is)
    (case a_m_contains => k_is)
    (case i_m_contains => k_is)
    (case l_m_contains => k_is)
    (case c_m_contains => k_is)
    (case k_m_contains => k_is)
    (case pgC => k_is)
    (case hdC => k_is)
    (case poC => k_is)
    (case saC => k_is)
    (case mkC => k_is)
    (case kcC => k_is)
    (case nC => k_is)
    (case nE => k_is)
    (case a_number => k_is)
    (case l_number => k_is)
    (case c_number => k_is)
    (case k_number => k_is)
    (case a_is_whole => k_is)
    (case l_is_whole => k_is)
    (case c_is_whole => k_is)
    (case k_is_whole => k_is)
    (case a_same => k_is)
    (case l_same => k_is)
    (case c_same => k_is)
    (case k_same => k_is)
    (case a_thing => k_is)
    (case l_thing => k_is)
    (case c_thing => k_is)
    (case k_thing => k_is)
    (case a_kept_find => k_is)
    (case l_kept_find => k_is)
    (case c_kept_find => k_is)
    (case k_kept_find => k_is)
    (case a_kept_look => k_is)
    (case l_kept_look => k_is)
    (case c_kept_look => k_is)
    (case k_kept_look => k_is)
    (case a_kept_fill => k_is)
    (case l_kept_fill => k_is)
    (case c_kept_fill => k_is)
    (case k_kept_fill => k_is)
    (case a_kept_drop => k_is)
    (case l_kept_drop => k_is)
    (case c_kept_drop => k_is)
    (case k_kept_drop => k_is)
    (case a_kept_deed => k_is)
    (case l_kept_deed => k_is)
    (case c_kept_deed => k_is)
    (case k_kept_deed => k_is)
    (case a_kept_call => k_is)
    (case l_kept_call => k_is)
    (case c_kept_call => k_is)
    (case k_kept_call => k_is)
    (case a_kept_agrees => k_is)
    (case l_kept_agrees => k_is)
    (case c_kept_agrees => k_is)
    (case k_kept_agrees => k_is)
    (case a_law => k_is)
    (case l_law => k_is)
    (case c_law => k_is)
    (case k_law => k_is)
    (case z_len => k_is)
    (case z_abs => k_is)
    (case z_int => k_is)
    (case z_range => k_is)
    (case z_isinstance => k_is)
    (case z_bool => k_is)
    (case z_str => k_is)
    (case z_list => k_is)
    (case z_tuple => k_is)
    (case z_next => k_is)
    (case z_iter => k_is)
