import PyProof.Rows.All
import Wide.All
import OpenK.AllK
import Wide.FinOn
import HandS.ForMost
import HandS.IsInst
import HandS.Style
import HandS.AnyAll
import HandS.EndTab
import HandS.Codes
import HandS.More
import HandS.SetKeys
import HandS.SortInts
import HandS.DictComp
import KE.KRevSl
import PySem.Challenge.RW_pickfloor_k02_a_shop
set_option Elab.async false
set_option linter.all false
set_option maxRecDepth 100000
set_option maxHeartbeats 4000000
namespace Pk
open PySem PySem.Spec PyProof.Rows L2

/-! ### heaps: all that was tracked is kept, the table at P may have grown -/
structure Kp (P : Addr) (H H' : Hp) : Prop where
  t0 : GxR.TabG H P
  tab : GxR.TabG H' P
  keep : ∀ b o, b ≠ P → H b = some o → H' b = some o
theorem Kp.refl {P : Addr} {H : Hp} (t : GxR.TabG H P) : Kp P H H := ⟨t, t, fun _ _ _ e => e⟩
theorem Kp.trans {P : Addr} {H H1 H2 : Hp} (a : Kp P H H1) (b : Kp P H1 H2) : Kp P H H2 := ⟨a.t0, b.tab, fun c o n e => b.keep c o n (a.keep c o n e)⟩
theorem tab_ne {P b : Addr} {H : Hp} (t : GxR.TabG H P) {o : HO} (e : H b = some o) (n : ∀ ps, o ≠ .tbl ps) : b ≠ P := fun z => by
  obtain ⟨ps, h, _⟩ := t
  rw [z, h] at e
  exact n ps (Option.some.inj e).symm
theorem tab_nn {P b : Addr} {H : Hp} (t : GxR.TabG H P) (e : H b = none) : b ≠ P := fun z => by
  obtain ⟨ps, h, _⟩ := t
  rw [z, h] at e
  cases e
theorem Kp.of_tabbed {P : Addr} {H H' : Hp} (t : GxR.TabG H P) (h : GxR.Tabbed P H H') : Kp P H H' := ⟨t, h.1, fun b o n e => (h.2 b n).trans e⟩
theorem Kp.new {P p : Addr} {H : Hp} {o : HO} (t : GxR.TabG H P) (np : H p = none) : Kp P H (upd H p o) := by
  have n := tab_nn t np
  refine ⟨t, ?_, fun b u _ e => by rw [upd_ne (ne_of_none e np)]; exact e⟩
  obtain ⟨ps, h, q⟩ := t
  exact ⟨ps, by rw [upd_ne n.symm]; exact h, q⟩
/-- a store at an object that is new since H -/
theorem Kp.set {P p : Addr} {H H1 : Hp} {o : HO} (k : Kp P H H1) (np : H p = none) (hp : p ≠ P) : Kp P H (upd H1 p o) := by
  refine ⟨k.t0, ?_, fun b u n e => by rw [upd_ne (ne_of_none e np)]; exact k.keep b u n e⟩
  obtain ⟨ps, h, q⟩ := k.tab
  exact ⟨ps, by rw [upd_ne hp.symm]; exact h, q⟩
theorem Kp.free {P p : Addr} {H H1 : Hp} (k : Kp P H H1) (np : H1 p = none) : H p = none := by
  cases q : H p with
  | none => rfl
  | some o =>
    have z := k.keep p o (tab_nn k.tab np) q
    rw [np] at z
    cases z
theorem Kp.seq {P : Addr} {K : PySem.W.Frag} {H H' : Hp} {a : Addr} {xs : List V} (k : Kp P H H') (h : SqL K H a xs) : SqL K H' a xs := by
  rcases h with (h | ⟨o, h⟩) | h
  · exact .inl (.inl (k.keep _ _ (tab_ne k.t0 h fun _ z => by cases z) h))
  · exact .inl (.inr ⟨o, k.keep _ _ (tab_ne k.t0 h fun _ z => by cases z) h⟩)
  · exact .inr h
theorem Kp.sqt {P : Addr} {K : PySem.W.Frag} {H H' : Hp} {a : Addr} {xs : List V} (k : Kp P H H') (h : SqT K H a xs) : SqT K H' a xs := by
  rcases h with (h | ⟨o, h⟩) | h
  · exact .inl (.inl (k.keep _ _ (tab_ne k.t0 h fun _ z => by cases z) h))
  · exact .inl (.inr ⟨o, k.keep _ _ (tab_ne k.t0 h fun _ z => by cases z) h⟩)
  · exact .inr h
mutual
theorem Kp.dp {P : Addr} {K : PySem.W.Frag} {H H' : Hp} (k : Kp P H H') : ∀ (d : PyData) (v : V), Dp K H v d → Dp K H' v d
  | .none, _, h => by cases h; exact .non
  | .bool b, _, h => by cases h; exact .bl b
  | .int i, _, h => by cases h; exact .int i
  | .str x, _, h => by cases h; exact .str x
  | .list ds, _, h => by
    cases h with
    | lst a b => exact .lst (k.seq a) (Kp.dpAll k ds _ b)
  | .tuple ds, _, h => by
    cases h with
    | tup a b => exact .tup (k.sqt a) (Kp.dpAll k ds _ b)
  | .dict _, _, h => by cases h
theorem Kp.dpAll {P : Addr} {K : PySem.W.Frag} {H H' : Hp} (k : Kp P H H') : ∀ (ds : List PyData) (vs : List V), DpAll K H vs ds → DpAll K H' vs ds
  | [], _, h => by cases h; exact .nil
  | d :: ds, _, h => by
    cases h with
    | cons a b => exact .cons (Kp.dp k d _ a) (Kp.dpAll k ds _ b)
end
theorem dpAll_get {K : PySem.W.Frag} {H : Hp} : ∀ {ds : List PyData} {vs : List V}, DpAll K H vs ds → ∀ {i : Nat} {d : PyData}, ds[i]? = some d → ∃ v, vs[i]? = some v ∧ Dp K H v d
  | [], _, _, i, d, e => by simp at e
  | x :: r, _, h, i, d, e => by
    cases h with
    | cons a b =>
      cases i with
      | zero => exact ⟨_, rfl, by have e' : x = d := Option.some.inj e; subst e'; exact a⟩
      | succ i => exact dpAll_get b (i := i) (d := d) (by simpa using e)
theorem dpAll_len {K : PySem.W.Frag} {H : Hp} : ∀ {ds : List PyData} {vs : List V}, DpAll K H vs ds → vs.length = ds.length
  | [], _, h => by cases h; rfl
  | x :: r, _, h => by
    cases h with
    | cons a b => simp [dpAll_len b]

/-! ### kinds -/
def tyN : PyData → String
  | .none => "NoneType" | .bool _ => "bool" | .int _ => "int" | .str _ => "str" | .list _ => "list" | .tuple _ => "tuple" | .dict _ => "dict"
theorem tyx_of {K : PySem.W.Frag} {H : Hp} {v : V} {d : PyData} (h : Dp K H v d) : TyX K H v (.type (tyN d)) := by
  cases h with
  | non => exact .base .non
  | bl b => exact .base (.bl b)
  | int i => exact .base (.int i)
  | str x => exact .base (.str x)
  | lst a _ =>
    rcases a with (a | ⟨o, a⟩) | ⟨o, its, n, l, c, _⟩
    · exact .base (.lst a)
    · exact .base (.frz a)
    · exact .kList l c
  | tup a _ =>
    rcases a with (a | ⟨o, a⟩) | ⟨o, its, n, l, c, _⟩
    · exact .base (.tup a)
    · exact .fTuple a
    · exact .kTuple l c
def isStrD : PyData → Bool | .str _ => true | _ => false
def isIntD : PyData → Bool | .int _ => true | .bool _ => true | _ => false
def isBoolD : PyData → Bool | .bool _ => true | _ => false
def isTupD : PyData → Bool | .tuple _ => true | _ => false
def isLstD : PyData → Bool | .list _ => true | _ => false
theorem kit_str (K : PySem.W.Frag) (d : PyData) : PySem.W.kitOne K (.type (tyN d)) (.type "str") = some (isStrD d) := by
  cases d
  · exact kit_ty (a := "NoneType") (b := "str") (r := false) (by decide +kernel)
  · exact kit_ty (a := "bool") (b := "str") (r := false) (by decide +kernel)
  · exact kit_ty (a := "int") (b := "str") (r := false) (by decide +kernel)
  · exact kit_ty (a := "str") (b := "str") (r := true) (by decide +kernel)
  · exact kit_ty (a := "list") (b := "str") (r := false) (by decide +kernel)
  · exact kit_ty (a := "tuple") (b := "str") (r := false) (by decide +kernel)
  · exact kit_ty (a := "dict") (b := "str") (r := false) (by decide +kernel)
theorem kit_int (K : PySem.W.Frag) (d : PyData) : PySem.W.kitOne K (.type (tyN d)) (.type "int") = some (isIntD d) := by
  cases d
  · exact kit_ty (a := "NoneType") (b := "int") (r := false) (by decide +kernel)
  · exact kit_ty (a := "bool") (b := "int") (r := true) (by decide +kernel)
  · exact kit_ty (a := "int") (b := "int") (r := true) (by decide +kernel)
  · exact kit_ty (a := "str") (b := "int") (r := false) (by decide +kernel)
  · exact kit_ty (a := "list") (b := "int") (r := false) (by decide +kernel)
  · exact kit_ty (a := "tuple") (b := "int") (r := false) (by decide +kernel)
  · exact kit_ty (a := "dict") (b := "int") (r := false) (by decide +kernel)
theorem kit_bool (K : PySem.W.Frag) (d : PyData) : PySem.W.kitOne K (.type (tyN d)) (.type "bool") = some (isBoolD d) := by
  cases d
  · exact kit_ty (a := "NoneType") (b := "bool") (r := false) (by decide +kernel)
  · exact kit_ty (a := "bool") (b := "bool") (r := true) (by decide +kernel)
  · exact kit_ty (a := "int") (b := "bool") (r := false) (by decide +kernel)
  · exact kit_ty (a := "str") (b := "bool") (r := false) (by decide +kernel)
  · exact kit_ty (a := "list") (b := "bool") (r := false) (by decide +kernel)
  · exact kit_ty (a := "tuple") (b := "bool") (r := false) (by decide +kernel)
  · exact kit_ty (a := "dict") (b := "bool") (r := false) (by decide +kernel)
theorem kit_tup (K : PySem.W.Frag) (d : PyData) : PySem.W.kitOne K (.type (tyN d)) (.type "tuple") = some (isTupD d) := by
  cases d
  · exact kit_ty (a := "NoneType") (b := "tuple") (r := false) (by decide +kernel)
  · exact kit_ty (a := "bool") (b := "tuple") (r := false) (by decide +kernel)
  · exact kit_ty (a := "int") (b := "tuple") (r := false) (by decide +kernel)
  · exact kit_ty (a := "str") (b := "tuple") (r := false) (by decide +kernel)
  · exact kit_ty (a := "list") (b := "tuple") (r := false) (by decide +kernel)
  · exact kit_ty (a := "tuple") (b := "tuple") (r := true) (by decide +kernel)
  · exact kit_ty (a := "dict") (b := "tuple") (r := false) (by decide +kernel)
theorem kit_lst (K : PySem.W.Frag) (d : PyData) : PySem.W.kitOne K (.type (tyN d)) (.type "list") = some (isLstD d) := by
  cases d
  · exact kit_ty (a := "NoneType") (b := "list") (r := false) (by decide +kernel)
  · exact kit_ty (a := "bool") (b := "list") (r := false) (by decide +kernel)
  · exact kit_ty (a := "int") (b := "list") (r := false) (by decide +kernel)
  · exact kit_ty (a := "str") (b := "list") (r := false) (by decide +kernel)
  · exact kit_ty (a := "list") (b := "list") (r := true) (by decide +kernel)
  · exact kit_ty (a := "tuple") (b := "list") (r := false) (by decide +kernel)
  · exact kit_ty (a := "dict") (b := "list") (r := false) (by decide +kernel)
/-! ### the mirror: wares, makes, needs -/
def azB (c : Nat) : Bool := if (!decide ((⟨#[c]⟩ : Str).cps.toList < ("a" : Str).cps.toList)) = true then !decide (("z" : Str).cps.toList < (⟨#[c]⟩ : Str).cps.toList) else false
def wareB : PyData → Bool
  | .str x => decide (1 ≤ x.length) && decide (x.length ≤ 8) && x.cps.toList.all azB
  | _ => false
def makeB : PyData → Bool
  | .int i => decide (1 ≤ i) && decide (i ≤ 999)
  | _ => false
def leD : PyData → PyData → Bool
  | .int i, .int j => decide (i ≤ j)
  | _, _ => false
def needB : PyData → Bool
  | .tuple [a, b, c] => wareB a && makeB b && makeB c && leD b c
  | _ => false
theorem needB_len {ds : List PyData} (h : ds.length ≠ 3) : needB (.tuple ds) = false := by
  match ds, h with
  | [], _ => rfl
  | [_], _ => rfl
  | [_, _], _ => rfl
  | [_, _, _], h => exact absurd rfl h
  | _ :: _ :: _ :: _ :: _, _ => rfl
theorem makeB_ex {d : PyData} (h : makeB d = true) : ∃ i, d = .int i := by
  cases d <;> first | exact ⟨_, rfl⟩ | cases h
/-- all texts in it are short -/
def okS : PyData → Bool
  | .str x => decide (x.length ≤ 1000) && PyData.strOk x
  | _ => true
/-- and those of a tuple's items -/
def okT : PyData → Bool
  | .str x => decide (x.length ≤ 1000) && PyData.strOk x
  | .tuple ds => ds.all okS && decide (ds.length ≤ 1000)
  | _ => true
theorem okT_s {d : PyData} (h : okT d = true) : okS d = true := by
  cases d <;> first | exact h | rfl
theorem okS_len {x : Str} (h : okS (.str x) = true) : x.length ≤ 1000 := of_decide_eq_true (Bool.and_eq_true_iff.mp h).1
theorem okS_ok {x : Str} (h : okS (.str x) = true) : PyData.strOk x = true := (Bool.and_eq_true_iff.mp h).2
theorem line1000 {n : Nat} (h : n ≤ 1000) : n ≤ sizeLine := Nat.le_of_lt (small1000 h)

/-! ### the element 'a' <= sign <= 'z' of a generator expression -/
theorem elt_az {prog : Program} {w : World} {scope : Scope} {x : Str} {j1 j2 : Nat} {p1 p2 p3 p4 : Pos} (hk : scope.kind = .function) (hl : scope.names.lookup x = some .local) (hd : (x == ("__debug__" : Str)) = false := by decide) :
    GxR.EltP prog w scope x (.Compare (.Constant (.str "a") j1 p1) [.LtE, .LtE] [.Name x p2, .Constant (.str "z") j2 p3] p4) azB := by
  intro cenv A' E' c t s₂ m₂ hs hn hm
  have hk' : cenv.scope.kind = .function := by rw [hs]; exact hk
  have hl' : cenv.scope.names.lookup x = some .local := by rw [hs]; exact hl
  refine Compare_chain (Calls.Constant_str ?_) (by with_unfolding_all rfl)
  refine chain_link (wpAny_Name (wpAny_loadName_local hk' hl' hn hm ?_) hd)
  refine PySem.P.le_str ?_
  refine wpAny_truthy_bool ?_
  cases e : (!decide ((⟨#[c]⟩ : Str).cps.toList < ("a" : Str).cps.toList)) with
  | false => exact ite_ff ⟨by unfold azB; rw [if_neg (by rw [e]; exact Bool.false_ne_true)], GxR.keeps_tok _ _⟩
  | true =>
    refine ite_tt (chain_last (Calls.Constant_str (PySem.P.le_str ⟨?_, GxR.keeps_tok _ _⟩)))
    unfold azB
    rw [if_pos e]

/-! ### lists of booleans and such, as data -/
theorem iteD {p A B : Prop} [Decidable p] (h1 : p → A) (h2 : ¬ p → B) : if decide p = true then A else B := by
  by_cases h : p
  · rw [if_pos (decide_eq_true h)]
    exact h1 h
  · rw [if_neg (by rw [decide_eq_false h]; exact Bool.false_ne_true)]
    exact h2 h
theorem iteN {p A B : Prop} [Decidable p] (h1 : ¬ p → A) (h2 : p → B) : if (!decide p) = true then A else B := by
  by_cases h : p
  · rw [decide_eq_true h]
    exact iteF (h2 h)
  · rw [decide_eq_false h]
    exact iteT (h1 h)
/-! ### type(thing) is not .. -/
def isI (d : PyData) : Bool := match d with | .int _ => true | _ => false
def isDctD (d : PyData) : Bool := match d with | .dict _ => true | _ => false
theorem tyN_str (d : PyData) : decide (tyN d = "str") = isStrD d := by
  cases d
  · exact (by decide +kernel : decide ("NoneType" = "str") = false)
  · exact (by decide +kernel : decide ("bool" = "str") = false)
  · exact (by decide +kernel : decide ("int" = "str") = false)
  · exact (by decide +kernel : decide ("str" = "str") = true)
  · exact (by decide +kernel : decide ("list" = "str") = false)
  · exact (by decide +kernel : decide ("tuple" = "str") = false)
  · exact (by decide +kernel : decide ("dict" = "str") = false)
theorem tyN_int (d : PyData) : decide (tyN d = "int") = isI d := by
  cases d
  · exact (by decide +kernel : decide ("NoneType" = "int") = false)
  · exact (by decide +kernel : decide ("bool" = "int") = false)
  · exact (by decide +kernel : decide ("int" = "int") = true)
  · exact (by decide +kernel : decide ("str" = "int") = false)
  · exact (by decide +kernel : decide ("list" = "int") = false)
  · exact (by decide +kernel : decide ("tuple" = "int") = false)
  · exact (by decide +kernel : decide ("dict" = "int") = false)
theorem tyN_tup (d : PyData) : decide (tyN d = "tuple") = isTupD d := by
  cases d
  · exact (by decide +kernel : decide ("NoneType" = "tuple") = false)
  · exact (by decide +kernel : decide ("bool" = "tuple") = false)
  · exact (by decide +kernel : decide ("int" = "tuple") = false)
  · exact (by decide +kernel : decide ("str" = "tuple") = false)
  · exact (by decide +kernel : decide ("list" = "tuple") = false)
  · exact (by decide +kernel : decide ("tuple" = "tuple") = true)
  · exact (by decide +kernel : decide ("dict" = "tuple") = false)
theorem tyN_lst (d : PyData) : decide (tyN d = "list") = isLstD d := by
  cases d
  · exact (by decide +kernel : decide ("NoneType" = "list") = false)
  · exact (by decide +kernel : decide ("bool" = "list") = false)
  · exact (by decide +kernel : decide ("int" = "list") = false)
  · exact (by decide +kernel : decide ("str" = "list") = false)
  · exact (by decide +kernel : decide ("list" = "list") = true)
  · exact (by decide +kernel : decide ("tuple" = "list") = false)
  · exact (by decide +kernel : decide ("dict" = "list") = false)
theorem tyN_dct (d : PyData) : decide (tyN d = "dict") = isDctD d := by
  cases d
  · exact (by decide +kernel : decide ("NoneType" = "dict") = false)
  · exact (by decide +kernel : decide ("bool" = "dict") = false)
  · exact (by decide +kernel : decide ("int" = "dict") = false)
  · exact (by decide +kernel : decide ("str" = "dict") = false)
  · exact (by decide +kernel : decide ("list" = "dict") = false)
  · exact (by decide +kernel : decide ("tuple" = "dict") = false)
  · exact (by decide +kernel : decide ("dict" = "dict") = true)
theorem tyN_no {a b : String} {c : Bool} {A B : Prop} (h : decide (a = b) = c) (e : c = false) (p : A) : if (!decide (a = b)) = true then A else B := by
  rw [h, e]
  exact iteT p
theorem tyN_yes {a b : String} {c : Bool} {A B : Prop} (h : decide (a = b) = c) (e : c = true) (p : B) : if (!decide (a = b)) = true then A else B := by
  rw [h, e]
  exact iteF p
theorem tyI_no {a b : String} {c : Bool} {A B : Prop} (h : decide (a = b) = c) (e : c = false) (p : B) : if (decide (a = b)) = true then A else B := by
  rw [h, e]
  exact iteF p
theorem tyI_yes {a b : String} {c : Bool} {A B : Prop} (h : decide (a = b) = c) (e : c = true) (p : A) : if (decide (a = b)) = true then A else B := by
  rw [h, e]
  exact iteT p
theorem tyb_of {K : PySem.W.Frag} {H : Hp} {v : V} {d : PyData} (h : Dp K H v d) : TyB K H v (tyN d) := by
  cases h with
  | non => exact .non
  | bl b => exact .bl b
  | int i => exact .int i
  | str x => exact .str x
  | lst a _ => exact .lst a
  | tup a _ => exact .tup a
theorem isI_no {d : PyData} (h : isI d = false) : makeB d = false := by
  cases d <;> first | rfl | cases h
theorem isI_ex {d : PyData} (h : isI d = true) : ∃ i, d = .int i := by
  cases d <;> first | exact ⟨_, rfl⟩ | cases h
/-! ### signs a to z -/
theorem azB_iff (c : Nat) : azB c = (decide (97 ≤ c) && decide (c ≤ 122)) := by
  have e1 : (⟨#[c]⟩ : Str).cps.toList = [c] := rfl
  have e2 : ("a" : Str).cps.toList = [97] := by decide +kernel
  have e3 : ("z" : Str).cps.toList = [122] := by decide +kernel
  unfold azB
  rw [e1, e2, e3]
  by_cases h1 : 97 ≤ c
  · have f1 : ¬ ([c] < [97]) := by
      intro h
      cases h with
      | rel h => omega
      | cons h => cases h
    rw [decide_eq_false f1, decide_eq_true h1, Bool.true_and]
    show (if true = true then _ else _) = _
    rw [if_pos rfl]
    by_cases h2 : c ≤ 122
    · have f2 : ¬ ([122] < [c]) := by
        intro h
        cases h with
        | rel h => omega
        | cons h => cases h
      rw [decide_eq_false f2, decide_eq_true h2] <;> rfl
    · have f2 : [122] < [c] := List.Lex.rel (by omega)
      rw [decide_eq_true f2, decide_eq_false h2] <;> rfl
  · have f1 : [c] < [97] := List.Lex.rel (by omega)
    rw [decide_eq_true f1, decide_eq_false h1]
    rfl
def Az (l : List Nat) : Prop := ∀ c ∈ l, 97 ≤ c ∧ c ≤ 122
def Ok8 (l : List Nat) : Prop := ∀ c ∈ l, c < 0x110000
theorem Az.ok {l : List Nat} (h : Az l) : Ok8 l := fun c hc => by have := h c hc; omega
theorem strOk_S {l : List Nat} (h : Ok8 l) : PyData.strOk (SX.S l) = true := by
  unfold PyData.strOk
  rw [← Array.all_toList, List.all_eq_true]
  intro c hc
  exact decide_eq_true (h c hc)
theorem ok8_of {x : Str} (h : PyData.strOk x = true) : Ok8 x.cps.toList := by
  unfold PyData.strOk at h
  rw [← Array.all_toList, List.all_eq_true] at h
  intro c hc
  exact of_decide_eq_true (h c hc)
theorem okS_S {l : List Nat} (h : Ok8 l) (hl : l.length ≤ 1000) : okS (.str (SX.S l)) = true := by
  show (decide _ && _) = true
  rw [strOk_S h, SX.S_len, decide_eq_true hl] <;> rfl
theorem at_gen {α : Type} {xs : List α} {z : Int} {j : Nat} {v : α} (e : z = (j : Int)) (h : xs[j]? = some v) : atI xs z = some v := by
  rw [e]
  exact atI_nat h
def letters : List Nat := (List.range 26).map (97 + ·)
theorem letters_eq : ("abcdefghijklmnopqrstuvwxyz" : Str) = SX.S letters := by decide +kernel
theorem letters_at {i : Int} (h0 : 0 ≤ i) (h : i < 26) : atI letters i = some (97 + i.toNat) := by
  refine at_gen (j := i.toNat) (by omega) ?_
  unfold letters
  rw [List.getElem?_map, List.getElem?_range (by omega)]
  rfl
/-- an item of a list at a place in it -/
theorem at_pick {α : Type} {xs : List α} {i : Int} {p : α → Prop} (h0 : 0 ≤ i) (h1 : i < (xs.length : Int)) (hp : ∀ x ∈ xs, p x) : ∃ v, atI xs i = some v ∧ p v := by
  have hl : i.toNat < xs.length := by omega
  exact ⟨xs[i.toNat], at_gen (j := i.toNat) (by omega) (List.getElem?_eq_getElem hl), hp _ (List.getElem_mem hl)⟩
theorem cutV_mem {xs : List V} {lo hi : Option Int} {v : V} (h : v ∈ cutV xs lo hi) : v ∈ xs := List.mem_of_mem_drop (List.mem_of_mem_take h)
theorem cutS_S {l : List Nat} {lo hi : Option Int} : ∃ m, cutS (SX.S l) lo hi = SX.S m ∧ m.length ≤ l.length ∧ ∀ c ∈ m, c ∈ l := by
  refine ⟨_, rfl, ?_, fun c hc => List.mem_of_mem_drop (List.mem_of_mem_take hc)⟩
  have e : (SX.S l).cps.toList.length = l.length := by simp
  rw [List.length_take, List.length_drop]
  omega
/-- a comprehension over a text's signs -/
theorem lc_str {x : Str} {g : TG} {tt : TT} {te : TE} {vs : List Nat} {σ : L2.St} {H1 : Hp} {D : Addr} {Qd : Hp → Prop} (Pv : Nat → Hp → Prop) (h0 : Pv 0 (upd H1 D (.lst [])))
    (hs : ∀ i c H, x.cps.toList[i]? = some c → Pv i H → g (.str ⟨#[c]⟩) (wipe σ vs) H fun σ2 H2 => wipe σ2 vs = wipe σ vs ∧ tt σ2 H2 fun b H3 =>
      if b = true then te σ2 H3 fun y H4 => ∃ acc, H4 D = some (.lst acc) ∧ acc.length < sizeLine ∧ Pv (i + 1) (upd H4 D (.lst (acc ++ [y]))) else Pv (i + 1) H3) (hd : ∀ H, Pv x.cps.toList.length H → Qd H) :
    ∃ W : Nat → Nat → Hp → Prop, (∃ m, W 0 m (upd H1 D (.lst []))) ∧ ∀ i m H, W i m H →
      ((Its x).stop i H ∧ Qd H) ∨ ((Its x).go i H ∧ ∃ Nx : Hp → Prop, (∀ H', Nx H' → ∃ m', m' < m ∧ W (i + 1) m' H') ∧ ∀ v H', (Its x).yld i H v H' → g v (wipe σ vs) H' fun σ2 H2 => wipe σ2 vs = wipe σ vs ∧ tt σ2 H2 fun b H3 =>
        if b = true then te σ2 H3 fun y H4 => ∃ acc, H4 D = some (.lst acc) ∧ acc.length < sizeLine ∧ Nx (upd H4 D (.lst (acc ++ [y]))) else Nx H3) := by
  have hsz : x.cps.toList.length = x.cps.size := by simp
  refine ⟨fun i m H => m = x.cps.size - i ∧ i ≤ x.cps.size ∧ Pv i H, ⟨x.cps.size, by simp, Nat.zero_le _, h0⟩, ?_⟩
  rintro i m H ⟨rfl, hi, p⟩
  by_cases hlt : i < x.cps.size
  · refine .inr ⟨hlt, Pv (i + 1), fun H' p' => ⟨x.cps.size - (i + 1), by omega, rfl, hlt, p'⟩, fun v H' y => ?_⟩
    obtain ⟨rfl, c, hc, rfl⟩ := y
    exact hs i c _ (by rw [Array.getElem?_toList]; exact hc) p
  · have e : i = x.cps.size := by omega
    subst e
    exact .inl ⟨Nat.le_refl _, hd H (by rw [hsz]; exact p)⟩
/-! ### lists of flat things as data -/
theorem shaped_flat {ds : List PyData} (h : ∀ d ∈ ds, d.canLay0 = true ∧ d.depth = 0) : SeqAt.shaped (.list ds) = true ∧ SeqAt.shaped (.tuple ds) = true := by
  have h1 : PyData.canLayAll0 ds = true ∧ PyData.depthAll ds = 0 := by
    induction ds with
    | nil => exact ⟨rfl, rfl⟩
    | cons d r ih =>
      obtain ⟨i1, i2⟩ := ih fun x hx => h x (List.mem_cons_of_mem _ hx)
      obtain ⟨j1, j2⟩ := h d (List.mem_cons_self ..)
      constructor
      · show (d.canLay0 && PyData.canLayAll0 r) = true
        rw [i1, j1] <;> rfl
      · show max d.depth (PyData.depthAll r) = 0
        rw [i2, j2] <;> rfl
  constructor
  · show (PyData.canLayAll0 ds && decide (PyData.depthAll ds + 1 ≤ 64)) = true
    rw [h1.1, h1.2] <;> rfl
  · show (PyData.canLayAll0 ds && decide (PyData.depthAll ds + 1 ≤ 64)) = true
    rw [h1.1, h1.2] <;> rfl
theorem canLay_of {d : PyData} (h : SeqAt.shaped d = true) : d.canLay0 = true := SeqAt.canLay_of_shaped h
theorem eqv_self {d : PyData} (h : SeqAt.shaped d = true) : PyData.eqv d d = true := SeqAt.eqv_refl d (canLay_of h)
theorem eqv_nil (ds : List PyData) : PyData.eqv (.list ds) (.list []) = ds.isEmpty := by
  cases ds <;> rfl
theorem okT_tup {ds : List PyData} (h : ∀ d ∈ ds, okS d = true) (hl : ds.length ≤ 1000) : okT (.tuple ds) = true := by
  show (ds.all okS && decide (ds.length ≤ 1000)) = true
  rw [decide_eq_true hl, Bool.and_true, List.all_eq_true]
  exact h
theorem pick_thing {T : Addr} {K : PySem.W.Frag} {H HF : Hp} {xs : List V} {i : Int} (_ks : Kp T H HF) (hall : ∀ x ∈ xs, ∃ d, Dp K HF x d ∧ okT d = true) (h0 : 0 ≤ i) (h1 : i < (xs.length : Int)) :
    ∃ v d, atI xs i = some v ∧ Dp K HF v d ∧ okT d = true := by
  obtain ⟨v, hv, d, h⟩ := at_pick h0 h1 hall
  exact ⟨v, d, hv, h⟩
theorem Kp.lst {P a : Addr} {H H' : Hp} {xs : List V} (k : Kp P H H') (h : H a = some (.lst xs)) : H' a = some (.lst xs) := k.keep _ _ (tab_ne k.t0 h fun _ z => by cases z) h
theorem gens {env : Env} {scope : Scope} {x : Str} (k : scope.kind = .function) (co : scope.isCoroutine = false) (cell : ∀ y ∈ scope.names, y.2 ≠ .cell) (dot : scope.names.lookup (".0" : Str) = some NameKind.local)
    (loc : scope.names.lookup x = some .local) (nf : ∀ y ∈ scope.names, y.2 ≠ .free) : GxR.GenS env scope x := ⟨k, co, cell, dot, loc, fun y hy e => absurd e (nf y hy)⟩
theorem isStrD_ex {d : PyData} (h : isStrD d = true) : ∃ x, d = .str x := by
  cases d <;> first | exact ⟨_, rfl⟩ | cases h
theorem wareB_no {d : PyData} (h : isStrD d = false) : wareB d = false := by
  cases d <;> first | rfl | cases h
theorem tabIn_of {K : PySem.W.Frag} {x : Str} {f c T : Addr} {oc : Value} {od : Option Addr} {osl : Array (Option Value)} {fd : FuncData} {ec : Value} {dc : Option Addr} {vs : Array Value} {sl : Array (Option Value)}
    (a : PySem.W.nsIn K mainGlobals x = some (some (.ref f))) (l : K.lookup f = some ⟨oc, od, .func fd, osl⟩) (hc : fd.code = .ref c) (lc : K.lookup c = some ⟨ec, dc, .fields vs, sl⟩) (v : vs[11]? = some (.ref T)) : PySem.W.tabIn K x = some (c, T) := by
  unfold PySem.W.tabIn
  rw [a]
  simp only [l, hc, lc, v]
/-! ### the end, with the tables of the defs that the view holds -/
theorem walk_ofD {l : PySem.W.OpenLaw} {n k : Nat} {q : Program} {loose : List Str} {XP : (Str → Option Value) → Heap → Prop} {YP : World → Heap → Prop} {d : DefRec} {K : Params → PySem.W.Frag} {CX : World → CXT} {x : Str}
    (hn : l.most = some n) (hn2 : n ≤ sizeLine) (hdf : d.params.defaults = []) (hr : Room k callerA) (hY : ∀ (w : World) (h : Heap), YP w h → (K w.params).In h)
    (F : ∀ (w : World) (mg : Str → Option Value) (fa : Addr) (h : Heap), (K w.params).In h → h.Ns mainGlobals mg → mg d.name = some (.ref fa) →
      (∀ (y : Str) (c T : Addr), ((recsOf q).any fun e => e.name == y) = true → PySem.W.tabIn (K w.params) y = some (c, T) → PySem.W.CodeHd h c T ∧ h.get? T = some (PySem.W.tabObj #[])) → LamX.LawAtS l w (K w.params) (CX w) k n x mg fa h)
    (hCX : ∀ (w : World) (H : Hp) (s : Shared) (e : Value) (s' : Shared), CX w [] H s (fun _ _ _ => False) e s' → False) :
    PySem.W.WalkO q loose XP YP l.row.toRowW d [] (fun f vs => PySem.call f vs) := by
  refine Att.attach_callB hn hdf fun w s0 s1 mg mb fa o pm cd doc a vs ns G Y ho hd hcd hmg hobj hints hlen hbits hg => ?_
  have KX := hY w _ Y
  obtain ⟨fd, cs, sp, hT, nT, C, hb, hsp, hF⟩ := F w mg fa _ KX G.T.g hmg fun y c T hy ht => by
    cases hf : (recsOf q).find? (fun e => e.name == y) with
    | none =>
      rw [List.find?_eq_none] at hf
      obtain ⟨e, he, hz⟩ := List.any_eq_true.mp hy
      exact absurd hz (hf e he)
    | some e => exact PySem.W.tab_of G.T KX hf ht
  exact LamX.law_callTs KX G.T.g G.T.b G.T.builtins G.T.nolimit hg hT nT C G.T.bmain hobj hints (Nat.le_trans hlen hn2) hr hF hb (fun H hH hS => hsp H a ns hlen hbits hH hS) fun H e s' => hCX w H s1 e s'
end Pk

set_option Elab.async false
set_option linter.all false
set_option maxRecDepth 100000
set_option maxHeartbeats 4000000
namespace Pk
open PySem PySem.Spec PyProof.Rows L2

/-! ### parts of a heap hidden; kept but for some addresses -/
def hide (A : List Addr) (H : Hp) : Hp := fun b => if b ∈ A then none else H b
theorem hide_some {A : List Addr} {H : Hp} {b : Addr} {o : HO} (h : hide A H b = some o) : H b = some o ∧ b ∉ A := by
  unfold hide at h
  by_cases hb : b ∈ A
  · rw [if_pos hb] at h; cases h
  · rw [if_neg hb] at h; exact ⟨h, hb⟩
theorem hide_of {A : List Addr} {H : Hp} {b : Addr} {o : HO} (h : H b = some o) (hb : b ∉ A) : hide A H b = some o := by
  unfold hide
  rw [if_neg hb]
  exact h
def isSeqO : HO → Bool
  | .lst _ => true | .tup _ => true | .frz _ (.lst _) => true | .frz _ (.tup _) => true | _ => false
mutual
theorem dp_mono {K : PySem.W.Frag} {H H' : Hp} (k : ∀ b o, isSeqO o = true → H b = some o → H' b = some o) : ∀ (d : PyData) (v : V), Dp K H v d → Dp K H' v d
  | .none, _, h => by cases h; exact .non
  | .bool b, _, h => by cases h; exact .bl b
  | .int i, _, h => by cases h; exact .int i
  | .str x, _, h => by cases h; exact .str x
  | .list ds, _, h => by
    cases h with
    | lst a b =>
      refine .lst ?_ (dpAll_mono k ds _ b)
      rcases a with (a | ⟨o, a⟩) | a
      · exact .inl (.inl (k _ _ rfl a))
      · exact .inl (.inr ⟨o, k _ _ rfl a⟩)
      · exact .inr a
  | .tuple ds, _, h => by
    cases h with
    | tup a b =>
      refine .tup ?_ (dpAll_mono k ds _ b)
      rcases a with (a | ⟨o, a⟩) | a
      · exact .inl (.inl (k _ _ rfl a))
      · exact .inl (.inr ⟨o, k _ _ rfl a⟩)
      · exact .inr a
  | .dict _, _, h => by cases h
theorem dpAll_mono {K : PySem.W.Frag} {H H' : Hp} (k : ∀ b o, isSeqO o = true → H b = some o → H' b = some o) : ∀ (ds : List PyData) (vs : List V), DpAll K H vs ds → DpAll K H' vs ds
  | [], _, h => by cases h; exact .nil
  | d :: ds, _, h => by
    cases h with
    | cons a b => exact .cons (dp_mono k d _ a) (dpAll_mono k ds _ b)
end
theorem dp_show {K : PySem.W.Frag} {A : List Addr} {H : Hp} {d : PyData} {v : V} (h : Dp K (hide A H) v d) : Dp K H v d := dp_mono (fun _ _ _ e => (hide_some e).1) d v h
structure Kx (T : Addr) (A : List Addr) (H H' : Hp) : Prop where
  t0 : GxR.TabG H T
  tab : GxR.TabG H' T
  keep : ∀ b o, b ≠ T → b ∉ A → H b = some o → H' b = some o
theorem Kx.of {T : Addr} {A : List Addr} {H H' : Hp} (k : Kp T H H') : Kx T A H H' := ⟨k.t0, k.tab, fun b o n _ e => k.keep b o n e⟩
theorem Kx.refl {T : Addr} {A : List Addr} {H : Hp} (t : GxR.TabG H T) : Kx T A H H := ⟨t, t, fun _ _ _ _ e => e⟩
theorem Kx.trans {T : Addr} {A : List Addr} {H H1 H2 : Hp} (a : Kx T A H H1) (b : Kx T A H1 H2) : Kx T A H H2 := ⟨a.t0, b.tab, fun c o n m e => b.keep c o n m (a.keep c o n m e)⟩
theorem Kx.mono {T : Addr} {A B : List Addr} {H H' : Hp} (k : Kx T A H H') (h : ∀ a ∈ A, a ∈ B) : Kx T B H H' := ⟨k.t0, k.tab, fun b o n m e => k.keep b o n (fun z => m (h b z)) e⟩
theorem tab_upd {T a : Addr} {H : Hp} {o : HO} (t : GxR.TabG H T) (n : a ≠ T) : GxR.TabG (upd H a o) T := by
  obtain ⟨ps, h, q⟩ := t
  exact ⟨ps, by rw [upd_ne n.symm]; exact h, q⟩
theorem Kx.upd {T a : Addr} {A : List Addr} {H : Hp} {o : HO} (t : GxR.TabG H T) (n : a ≠ T) (m : a ∈ A) : Kx T A H (upd H a o) := by
  refine ⟨t, tab_upd t n, fun b u _ hb e => ?_⟩
  rw [upd_ne (fun z => hb (by rw [z]; exact m))]
  exact e
theorem Kx.free {T p : Addr} {A : List Addr} {H H1 : Hp} (k : Kx T A H H1) (hA : p ∉ A) (np : H1 p = none) : H p = none := by
  cases q : H p with
  | none => rfl
  | some o =>
    have z := k.keep p o (tab_nn k.tab np) hA q
    rw [np] at z
    cases z
theorem isSeq_ne_tab {T b : Addr} {H : Hp} {o : HO} (t : GxR.TabG H T) (hs : isSeqO o = true) (e : H b = some o) : b ≠ T := tab_ne t e fun ps z => by
  rw [z] at hs
  cases hs
/-- data outside A stand where what changes is a dict or hidden -/
theorem Kx.dpA {K : PySem.W.Frag} {T : Addr} {A F : List Addr} {H H' : Hp} (k : Kx T F H H') (hF : ∀ f ∈ F, f ∈ A ∨ ∃ kvs, H f = some (.dK kvs)) {v : V} {d : PyData} (h : Dp K (hide A H) v d) : Dp K (hide A H') v d :=
  dp_mono (fun b o hs e => by
    obtain ⟨e1, e2⟩ := hide_some e
    refine hide_of (k.keep b o (isSeq_ne_tab k.t0 hs e1) (fun z => ?_) e1) e2
    rcases hF b z with z | ⟨kvs, z⟩
    · exact e2 z
    · rw [z] at e1
      cases e1
      cases hs) d v h

theorem hide_upd {A : List Addr} {H : Hp} {a : Addr} {o : HO} (h : a ∈ A) : hide A (upd H a o) = hide A H := by
  funext b
  unfold hide
  by_cases hb : b ∈ A
  · rw [if_pos hb, if_pos hb]
  · rw [if_neg hb, if_neg hb, upd_ne (fun z => hb (by rw [z]; exact h))]
theorem Kx.dropNew {T n : Addr} {H H1 H2 : Hp} (nn : H n = none) (k1 : Kp T H H1) (k : Kx T [n] H1 H2) : Kp T H H2 := ⟨k1.t0, k.tab, fun b o hb e => k.keep b o hb (fun z => by
  rw [List.mem_singleton.mp z, nn] at e
  cases e) (k1.keep b o hb e)⟩
theorem dp_more {K : PySem.W.Frag} {A : List Addr} {H : Hp} {n : Addr} (nn : H n = none) {v : V} {d : PyData} (h : Dp K (hide A H) v d) : Dp K (hide (n :: A) H) v d := dp_mono (fun b o _ e => by
  obtain ⟨e1, e2⟩ := hide_some e
  refine hide_of e1 fun z => ?_
  rcases List.mem_cons.mp z with z | z
  · rw [z, nn] at e1; cases e1
  · exact e2 z) d v h
theorem dp_less {K : PySem.W.Frag} {A : List Addr} {H : Hp} {n : Addr} {v : V} {d : PyData} (h : Dp K (hide (n :: A) H) v d) : Dp K (hide A H) v d := dp_mono (fun b o _ e => by
  obtain ⟨e1, e2⟩ := hide_some e
  exact hide_of e1 fun z => e2 (List.mem_cons_of_mem _ z)) d v h
theorem sqt_kx {K : PySem.W.Frag} {T a : Addr} {A F : List Addr} {H H' : Hp} {xs : List V} (k : Kx T F H H') (hF : ∀ f ∈ F, f ∈ A ∨ ∃ kvs, H f = some (.dK kvs)) (h : SqT K (hide A H) a xs) : SqT K (hide A H') a xs := by
  have st : ∀ o, isSeqO o = true → hide A H a = some o → hide A H' a = some o := fun o hs e => by
    obtain ⟨e1, e2⟩ := hide_some e
    refine hide_of (k.keep a o (isSeq_ne_tab k.t0 hs e1) (fun z => ?_) e1) e2
    rcases hF a z with z | ⟨kvs, z⟩
    · exact e2 z
    · rw [z] at e1
      cases e1
      cases hs
  rcases h with (h | ⟨o, h⟩) | h
  · exact .inl (.inl (st _ rfl h))
  · exact .inl (.inr ⟨o, st _ rfl h⟩)
  · exact .inr h
theorem sqt_show {K : PySem.W.Frag} {A : List Addr} {H : Hp} {a : Addr} {xs : List V} (h : SqT K (hide A H) a xs) : SqT K H a xs := by
  rcases h with (h | ⟨o, h⟩) | h
  · exact .inl (.inl (hide_some h).1)
  · exact .inl (.inr ⟨o, (hide_some h).1⟩)
  · exact .inr h
theorem sqt_less {K : PySem.W.Frag} {A : List Addr} {H : Hp} {n a : Addr} {xs : List V} (h : SqT K (hide (n :: A) H) a xs) : SqT K (hide A H) a xs := by
  have st : ∀ o, hide (n :: A) H a = some o → hide A H a = some o := fun o e => by
    obtain ⟨e1, e2⟩ := hide_some e
    exact hide_of e1 fun z => e2 (List.mem_cons_of_mem _ z)
  rcases h with (h | ⟨o, h⟩) | h
  · exact .inl (.inl (st _ h))
  · exact .inl (.inr ⟨o, st _ h⟩)
  · exact .inr h
/-- a pair of two lists that hold the same data -/
def Told (K : PySem.W.Frag) (A : List Addr) (H : Hp) (v : V) : Prop := ∃ (t f u : Addr) (ds : List PyData), v = .ref t ∧ SqT K (hide A H) t [.ref f, .ref u] ∧ Dp K (hide A H) (.ref f) (.list ds) ∧ Dp K (hide A H) (.ref u) (.list ds) ∧
  SeqAt.shaped (.list ds) = true ∧ (∀ d ∈ ds, isBoolD d = false) ∧ ds.length ≤ 1000
theorem Told.kept {K : PySem.W.Frag} {T : Addr} {A F : List Addr} {H H' : Hp} {v : V} (h : Told K A H v) (k : Kx T F H H') (hF : ∀ f ∈ F, f ∈ A ∨ ∃ kvs, H f = some (.dK kvs)) : Told K A H' v := by
  obtain ⟨t, f, u, ds, e, h1, h2, h3, h4⟩ := h
  exact ⟨t, f, u, ds, e, sqt_kx k hF h1, k.dpA hF h2, k.dpA hF h3, h4⟩
theorem Told.keptP {K : PySem.W.Frag} {T : Addr} {A : List Addr} {H H' : Hp} {v : V} (h : Told K A H v) (k : Kp T H H') : Told K A H' v := h.kept (F := []) (.of k) fun f hf => by cases hf
theorem Told.less {K : PySem.W.Frag} {A : List Addr} {H : Hp} {n : Addr} {v : V} (h : Told K (n :: A) H v) : Told K A H v := by
  obtain ⟨t, f, u, ds, e, h1, h2, h3, h4⟩ := h
  exact ⟨t, f, u, ds, e, sqt_less h1, dp_less h2, dp_less h3, h4⟩
theorem small5000 {n : Nat} (h : n ≤ 5000) : n < sizeLine := Nat.lt_of_le_of_lt h (by decide)
/-! ### sorted texts and numbers -/
def leS (a b : Str) : Prop := ¬ (b.cps.toList < a.cps.toList)
theorem leS_trans {a b c : Str} (h1 : leS a b) (h2 : leS b c) : leS a c := by
  have z1 : a.cps.toList ≤ b.cps.toList := List.not_lt.mp h1
  have z2 : b.cps.toList ≤ c.cps.toList := List.not_lt.mp h2
  exact List.not_lt.mpr (List.le_trans z1 z2)
theorem leS_anti {a b : Str} (h1 : leS a b) (h2 : leS b a) : a = b := by
  have z1 : a.cps.toList ≤ b.cps.toList := List.not_lt.mp h1
  have z2 : b.cps.toList ≤ a.cps.toList := List.not_lt.mp h2
  have e := List.le_antisymm z1 z2
  cases a with
  | mk x =>
    cases b with
    | mk y =>
      have e2 : x = y := Array.toList_inj.mp e
      rw [e2]
theorem rising_pw : ∀ (l : List Str) (p : Str), risingS p l = true → (p :: l).Pairwise leS
  | [], p, _ => List.pairwise_cons.mpr ⟨fun _ h => (by cases h), List.Pairwise.nil⟩
  | x :: r, p, h => by
    have h' : (!ltCps x.cps.toList p.cps.toList && risingS x r) = true := h
    rw [Bool.and_eq_true, Bool.not_eq_true', ltCps_eq] at h'
    have h1 : leS p x := of_decide_eq_false h'.1
    have ih := rising_pw r x h'.2
    refine List.pairwise_cons.mpr ⟨fun y hy => ?_, ih⟩
    rcases List.mem_cons.mp hy with hy | hy
    · rw [hy]; exact h1
    · exact leS_trans h1 ((List.pairwise_cons.mp ih).1 y hy)
theorem sorted_pw : ∀ l : List Str, sortedS l = true → l.Pairwise leS
  | [], _ => List.Pairwise.nil
  | x :: r, h => rising_pw r x h
theorem sorted_same {a b : List Str} (hp : a.Perm b) (ha : sortedS a = true) (hb : sortedS b = true) : a = b :=
  List.Perm.eq_of_pairwise (fun x y _ _ h1 h2 => leS_anti h1 h2) (sorted_pw a ha) (sorted_pw b hb) hp
theorem ints_same {a b : List Int} (hp : a.Perm b) (ha : a.Pairwise (· ≤ ·)) (hb : b.Pairwise (· ≤ ·)) : a = b :=
  List.Perm.eq_of_pairwise (fun x y _ _ h1 h2 => Int.le_antisymm h1 h2) ha hb hp
/-! ### shelves: a dict of dicts of lists -/
structure Shelf where
  ware : Str
  at_ : Addr
  ents : List (Int × Addr × List PyData)
def entK (e : Int × Addr × List PyData) : Key × V := (Sum.inl e.1, V.ref e.2.1)
def keyW (s : Shelf) : Key × V := (Sum.inr s.ware, V.ref s.at_)
def look (st : List Shelf) (w : Str) : Option Shelf := st.find? fun s => decide (s.ware = w)
def lookE (es : List (Int × Addr × List PyData)) (m : Int) : Option (Int × Addr × List PyData) := es.find? fun e => decide (e.1 = m)
def entD (e : Int × Addr × List PyData) : Int × List PyData := (e.1, e.2.2)
def dataOf (st : List Shelf) (w : Str) : List (Int × List PyData) := ((look st w).map fun s => s.ents.map entD).getD []
theorem look_val (w : Str) : ∀ st : List Shelf, valV (st.map keyW) (Sum.inr w : Key) = (look st w).map fun s => V.ref s.at_
  | [] => rfl
  | s :: r => by
    have ih := look_val w r
    by_cases h : s.ware = w
    · rw [List.map_cons, valV_pos (p := keyW s) (by show (Sum.inr s.ware : Key) = Sum.inr w; rw [h])]
      unfold look
      rw [List.find?_cons, decide_eq_true h]
      rfl
    · rw [List.map_cons, valV_neg (p := keyW s) (fun z => h (Sum.inr.inj z)), ih]
      unfold look
      rw [List.find?_cons, decide_eq_false h]
theorem lookE_val (m : Int) : ∀ es : List (Int × Addr × List PyData), valV (es.map entK) (Sum.inl m : Key) = (lookE es m).map fun e => V.ref e.2.1
  | [] => rfl
  | e :: r => by
    have ih := lookE_val m r
    by_cases h : e.1 = m
    · rw [List.map_cons, valV_pos (p := entK e) (by show (Sum.inl e.1 : Key) = Sum.inl m; rw [h])]
      unfold lookE
      rw [List.find?_cons, decide_eq_true h]
      rfl
    · rw [List.map_cons, valV_neg (p := entK e) (fun z => h (Sum.inl.inj z)), ih]
      unfold lookE
      rw [List.find?_cons, decide_eq_false h]
theorem look_mem {st : List Shelf} {w : Str} {s : Shelf} (h : look st w = some s) : s ∈ st ∧ s.ware = w := ⟨List.mem_of_find?_eq_some h, of_decide_eq_true (List.find?_some (p := fun s : Shelf => decide (s.ware = w)) h)⟩
theorem look_none {st : List Shelf} {w : Str} (h : look st w = none) : ∀ s ∈ st, s.ware ≠ w := fun s hs z => by
  have := List.find?_eq_none.mp h s hs
  exact this (decide_eq_true z)
theorem look_of {w : Str} {s : Shelf} : ∀ {st : List Shelf}, (st.map (·.ware)).Nodup → s ∈ st → s.ware = w → look st w = some s
  | [], _, h, _ => by cases h
  | a :: r, nd, h, e => by
    rw [List.map_cons, List.nodup_cons] at nd
    unfold look
    rw [List.find?_cons]
    by_cases ha : a.ware = w
    · rw [decide_eq_true ha]
      rcases List.mem_cons.mp h with rfl | h
      · rfl
      · exact absurd (List.mem_map.mpr ⟨s, h, by rw [e, ha]⟩) nd.1
    · rw [decide_eq_false ha]
      rcases List.mem_cons.mp h with rfl | h
      · exact absurd e ha
      · exact look_of nd.2 h e
theorem lookE_mem {es : List (Int × Addr × List PyData)} {m : Int} {e : Int × Addr × List PyData} (h : lookE es m = some e) : e ∈ es ∧ e.1 = m := ⟨List.mem_of_find?_eq_some h, of_decide_eq_true (List.find?_some (p := fun e : Int × Addr × List PyData => decide (e.1 = m)) h)⟩
theorem lookE_none {es : List (Int × Addr × List PyData)} {m : Int} (h : lookE es m = none) : ∀ e ∈ es, e.1 ≠ m := fun e he z => by
  have := List.find?_eq_none.mp h e he
  exact this (decide_eq_true z)
theorem lookE_of {e : Int × Addr × List PyData} : ∀ {es : List (Int × Addr × List PyData)}, (es.map (·.1)).Nodup → e ∈ es → lookE es e.1 = some e
  | [], _, h => by cases h
  | a :: r, nd, h => by
    rw [List.map_cons, List.nodup_cons] at nd
    unfold lookE
    rw [List.find?_cons]
    by_cases ha : a.1 = e.1
    · rw [decide_eq_true ha]
      rcases List.mem_cons.mp h with h | h
      · rw [h]
      · exact absurd (List.mem_map.mpr ⟨e, h, ha.symm⟩) nd.1
    · rw [decide_eq_false ha]
      rcases List.mem_cons.mp h with h | h
      · exact absurd (by rw [h]) ha
      · exact lookE_of nd.2 h
theorem rep_sub (b : Bool) (xs : List V) : (∀ v ∈ (List.replicate (if b = true then (1 : Int) else 0).toNat xs).flatten, v ∈ xs) ∧ (List.replicate (if b = true then (1 : Int) else 0).toNat xs).flatten.length ≤ xs.length := by
  cases b with
  | true =>
    have e : (List.replicate (if true = true then (1 : Int) else 0).toNat xs).flatten = xs := by
      show (List.replicate 1 xs).flatten = xs
      simp
    rw [e]
    exact ⟨fun v h => h, Nat.le_refl _⟩
  | false =>
    have e : (List.replicate (if false = true then (1 : Int) else 0).toNat xs).flatten = [] := by
      show (List.replicate 0 xs).flatten = []
      simp
    rw [e]
    exact ⟨fun v h => (by cases h), Nat.zero_le _⟩
structure ShelfOk (K : PySem.W.Frag) (A : List Addr) (H : Hp) (s : Shelf) : Prop where
  dc : H s.at_ = some (.dK (s.ents.map entK))
  dp : ∀ e ∈ s.ents, Dp K (hide A H) (.ref e.2.1) (.list e.2.2)
  nd : (s.ents.map (·.1)).Nodup
structure BoxOk (K : PySem.W.Frag) (A : List Addr) (H : Hp) (D : Addr) (st : List Shelf) : Prop where
  dc : H D = some (.dK (st.map keyW))
  sh : ∀ s ∈ st, ShelfOk K A H s
  nd : (st.map (·.ware)).Nodup
  na : (D :: st.map (·.at_)).Nodup
def foot (D : Addr) (st : List Shelf) : List Addr := D :: st.map (·.at_)
theorem BoxOk.foot_dict {K : PySem.W.Frag} {A : List Addr} {H : Hp} {D : Addr} {st : List Shelf} (B : BoxOk K A H D st) : ∀ f ∈ foot D st, ∃ kvs, H f = some (.dK kvs) := fun f hf => by
  rcases List.mem_cons.mp hf with rfl | hf
  · exact ⟨_, B.dc⟩
  · obtain ⟨s, hs, rfl⟩ := List.mem_map.mp hf
    exact ⟨_, (B.sh s hs).dc⟩
theorem BoxOk.foot_ne {K : PySem.W.Frag} {A : List Addr} {H : Hp} {D T : Addr} {st : List Shelf} (B : BoxOk K A H D st) (t : GxR.TabG H T) : ∀ f ∈ foot D st, f ≠ T := fun f hf => by
  obtain ⟨kvs, e⟩ := B.foot_dict f hf
  exact tab_ne t e fun _ z => by cases z
/-- a box stands where what changes lies elsewhere -/
theorem BoxOk.kept {K : PySem.W.Frag} {A F : List Addr} {H H' : Hp} {D T : Addr} {st : List Shelf} (B : BoxOk K A H D st) (k : Kx T F H H') (hF : ∀ f ∈ F, f ∈ A ∨ ∃ kvs, H f = some (.dK kvs)) (dj : ∀ f ∈ foot D st, f ∉ F) : BoxOk K A H' D st := by
  have kd : ∀ f ∈ foot D st, ∀ o, H f = some o → H' f = some o := fun f hf o e => k.keep f o (B.foot_ne k.t0 f hf) (dj f hf) e
  refine ⟨kd D (List.mem_cons_self ..) _ B.dc, fun s hs => ?_, B.nd, B.na⟩
  have S := B.sh s hs
  exact ⟨kd _ (List.mem_cons_of_mem _ (List.mem_map.mpr ⟨s, hs, rfl⟩)) _ S.dc, fun e he => k.dpA hF (S.dp e he), S.nd⟩
theorem BoxOk.keptP {K : PySem.W.Frag} {A : List Addr} {H H' : Hp} {D T : Addr} {st : List Shelf} (B : BoxOk K A H D st) (k : Kp T H H') : BoxOk K A H' D st :=
  B.kept (F := []) (.of k) (fun f hf => by cases hf) (fun f _ hf => by cases hf)
/-- more is hidden: what was not there then -/
theorem BoxOk.hideMore {K : PySem.W.Frag} {A B' : List Addr} {H : Hp} {D : Addr} {st : List Shelf} (B : BoxOk K A H D st) (h : ∀ s ∈ st, ∀ e ∈ s.ents, ∀ d, Dp K (hide A H) (.ref e.2.1) d → Dp K (hide B' H) (.ref e.2.1) d) : BoxOk K B' H D st :=
  ⟨B.dc, fun s hs => ⟨(B.sh s hs).dc, fun e he => h s hs e he _ ((B.sh s hs).dp e he), (B.sh s hs).nd⟩, B.nd, B.na⟩

/-! ### the four changes -/
def setE (st : List Shelf) (w : Str) (es : List (Int × Addr × List PyData)) : List Shelf := st.map fun s => if s.ware = w then { s with ents := es } else s
theorem setE_keys (w : Str) (es : List (Int × Addr × List PyData)) (st : List Shelf) : (setE st w es).map keyW = st.map keyW := by
  unfold setE
  rw [List.map_map]
  refine List.map_congr_left fun s _ => ?_
  show keyW (if s.ware = w then _ else s) = keyW s
  split <;> rfl
theorem setE_wares (w : Str) (es : List (Int × Addr × List PyData)) (st : List Shelf) : (setE st w es).map (·.ware) = st.map (·.ware) := by
  unfold setE
  rw [List.map_map]
  refine List.map_congr_left fun s _ => ?_
  show (if s.ware = w then _ else s : Shelf).ware = s.ware
  split <;> rfl
theorem setE_ats (w : Str) (es : List (Int × Addr × List PyData)) (st : List Shelf) : (setE st w es).map (·.at_) = st.map (·.at_) := by
  unfold setE
  rw [List.map_map]
  refine List.map_congr_left fun s _ => ?_
  show (if s.ware = w then _ else s : Shelf).at_ = s.at_
  split <;> rfl
theorem setE_len (w : Str) (es : List (Int × Addr × List PyData)) (st : List Shelf) : (setE st w es).length = st.length := by
  unfold setE
  rw [List.length_map]
theorem setE_mem {w : Str} {es : List (Int × Addr × List PyData)} {st : List Shelf} {x : Shelf} (h : x ∈ setE st w es) : (∃ s ∈ st, s.ware = w ∧ x = { s with ents := es }) ∨ (x ∈ st ∧ x.ware ≠ w) := by
  obtain ⟨s, hs, rfl⟩ := List.mem_map.mp h
  by_cases hw : s.ware = w
  · exact .inl ⟨s, hs, hw, by rw [if_pos hw]⟩
  · exact .inr ⟨by rw [if_neg hw]; exact hs, by rw [if_neg hw]; exact hw⟩
theorem setE_look {w : Str} {es : List (Int × Addr × List PyData)} (v : Str) : ∀ {st : List Shelf}, look (setE st w es) v = (look st v).map fun s => if v = w then { s with ents := es } else s
  | [] => rfl
  | s :: r => by
    have ih := setE_look (w := w) (es := es) v (st := r)
    show look ((if s.ware = w then { s with ents := es } else s) :: setE r w es) v = _
    unfold look
    rw [List.find?_cons, List.find?_cons]
    have ew : ((if s.ware = w then { s with ents := es } else s : Shelf)).ware = s.ware := by split <;> rfl
    by_cases h : s.ware = v
    · rw [decide_eq_true (by rw [ew]; exact h), decide_eq_true h]
      show some _ = some _
      show some (if s.ware = w then _ else _) = some (if v = w then _ else _)
      simp only [h]
    · rw [decide_eq_false (by rw [ew]; exact h), decide_eq_false h]
      exact ih
theorem setE_data {st : List Shelf} {w : Str} {es : List (Int × Addr × List PyData)} {s : Shelf} (h : look st w = some s) (v : Str) : dataOf (setE st w es) v = if v = w then es.map entD else dataOf st v := by
  unfold dataOf
  rw [setE_look]
  by_cases e : v = w
  · rw [if_pos e, e, h, Option.map_some, Option.map_some, if_pos rfl]
    rfl
  · rw [if_neg e]
    cases look st v with
    | none => rfl
    | some z => rw [Option.map_some, Option.map_some, if_neg e]; rfl
theorem at_inj : ∀ {l : List Shelf} {a b : Shelf}, (l.map (·.at_)).Nodup → a ∈ l → b ∈ l → a.at_ = b.at_ → a = b
  | [], _, _, _, ha, _, _ => by cases ha
  | y :: r, a, b, hn, ha, hb, hab => by
    rw [List.map_cons, List.nodup_cons] at hn
    rcases List.mem_cons.mp ha with ha | ha
    · rcases List.mem_cons.mp hb with hb | hb
      · rw [ha, hb]
      · refine absurd (List.mem_map.mpr ⟨b, hb, ?_⟩) hn.1
        rw [← hab, ha]
    · rcases List.mem_cons.mp hb with hb | hb
      · refine absurd (List.mem_map.mpr ⟨a, ha, ?_⟩) hn.1
        rw [hab, hb]
      · exact at_inj hn.2 ha hb hab
/-- the shelf s of the box is given other entries -/
theorem BoxOk.set {K : PySem.W.Frag} {A : List Addr} {H : Hp} {D T : Addr} {st : List Shelf} {w : Str} {s : Shelf} {es : List (Int × Addr × List PyData)} (B : BoxOk K A H D st) (t : GxR.TabG H T) (h : look st w = some s)
    (dp : ∀ e ∈ es, Dp K (hide A H) (.ref e.2.1) (.list e.2.2)) (nd : (es.map (·.1)).Nodup) : BoxOk K A (upd H s.at_ (.dK (es.map entK))) D (setE st w es) ∧ Kx T (foot D st) H (upd H s.at_ (.dK (es.map entK))) := by
  obtain ⟨hs, hw⟩ := look_mem h
  have hf : s.at_ ∈ foot D st := List.mem_cons_of_mem _ (List.mem_map.mpr ⟨s, hs, rfl⟩)
  have k : Kx T [s.at_] H (L2.upd H s.at_ (.dK (es.map entK))) := Kx.upd t (B.foot_ne t _ hf) (List.mem_singleton.mpr rfl)
  have hF : ∀ f ∈ [s.at_], f ∈ A ∨ ∃ kvs, H f = some (.dK kvs) := fun f z => .inr (by rw [List.mem_singleton.mp z]; exact ⟨_, (B.sh s hs).dc⟩)
  have na := B.na
  rw [List.nodup_cons] at na
  refine ⟨⟨?_, fun x hx => ?_, by rw [setE_wares]; exact B.nd, by rw [setE_ats]; exact B.na⟩, Kx.upd t (B.foot_ne t _ hf) hf⟩
  · rw [upd_ne (fun z => na.1 (by rw [z]; exact List.mem_map.mpr ⟨s, hs, rfl⟩)), setE_keys]
    exact B.dc
  · rcases setE_mem hx with ⟨s', hs', hw', rfl⟩ | ⟨hx, hne⟩
    · have e : s' = s := by
        have a := look_of B.nd hs' hw'
        rw [h] at a
        exact (Option.some.inj a).symm
      subst e
      exact ⟨upd_same, fun e he => k.dpA hF (dp e he), nd⟩
    · have S := B.sh x hx
      refine ⟨?_, fun e he => k.dpA hF (S.dp e he), S.nd⟩
      rw [upd_ne (fun z => ?_)]
      · exact S.dc
      · have q := at_inj na.2 hx hs z
        rw [q] at hne
        exact hne hw
/-- a new, empty shelf -/
theorem BoxOk.new {K : PySem.W.Frag} {A : List Addr} {H : Hp} {D T a : Addr} {st : List Shelf} {w : Str} (B : BoxOk K A H D st) (t : GxR.TabG H T) (h : look st w = none) (ha : H a = none) :
    BoxOk K A (upd (upd H a (.dK [])) D (.dK (putK (st.map keyW) (Sum.inr w) (.ref a)))) D (st ++ [⟨w, a, []⟩]) ∧ Kx T (foot D st) H (upd (upd H a (.dK [])) D (.dK (putK (st.map keyW) (Sum.inr w) (.ref a)))) := by
  have hD : D ∈ foot D st := List.mem_cons_self ..
  have na := B.na
  rw [List.nodup_cons] at na
  have naF : ∀ f ∈ foot D st, f ≠ a := fun f hf z => by
    obtain ⟨kvs, e⟩ := B.foot_dict f hf
    rw [z, ha] at e
    cases e
  have k : Kx T (foot D st) H (L2.upd (L2.upd H a (.dK [])) D (.dK (putK (st.map keyW) (Sum.inr w) (.ref a)))) := by
    refine ⟨t, tab_upd (tab_upd t (tab_nn t ha)) (B.foot_ne t D hD), fun b o _ hb e => ?_⟩
    rw [upd_ne (fun z => hb (by rw [z]; exact hD)), upd_ne (ne_of_none e ha)]
    exact e
  have eput : putK (st.map keyW) (Sum.inr w : Key) (.ref a) = (st ++ [(⟨w, a, []⟩ : Shelf)]).map keyW := by
    rw [putK_new _ (by rw [look_val, h]; rfl), List.map_append]
    rfl
  refine ⟨⟨?_, fun x hx => ?_, ?_, ?_⟩, k⟩
  · rw [upd_same, eput]
  · have kd : ∀ f, f ≠ D → f ≠ a → L2.upd (L2.upd H a (.dK [])) D (.dK (putK (st.map keyW) (Sum.inr w) (.ref a))) f = H f := fun f h1 h2 => by rw [upd_ne h1, upd_ne h2]
    rcases List.mem_append.mp hx with hx | hx
    · have S := B.sh x hx
      have xm : x.at_ ∈ st.map (·.at_) := List.mem_map.mpr ⟨x, hx, rfl⟩
      refine ⟨?_, fun e he => k.dpA (fun f hf => .inr (B.foot_dict f hf)) (S.dp e he), S.nd⟩
      rw [kd _ (fun z => na.1 (by rw [← z]; exact xm)) (naF _ (List.mem_cons_of_mem _ xm))]
      exact S.dc
    · rw [List.mem_singleton.mp hx]
      refine ⟨?_, fun e he => (by cases he), List.nodup_nil⟩
      show L2.upd (L2.upd H a (.dK [])) D _ a = _
      rw [upd_ne (naF D hD).symm, upd_same]
      rfl
  · rw [List.map_append, List.nodup_append]
    refine ⟨B.nd, List.nodup_cons.mpr ⟨List.not_mem_nil, List.nodup_nil⟩, fun x hx y hy => ?_⟩
    obtain ⟨s, hs, rfl⟩ := List.mem_map.mp hx
    rw [List.map_singleton] at hy
    rw [List.mem_singleton.mp hy]
    exact look_none h s hs
  · show (D :: (st ++ [(⟨w, a, []⟩ : Shelf)]).map (fun x => x.at_)).Nodup
    rw [List.map_append, List.map_singleton, ← List.cons_append, List.nodup_append]
    refine ⟨B.na, List.nodup_cons.mpr ⟨List.not_mem_nil, List.nodup_nil⟩, fun x hx y hy => ?_⟩
    rw [List.mem_singleton.mp hy]
    exact naF x hx
theorem look_app {st : List Shelf} {w : Str} {a : Addr} (h : look st w = none) (v : Str) : look (st ++ [⟨w, a, []⟩]) v = if v = w then some ⟨w, a, []⟩ else look st v := by
  unfold look at h ⊢
  rw [List.find?_append, List.find?_cons, List.find?_nil]
  by_cases e : v = w
  · rw [if_pos e, e, h, decide_eq_true rfl]
    rfl
  · rw [if_neg e, decide_eq_false (fun z => e z.symm)]
    cases List.find? (fun s : Shelf => decide (s.ware = v)) st <;> rfl
theorem data_app {st : List Shelf} {w : Str} {a : Addr} (h : look st w = none) (v : Str) : dataOf (st ++ [⟨w, a, []⟩]) v = dataOf st v := by
  unfold dataOf
  rw [look_app h]
  by_cases e : v = w
  · rw [if_pos e, e, h]
    rfl
  · rw [if_neg e]
/-- a shelf leaves the box -/
def delS (st : List Shelf) (w : Str) : List Shelf := st.filter fun s => decide (s.ware ≠ w)
theorem delS_keys (w : Str) : ∀ st : List Shelf, (delS st w).map keyW = dropK (st.map keyW) (Sum.inr w : Key)
  | [] => rfl
  | s :: r => by
    have ih := delS_keys w r
    unfold delS dropK at ih ⊢
    rw [List.map_cons, List.filter_cons, List.filter_cons]
    by_cases h : s.ware = w
    · have h2 : (keyW s).1 = (Sum.inr w : Key) := by show (Sum.inr s.ware : Key) = _; rw [h]
      rw [if_neg (by rw [decide_eq_false (fun z => z h)]; exact Bool.false_ne_true), if_neg (by rw [decide_eq_false (fun z => z h2)]; exact Bool.false_ne_true)]
      exact ih
    · have h2 : (keyW s).1 ≠ (Sum.inr w : Key) := fun z => h (Sum.inr.inj z)
      rw [if_pos (decide_eq_true h), if_pos (decide_eq_true h2), List.map_cons, ih]
theorem delS_mem {st : List Shelf} {w : Str} {x : Shelf} (h : x ∈ delS st w) : x ∈ st ∧ x.ware ≠ w := ⟨(List.mem_filter.mp h).1, of_decide_eq_true (List.mem_filter.mp h).2⟩
theorem delS_look {w : Str} (v : Str) : ∀ {st : List Shelf}, look (delS st w) v = if v = w then none else look st v
  | [] => by unfold delS look; simp
  | s :: r => by
    have ih := delS_look (w := w) v (st := r)
    unfold delS look at ih ⊢
    rw [List.filter_cons]
    by_cases h : s.ware = w
    · rw [if_neg (by rw [decide_eq_false (fun z => z h)]; exact Bool.false_ne_true), ih, List.find?_cons]
      by_cases e : v = w
      · rw [if_pos e, if_pos e]
      · rw [if_neg e, if_neg e, decide_eq_false (fun z => e (by rw [← z, h]))]
    · rw [if_pos (decide_eq_true h), List.find?_cons, List.find?_cons]
      by_cases e : s.ware = v
      · rw [decide_eq_true e, if_neg (fun z => h (by rw [e, z]))]
      · rw [decide_eq_false e]
        exact ih
theorem delS_data {st : List Shelf} {w : Str} (v : Str) : dataOf (delS st w) v = if v = w then [] else dataOf st v := by
  unfold dataOf
  rw [delS_look]
  by_cases e : v = w
  · rw [if_pos e, if_pos e]
    rfl
  · rw [if_neg e, if_neg e]
theorem BoxOk.del {K : PySem.W.Frag} {A : List Addr} {H : Hp} {D T : Addr} {st : List Shelf} {w : Str} (B : BoxOk K A H D st) (t : GxR.TabG H T) :
    BoxOk K A (upd H D (.dK (dropK (st.map keyW) (Sum.inr w)))) D (delS st w) ∧ Kx T (foot D st) H (upd H D (.dK (dropK (st.map keyW) (Sum.inr w)))) := by
  have hD : D ∈ foot D st := List.mem_cons_self ..
  have na := B.na
  rw [List.nodup_cons] at na
  have k : Kx T (foot D st) H (L2.upd H D (.dK (dropK (st.map keyW) (Sum.inr w)))) := Kx.upd t (B.foot_ne t D hD) hD
  have sub : ∀ {α : Type} (f : Shelf → α), ((delS st w).map f).Sublist (st.map f) := fun f => List.Sublist.map f List.filter_sublist
  refine ⟨⟨by rw [upd_same, delS_keys], fun x hx => ?_, (sub _).nodup B.nd, List.nodup_cons.mpr ⟨fun z => na.1 ((sub _).subset z), (sub _).nodup na.2⟩⟩, k⟩
  obtain ⟨hx, _⟩ := delS_mem hx
  have S := B.sh x hx
  refine ⟨?_, fun e he => k.dpA (fun f hf => .inr (B.foot_dict f hf)) (S.dp e he), S.nd⟩
  rw [upd_ne (fun z => na.1 (by rw [← z]; exact List.mem_map.mpr ⟨x, hx, rfl⟩))]
  exact S.dc
/-- entries put, dropped -/
theorem ent_put {es : List (Int × Addr × List PyData)} {m : Int} {l : Addr} {ds : List PyData} (h : lookE es m = none) : putK (es.map entK) (Sum.inl m : Key) (.ref l) = (es ++ [(m, l, ds)]).map entK := by
  rw [putK_new _ (by rw [lookE_val, h]; rfl), List.map_append]
  rfl
def dropE (es : List (Int × Addr × List PyData)) (m : Int) : List (Int × Addr × List PyData) := es.filter fun e => decide (e.1 ≠ m)
theorem ent_drop (m : Int) : ∀ es : List (Int × Addr × List PyData), dropK (es.map entK) (Sum.inl m : Key) = (dropE es m).map entK
  | [] => rfl
  | e :: r => by
    have ih := ent_drop m r
    unfold dropE dropK at ih ⊢
    rw [List.map_cons, List.filter_cons, List.filter_cons]
    by_cases h : e.1 = m
    · have h2 : (entK e).1 = (Sum.inl m : Key) := by show (Sum.inl e.1 : Key) = _; rw [h]
      rw [if_neg (by rw [decide_eq_false (fun z => z h2)]; exact Bool.false_ne_true), if_neg (by rw [decide_eq_false (fun z => z h)]; exact Bool.false_ne_true)]
      exact ih
    · have h2 : (entK e).1 ≠ (Sum.inl m : Key) := fun z => h (Sum.inl.inj z)
      rw [if_pos (decide_eq_true h2), if_pos (decide_eq_true h), List.map_cons, ih]
theorem drop_data (m : Int) : ∀ es : List (Int × Addr × List PyData), (dropE es m).map entD = (es.map entD).filter fun x => decide (x.1 ≠ m)
  | [] => rfl
  | e :: r => by
    have ih := drop_data m r
    unfold dropE at ih ⊢
    rw [List.map_cons, List.filter_cons, List.filter_cons]
    by_cases h : e.1 = m
    · have h2 : (entD e).1 = m := h
      rw [if_neg (by rw [decide_eq_false (fun z => z h)]; exact Bool.false_ne_true), if_neg (by rw [decide_eq_false (fun z => z h2)]; exact Bool.false_ne_true)]
      exact ih
    · have h2 : (entD e).1 ≠ m := h
      rw [if_pos (decide_eq_true h), if_pos (decide_eq_true h2), List.map_cons, ih]
theorem put_nd {es : List (Int × Addr × List PyData)} {m : Int} {l : Addr} {ds : List PyData} (h : lookE es m = none) (nd : (es.map (·.1)).Nodup) : ((es ++ [(m, l, ds)]).map (·.1)).Nodup := by
  rw [List.map_append, List.nodup_append]
  refine ⟨nd, List.nodup_cons.mpr ⟨List.not_mem_nil, List.nodup_nil⟩, fun x hx y hy => ?_⟩
  obtain ⟨e, he, rfl⟩ := List.mem_map.mp hx
  rw [List.map_singleton] at hy
  rw [List.mem_singleton.mp hy]
  exact lookE_none h e he
theorem drop_nd {es : List (Int × Addr × List PyData)} {m : Int} (nd : (es.map (·.1)).Nodup) : ((dropE es m).map (·.1)).Nodup := (List.Sublist.map _ List.filter_sublist).nodup nd

/-! ### a dict compared with {} -/
def rEqE : R2 := fun x y H Q => ∃ a b ks, x = .ref a ∧ y = .ref b ∧ H a = some (.dK ks) ∧ H b = some (.dK []) ∧ Q (.bl ks.isEmpty) H
def rNeE : R2 := fun x y H Q => ∃ a b ks, x = .ref a ∧ y = .ref b ∧ H a = some (.dK ks) ∧ H b = some (.dK []) ∧ Q (.bl (!ks.isEmpty)) H
section
variable {X : Cx}
theorem op_eqE (hu : X.A.units < cLine) : OpR X (compareOp .Eq) rEqE := by
  intro pins s σ H x y v u Q I rx ry h
  obtain ⟨a, b, ks, rfl, rfl, ea, eb, q⟩ := h
  obtain rfl : v = Value.ref a := rx
  obtain rfl : u = Value.ref b := ry
  obtain ⟨_, ya, va, ra, da⟩ := (show ObjOk X.prog X.w H s.heap a (.dK ks) from I.hok a _ ea)
  obtain ⟨_, yb, vb, rb, db⟩ := (show ObjOk X.prog X.w H s.heap b (.dK []) from I.hok b _ eb)
  have lb : vb.length = 0 := rb.length.symm
  have la : va.length = ks.length := ra.length.symm
  refine PySem.W.keq_eq (knd := mixKind X.prog X.w) (r := true) ya yb da db hu (fun e => ?_) (fin_bl I q ?_)
  · have : va = [] := List.eq_nil_of_length_eq_zero (by omega)
    rw [this]
    exact .nil
  · rw [la, lb]
    cases ks <;> rfl
theorem op_neE (hu : X.A.units < cLine) : OpR X (compareOp .NotEq) rNeE := by
  intro pins s σ H x y v u Q I rx ry h
  obtain ⟨a, b, ks, rfl, rfl, ea, eb, q⟩ := h
  obtain rfl : v = Value.ref a := rx
  obtain rfl : u = Value.ref b := ry
  obtain ⟨_, ya, va, ra, da⟩ := (show ObjOk X.prog X.w H s.heap a (.dK ks) from I.hok a _ ea)
  obtain ⟨_, yb, vb, rb, db⟩ := (show ObjOk X.prog X.w H s.heap b (.dK []) from I.hok b _ eb)
  have lb : vb.length = 0 := rb.length.symm
  have la : va.length = ks.length := ra.length.symm
  refine PySem.W.keq_ne (knd := mixKind X.prog X.w) (r := true) ya yb da db hu (fun e => ?_) (fin_bl I q ?_)
  · have : va = [] := List.eq_nil_of_length_eq_zero (by omega)
    rw [this]
    exact .nil
  · rw [la, lb]
    cases ks <;> rfl
end

/-! ### a comprehension over a locked dict's keys -/
theorem lc_keys {d : Addr} {o : Obj} {kvs : List (Key × V)} {g : TG} {tt : TT} {te : TE} {vs : List Nat} {σ : L2.St} {H1 : Hp} {D : Addr} {Qd : Hp → Prop} (Pv : Nat → Hp → Prop) (h0 : Pv 0 (upd H1 D (.lst []))) (hl : ∀ i H, i ≤ kvs.length → Pv i H → H d = some (.frz o (.dK kvs)))
    (hs : ∀ i k v H, kvs[i]? = some (k, v) → Pv i H → g (kV k) (wipe σ vs) H fun σ2 H2 => wipe σ2 vs = wipe σ vs ∧ tt σ2 H2 fun b H3 =>
      if b = true then te σ2 H3 fun y H4 => ∃ acc, H4 D = some (.lst acc) ∧ acc.length < sizeLine ∧ Pv (i + 1) (upd H4 D (.lst (acc ++ [y]))) else Pv (i + 1) H3) (hd : ∀ H, Pv kvs.length H → Qd H) :
    ∃ W : Nat → Nat → Hp → Prop, (∃ m, W 0 m (upd H1 D (.lst []))) ∧ ∀ i m H, W i m H →
      ((Itk d o kvs).stop i H ∧ Qd H) ∨ ((Itk d o kvs).go i H ∧ ∃ Nx : Hp → Prop, (∀ H', Nx H' → ∃ m', m' < m ∧ W (i + 1) m' H') ∧ ∀ x H', (Itk d o kvs).yld i H x H' → g x (wipe σ vs) H' fun σ2 H2 => wipe σ2 vs = wipe σ vs ∧ tt σ2 H2 fun b H3 =>
        if b = true then te σ2 H3 fun y H4 => ∃ acc, H4 D = some (.lst acc) ∧ acc.length < sizeLine ∧ Nx (upd H4 D (.lst (acc ++ [y]))) else Nx H3) := by
  refine ⟨fun i m H => m = kvs.length - i ∧ i ≤ kvs.length ∧ Pv i H, ⟨kvs.length, by simp, Nat.zero_le _, h0⟩, ?_⟩
  rintro i m H ⟨rfl, hi, p⟩
  have q := hl i H hi p
  by_cases hlt : i < kvs.length
  · refine .inr ⟨⟨q, hlt⟩, Pv (i + 1), fun H' p' => ⟨kvs.length - (i + 1), by omega, rfl, hlt, p'⟩, fun x H' y => ?_⟩
    obtain ⟨rfl, k, v, hk, rfl⟩ := y
    exact hs i k v _ hk p
  · have e : i = kvs.length := by omega
    subst e
    exact .inl ⟨⟨q, Nat.le_refl _⟩, hd H p⟩
def fullW (cl : List Shelf) : List Str := (cl.filter fun s => !s.ents.isEmpty).map (·.ware)
theorem fullW_le (cl : List Shelf) : (fullW cl).length ≤ cl.length := by
  unfold fullW
  rw [List.length_map]
  exact List.length_filter_le _ _
/-- the wares whose cell is not empty, in the order of the rows -/
theorem read_full {K : PySem.W.Frag} {A : List Addr} {H : Hp} {T r : Addr} {cl : List Shelf} {i j : Nat} {σ : L2.St} {Q : VK} (B : BoxOk K A H r cl) (t : GxR.TabG H T) (hj : σ[j]? = some (some (.ref r))) (hij : i ≠ j) (hi : i < σ.length) (hl : cl.length ≤ 1000)
    (q : ∀ M H', Kp T H H' → H M = none → H' M = some (.lst ((fullW cl).map V.str)) → Q (.ref M) H') :
    tLockE (tLc (iKeys (tVar j)) (gName i) (tTest (tOp rNeE (tDGet (tVar j) (tVar i)) tDNewK)) (tVar i) [i]) σ H Q := by
  have rT := B.foot_ne t r (List.mem_cons_self ..)
  have na := B.na
  rw [List.nodup_cons] at na
  refine ⟨r, _, B.dc, True.intro, fun od => ?_⟩
  have tL : GxR.TabG (upd H r (.frz od (.dK (cl.map keyW)))) T := tab_upd t rT
  have eqL : ∀ b, b ≠ r → upd H r (.frz od (.dK (cl.map keyW))) b = H b := fun b hb => upd_ne hb
  have hr : upd H r (.frz od (.dK (cl.map keyW))) r = some (.frz od (.dK (cl.map keyW))) := upd_same
  generalize upd H r (.frz od (.dK (cl.map keyW))) = HL at tL eqL hr ⊢
  refine ⟨_, hj, r, od, rfl, .inl ⟨_, hr, fun D nD => ?_⟩⟩
  have DT := tab_nn tL nD
  have Dr : D ≠ r := fun z => by rw [z, hr] at nD; cases nD
  refine lc_keys (d := r) (o := od) (kvs := cl.map keyW) (fun n H' => Kp T HL H' ∧ H' D = some (.lst ((fullW (cl.take n)).map V.str))) ⟨Kp.new tL nD, upd_same⟩
    (fun n H' _ hm => hm.1.keep r _ rT hr) (fun n k v H' hk hm => ?_) (fun H' hm => ?_)
  · obtain ⟨kk, hD⟩ := hm
    have hnl : n < cl.length := by
      have := (List.getElem?_eq_some_iff.mp hk).1
      rw [List.length_map] at this
      exact this
    rw [List.getElem?_map, List.getElem?_eq_getElem hnl] at hk
    have hk' : keyW cl[n] = (k, v) := Option.some.inj hk
    have ek : k = Sum.inr cl[n].ware := (congrArg Prod.fst hk').symm
    subst ek
    have hs := B.sh _ (List.getElem_mem hnl)
    have am : cl[n].at_ ∈ cl.map (·.at_) := List.mem_map.mpr ⟨_, List.getElem_mem hnl, rfl⟩
    have ar : cl[n].at_ ≠ r := fun z => na.1 (by rw [← z]; exact am)
    have aT := B.foot_ne t _ (List.mem_cons_of_mem _ am)
    have ha : H' cl[n].at_ = some (.dK (cl[n].ents.map entK)) := kk.keep _ _ aT (by rw [eqL _ ar]; exact hs.dc)
    have hrr : H' r = some (.frz od (.dK (cl.map keyW))) := kk.keep r _ rT hr
    have w1 : wipe σ [i] = σ.set i none := rfl
    have s2j : ((wipe σ [i]).set i (some (V.str cl[n].ware)))[j]? = some (some (.ref r)) := by rw [w1, List.set_set, List.getElem?_set_ne hij]; exact hj
    have s2i : ((wipe σ [i]).set i (some (V.str cl[n].ware)))[i]? = some (some (.str cl[n].ware)) := by rw [w1, List.set_set, List.getElem?_set_self hi]
    have elook : look cl cl[n].ware = some cl[n] := look_of B.nd (List.getElem_mem hnl) rfl
    have gD : DGet H' r (.str cl[n].ware) (some (.ref cl[n].at_)) := by
      refine .inl ⟨cl.map keyW, Sum.inr cl[n].ware, .inr ⟨od, hrr⟩, rfl, ?_⟩
      rw [look_val, elook]
      rfl
    have etake : cl.take (n + 1) = cl.take n ++ [cl[n]] := by rw [List.take_add_one, List.getElem?_eq_getElem hnl]; rfl
    refine ⟨by show wipe ((wipe σ [i]).set i _) [i] = wipe σ [i]; show ((σ.set i none).set i _).set i none = σ.set i none; rw [List.set_set, List.set_set], ?_⟩
    refine ⟨_, s2j, _, s2i, r, _, rfl, gD, fun d nd => ?_⟩
    have k2 := Kp.new (o := HO.dK []) kk.tab nd
    have ha2 : upd H' d (.dK []) cl[n].at_ = some (.dK (cl[n].ents.map entK)) := by rw [upd_ne (ne_of_none ha nd)]; exact ha
    refine ⟨cl[n].at_, d, _, rfl, rfl, ha2, upd_same, _, rfl, ?_⟩
    have hD2 := k2.lst hD
    cases he : cl[n].ents.isEmpty with
    | true =>
      have e1 : ((cl[n].ents.map entK).isEmpty) = true := by
        rw [List.isEmpty_iff] at he
        rw [he]
        rfl
      rw [e1]
      refine iteF ⟨kk.trans k2, ?_⟩
      have ef : fullW (cl.take (n + 1)) = fullW (cl.take n) := by
        unfold fullW
        rw [etake, List.filter_append, List.filter_cons, if_neg (by rw [he]; decide), List.filter_nil, List.append_nil]
      rw [ef]
      exact hD2
    | false =>
      have e1 : ((cl[n].ents.map entK).isEmpty) = false := by
        cases hz : cl[n].ents with
        | nil => rw [hz] at he; cases he
        | cons a b => rfl
      rw [e1]
      refine iteT ⟨_, s2i, _, hD2, ?_, (kk.trans k2).set nD DT, ?_⟩
      · rw [List.length_map]
        have := fullW_le (cl.take n)
        rw [List.length_take] at this
        exact small1000 (by omega)
      · have ef : fullW (cl.take (n + 1)) = fullW (cl.take n) ++ [cl[n].ware] := by
          unfold fullW
          rw [etake, List.filter_append, List.filter_cons, if_pos (by rw [he]; rfl), List.filter_nil, List.map_append]
          rfl
        rw [upd_same, ef, List.map_append]
        rfl
  · obtain ⟨kk, hD⟩ := hm
    have hrr : H' r = some (.frz od (.dK (cl.map keyW))) := kk.keep r _ rT hr
    rw [List.length_map, List.take_length] at hD
    refine ⟨hrr, q D _ ⟨t, tab_upd kk.tab rT, fun b o hb e => ?_⟩ (by rw [← eqL D Dr]; exact nD) (by rw [upd_ne Dr]; exact hD)⟩
    by_cases hbr : b = r
    · rw [hbr, upd_same, ← B.dc, ← hbr]
      exact e
    · rw [upd_ne hbr]
      exact kk.keep b o hb (by rw [eqL b hbr]; exact e)
end Pk

set_option Elab.async false
set_option linter.all false
set_option maxRecDepth 100000
set_option maxHeartbeats 4000000
namespace Pk
open PySem PySem.Spec PyProof.Rows L2
/-! ### the text -/
def topS (i : Nat) : Stmt := PySem.Challenge.pw_pickfloor_k02_a_shop.main.body.getD i (.Pass ⟨0, 0, 0, 0⟩)
abbrev sWare : Stmt := topS 12
abbrev sMake : Stmt := topS 13
abbrev sNeed : Stmt := topS 14
abbrev sWithin : Stmt := topS 15
abbrev sMay : Stmt := topS 21
section
variable {P : Program} {w : World} {K : PySem.W.Frag} {mg : Str → Option Value} {base : Heap}
/-! ### is_ware -/
theorem scWare : FnScope ["thing"] ["thing"] (defScope sWare) := ⟨rfl, rfl, rfl, by decide +kernel, rfl, by decide +kernel, by decide +kernel⟩
def spWare (K : PySem.W.Frag) (T : Addr) : Sp := fun vs H Q _ => ∃ (v : V) (d : PyData), vs = [v] ∧ Dp K H v d ∧ okS d = true ∧ GxR.TabG H T ∧ ∀ H', Kp T H H' → Q (.bl (wareB d)) H'
theorem ok_ware {f c T : Addr} {oc kV doc pm ct : Value} {od an : Option Addr} {osl : Array (Option Value)} {t8 : Tok}
    (lk : K.lookup f = some ⟨oc, od, .func (PySem.W.fnOf "is_ware" "is_ware" (defArgs sWare) (defBody sWare) (defScope sWare) .none kV doc pm an (.ref c) ct), osl⟩) (hcd : PySem.W.codeIn K (.ref c) "is_ware" = true)
    (TB : GxR.TabB base mg c T) (mI : mg "type" = none) (mS : mg "str" = none) (mL : mg "len" = none) (mA : mg "all" = none) (m8 : mg "MOST_SIGNS" = some (.int 8 t8)) :
    FnOk P w K mg base CX0 1 f (PySem.W.fnOf "is_ware" "is_ware" (defArgs sWare) (defBody sWare) (defScope sWare) .none kV doc pm an (.ref c) ct) ["thing"] (spWare K T) := by
  refine fn_of lk hcd scWare (fun vs H Q E h => ?_) fun A outer s H vs Q E hr h => ?_
  · obtain ⟨v, d, rfl, _⟩ := h
    rfl
  · obtain ⟨v, d, rfl, hd, ho, ht, q⟩ := h
    suffices z : ∃ t, PSs (cxOf CX0 P w K mg base ["thing"] "is_ware" (defScope sWare) f (.ref c) A outer s H E).nox (defBody sWare) t ∧ t { nx := fun _ H' => Q .non H', rt := Q } (start ["thing"] [v]) H by
      obtain ⟨t, z1, z2⟩ := z
      exact ⟨t, z1.nox, z2⟩
    refine ⟨_, pss_cons (ps_if (PW.pt (pw_or (pt_cmpR op_notTyB (pe_callTy call_type1 (by rfl) mI boot_type (pa_cons (pv 0) pa_nil)) (pe_bltn (v := .ty "str") (by rfl) mS boot_str rfl) (nomark _))
        (pw_or1 (pt_not (pt_chain op_le op_le pe_int (pe_callB call_len_str (by rfl) mL PySem.boot_len (pa_cons (pv 0) pa_nil)) (pe_glob (v := .int 8) rfl m8 ⟨_, rfl⟩))))))
        (pss_one (ps_ret pe_bl)) pss_nil)
      (pss_one (ps_ret (GxR.pe_allS hr (by rfl) mA (by decide +kernel) TB rfl (x := "sign") (gens rfl rfl (by decide +kernel) (by decide +kernel) (by decide +kernel) (by decide +kernel)) (pv 0) (elt_az rfl (by decide +kernel)) (fun _ => rfl)))), ?_⟩
    cases e : isStrD d with
    | false =>
      refine ⟨v, rfl, v, _, rfl, tyb_of hd, _, "str", rfl, rfl, _, rfl, tyN_no (tyN_str d) e ?_⟩
      have z := q H (Kp.refl ht)
      rw [wareB_no e] at z
      exact z
    | true =>
      obtain ⟨x, rfl⟩ := isStrD_ex e
      cases hd
      have hx : x.length ≤ 1000 := okS_len ho
      refine ⟨_, rfl, _, _, rfl, tyb_of (.str x), _, "str", rfl, rfl, _, rfl, tyN_yes (tyN_str (.str x)) rfl ?_⟩
      -- not 1 <= len(thing) <= 8
      refine ⟨.str x, rfl, x, rfl, line1000 hx, _, _, rfl, rfl, ?_⟩
      refine ⟨_, rfl, iteD (fun h1 => ?_) (fun h1 => ?_)⟩
      · refine ⟨_, _, rfl, rfl, _, rfl, iteN (fun h8 => ?_) (fun h8 => ?_)⟩
        · have z := q H (Kp.refl ht)
          rw [show wareB (.str x) = false by
            show (decide (1 ≤ x.length) && decide (x.length ≤ 8) && x.cps.toList.all azB) = false
            rw [decide_eq_false (show ¬ x.length ≤ 8 by omega), Bool.and_false, Bool.false_and]] at z
          exact z
        · refine ⟨_, rfl, x, rfl, ht, fun H2 h2 => ?_⟩
          have z := q H2 (Kp.of_tabbed ht h2)
          rw [show wareB (.str x) = x.cps.toList.all azB by
            show (decide (1 ≤ x.length) && decide (x.length ≤ 8) && x.cps.toList.all azB) = _
            rw [decide_eq_true (show x.length ≤ 8 by omega), decide_eq_true (show 1 ≤ x.length by omega), Bool.true_and, Bool.true_and]] at z
          exact z
      · refine ⟨_, rfl, iteT ?_⟩
        have z := q H (Kp.refl ht)
        rw [show wareB (.str x) = false by
          show (decide (1 ≤ x.length) && decide (x.length ≤ 8) && x.cps.toList.all azB) = false
          rw [decide_eq_false (show ¬ 1 ≤ x.length by omega), Bool.false_and, Bool.false_and]] at z
        exact z

/-! ### within -/
theorem scWithin : FnScope ["make", "low", "high"] ["make", "low", "high"] (defScope sWithin) := ⟨rfl, rfl, rfl, by decide +kernel, rfl, by decide +kernel, by decide +kernel⟩
def spWithin : Sp := fun vs H Q _ => ∃ (m a b : Int), vs = [.int m, .int a, .int b] ∧ Q (.bl (decide (a ≤ m) && decide (m ≤ b))) H
theorem ok_within {f : Addr} {fd : FuncData} (F : Fun K "within" "within" sWithin f fd) : FnOk P w K mg base CX0 1 f fd ["make", "low", "high"] spWithin := by
  refine F.ok scWithin (fun vs H Q E h => ?_) (fun cdv A outer s H vs Q E hr h => ?_)
  · obtain ⟨m, a, b, rfl, _⟩ := h
    rfl
  · obtain ⟨m, a, b, rfl, q⟩ := h
    refine ⟨_, pss_one (ps_ret (pe_chain op_le op_le (pv 1) (pv 0) (pv 2))), ?_⟩
    refine ⟨_, rfl, _, rfl, _, _, rfl, rfl, _, rfl, iteD (fun h1 => ?_) (fun h1 => ?_)⟩
    · refine ⟨_, rfl, _, _, rfl, rfl, ?_⟩
      rw [decide_eq_true h1, Bool.true_and] at q
      exact q
    · rw [decide_eq_false h1, Bool.false_and] at q
      exact q
/-! ### is_make -/
theorem scMake : FnScope ["thing"] ["thing"] (defScope sMake) := ⟨rfl, rfl, rfl, by decide +kernel, rfl, by decide +kernel, by decide +kernel⟩
def spMake (K : PySem.W.Frag) : Sp := fun vs H Q _ => ∃ (v : V) (d : PyData), vs = [v] ∧ Dp K H v d ∧ Q (.bl (makeB d)) H
theorem ok_make {f fW : Addr} {fd fdW : FuncData} {t1 t9 : Tok} (F : Fun K "is_make" "is_make" sMake f fd) (FW : Fun K "within" "within" sWithin fW fdW) (bW : Binds K fdW ["make", "low", "high"] []) (gW : mg "within" = some (.ref fW))
    (mI : mg "type" = none) (mN : mg "int" = none) (m1 : mg "LEAST_MAKE" = some (.int 1 t1)) (m9 : mg "MOST_MAKE" = some (.int 999 t9)) : FnOk P w K mg base CX0 2 f fd ["thing"] (spMake K) := by
  have GW : FnOk P w K mg base CX0 1 fW fdW ["make", "low", "high"] spWithin := ok_within FW
  refine F.ok scMake (fun vs H Q E h => ?_) (fun cdv A outer s H vs Q E hr h => ?_)
  · obtain ⟨v, d, rfl, _⟩ := h
    rfl
  · obtain ⟨v, d, rfl, hd, q⟩ := h
    refine ⟨_, pss_one (ps_ret (pe_and (pe_cmpR op_isTyB (pe_callTy call_type1 (by rfl) mI boot_type (pa_cons (pv 0) pa_nil)) (pe_bltn (v := .ty "int") (by rfl) mN boot_int rfl) (nomark _))
      (pe_one (pe_call GW hr (by rfl) gW FW.kp bW .nil pass0 (pa_cons (pv 0) (pa_cons (pe_glob (v := .int 1) rfl m1 ⟨_, rfl⟩) (pa_cons (pe_glob (v := .int 999) rfl m9 ⟨_, rfl⟩) pa_nil))))))), ?_⟩
    refine ⟨v, rfl, v, _, rfl, tyb_of hd, _, "int", rfl, rfl, _, rfl, ?_⟩
    cases e : isI d with
    | false =>
      rw [isI_no e] at q
      exact tyI_no (tyN_int d) e q
    | true =>
      obtain ⟨i, rfl⟩ := isI_ex e
      cases hd
      exact tyI_yes (tyN_int (.int i)) rfl ⟨_, rfl, i, 1, 999, rfl, q⟩
/-! ### is_need -/
theorem scNeed : FnScope ["thing", "ware", "low", "high"] ["thing"] (defScope sNeed) := ⟨rfl, rfl, rfl, by decide +kernel, rfl, by decide +kernel, by decide +kernel⟩
def spNeed (K : PySem.W.Frag) (T : Addr) : Sp := fun vs H Q _ => ∃ (v : V) (d : PyData), vs = [v] ∧ Dp K H v d ∧ okT d = true ∧ GxR.TabG H T ∧ ∀ H', Kp T H H' → Q (.bl (needB d)) H'
theorem ok_need {f fW fM T : Addr} {fd fdW fdM : FuncData} (F : Fun K "is_need" "is_need" sNeed f fd)
    (GW : FnOk P w K mg base CX0 1 fW fdW ["thing"] (spWare K T)) (kW : PySem.W.keepIn K (.ref fW) = true) (bW : Binds K fdW ["thing"] []) (gW : mg "is_ware" = some (.ref fW))
    (GM : FnOk P w K mg base CX0 2 fM fdM ["thing"] (spMake K)) (kM : PySem.W.keepIn K (.ref fM) = true) (bM : Binds K fdM ["thing"] []) (gM : mg "is_make" = some (.ref fM))
    (mI : mg "type" = none) (mT : mg "tuple" = none) (mL : mg "len" = none) : FnOk P w K mg base CX0 3 f fd ["thing"] (spNeed K T) := by
  refine F.ok scNeed (fun vs H Q E h => ?_) (fun cdv A outer s H vs Q E hr h => ?_)
  · obtain ⟨v, d, rfl, _⟩ := h
    rfl
  · obtain ⟨v, d, rfl, hd, ho, ht, q⟩ := h
    have hr1 : Room 1 _ := hr.mono (by decide)
    refine ⟨_, pss_cons (ps_if (PW.pt (pw_or (pt_cmpR op_notTyB (pe_callTy call_type1 (by rfl) mI boot_type (pa_cons (pv 0) pa_nil)) (pe_bltn (v := .ty "tuple") (by rfl) mT boot_tuple rfl) (nomark _))
        (pw_or1 (pt_cmpR op_ne (pe_callB call_len_seq (by rfl) mL PySem.boot_len (pa_cons (pv 0) pa_nil)) pe_int (nomark _)))))
        (pss_one (ps_ret pe_bl)) pss_nil)
      (pss_cons (ps_asg (pv 0) (pg_tup (by rfl) (pgs_cons (pg_name (i := 1) scNeed.nd rfl (.inl rfl)) (pgs_cons (pg_name (i := 2) scNeed.nd rfl (.inl rfl)) (pgs_cons (pg_name (i := 3) scNeed.nd rfl (.inl rfl)) pgs_nil)))))
      (pss_one (ps_ret (pe_and (pe_call GW hr1 (by rfl) gW kW bW .nil pass0 (pa_cons (pv 1) pa_nil))
        (pe_and (pe_call GM hr (by rfl) gM kM bM .nil pass0 (pa_cons (pv 2) pa_nil))
        (pe_and (pe_call GM hr (by rfl) gM kM bM .nil pass0 (pa_cons (pv 3) pa_nil))
        (pe_one (pe_cmpR op_le (pv 2) (pv 3) (nomark _))))))))), ?_⟩
    have no : needB d = false → Q (.bl false) H := fun e => by
      have z := q H (Kp.refl ht)
      rw [e] at z
      exact z
    cases e : isTupD d with
    | false =>
      refine ⟨v, rfl, v, _, rfl, tyb_of hd, _, "tuple", rfl, rfl, _, rfl, tyN_no (tyN_tup d) e ?_⟩
      exact no (by cases d <;> first | rfl | cases e)
    | true =>
      refine ⟨v, rfl, v, _, rfl, tyb_of hd, _, "tuple", rfl, rfl, _, rfl, tyN_yes (tyN_tup d) e ?_⟩
      obtain ⟨ds, rfl⟩ : ∃ ds, d = .tuple ds := by cases d <;> first | exact ⟨_, rfl⟩ | cases e
      cases hd with
      | @tup a xs _ hT hA =>
        have hl := dpAll_len hA
        refine ⟨.ref a, rfl, a, xs, rfl, .inr hT, ?_⟩
        refine ⟨rfl, _, rfl, iteN (fun h3 => ?_) (fun h3 => ?_)⟩
        · refine no (needB_len fun z => h3 ?_)
          show V.int _ = V.int 3
          rw [show xs.length = 3 by omega] <;> rfl
        · have h3' : xs.length = 3 := by
            have z : ((xs.length : Nat) : Int) = 3 := V.int.inj h3
            omega
          obtain ⟨da, db, dc, rfl⟩ : ∃ a b c, ds = [a, b, c] := by
            match ds, hl.symm.trans h3' with
            | [a, b, c], _ => exact ⟨a, b, c, rfl⟩
          have od : okS da = true := by
            have z : (([da, db, dc].all okS) && _) = true := ho
            simp only [List.all_cons, Bool.and_eq_true] at z
            exact z.1.1
          cases hA with
          | @cons x _ _ _ hx hA =>
          cases hA with
          | @cons y _ _ _ hy hA =>
          cases hA with
          | @cons z _ _ _ hz hA =>
          cases hA
          refine ⟨_, rfl, a, [x, y, z], rfl, hT, rfl, x, [y, z], rfl, y, [z], rfl, z, [], rfl, rfl, ?_⟩
          refine ⟨x, rfl, x, da, rfl, hx, od, ht, fun H1 k1 => ⟨_, rfl, ?_⟩⟩
          have fin : ∀ b, needB (.tuple [da, db, dc]) = b → Q (.bl b) H1 := fun b e => by
            have z := q H1 k1
            rw [e] at z
            exact z
          cases ea : wareB da with
          | false => exact iteF (fin false (by show (wareB da && _ && _ && _) = false; rw [ea] <;> rfl))
          | true =>
            refine iteT ⟨y, rfl, y, db, rfl, k1.dp _ _ hy, _, rfl, ?_⟩
            cases eb : makeB db with
            | false => exact iteF (fin false (by show (wareB da && makeB db && _ && _) = false; rw [ea, eb] <;> rfl))
            | true =>
              refine iteT ⟨z, rfl, z, dc, rfl, k1.dp _ _ hz, _, rfl, ?_⟩
              cases ec : makeB dc with
              | false => exact iteF (fin false (by show (wareB da && makeB db && makeB dc && _) = false; rw [ea, eb, ec] <;> rfl))
              | true =>
                obtain ⟨i, rfl⟩ := makeB_ex eb
                obtain ⟨j, rfl⟩ := makeB_ex ec
                cases hy
                cases hz
                exact iteT ⟨_, rfl, _, rfl, _, _, rfl, rfl, fin _ (by show (wareB da && makeB (.int i) && makeB (.int j) && _) = _; rw [ea, eb, ec] <;> rfl)⟩

/-! ### _may_need -/
def wOf : PyData → Str
  | .tuple (.str a :: _) => a
  | _ => ⟨#[]⟩
def mayL (bar : List Str) : List PyData → Bool
  | [] => true
  | x :: r => needB x && !decide (wOf x ∈ bar) && mayL (bar ++ [wOf x]) r
def mayB (w : Str) : PyData → Bool
  | .list ds => decide (ds.length ≤ 6) && mayL [w] ds
  | _ => false
theorem needB_ex {d : PyData} (h : needB d = true) : ∃ a b c, d = .tuple [.str a, b, c] ∧ wareB (.str a) = true := by
  match d with
  | .tuple [a, b, c] =>
    have z : (wareB a && makeB b && makeB c && leD b c) = true := h
    simp only [Bool.and_eq_true] at z
    cases e : isStrD a with
    | false => rw [wareB_no e] at z; exact absurd z.1.1.1 Bool.false_ne_true
    | true =>
      obtain ⟨x, rfl⟩ := isStrD_ex e
      exact ⟨x, b, c, rfl, z.1.1.1⟩
  | .none => cases h
  | .bool _ => cases h
  | .int _ => cases h
  | .str _ => cases h
  | .list _ => cases h
  | .dict _ => cases h
  | .tuple [] => cases h
  | .tuple [_] => cases h
  | .tuple [_, _] => cases h
  | .tuple (_ :: _ :: _ :: _ :: _) => cases h
theorem inV_str (a : Str) : ∀ l : List Str, inV (.str a) (l.map V.str) = decide (a ∈ l)
  | [] => rfl
  | b :: r => by
    have ih := inV_str a r
    unfold inV at ih ⊢
    rw [List.map_cons, List.any_cons, ih]
    by_cases h : a = b
    · rw [decide_eq_true (show a ∈ b :: r by rw [h]; exact List.mem_cons_self ..)]
      have e : eqV (.str b) (.str a) = true := by rw [h]; simp [eqV]
      rw [e] <;> rfl
    · have e : eqV (.str b) (.str a) = false := by
        simp only [eqV]
        exact decide_eq_false (fun z => h z.symm)
      rw [e, Bool.false_or]
      by_cases h2 : a ∈ r
      · rw [decide_eq_true h2, decide_eq_true (List.mem_cons_of_mem _ h2)]
      · rw [decide_eq_false h2, decide_eq_false (fun z => (List.mem_cons.mp z).elim h h2)]
theorem flat_strs (l : List Str) : (l.map V.str).all flatV = true := by
  rw [List.all_eq_true]
  intro v hv
  obtain ⟨x, _, rfl⟩ := List.mem_map.mp hv
  rfl
theorem isLstD_ex {d : PyData} (h : isLstD d = true) : ∃ x, d = .list x := by
  cases d <;> first | exact ⟨_, rfl⟩ | cases h
def okL : PyData → Bool
  | .list ds => ds.all okT && decide (ds.length ≤ 1000)
  | _ => true
theorem scMay : FnScope ["ware", "thing", "barred", "need"] ["ware", "thing"] (defScope sMay) := ⟨rfl, rfl, rfl, by decide +kernel, rfl, by decide +kernel, by decide +kernel⟩
def spMay (K : PySem.W.Frag) (T : Addr) : Sp := fun vs H Q _ => ∃ (wx : Str) (v : V) (d : PyData), vs = [.str wx, v] ∧ Dp K H v d ∧ okL d = true ∧ GxR.TabG H T ∧ ∀ H', Kp T H H' → Q (.bl (mayB wx d)) H'
theorem ok_may {f fN T : Addr} {fd fdN : FuncData} {t6 : Tok} (F : Fun K "_may_need" "_may_need" sMay f fd)
    (GN : FnOk P w K mg base CX0 3 fN fdN ["thing"] (spNeed K T)) (kN : PySem.W.keepIn K (.ref fN) = true) (bN : Binds K fdN ["thing"] []) (gN : mg "is_need" = some (.ref fN))
    (mI : mg "type" = none) (mLi : mg "list" = none) (mL : mg "len" = none) (m6 : mg "MOST_NEEDS" = some (.int 6 t6)) : FnOk P w K mg base CX0 4 f fd ["ware", "thing"] (spMay K T) := by
  refine F.ok scMay (fun vs H Q E h => ?_) (fun cdv A outer s H vs Q E hr h => ?_)
  · obtain ⟨wx, v, d, rfl, _⟩ := h
    rfl
  · obtain ⟨wx, v, d, rfl, hd, ho, ht, q⟩ := h
    refine ⟨_, pss_cons (ps_if (PW.pt (pw_or (pt_cmpR op_notTyB (pe_callTy call_type1 (by rfl) mI boot_type (pa_cons (pv 1) pa_nil)) (pe_bltn (v := .ty "list") (by rfl) mLi boot_list rfl) (nomark _))
        (pw_or1 (pt_cmpR op_gt (pe_callB call_len_seq (by rfl) mL PySem.boot_len (pa_cons (pv 1) pa_nil)) (pe_glob (v := .int 6) rfl m6 ⟨_, rfl⟩) (nomark _)))))
        (pss_one (ps_ret pe_bl)) pss_nil)
      (pss_cons (ps_set (i := 2) scMay.nd rfl (.inl rfl) (pe_lst (pa_cons (pv 0) pa_nil)))
      (pss_cons (ps_for PassesOwn.never rfl (pi_list (pv 1)) (pg_name (i := 3) scMay.nd rfl (.inl rfl))
        (pss_cons (ps_if (PW.pt (pw_or (pt_not (pt_val (pe_call GN hr (by rfl) gN kN bN .nil pass0 (pa_cons (pv 3) pa_nil))))
            (pw_or1 (pt_cmpR op_in_seq (pe_ix ix_tup (pv 3) pe_int (fun _ _ => rfl)) (pv 2) (by rfl))))) (pss_one (ps_ret pe_bl)) pss_nil)
        (pss_one (ps_expr (pe_bm PySem.F.plainAttrs_list PySem.F.slot_list_append PySem.F.type_list_append mt_append (pv 2) (pa_cons (pe_ix ix_tup (pv 3) pe_int (fun _ _ => rfl)) pa_nil))))))
      (pss_one (ps_ret pe_bl)))), ?_⟩
    cases e : isLstD d with
    | false =>
      have z := q H (Kp.refl ht)
      rw [show mayB wx d = false by cases d <;> first | rfl | cases e] at z
      exact ⟨v, rfl, v, _, rfl, tyb_of hd, _, "list", rfl, rfl, _, rfl, tyN_no (tyN_lst d) e z⟩
    | true =>
      obtain ⟨ds, rfl⟩ := isLstD_ex e
      cases hd with
      | @lst a xs _ hA hall =>
        have hl := dpAll_len hall
        refine ⟨_, rfl, _, _, rfl, tyb_of (.lst hA hall), _, "list", rfl, rfl, _, rfl, tyN_yes (tyN_lst (.list ds)) rfl ?_⟩
        refine ⟨_, rfl, a, xs, rfl, .inl hA, _, _, rfl, rfl, _, rfl, iteD (fun h6 => ?_) (fun h6 => ?_)⟩
        · have z := q H (Kp.refl ht)
          rw [show mayB wx (.list ds) = false by
            show (decide (ds.length ≤ 6) && _) = false
            rw [decide_eq_false (show ¬ ds.length ≤ 6 by omega), Bool.false_and]] at z
          exact z
        · have fin : ∀ H', Kp T H H' → ∀ b, mayL [wx] ds = b → Q (.bl b) H' := fun H' k b eb => by
            have z := q H' k
            rw [show mayB wx (.list ds) = b by
              show (decide (ds.length ≤ 6) && mayL [wx] ds) = b
              rw [decide_eq_true (show ds.length ≤ 6 by omega), Bool.true_and, eb]] at z
            exact z
          have hoT : ∀ x ∈ ds, okT x = true := by
            have z : (ds.all okT && _) = true := ho
            rw [Bool.and_eq_true, List.all_eq_true] at z
            exact z.1
          refine ⟨_, rfl, (by show (1 : Nat) ≤ sizeLine; decide), fun b nb => ?_⟩
          have k1 := Kp.new (o := HO.lst [.str wx]) ht nb
          have bT := tab_nn ht nb
          refine ⟨_, rfl, a, rfl, ⟨_, k1.seq hA⟩, for_list (K := K) (a := a) (xs := xs) (fun i σ' H' => ∃ (x : Option V) (bar : List Str), σ' = [some (.str wx), some (.ref a), some (.ref b), x] ∧ Kp T H H' ∧ H' b = some (.lst (bar.map V.str)) ∧ bar.length = i + 1 ∧ mayL [wx] ds = mayL bar (ds.drop i))
            ⟨none, [wx], rfl, k1, upd_same, rfl, by rw [List.drop_zero]⟩ (fun i σ' H' _ ⟨_, _, _, kk, _⟩ => kk.seq hA) ?_ ?_⟩
          · rintro i x σ' H' hi ⟨x3, bar, rfl, kk, hb, hbl, em⟩
            have hil : i < ds.length := by
              have := (List.getElem?_eq_some_iff.mp hi).1
              omega
            obtain ⟨x', hx', hdx⟩ := dpAll_get (Kp.dpAll kk _ _ hall) (List.getElem?_eq_getElem hil)
            have exx : x' = x := Option.some.inj (hx'.symm.trans hi)
            subst exx
            have edrop : ds.drop i = ds[i] :: ds.drop (i + 1) := List.drop_eq_getElem_cons hil
            rw [edrop] at em
            refine ⟨_, rfl, x', ds[i], rfl, hdx, hoT _ (List.getElem_mem hil), kk.tab, fun H2 k2 => ⟨_, rfl, ?_⟩⟩
            have hb2 := k2.lst hb
            cases en : needB ds[i] with
            | false =>
              refine iteT (fin H2 (kk.trans k2) false ?_)
              rw [em]
              show (needB ds[i] && _ && _) = false
              rw [en] <;> rfl
            | true =>
              refine iteF ?_
              obtain ⟨a0, b0, c0, ed, _⟩ := needB_ex en
              have hdx2 := k2.dp _ _ hdx
              rw [ed] at hdx2
              cases hdx2 with
              | @tup tp ys _ hT hys =>
                cases hys with
                | @cons y0 yr _ _ hy0 hyr =>
                  cases hy0
                  have i0 : atI (V.str a0 :: yr) 0 = some (.str a0) := atI_nat (j := 0) rfl
                  have ew : wOf ds[i] = a0 := by rw [ed]; rfl
                  have em2 : mayL [wx] ds = (!decide (a0 ∈ bar) && mayL (bar ++ [a0]) (ds.drop (i + 1))) := by
                    rw [em]
                    show (needB ds[i] && !decide (wOf ds[i] ∈ bar) && mayL (bar ++ [wOf ds[i]]) (ds.drop (i + 1))) = _
                    rw [en, ew, Bool.true_and]
                  refine ⟨_, rfl, tp, _, 0, _, rfl, rfl, hT, i0, _, rfl, b, _, rfl, .inl (.inl (.inl hb2)), rfl, flat_strs bar, ?_⟩
                  refine ⟨_, rfl, ?_⟩
                  show if (inV (.str a0) (bar.map V.str)) = true then _ else _
                  rw [inV_str]
                  refine iteD (fun hin => ?_) (fun hin => ?_)
                  · refine fin H2 (kk.trans k2) false ?_
                    rw [em2, decide_eq_true hin] <;> rfl
                  · refine ⟨_, rfl, .inl ⟨rfl, _, .inl (.inl hb2)⟩, _, rfl, tp, _, 0, _, rfl, rfl, hT, i0, b, _, _, rfl, rfl, hb2, small1000 (by rw [List.length_map]; omega), ?_⟩
                    refine ⟨_, bar ++ [a0], rfl, (kk.trans k2).set nb bT, ?_, ?_, ?_⟩
                    · rw [upd_same, List.map_append]
                      rfl
                    · rw [List.length_append, List.length_singleton, hbl]
                    · rw [em2, decide_eq_false hin] <;> rfl
          · rintro σ' H' ⟨x3, bar, rfl, kk, hb, hbl, em⟩
            refine fin H' kk true ?_
            rw [em, hl, List.drop_length]
            rfl
end
end Pk

set_option Elab.async false
set_option linter.all false
set_option maxRecDepth 100000
set_option maxHeartbeats 4000000
namespace Pk
open PySem PySem.Spec PyProof.Rows L2
abbrev sInit : Stmt := inClass (topS 20) 0
abbrev sPut : Stmt := inClass (topS 20) 1
abbrev sTake : Stmt := inClass (topS 20) 2
abbrev sMakes : Stmt := inClass (topS 20) 3
abbrev sNeeds : Stmt := inClass (topS 20) 4
abbrev sWares : Stmt := inClass (topS 20) 5
abbrev sHas : Stmt := inClass (topS 20) 6
abbrev sPlace : Stmt := inClass (topS 20) 7
/-! ### a shop -/
def flS (D : Addr) : List (Str × V) := putF "_shelves" (.ref D) []
theorem flS_look (D : Addr) : (flS D).lookup ("_shelves" : Str) = some (.ref D) := by
  unfold flS
  rw [lookup_putF, if_pos rfl]
theorem flS_no (D : Addr) {m : Str} (h : ¬ m = "_shelves") : (flS D).lookup m = none := by
  unfold flS
  rw [lookup_putF, if_neg h]
  rfl
structure ShopAt (K : PySem.W.Frag) (C : Addr) (A : List Addr) (H : Hp) (p D : Addr) (st : List Shelf) : Prop where
  ob : ∃ dx, H p = some (.ins C dx (flS D))
  bx : BoxOk K A H D st
  ne : ∀ s ∈ st, s.ents ≠ []
structure ShopT (K : PySem.W.Frag) (mg : Str → Option Value) (C : Addr) : Prop where
  cl : Cls K C
  nS : NoAttr K C "_shelves"
  len : mg "len" = none
  lst : mg "list" = none
  srt : mg "sorted" = none
def inB (st : List Shelf) : PyData → PyData → Bool
  | .str w, .int m => ((look st w).bind fun s => lookE s.ents m).isSome
  | _, _ => false
def hasB (st : List Shelf) (wd md : PyData) : Bool := wareB wd && makeB md && inB st wd md
def placeB (st : List Shelf) (w : Str) : Bool := match look st w with
  | some s => decide (s.ents.length < 8)
  | none => decide (st.length < 12)
theorem ShopAt.kept {K : PySem.W.Frag} {C T : Addr} {A F : List Addr} {H H' : Hp} {p D : Addr} {st : List Shelf} (S : ShopAt K C A H p D st) (k : Kx T F H H') (hF : ∀ f ∈ F, f ∈ A ∨ ∃ kvs, H f = some (.dK kvs)) (hFp : ∀ f ∈ F, f ∈ A → ∃ xs, H f = some (.lst xs)) (dj : ∀ f ∈ foot D st, f ∉ F) : ShopAt K C A H' p D st := by
  obtain ⟨dx, e⟩ := S.ob
  refine ⟨⟨dx, k.keep p _ (tab_ne k.t0 e fun _ z => by cases z) (fun z => ?_) e⟩, S.bx.kept k hF dj, S.ne⟩
  rcases hF p z with z2 | ⟨kvs, z2⟩
  · obtain ⟨xs, z3⟩ := hFp p z z2
    rw [e] at z3; cases z3
  · rw [e] at z2; cases z2
theorem ShopAt.keptP {K : PySem.W.Frag} {C T : Addr} {A : List Addr} {H H' : Hp} {p D : Addr} {st : List Shelf} (S : ShopAt K C A H p D st) (k : Kp T H H') : ShopAt K C A H' p D st :=
  S.kept (F := []) (.of k) (fun f hf => by cases hf) (fun f hf => by cases hf) (fun f _ hf => by cases hf)
section
variable {P : Program} {w : World} {K : PySem.W.Frag} {mg : Str → Option Value} {base : Heap}
/-! ### __init__ -/
theorem scInit : FnScope ["self"] ["self"] (defScope sInit) := ⟨rfl, rfl, rfl, by decide +kernel, rfl, by decide +kernel, by decide +kernel⟩
def spInit (C : Addr) : Sp := fun vs H Q _ => ∃ (p dx : Addr), vs = [.ref p] ∧ H p = some (.ins C dx []) ∧ ∀ D, H D = none → Q .non (upd (upd H D (.dK [])) p (.ins C dx (flS D)))
theorem ok_init {f C : Addr} {fd : FuncData} (F : Fun K "__init__" "Shop.__init__" sInit f fd) (T : ShopT K mg C) : FnOk P w K mg base CX0 1 f fd ["self"] (spInit C) := by
  refine F.ok scInit (fun vs H Q E h => ?_) (fun cdv A outer s H vs Q E hr h => ?_)
  · obtain ⟨p, dx, rfl, _⟩ := h
    rfl
  · obtain ⟨p, dx, rfl, hp, q⟩ := h
    refine ⟨_, pss_one (ps_fld (pv 0) pe_dnewK rfl), ?_⟩
    intro D hD
    exact ⟨_, rfl, p, C, dx, [], rfl, (by rw [upd_ne (ne_of_none hp hD)]; exact hp), T.cl, T.nS, (by show 0 < 1000; decide), q D hD⟩
/-! ### _has -/
theorem scHas : FnScope ["self", "ware", "make"] ["self", "ware", "make"] (defScope sHas) := ⟨rfl, rfl, rfl, by decide +kernel, rfl, by decide +kernel, by decide +kernel⟩
def spHas (K : PySem.W.Frag) (C Tb : Addr) : Sp := fun vs H Q _ => ∃ (A : List Addr) (p D : Addr) (st : List Shelf) (wv mv : V) (wd md : PyData), vs = [.ref p, wv, mv] ∧ ShopAt K C A H p D st ∧ Dp K H wv wd ∧ okS wd = true ∧ Dp K H mv md ∧ GxR.TabG H Tb ∧
  ∀ H', Kp Tb H H' → Q (.bl (hasB st wd md)) H'
theorem ok_has {f C Tb fW fM : Addr} {fd fdW fdM : FuncData} (F : Fun K "_has" "Shop._has" sHas f fd) (T : ShopT K mg C)
    (GW : FnOk P w K mg base CX0 1 fW fdW ["thing"] (spWare K Tb)) (kW : PySem.W.keepIn K (.ref fW) = true) (bW : Binds K fdW ["thing"] []) (gW : mg "is_ware" = some (.ref fW))
    (GM : FnOk P w K mg base CX0 2 fM fdM ["thing"] (spMake K)) (kM : PySem.W.keepIn K (.ref fM) = true) (bM : Binds K fdM ["thing"] []) (gM : mg "is_make" = some (.ref fM)) :
    FnOk P w K mg base CX0 3 f fd ["self", "ware", "make"] (spHas K C Tb) := by
  refine F.ok scHas (fun vs H Q E h => ?_) (fun cdv A outer s H vs Q E hr h => ?_)
  · obtain ⟨A, p, D, st, wv, mv, wd, md, rfl, _⟩ := h
    rfl
  · obtain ⟨A, p, D, st, wv, mv, wd, md, rfl, S, hw, ho, hm, ht, q⟩ := h
    have hu := hu_of hr
    refine ⟨_, pss_one (ps_ret (pe_and (pe_call GW (hr.mono (by decide)) (by rfl) gW kW bW .nil pass0 (pa_cons (pv 1) pa_nil))
      (pe_and (pe_call GM hr (by rfl) gM kM bM .nil pass0 (pa_cons (pv 2) pa_nil))
      (pe_one (pe_cmp (pc_din hu (pv 2) (pe_dget2 hu (pe_fld (pv 0) rfl) (pv 1) pe_dnewK ⟨rfl, rfl, rfl, rfl⟩)) rfl))))), ?_⟩
    refine ⟨_, rfl, wv, wd, rfl, hw, ho, ht, fun H1 k1 => ⟨_, rfl, ?_⟩⟩
    have fin : ∀ H', Kp Tb H H' → ∀ b, hasB st wd md = b → Q (.bl b) H' := fun H' k b eb => by
      have z := q H' k
      rw [eb] at z
      exact z
    cases ea : wareB wd with
    | false => exact iteF (fin H1 k1 false (by show (wareB wd && _ && _) = false; rw [ea] <;> rfl))
    | true =>
      refine iteT ⟨_, rfl, mv, md, rfl, k1.dp _ _ hm, _, rfl, ?_⟩
      cases eb : makeB md with
      | false => exact iteF (fin H1 k1 false (by show (wareB wd && makeB md && _) = false; rw [ea, eb] <;> rfl))
      | true =>
        obtain ⟨m, rfl⟩ := makeB_ex eb
        obtain ⟨x, rfl⟩ : ∃ x, wd = .str x := by
          cases es : isStrD wd with
          | false => rw [wareB_no es] at ea; cases ea
          | true => exact isStrD_ex es
        have hw1 := hw
        cases hw
        cases hm
        have S1 := S.keptP k1
        obtain ⟨dx, e1⟩ := S1.ob
        refine iteT ⟨_, rfl, _, rfl, p, C, dx, _, _, rfl, e1, T.cl, T.nS, flS_look D, D, rfl, .inl ⟨_, .inl S1.bx.dc⟩, _, rfl, fun d nd => ?_⟩
        have k2 := Kp.new (o := HO.dK []) k1.tab nd
        have S2 := S1.keptP k2
        have eh : hasB st (.str x) (.int m) = ((look st x).bind fun s => lookE s.ents m).isSome := by
          show (wareB (.str x) && makeB (.int m) && _) = _
          rw [ea, eb] <;> rfl
        refine ⟨_, DGet.k (k := Sum.inr x) S2.bx.dc, ?_⟩
        rw [look_val]
        cases el : look st x with
        | none =>
          refine ⟨d, _, rfl, DGet.k (k := Sum.inl m) (kvs := []) upd_same, ?_⟩
          exact fin _ (k1.trans k2) _ (by rw [eh, el]; rfl)
        | some s =>
          have hs := (S2.bx.sh s (look_mem el).1).dc
          refine ⟨s.at_, _, rfl, DGet.k (k := Sum.inl m) hs, ?_⟩
          rw [lookE_val]
          exact fin _ (k1.trans k2) _ (by
            rw [eh, el]
            show (lookE s.ents m).isSome = _
            cases lookE s.ents m <;> rfl)
/-! ### _has_place -/
theorem scPlace : FnScope ["self", "ware"] ["self", "ware"] (defScope sPlace) := ⟨rfl, rfl, rfl, by decide +kernel, rfl, by decide +kernel, by decide +kernel⟩
def spPlace (K : PySem.W.Frag) (C : Addr) : Sp := fun vs H Q _ => ∃ (A : List Addr) (p D : Addr) (st : List Shelf) (x : Str), vs = [.ref p, .str x] ∧ ShopAt K C A H p D st ∧ Q (.bl (placeB st x)) H
theorem ok_place {f C : Addr} {fd : FuncData} {t8 t12 : Tok} (F : Fun K "_has_place" "Shop._has_place" sPlace f fd) (T : ShopT K mg C) (m8 : mg "MOST_MAKES" = some (.int 8 t8)) (m12 : mg "MOST_WARES" = some (.int 12 t12)) :
    FnOk P w K mg base CX0 1 f fd ["self", "ware"] (spPlace K C) := by
  refine F.ok scPlace (fun vs H Q E h => ?_) (fun cdv A outer s H vs Q E hr h => ?_)
  · obtain ⟨A, p, D, st, x, rfl, _⟩ := h
    rfl
  · obtain ⟨A, p, D, st, x, rfl, S, q⟩ := h
    have hu := hu_of hr
    obtain ⟨dx, e1⟩ := S.ob
    refine ⟨_, pss_cons (ps_if (pt_cmp (pc_din hu (pv 1) (pe_fld (pv 0) rfl))) (pss_one (ps_ret (pe_cmpR op_lt (pe_callB call_lenD (by rfl) T.len PySem.boot_len (pa_cons (pe_dget hu (pe_fld (pv 0) rfl) (pv 1) (fun _ _ => rfl)) pa_nil)) (pe_glob (v := .int 8) rfl m8 ⟨_, rfl⟩) (nomark _)))) pss_nil)
      (pss_one (ps_ret (pe_cmpR op_lt (pe_callB call_lenD (by rfl) T.len PySem.boot_len (pa_cons (pe_fld (pv 0) rfl) pa_nil)) (pe_glob (v := .int 12) rfl m12 ⟨_, rfl⟩) (nomark _)))), ?_⟩
    refine ⟨_, rfl, _, rfl, p, C, dx, _, _, rfl, e1, T.cl, T.nS, flS_look D, D, _, rfl, DGet.k (k := Sum.inr x) S.bx.dc, _, rfl, ?_⟩
    rw [look_val]
    cases el : look st x with
    | none =>
      refine iteF ⟨_, rfl, p, C, dx, _, _, rfl, e1, T.cl, T.nS, flS_look D, D, _, rfl, S.bx.dc, _, _, rfl, rfl, ?_⟩
      rw [show placeB st x = decide (((st.map keyW).length : Int) < 12) by
        unfold placeB
        rw [el, List.length_map]
        by_cases h : st.length < 12
        · rw [decide_eq_true h, decide_eq_true (by omega)]
        · rw [decide_eq_false h, decide_eq_false (by omega)]] at q
      exact q
    | some s =>
      have hs := (S.bx.sh s (look_mem el).1).dc
      refine iteT ⟨_, rfl, p, C, dx, _, _, rfl, e1, T.cl, T.nS, flS_look D, _, rfl, D, .ref s.at_, rfl, ?_, s.at_, _, rfl, hs, _, _, rfl, rfl, ?_⟩
      · have z := DGet.k (k := (Sum.inr x : Key)) S.bx.dc
        rw [look_val, el] at z
        exact z
      · rw [show placeB st x = decide (((s.ents.map entK).length : Int) < 8) by
          unfold placeB
          rw [el, List.length_map]
          show decide (s.ents.length < 8) = decide ((s.ents.length : Int) < 8)
          by_cases h : s.ents.length < 8
          · rw [decide_eq_true h, decide_eq_true (by omega)]
          · rw [decide_eq_false h, decide_eq_false (by omega)]] at q
        exact q
end
end Pk

set_option Elab.async false
set_option linter.all false
set_option maxRecDepth 100000
set_option maxHeartbeats 4000000
namespace Pk
open PySem PySem.Spec PyProof.Rows L2
/-! ### what put and take leave -/
def takeS (st : List Shelf) (x : Str) (m : Int) : List Shelf := match look st x with
  | some s => if dropE s.ents m = [] then delS (setE st x (dropE s.ents m)) x else setE st x (dropE s.ents m)
  | none => st
theorem takeS_data {st : List Shelf} {x : Str} {m : Int} (v : Str) : dataOf (takeS st x m) v = if v = x then (dataOf st x).filter (fun e => decide (e.1 ≠ m)) else dataOf st v := by
  unfold takeS
  cases el : look st x with
  | none =>
    by_cases h : v = x
    · rw [if_pos h, h]
      unfold dataOf
      rw [el]
      rfl
    · rw [if_neg h]
  | some s =>
    have e0 : dataOf st x = s.ents.map entD := by unfold dataOf; rw [el]; rfl
    by_cases hd : dropE s.ents m = []
    · show dataOf (if dropE s.ents m = [] then _ else _) v = _
      rw [if_pos hd, delS_data, setE_data el]
      by_cases h : v = x
      · rw [if_pos h, if_pos h, e0, ← drop_data, hd]
        rfl
      · rw [if_neg h, if_neg h, if_neg h]
    · show dataOf (if dropE s.ents m = [] then _ else _) v = _
      rw [if_neg hd, setE_data el]
      by_cases h : v = x
      · rw [if_pos h, if_pos h, e0, drop_data]
      · rw [if_neg h, if_neg h]
theorem takeS_foot {st : List Shelf} {x : Str} {m : Int} {D : Addr} : ∀ f ∈ foot D (takeS st x m), f ∈ foot D st := by
  intro f hf
  unfold takeS at hf
  cases el : look st x with
  | none => rw [el] at hf; exact hf
  | some s =>
    rw [el] at hf
    rcases List.mem_cons.mp hf with rfl | hf
    · exact List.mem_cons_self ..
    · refine List.mem_cons_of_mem _ ?_
      by_cases hd : dropE s.ents m = []
      · have hf : f ∈ (if dropE s.ents m = [] then delS (setE st x (dropE s.ents m)) x else setE st x (dropE s.ents m)).map (fun y => y.at_) := hf
        rw [if_pos hd] at hf
        have z := (List.Sublist.map (fun y : Shelf => y.at_) (List.filter_sublist (p := fun s : Shelf => decide (s.ware ≠ x)) (l := setE st x (dropE s.ents m)))).subset hf
        rw [setE_ats] at z
        exact z
      · have hf : f ∈ (if dropE s.ents m = [] then delS (setE st x (dropE s.ents m)) x else setE st x (dropE s.ents m)).map (fun y => y.at_) := hf
        rw [if_neg hd, setE_ats] at hf
        exact hf
section
variable {P : Program} {w : World} {K : PySem.W.Frag} {mg : Str → Option Value} {base : Heap}
/-! ### take -/
theorem scTake : FnScope ["self", "ware", "make", "shelf"] ["self", "ware", "make"] (defScope sTake) := ⟨rfl, rfl, rfl, by decide +kernel, rfl, by decide +kernel, by decide +kernel⟩
def spTake (K : PySem.W.Frag) (C Tb : Addr) : Sp := fun vs H Q _ => ∃ (A : List Addr) (p D : Addr) (st : List Shelf) (x : Str) (m : Int), vs = [.ref p, .str x, .int m] ∧ ShopAt K C A H p D st ∧ okS (.str x) = true ∧ hasB st (.str x) (.int m) = true ∧ GxR.TabG H Tb ∧
  ∀ H', ShopAt K C A H' p D (takeS st x m) → Kx Tb (foot D st) H H' → Q .non H'
theorem hasB_ex {st : List Shelf} {x : Str} {m : Int} (h : hasB st (.str x) (.int m) = true) : ∃ s e, look st x = some s ∧ lookE s.ents m = some e := by
  have z : (wareB (.str x) && makeB (.int m) && ((look st x).bind fun s => lookE s.ents m).isSome) = true := h
  rw [Bool.and_eq_true] at z
  cases el : look st x with
  | none => rw [el] at z; cases z.2
  | some s =>
    rw [el] at z
    cases ee : lookE s.ents m with
    | none => have z2 : (lookE s.ents m).isSome = true := z.2; rw [ee] at z2; cases z2
    | some e => exact ⟨s, e, rfl, ee⟩
theorem ok_take {f C Tb fH : Addr} {fd fdH : FuncData} (F : Fun K "take" "Shop.take" sTake f fd) (T : ShopT K mg C)
    (GH : FnOk P w K mg base CX0 3 fH fdH ["self", "ware", "make"] (spHas K C Tb)) (bH : Binds K fdH ["self", "ware", "make"] []) (mH : Meth K C "_has" fH) :
    FnOk P w K mg base CX0 4 f fd ["self", "ware", "make"] (spTake K C Tb) := by
  refine F.ok scTake (fun vs H Q E h => ?_) (fun cdv A outer s H vs Q E hr h => ?_)
  · obtain ⟨A, p, D, st, x, m, rfl, _⟩ := h
    rfl
  · obtain ⟨A, p, D, st, x, m, rfl, S, ho, hh, ht, q⟩ := h
    have hu := hu_of hr
    refine ⟨_, pss_cons (ps_if (pt_not (pt_val (pe_meth (pv 0) T.cl mH GH hr bH .nil pass0 (pa_cons (pv 1) (pa_cons (pv 2) pa_nil))))) (pss_one ps_never) pss_nil)
      (pss_cons (ps_set (i := 3) scTake.nd rfl (.inl rfl) (pe_dget hu (pe_fld (pv 0) rfl) (pv 1) (fun _ _ => rfl)))
      (pss_cons (ps_ddel (pv 3) (pv 2))
      (pss_one (ps_if (pt_not (pt_truth (pv 3) (by intro _; rfl))) (pss_one (ps_ddel (pe_fld (pv 0) rfl) (pv 1))) pss_nil)))), ?_⟩
    obtain ⟨dx, e1⟩ := S.ob
    refine ⟨_, rfl, p, dx, _, rfl, e1, flS_no D (by decide +kernel), _, rfl, _, rfl, A, p, D, st, _, _, _, _, rfl, S, .str x, ho, .int m, ht, fun H1 k1 => ⟨_, rfl, ?_⟩⟩
    rw [hh]
    refine iteF ?_
    obtain ⟨sh, e, el, ee⟩ := hasB_ex hh
    have S1 := S.keptP k1
    obtain ⟨dx1, e2⟩ := S1.ob
    have shm := (look_mem el).1
    have hs := (S1.bx.sh sh shm).dc
    have gD : DGet H1 D (.str x) (some (.ref sh.at_)) := by
      have z := DGet.k (k := (Sum.inr x : Key)) S1.bx.dc
      rw [look_val, el] at z
      exact z
    refine ⟨_, rfl, p, C, dx1, _, _, rfl, e2, T.cl, T.nS, flS_look D, _, rfl, D, _, rfl, gD, ?_⟩
    refine ⟨_, rfl, _, rfl, sh.at_, _, Sum.inl m, rfl, hs, rfl, (by rw [lookE_val, ee]; rfl), ?_⟩
    -- the shelf without the make
    have SH := S1.bx.sh sh shm
    obtain ⟨B2, k2⟩ := S1.bx.set (es := dropE sh.ents m) k1.tab el (fun e he => SH.dp e (List.mem_filter.mp he).1) (drop_nd SH.nd)
    rw [ent_drop]
    have d2 : upd H1 sh.at_ (.dK ((dropE sh.ents m).map entK)) sh.at_ = some (.dK ((dropE sh.ents m).map entK)) := upd_same
    have o2 : upd H1 sh.at_ (.dK ((dropE sh.ents m).map entK)) p = some (.ins C dx1 (flS D)) := by
      rw [upd_ne (fun z => ?_)]
      · exact e2
      · rw [← z, e2] at hs
        cases hs
    have t2 := k2.tab
    generalize upd H1 sh.at_ (.dK ((dropE sh.ents m).map entK)) = H2 at B2 k2 d2 o2 t2 ⊢
    refine ⟨_, rfl, _, .inr (.inr ⟨_, d2, rfl⟩), ?_⟩
    by_cases hd : dropE sh.ents m = []
    · rw [hd] at B2 ⊢
      refine iteT ?_
      refine ⟨_, rfl, p, C, dx1, _, _, rfl, o2, T.cl, T.nS, flS_look D, _, rfl, D, _, Sum.inr x, rfl, B2.dc, rfl, ?_, ?_⟩
      · rw [setE_keys, look_val, el]
        rfl
      · obtain ⟨B3, k3⟩ := B2.del (w := x) t2
        have ef : takeS st x m = delS (setE st x []) x := by
          unfold takeS
          rw [el]
          show (if dropE sh.ents m = [] then _ else _) = _
          rw [if_pos hd, hd]
        have efoot : foot D (setE st x []) = foot D st := by unfold foot; rw [setE_ats]
        rw [efoot] at k3
        refine q _ ⟨⟨dx1, ?_⟩, by rw [ef]; exact B3, fun z hz => ?_⟩ ((Kx.of k1).trans (k2.trans k3))
        · rw [upd_ne (fun z => ?_)]
          · exact o2
          · have z2 := B2.dc
            rw [← z, o2] at z2
            cases z2
        · rw [ef] at hz
          obtain ⟨h1, h2⟩ := delS_mem hz
          rcases setE_mem h1 with ⟨s', _, hw', rfl⟩ | ⟨h3, _⟩
          · exact absurd hw' h2
          · exact S.ne z h3
    · have hne : (!((dropE sh.ents m).map entK).isEmpty) = true := by
        cases hz : dropE sh.ents m with
        | nil => exact absurd hz hd
        | cons a r => rfl
      rw [hne]
      refine iteF ?_
      have ef : takeS st x m = setE st x (dropE sh.ents m) := by
        unfold takeS
        rw [el]
        show (if dropE sh.ents m = [] then _ else _) = _
        rw [if_neg hd]
      refine q _ ⟨⟨dx1, o2⟩, by rw [ef]; exact B2, fun z hz => ?_⟩ ((Kx.of k1).trans k2)
      rw [ef] at hz
      rcases setE_mem hz with ⟨s', _, hw', rfl⟩ | ⟨h3, _⟩
      · exact hd
      · exact S.ne z h3
end
end Pk

set_option Elab.async false
set_option linter.all false
set_option maxRecDepth 100000
set_option maxHeartbeats 4000000
namespace Pk
open PySem PySem.Spec PyProof.Rows L2
section
variable {P : Program} {w : World} {K : PySem.W.Frag} {mg : Str → Option Value} {base : Heap}
/-! ### put -/
theorem scPut : FnScope ["self", "ware", "make", "needs"] ["self", "ware", "make", "needs"] (defScope sPut) := ⟨rfl, rfl, rfl, by decide +kernel, rfl, by decide +kernel, by decide +kernel⟩
def spPut (K : PySem.W.Frag) (C Tb : Addr) : Sp := fun vs H Q _ => ∃ (A : List Addr) (p D nd : Addr) (st : List Shelf) (x : Str) (m : Int) (xs : List V) (ds : List PyData), vs = [.ref p, .str x, .int m, .ref nd] ∧ ShopAt K C A H p D st ∧
  okS (.str x) = true ∧ wareB (.str x) = true ∧ makeB (.int m) = true ∧ H nd = some (.lst xs) ∧ DpAll K (hide A H) xs ds ∧ okL (.list ds) = true ∧ mayB x (.list ds) = true ∧ hasB st (.str x) (.int m) = false ∧ placeB st x = true ∧ GxR.TabG H Tb ∧
  (∀ a ∈ A, H a ≠ none) ∧ st.length ≤ 100 ∧
  ∀ H' st', ShopAt K C A H' p D st' → (∀ v, dataOf st' v = if v = x then dataOf st x ++ [(m, ds)] else dataOf st v) → Kx Tb (foot D st) H H' → (∀ f ∈ foot D st', f ∈ foot D st ∨ H f = none) → Q .non H'
theorem hasB_not {st : List Shelf} {x : Str} {m : Int} (h : hasB st (.str x) (.int m) = false) (hw : wareB (.str x) = true) (hm : makeB (.int m) = true) : ((look st x).bind fun s => lookE s.ents m) = none := by
  have z : (wareB (.str x) && makeB (.int m) && ((look st x).bind fun s => lookE s.ents m).isSome) = false := h
  rw [hw, hm, Bool.true_and, Bool.true_and] at z
  cases e : (look st x).bind fun s => lookE s.ents m with
  | none => rfl
  | some q => rw [e] at z; cases z
theorem ok_put {f C Tb fW fM fY fH fP : Addr} {fd fdW fdM fdY fdH fdP : FuncData} (F : Fun K "put" "Shop.put" sPut f fd) (T : ShopT K mg C)
    (GW : FnOk P w K mg base CX0 1 fW fdW ["thing"] (spWare K Tb)) (kW : PySem.W.keepIn K (.ref fW) = true) (bW : Binds K fdW ["thing"] []) (gW : mg "is_ware" = some (.ref fW))
    (GM : FnOk P w K mg base CX0 2 fM fdM ["thing"] (spMake K)) (kM : PySem.W.keepIn K (.ref fM) = true) (bM : Binds K fdM ["thing"] []) (gM : mg "is_make" = some (.ref fM))
    (GY : FnOk P w K mg base CX0 4 fY fdY ["ware", "thing"] (spMay K Tb)) (kY : PySem.W.keepIn K (.ref fY) = true) (bY : Binds K fdY ["ware", "thing"] []) (gY : mg "_may_need" = some (.ref fY))
    (GH : FnOk P w K mg base CX0 3 fH fdH ["self", "ware", "make"] (spHas K C Tb)) (bH : Binds K fdH ["self", "ware", "make"] []) (mH : Meth K C "_has" fH)
    (GP : FnOk P w K mg base CX0 1 fP fdP ["self", "ware"] (spPlace K C)) (bP : Binds K fdP ["self", "ware"] []) (mP : Meth K C "_has_place" fP) :
    FnOk P w K mg base CX0 5 f fd ["self", "ware", "make", "needs"] (spPut K C Tb) := by
  refine F.ok scPut (fun vs H Q E h => ?_) (fun cdv A outer s H vs Q E hr h => ?_)
  · obtain ⟨A, p, D, nd, st, x, m, xs, ds, rfl, _⟩ := h
    rfl
  · obtain ⟨A, p, D, nd, st, x, m, xs, ds, rfl, S, ho, hw, hm, hn, hall, hok, hmay, hhas, hpl, ht, hA, hst, q⟩ := h
    have hu := hu_of hr
    refine ⟨_, pss_cons (ps_if (pt_not (pt_val (pe_call GW (hr.mono (by decide)) (by rfl) gW kW bW .nil pass0 (pa_cons (pv 1) pa_nil)))) (pss_one ps_never) pss_nil)
      (pss_cons (ps_if (pt_not (pt_val (pe_call GM (hr.mono (by decide)) (by rfl) gM kM bM .nil pass0 (pa_cons (pv 2) pa_nil)))) (pss_one ps_never) pss_nil)
      (pss_cons (ps_if (pt_not (pt_val (pe_call GY hr (by rfl) gY kY bY .nil pass0 (pa_cons (pv 1) (pa_cons (pv 3) pa_nil))))) (pss_one ps_never) pss_nil)
      (pss_cons (ps_if (pt_val (pe_meth (pv 0) T.cl mH GH (hr.mono (by decide)) bH .nil pass0 (pa_cons (pv 1) (pa_cons (pv 2) pa_nil)))) (pss_one ps_never) pss_nil)
      (pss_cons (ps_if (pt_not (pt_val (pe_meth (pv 0) T.cl mP GP (hr.mono (by decide)) bP .nil pass0 (pa_cons (pv 1) pa_nil)))) (pss_one ps_never) pss_nil)
      (pss_one (ps_dput hu (pe_dsetd (pe_fld (pv 0) rfl) (pv 1) pe_dnewK ⟨rfl, rfl, rfl, rfl⟩) (pv 2) (pe_callTy call_list_of (by rfl) T.lst boot_list (pa_cons (pv 3) pa_nil)) rfl)))))), ?_⟩
    refine ⟨_, rfl, .str x, _, rfl, .str x, ho, ht, fun H1 k1 => ⟨_, rfl, ?_⟩⟩
    rw [hw]
    refine iteF ⟨_, rfl, .int m, _, rfl, .int m, _, rfl, ?_⟩
    rw [hm]
    have hallH : DpAll K H xs ds := dpAll_mono (fun _ _ _ e => (hide_some e).1) ds xs hall
    refine iteF ⟨_, rfl, _, rfl, x, .ref nd, .list ds, rfl, k1.dp _ _ (.lst (.inl (.inl hn)) hallH), hok, k1.tab, fun H2 k2 => ⟨_, rfl, ?_⟩⟩
    rw [hmay]
    have k12 := k1.trans k2
    have S2 := S.keptP k12
    obtain ⟨dx2, e2⟩ := S2.ob
    refine iteF ⟨_, rfl, p, dx2, _, rfl, e2, flS_no D (by decide +kernel), _, rfl, _, rfl, A, p, D, st, _, _, _, _, rfl, S2, .str x, ho, .int m, k2.tab, fun H3 k3 => ⟨_, rfl, ?_⟩⟩
    rw [hhas]
    have S3 := S2.keptP k3
    obtain ⟨dx3, e3⟩ := S3.ob
    refine iteF ⟨_, rfl, p, dx3, _, rfl, e3, flS_no D (by decide +kernel), _, rfl, A, p, D, st, x, rfl, S3, _, rfl, ?_⟩
    rw [hpl]
    have k13 := k12.trans k3
    refine iteF ⟨_, rfl, nd, xs, rfl, .inl (k13.seq (.inl (.inl hn))), fun l nl => ?_⟩
    -- the new list of needs
    have k4 := Kp.new (o := HO.lst xs) k3.tab nl
    have nlH : H l = none := k13.free nl
    have lA : l ∉ A := fun z => hA l z nlH
    have S4 := S3.keptP k4
    have k14 := k13.trans k4
    have dl : Dp K (hide A (upd H3 l (.lst xs))) (.ref l) (.list ds) := by
      refine .lst (.inl (.inl (hide_of upd_same lA))) (dpAll_mono (fun b o hs e => ?_) ds xs hall)
      obtain ⟨a1, a2⟩ := hide_some e
      exact hide_of (k14.keep b o (isSeq_ne_tab k14.t0 hs a1) a1) a2
    have t4 := k4.tab
    have nn : ∀ b, upd H3 l (.lst xs) b = none → H b = none := fun b z => k14.free z
    generalize upd H3 l (.lst xs) = H4 at S4 k14 dl t4 nn ⊢
    obtain ⟨dx4, e4⟩ := S4.ob
    refine ⟨_, rfl, p, C, dx4, _, _, rfl, e4, T.cl, T.nS, flS_look D, D, rfl, .inl ⟨_, .inl S4.bx.dc⟩, _, rfl, fun a na => ?_⟩
    have k5 := Kp.new (o := HO.dK []) t4 na
    have S5 := S4.keptP k5
    have hnh := hasB_not hhas hw hm
    refine ⟨_, Sum.inr x, S5.bx.dc, rfl, small1000 (by rw [List.length_map]; omega), fun v hv => ?_, fun hv => ?_⟩
    · -- the ware has a shelf
      rw [look_val] at hv
      cases el : look st x with
      | none => rw [el] at hv; cases hv
      | some sh =>
        rw [el] at hv hnh
        have ev : v = .ref sh.at_ := (Option.some.inj hv).symm
        subst ev
        have le : lookE sh.ents m = none := hnh
        have SH := S5.bx.sh sh (look_mem el).1
        have hl8 : sh.ents.length < 8 := by
          unfold placeB at hpl
          rw [el] at hpl
          exact of_decide_eq_true hpl
        refine ⟨_, rfl, sh.at_, _, rfl, DPut.k (k := Sum.inl m) SH.dc (small1000 (by rw [List.length_map]; omega)), ?_⟩
        rw [ent_put (ds := ds) le]
        have dl5 := (Kx.of (A := []) k5).dpA (A := A) (fun f hf => by cases hf) dl
        obtain ⟨B6, k6⟩ := S5.bx.set (es := sh.ents ++ [(m, l, ds)]) k5.tab el (fun e he => by
          rcases List.mem_append.mp he with he | he
          · exact SH.dp e he
          · rw [List.mem_singleton.mp he]; exact dl5) (put_nd le SH.nd)
        obtain ⟨dx5, e5⟩ := S5.ob
        refine q _ _ ⟨⟨dx5, ?_⟩, B6, fun z hz => ?_⟩ (fun v => ?_) ((Kx.of (k14.trans k5)).trans k6) (fun f hf => .inl ?_)
        · rw [upd_ne (fun z => ?_)]
          · exact e5
          · have z2 := SH.dc
            rw [← z, e5] at z2
            cases z2
        · rcases setE_mem hz with ⟨s', _, _, rfl⟩ | ⟨h3, _⟩
          · exact List.append_ne_nil_of_right_ne_nil _ (List.cons_ne_nil _ _)
          · exact S.ne z h3
        · rw [setE_data el, List.map_append]
          have e0 : dataOf st x = sh.ents.map entD := by unfold dataOf; rw [el]; rfl
          rw [e0]
          rfl
        · unfold foot at hf
          rw [setE_ats] at hf
          exact hf
    · -- it has none
      rw [look_val] at hv
      cases el : look st x with
      | some sh => rw [el] at hv; cases hv
      | none =>
        obtain ⟨B6, k6⟩ := S4.bx.new (a := a) t4 el na
        have t6 := k6.tab
        have la := look_app (a := a) el x
        rw [if_pos rfl] at la
        have e6 : upd (upd H4 a (.dK [])) D (.dK (putK (st.map keyW) (Sum.inr x) (.ref a))) p = some (.ins C dx4 (flS D)) := by
          rw [upd_ne (fun z => ?_), upd_ne (fun z => ?_)]
          · exact e4
          · rw [z, na] at e4
            cases e4
          · have z2 := S4.bx.dc
            rw [← z, e4] at z2
            cases z2
        have dl6 := k6.dpA (A := A) (fun f hf => .inr (S4.bx.foot_dict f hf)) dl
        have na' : H a = none := nn a na
        generalize upd (upd H4 a (.dK [])) D (.dK (putK (st.map keyW) (Sum.inr x) (.ref a))) = H6 at B6 k6 t6 e6 dl6 ⊢
        have SH := B6.sh _ (look_mem la).1
        refine ⟨_, rfl, a, _, rfl, DPut.k (k := Sum.inl m) SH.dc (by show 0 < sizeLine; decide), ?_⟩
        show Q .non (upd H6 a (.dK (putK (([] : List (Int × Addr × List PyData)).map entK) (Sum.inl m) (.ref l))))
        rw [ent_put (es := []) (ds := ds) rfl]
        obtain ⟨B7, k7⟩ := B6.set (es := [] ++ [(m, l, ds)]) t6 la (fun e he => by
          rw [List.nil_append] at he
          rw [List.mem_singleton.mp he]
          exact dl6) (by rw [List.nil_append]; exact List.nodup_cons.mpr ⟨List.not_mem_nil, List.nodup_nil⟩)
        have ea : ∀ f ∈ foot D (st ++ [⟨x, a, []⟩]), f ∈ foot D st ∨ H f = none := fun f hf => by
          rcases List.mem_cons.mp hf with rfl | hf
          · exact .inl (List.mem_cons_self ..)
          · rw [List.map_append] at hf
            rcases List.mem_append.mp hf with hf | hf
            · exact .inl (List.mem_cons_of_mem _ hf)
            · rw [List.map_singleton] at hf
              rw [List.mem_singleton.mp hf]
              exact .inr na'
        refine q _ _ ⟨⟨dx4, ?_⟩, B7, fun z hz => ?_⟩ (fun v => ?_) ?_ (fun f hf => ?_)
        · rw [upd_ne (fun z => ?_)]
          · exact e6
          · have z2 := SH.dc
            have z3 : H6 a = some (.dK (([] : List (Int × Addr × List PyData)).map entK)) := z2
            rw [← z, e6] at z3
            cases z3
        · rcases setE_mem hz with ⟨s', _, _, rfl⟩ | ⟨h3, hne⟩
          · exact List.cons_ne_nil _ _
          · rcases List.mem_append.mp h3 with h3 | h3
            · exact S.ne z h3
            · exact absurd (by rw [List.mem_singleton.mp h3]) hne
        · rw [setE_data la]
          have e0 : dataOf st x = [] := by unfold dataOf; rw [el]; rfl
          by_cases hv : v = x
          · rw [if_pos hv, if_pos hv, e0]
            rfl
          · rw [if_neg hv, if_neg hv, data_app el]
        · -- what was kept
          refine ⟨ht, k7.tab, fun b o hb hbF e => ?_⟩
          have h4 := k14.keep b o hb e
          have h6 := k6.keep b o hb hbF h4
          refine k7.keep b o hb (fun z => ?_) h6
          rcases ea b z with z | z
          · exact hbF z
          · rw [e] at z; cases z
        · unfold foot at hf
          rw [setE_ats] at hf
          exact ea f hf
end
end Pk

set_option Elab.async false
set_option linter.all false
set_option maxRecDepth 100000
set_option maxHeartbeats 4000000
namespace Pk
open PySem PySem.Spec PyProof.Rows L2
def findD (l : List (Int × List PyData)) (m : Int) : Option (Int × List PyData) := l.find? fun e => decide (e.1 = m)
theorem findD_ents (m : Int) : ∀ es : List (Int × Addr × List PyData), findD (es.map entD) m = (lookE es m).map entD
  | [] => rfl
  | e :: r => by
    have ih := findD_ents m r
    unfold findD lookE at ih ⊢
    rw [List.map_cons, List.find?_cons, List.find?_cons]
    have e2 : decide ((entD e).1 = m) = decide (e.1 = m) := rfl
    rw [e2]
    cases decide (e.1 = m) with
    | true => rfl
    | false => exact ih
theorem hasB_data {st : List Shelf} {x : Str} {m : Int} (hw : wareB (.str x) = true) (hm : makeB (.int m) = true) : hasB st (.str x) (.int m) = (findD (dataOf st x) m).isSome := by
  show (wareB (.str x) && makeB (.int m) && ((look st x).bind fun s => lookE s.ents m).isSome) = _
  rw [hw, hm, Bool.true_and, Bool.true_and]
  unfold dataOf
  cases look st x with
  | none => rfl
  | some s =>
    show (lookE s.ents m).isSome = (findD (s.ents.map entD) m).isSome
    rw [findD_ents]
    cases lookE s.ents m <;> rfl
section
variable {P : Program} {w : World} {K : PySem.W.Frag} {mg : Str → Option Value} {base : Heap}
/-! ### makes -/
theorem scMakes : FnScope ["self", "ware"] ["self", "ware"] (defScope sMakes) := ⟨rfl, rfl, rfl, by decide +kernel, rfl, by decide +kernel, by decide +kernel⟩
def spMakes (K : PySem.W.Frag) (C Tb : Addr) : Sp := fun vs H Q _ => ∃ (A : List Addr) (p D : Addr) (st : List Shelf) (x : Str), vs = [.ref p, .str x] ∧ ShopAt K C A H p D st ∧ okS (.str x) = true ∧ wareB (.str x) = true ∧ GxR.TabG H Tb ∧ (dataOf st x).length < 64 ∧
  ∀ (ys : List Int) l H', ys.Perm ((dataOf st x).map (·.1)) → ys.Pairwise (· ≤ ·) → Kp Tb H H' → H l = none → H' l = some (.lst (ys.map V.int)) → Q (.ref l) H'
theorem ok_makes {f C Tb fW : Addr} {fd fdW : FuncData} (F : Fun K "makes" "Shop.makes" sMakes f fd) (T : ShopT K mg C)
    (GW : FnOk P w K mg base CX0 1 fW fdW ["thing"] (spWare K Tb)) (kW : PySem.W.keepIn K (.ref fW) = true) (bW : Binds K fdW ["thing"] []) (gW : mg "is_ware" = some (.ref fW)) :
    FnOk P w K mg base CX0 2 f fd ["self", "ware"] (spMakes K C Tb) := by
  refine F.ok scMakes (fun vs H Q E h => ?_) (fun cdv A outer s H vs Q E hr h => ?_)
  · obtain ⟨A, p, D, st, x, rfl, _⟩ := h
    rfl
  · obtain ⟨A, p, D, st, x, rfl, S, ho, hw, ht, h64, q⟩ := h
    have hu := hu_of hr
    refine ⟨_, pss_cons (ps_if (pt_not (pt_val (pe_call GW hr (by rfl) gW kW bW .nil pass0 (pa_cons (pv 1) pa_nil)))) (pss_one ps_never) pss_nil)
      (pss_one (ps_ret (pe_callB (call_sortedDI rfl) (by rfl) T.srt (by decide +kernel) (pa_cons (pe_dget2 hu (pe_fld (pv 0) rfl) (pv 1) pe_dnewK ⟨rfl, rfl, rfl, rfl⟩) pa_nil)))), ?_⟩
    refine ⟨_, rfl, .str x, _, rfl, .str x, ho, ht, fun H1 k1 => ⟨_, rfl, ?_⟩⟩
    rw [hw]
    have S1 := S.keptP k1
    obtain ⟨dx, e1⟩ := S1.ob
    refine iteF ⟨_, rfl, p, C, dx, _, _, rfl, e1, T.cl, T.nS, flS_look D, D, rfl, .inl ⟨_, .inl S1.bx.dc⟩, _, rfl, fun d nd => ?_⟩
    have k2 := Kp.new (o := HO.dK []) k1.tab nd
    have S2 := S1.keptP k2
    have k12 := k1.trans k2
    refine ⟨_, DGet.k (k := Sum.inr x) S2.bx.dc, ?_⟩
    rw [look_val]
    cases el : look st x with
    | none =>
      have e0 : dataOf st x = [] := by unfold dataOf; rw [el]; rfl
      refine ⟨d, [], [], rfl, .inl upd_same, rfl, by decide, fun ys l hp hs nl => ?_⟩
      have k3 := Kp.new (o := HO.lst (ys.map V.int)) k2.tab nl
      exact q ys l _ (by rw [e0]; exact hp) hs (k12.trans k3) (k12.free nl) upd_same
    | some sh =>
      have e0 : dataOf st x = sh.ents.map entD := by unfold dataOf; rw [el]; rfl
      have SH := S2.bx.sh sh (look_mem el).1
      have e3 : (dataOf st x).map (·.1) = sh.ents.map (·.1) := by
        rw [e0, List.map_map]
        rfl
      refine ⟨sh.at_, _, sh.ents.map (·.1), rfl, .inl SH.dc, ?_, ?_, fun ys l hp hs nl => ?_⟩
      · rw [List.map_map, List.map_map]
        rfl
      · rw [e0, List.length_map] at h64
        rw [List.length_map]
        exact h64
      · have k3 := Kp.new (o := HO.lst (ys.map V.int)) k2.tab nl
        exact q ys l _ (by rw [e3]; exact hp) hs (k12.trans k3) (k12.free nl) upd_same
/-! ### needs -/
theorem scNeeds : FnScope ["self", "ware", "make"] ["self", "ware", "make"] (defScope sNeeds) := ⟨rfl, rfl, rfl, by decide +kernel, rfl, by decide +kernel, by decide +kernel⟩
def spNeeds (K : PySem.W.Frag) (C Tb : Addr) : Sp := fun vs H Q _ => ∃ (A : List Addr) (p D : Addr) (st : List Shelf) (x : Str) (m : Int), vs = [.ref p, .str x, .int m] ∧ ShopAt K C A H p D st ∧ okS (.str x) = true ∧ hasB st (.str x) (.int m) = true ∧ GxR.TabG H Tb ∧
  ∀ (xs : List V) (ds : List PyData) l H', findD (dataOf st x) m = some (m, ds) → Kp Tb H H' → H l = none → H' l = some (.lst xs) → DpAll K (hide A H') xs ds → Q (.ref l) H'
theorem ok_needs {f C Tb fH : Addr} {fd fdH : FuncData} (F : Fun K "needs" "Shop.needs" sNeeds f fd) (T : ShopT K mg C)
    (GH : FnOk P w K mg base CX0 3 fH fdH ["self", "ware", "make"] (spHas K C Tb)) (bH : Binds K fdH ["self", "ware", "make"] []) (mH : Meth K C "_has" fH) :
    FnOk P w K mg base CX0 4 f fd ["self", "ware", "make"] (spNeeds K C Tb) := by
  refine F.ok scNeeds (fun vs H Q E h => ?_) (fun cdv A outer s H vs Q E hr h => ?_)
  · obtain ⟨A, p, D, st, x, m, rfl, _⟩ := h
    rfl
  · obtain ⟨A, p, D, st, x, m, rfl, S, ho, hh, ht, q⟩ := h
    have hu := hu_of hr
    refine ⟨_, pss_cons (ps_if (pt_not (pt_val (pe_meth (pv 0) T.cl mH GH hr bH .nil pass0 (pa_cons (pv 1) (pa_cons (pv 2) pa_nil))))) (pss_one ps_never) pss_nil)
      (pss_one (ps_ret (pe_callTy call_list_of (by rfl) T.lst boot_list (pa_cons (pe_dget hu (pe_dget hu (pe_fld (pv 0) rfl) (pv 1) (fun _ _ => rfl)) (pv 2) (fun _ _ => rfl)) pa_nil)))), ?_⟩
    obtain ⟨dx, e1⟩ := S.ob
    refine ⟨_, rfl, p, dx, _, rfl, e1, flS_no D (by decide +kernel), _, rfl, _, rfl, A, p, D, st, _, _, _, _, rfl, S, .str x, ho, .int m, ht, fun H1 k1 => ⟨_, rfl, ?_⟩⟩
    rw [hh]
    obtain ⟨sh, e, el, ee⟩ := hasB_ex hh
    have S1 := S.keptP k1
    obtain ⟨dx1, e2⟩ := S1.ob
    have SH := S1.bx.sh sh (look_mem el).1
    have gD : DGet H1 D (.str x) (some (.ref sh.at_)) := by
      have z := DGet.k (k := (Sum.inr x : Key)) S1.bx.dc
      rw [look_val, el] at z
      exact z
    have gE : DGet H1 sh.at_ (.int m) (some (.ref e.2.1)) := by
      have z := DGet.k (k := (Sum.inl m : Key)) SH.dc
      rw [lookE_val, ee] at z
      exact z
    have de := SH.dp e (lookE_mem ee).1
    have em := (lookE_mem ee).2
    cases de with
    | @lst _ xs _ hxs hall =>
      have hx1 : SqL K H1 e.2.1 xs := by
        rcases hxs with (a | ⟨o, a⟩) | a
        · exact .inl (.inl (hide_some a).1)
        · exact .inl (.inr ⟨o, (hide_some a).1⟩)
        · exact .inr a
      refine iteF ⟨_, rfl, p, C, dx1, _, _, rfl, e2, T.cl, T.nS, flS_look D, _, rfl, D, _, rfl, gD, _, rfl, sh.at_, _, rfl, gE, _, xs, rfl, .inl hx1, fun l nl => ?_⟩
      have k2 := Kp.new (o := HO.lst xs) k1.tab nl
      refine q xs e.2.2 l _ ?_ (k1.trans k2) (k1.free nl) upd_same (dpAll_mono (fun b o hs eb => ?_) _ _ hall)
      · have e0 : dataOf st x = sh.ents.map entD := by unfold dataOf; rw [el]; rfl
        rw [e0, findD_ents, ee, ← em]
        rfl
      · obtain ⟨a1, a2⟩ := hide_some eb
        exact hide_of (k2.keep b o (isSeq_ne_tab k2.t0 hs a1) a1) a2
/-! ### wares -/
theorem scWares : FnScope ["self"] ["self"] (defScope sWares) := ⟨rfl, rfl, rfl, by decide +kernel, rfl, by decide +kernel, by decide +kernel⟩
def spWares (K : PySem.W.Frag) (C Tb : Addr) : Sp := fun vs H Q _ => ∃ (A : List Addr) (p D : Addr) (st : List Shelf), vs = [.ref p] ∧ ShopAt K C A H p D st ∧ GxR.TabG H Tb ∧ st.length < 64 ∧
  ∀ (ys : List Str) l H', ys.Perm (st.map (·.ware)) → sortedS ys = true → Kp Tb H H' → H l = none → H' l = some (.lst (ys.map V.str)) → Q (.ref l) H'
theorem ok_wares {f C Tb : Addr} {fd : FuncData} (F : Fun K "wares" "Shop.wares" sWares f fd) (T : ShopT K mg C) : FnOk P w K mg base CX0 1 f fd ["self"] (spWares K C Tb) := by
  refine F.ok scWares (fun vs H Q E h => ?_) (fun cdv A outer s H vs Q E hr h => ?_)
  · obtain ⟨A, p, D, st, rfl, _⟩ := h
    rfl
  · obtain ⟨A, p, D, st, rfl, S, ht, h64, q⟩ := h
    refine ⟨_, pss_one (ps_ret (pe_callB (call_sortedD rfl) (by rfl) T.srt (by decide +kernel) (pa_cons (pe_fld (pv 0) rfl) pa_nil))), ?_⟩
    obtain ⟨dx, e1⟩ := S.ob
    refine ⟨_, rfl, p, C, dx, _, _, rfl, e1, T.cl, T.nS, flS_look D, D, _, st.map (·.ware), rfl, .inl S.bx.dc, ?_, by rw [List.length_map]; exact h64, fun ys l hp hs nl => ?_⟩
    · rw [List.map_map, List.map_map]
      rfl
    · exact q ys l _ hp hs (Kp.new ht nl) nl upd_same
end
end Pk

set_option Elab.async false
set_option linter.all false
set_option maxRecDepth 100000
set_option maxHeartbeats 4000000
namespace Pk
open PySem PySem.Spec PyProof.Rows L2
/-! ### xs[::k], k one or less one -/
def tStepL (K : PySem.W.Frag) (te ts : TE) : TE := fun σ H Q => te σ H fun x H1 => tPart ts σ H1 fun o H2 => ∃ a xs, x = .ref a ∧ SqL K H2 a xs ∧
  ((o = some 1 ∧ ∀ p, H2 p = none → Q (.ref p) (upd H2 p (.lst xs))) ∨ (o = some (-1) ∧ ∀ p, H2 p = none → Q (.ref p) (upd H2 p (.lst xs.reverse))))
theorem cutV_all (xs : List V) : cutV xs none none = xs := by
  unfold cutV
  rw [HT.sIx_none, HT.sIx_none, List.drop_zero, Nat.sub_zero, List.take_length]
section
variable {X : Cx}
theorem pe_stepL {e f : Expr} {te ts : TE} {p3 pos : Pos} (he : PE X e te) (hf : PE X f ts) : PE X (.Subscript e (.Slice none none (some f) p3) pos) (tStepL X.K te ts) := by
  refine ⟨fun pins s σ H Q I h => ?_⟩
  refine Subscript_ (thn (he.run pins s σ H _ I h) fun v s1 ⟨x, H1, I1, r1, q1⟩ => ?_)
  have hst : PO X (some f) (tPart ts) := po_some hf
  refine wpAny_Slice (thn (po_none.run pins s1 σ H1 (fun o H2 => o = none ∧ H2 = H1) I1 ⟨rfl, rfl⟩) fun vl s2 ⟨l, H2, I2, pl, el, e2⟩ => ?_)
  subst el e2
  refine thn (po_none.run pins s2 σ H2 (fun o H3 => o = none ∧ H3 = H2) I2 ⟨rfl, rfl⟩) fun vu s3 ⟨u, H3, I3, pu, eu, e3⟩ => ?_
  subst eu e3
  refine thn (hst.run pins s3 σ H3 _ I3 q1) fun vs s4 ⟨o, H4, I4, ps, q4⟩ => ?_
  obtain ⟨a, xs, ex, hx, q⟩ := q4
  subst ex
  cases r1
  have I5 : Inv X pins σ H4 { s4 with heap := s4.heap.push { cls := .type "slice", data := .fields #[vl, vu, vs] } } := I4.kept (t' := s4.toks) fun b ob q => Heap.get?_push_of_some _ q
  obtain ⟨its, r, ht, hz⟩ := I5.list hx
  have hlen := r.length
  show wpAny (model X.prog X.w) X.A (subscriptTail e (.Slice none none (some f) p3) (.ref a) (.ref s4.heap.objs.size)) (EP X pins σ Q) X.xe { s4 with heap := s4.heap.push { cls := .type "slice", data := .fields #[vl, vu, vs] } }
  refine tail_any (ops := [.ref a, .ref s4.heap.objs.size]) ht.isList.typeIs (PySem.slot_list_getitem.lookup) ?_ (by with_unfolding_all rfl)
  rcases q with ⟨rfl, q⟩ | ⟨rfl, q⟩
  · refine wpAny_getItem_list_slice ht.isList (Heap.IsSliceOf.new _ vl vu vs) pl pu ps (by decide) ?_ (by rw [List.size_toArray]; omega)
    rw [show slicePick its.toArray none none (some 1) = slicePick its.toArray none none none from rfl, slicePick_cut, HT.sIx_none, HT.sIx_none, List.drop_zero, Nat.sub_zero, List.take_length]
    refine ⟨.ref _, _, I5.laid (t' := s4.toks) (o := .lst xs) (fun b ob q => Heap.get?_push_of_some _ q) (Nat.le_refl _) ?_, rfl, q _ (I5.hok.fresh (Nat.le_refl _))⟩
    exact ⟨hz, _, 0, r, Heap.get?_push_size _ rfl⟩
  · refine wpAny_getItem_list_slice ht.isList (Heap.IsSliceOf.new _ vl vu vs) pl pu ps (by decide) ?_ (by rw [List.size_toArray]; omega)
    rw [PySem.W.krv_pick]
    refine ⟨.ref _, _, I5.laid (t' := s4.toks) (o := .lst xs.reverse) (fun b ob q => Heap.get?_push_of_some _ q) (Nat.le_refl _) ?_, rfl, q _ (I5.hok.fresh (Nat.le_refl _))⟩
    exact ⟨by rw [List.length_reverse]; exact hz, _, 0, r.reverse, Heap.get?_push_size _ rfl⟩
end
abbrev sMixed : Stmt := topS 23
abbrev sNames : Stmt := topS 24
abbrev sLMakes : Stmt := topS 25
abbrev sLNeeds : Stmt := topS 26
/-! ### wares by their signs -/
theorem all_az {l : List Nat} (h : Az l) : l.all azB = true := by
  rw [List.all_eq_true]
  intro c hc
  have := h c hc
  rw [azB_iff, decide_eq_true this.1, decide_eq_true this.2] <;> rfl
theorem ware_S {l : List Nat} (h : Az l) (h1 : 1 ≤ l.length) (h8 : l.length ≤ 8) : wareB (.str (SX.S l)) = true := by
  show (decide _ && decide _ && _) = true
  rw [SX.S_len, decide_eq_true h1, decide_eq_true h8, show (SX.S l).cps.toList = l by simp, all_az h] <;> rfl
theorem okS_az {l : List Nat} (h : Az l) (h8 : l.length ≤ 1000) : okS (.str (SX.S l)) = true := okS_S h.ok h8
theorem letters_az : Az letters := fun c hc => by
  obtain ⟨i, hi, rfl⟩ := List.mem_map.mp hc
  have := List.mem_range.mp hi
  omega
theorem cutS_to {l : List Nat} {a : Int} (h0 : 0 ≤ a) : cutS (SX.S l) none (some a) = SX.S (l.take a.toNat) := by
  have e : a = ((a.toNat : Nat) : Int) := by omega
  unfold cutS
  rw [HT.sIx_none, e, HT.sIx_nat, List.drop_zero, Nat.sub_zero, SX.S_len, show (SX.S l).cps.toList = l by simp]
  congr 2
  rw [show ((a.toNat : Nat) : Int).toNat = a.toNat by omega]
  by_cases h : a.toNat ≤ l.length
  · rw [Nat.min_eq_left h]
  · rw [Nat.min_eq_right (by omega), List.take_length, List.take_of_length_le (by omega)]
theorem cutS_from {l : List Nat} {a : Int} (h0 : 0 ≤ a) : cutS (SX.S l) (some a) none = SX.S (l.drop a.toNat) := by
  have e : a = ((a.toNat : Nat) : Int) := by omega
  unfold cutS
  rw [HT.sIx_none, e, HT.sIx_nat, SX.S_len, show (SX.S l).cps.toList = l by simp]
  congr 2
  rw [show ((a.toNat : Nat) : Int).toNat = a.toNat by omega]
  by_cases h : a.toNat ≤ l.length
  · rw [Nat.min_eq_left h, List.take_of_length_le (by rw [List.length_drop]; omega)]
  · rw [Nat.min_eq_right (by omega), List.drop_length, List.drop_eq_nil_of_le (by omega)]
    exact List.take_nil
theorem Az.sub {l m : List Nat} (h : Az l) (hs : ∀ c ∈ m, c ∈ l) : Az m := fun c hc => h c (hs c hc)
theorem Az.app {l m : List Nat} (h : Az l) (h2 : Az m) : Az (l ++ m) := fun c hc => (List.mem_append.mp hc).elim (h c) (h2 c)
section
variable {P : Program} {w : World} {K : PySem.W.Frag} {mg : Str → Option Value} {base : Heap}
/-! ### the law's mixed -/
theorem scMixed : FnScope ["_law_script", "_law_k", "_law_cell", "_law_number"] ["_law_script", "_law_k"] (defScope sMixed) := ⟨rfl, rfl, rfl, by decide +kernel, rfl, by decide +kernel, by decide +kernel⟩
def spMixed (K : PySem.W.Frag) : Sp := fun vs H Q _ => ∃ (a : Addr) (ns : List Int) (k : Nat), vs = [.ref a, .int k] ∧ SqL K H a (ns.map V.int) ∧ k ≤ 1000 ∧ ∀ n : Int, 0 ≤ n → n < 2147483629 → Q (.int n) H
theorem ok_mixed {f : Addr} {fd : FuncData} (F : Fun K "_law_mixed" "_law_mixed" sMixed f fd) (mL : mg "len" = none) : FnOk P w K mg base CX0 1 f fd ["_law_script", "_law_k"] (spMixed K) := by
  refine F.ok scMixed (fun vs H Q E h => ?_) (fun cdv A outer s H vs Q E hr h => ?_)
  · obtain ⟨a, ns, k, rfl, _⟩ := h
    rfl
  · obtain ⟨a, ns, k, rfl, hS, hk, q⟩ := h
    refine ⟨_, pss_cons (ps_set (i := 2) scMixed.nd rfl (.inl rfl) pe_int)
      (C8.pss_cut (ps_if (pt_cmpR op_gt (pe_callB call_len_seq (by rfl) mL PySem.boot_len (pa_cons (pv 0) pa_nil)) pe_int (nomark _)) (pss_one (ps_set (i := 2) scMixed.nd rfl (.inl rfl) (pe_ix ix_list (pv 0) (pe_op op_mod (pv 1) (pe_callB call_len_seq (by rfl) mL PySem.boot_len (pa_cons (pv 0) pa_nil))) (fun _ _ => rfl)))) pss_nil)
      (pss_cons (ps_set (i := 3) scMixed.nd rfl (.inl rfl) (pe_op op_mod (pe_op op_mul (pe_op op_add (pv 2) (pe_op op_mul pe_int (pv 1))) pe_int) pe_int))
      (pss_one (ps_ret (pe_op op_mod (pe_op op_mul (pv 3) (pe_op op_add pe_int (pe_op op_mul (pv 1) (pv 1)))) pe_int))))), ?_⟩
    refine ⟨fun σ' H' => ∃ c : Int, σ' = [some (.ref a), some (.int k), some (.int c), none] ∧ H' = H, ?_, fun σ' H' hm => ?_⟩
    · refine ⟨_, rfl, a, _, rfl, .inl hS, _, _, rfl, rfl, _, rfl, iteD (fun h => ?_) (fun h => ?_)⟩
      · rw [List.length_map] at h
        refine ⟨_, rfl, _, rfl, _, rfl, a, _, rfl, .inl hS, _, _, rfl, rfl, (by rw [List.length_map]; exact h), ?_⟩
        have hm0 : 0 ≤ (k : Int) % (ns.length : Int) := Int.emod_nonneg _ (by omega)
        have hm1 : (k : Int) % (ns.length : Int) < (ns.length : Int) := Int.emod_lt_of_pos _ (by omega)
        obtain ⟨v, hv, c, rfl⟩ := at_pick (xs := ns.map V.int) (i := (k : Int) % ((ns.map V.int).length : Int)) (p := fun v => ∃ c : Int, v = .int c) (by rw [List.length_map]; exact hm0) (by rw [List.length_map]; exact hm1) (fun x hx => by
          obtain ⟨c, _, rfl⟩ := List.mem_map.mp hx
          exact ⟨c, rfl⟩)
        exact ⟨a, _, _, _, rfl, rfl, hS, hv, c, rfl, rfl⟩
      · exact ⟨0, rfl, rfl⟩
    · obtain ⟨c, rfl, rfl⟩ := hm
      refine ⟨_, rfl, _, rfl, 7919, k, rfl, rfl, .inl ⟨by decide, by decide⟩, c, _, rfl, rfl, _, 48271, rfl, rfl, .inr ⟨by decide, by decide⟩, _, 2147483647, rfl, rfl, (by show (0 : Int) < 2147483647; decide), ?_⟩
      have h0 : 0 ≤ (c + 7919 * (k : Int)) * 48271 % 2147483647 := Int.emod_nonneg _ (by decide)
      have h1 : (c + 7919 * (k : Int)) * 48271 % 2147483647 < 2147483647 := Int.emod_lt_of_pos _ (by decide)
      refine ⟨_, rfl, _, rfl, _, rfl, k, k, rfl, rfl, .inl ⟨by omega, by omega⟩, 16807, _, rfl, rfl, _, _, rfl, rfl, .inl ⟨by omega, by omega⟩, _, 2147483629, rfl, rfl, (by show (0 : Int) < 2147483629; decide), ?_⟩
      exact q _ (Int.emod_nonneg _ (by decide)) (Int.emod_lt_of_pos _ (by decide))
/-! ### the law's makes -/
theorem scLMakes : FnScope ["_law_number", "_law_j"] ["_law_number"] (defScope sLMakes) := ⟨rfl, rfl, rfl, by decide +kernel, rfl, by decide +kernel, by decide +kernel⟩
def spLMakes (T : Addr) : Sp := fun vs H Q _ => ∃ (n : Int), vs = [.int n] ∧ GxR.TabG H T ∧ ∀ (ms : List Int) l H', ms.length = 10 → (∀ m ∈ ms, makeB (.int m) = true) → Kp T H H' → H' l = some (.lst (ms.map V.int)) → Q (.ref l) H'
theorem ok_lmakes {f T : Addr} {fd : FuncData} (F : Fun K "_law_makes" "_law_makes" sLMakes f fd) (mR : mg "range" = none) : FnOk P w K mg base CX0 1 f fd ["_law_number"] (spLMakes T) := by
  refine F.ok scLMakes (fun vs H Q E h => ?_) (fun cdv A outer s H vs Q E hr h => ?_)
  · obtain ⟨n, rfl, _⟩ := h
    rfl
  · obtain ⟨n, rfl, ht, q⟩ := h
    refine ⟨_, pss_one (ps_ret (pe_op op_cat (pe_lst (pa_cons pe_int (pa_cons pe_int pa_nil))) (pe_lc (own := [("_law_j", 1)]) (g := gName 1) (tt := tYes) rfl scLMakes.nd (pi_range1 (by rfl) mR (pa_cons pe_int pa_nil))
        (blkOk_by (own := [("_law_j", 1)]) (N := ["_law_number", "_law_j"]) (sc := defScope sLMakes) (by decide +kernel)) (fun _ _ _ _ _ => pg_name (i := 1) scLMakes.nd rfl (Or.inl rfl)) (fun _ _ _ _ _ => pts_nil)
        (fun _ _ _ _ _ => pe_op op_add (pe_op op_add pe_int (pe_op op_mod (pv 0) pe_int)) (pe_op op_mul pe_int (pv 1)))))), ?_⟩
    refine ⟨(by show (2 : Nat) ≤ sizeLine; decide), fun l1 n1 => ?_⟩
    have k1 := Kp.new (o := HO.lst [.int 1, .int 999]) ht n1
    refine ⟨8, rfl, (by decide), (by decide), fun D nD => ?_⟩
    have k2 := fun o => Kp.new (o := o) k1.tab nD
    have hD1 : l1 ≠ D := fun z => by
      rw [← z, upd_same] at nD
      cases nD
    refine lc_range (lo := 0) (n := 8) (fun i H' => H' = upd (upd H l1 (.lst [.int 1, .int 999])) D (.lst ((List.range i).map fun (j : Nat) => V.int (2 + n % 900 + 7 * (j : Int))))) rfl (fun i H' hi e => ?_) (fun H' e => ?_)
    · subst e
      refine ⟨rfl, ?_⟩
      refine ⟨_, rfl, n, 900, rfl, rfl, (by show (0 : Int) < 900; decide), 2, _, rfl, rfl, _, rfl, 7, 0 + (i : Int), rfl, rfl, .inl ⟨by decide, by decide⟩, _, _, rfl, rfl, _, upd_same, small1000 (by rw [List.length_map, List.length_range]; omega), ?_⟩
      rw [upd_upd, List.range_succ, List.map_append, Int.zero_add]
      rfl
    · subst e
      refine ⟨l1, D, _, _, rfl, rfl, (k2 _).lst upd_same, upd_same, (by show (10 : Nat) ≤ sizeLine; decide), fun l nl => ?_⟩
      have k3 := fun o => Kp.new (o := o) (k2 (.lst ((List.range 8).map fun (j : Nat) => V.int (2 + n % 900 + 7 * (j : Int))))).tab nl
      refine q ([1, 999] ++ (List.range 8).map fun (j : Nat) => 2 + n % 900 + 7 * (j : Int)) l _ rfl (fun m hm => ?_) (k1.trans ((k2 _).trans (k3 _))) ?_
      · show (decide (1 ≤ m) && decide (m ≤ 999)) = true
        have hb : 1 ≤ m ∧ m ≤ 999 := by
          rcases List.mem_append.mp hm with hm | hm
          · simp only [List.mem_cons, List.not_mem_nil, or_false] at hm
            rcases hm with rfl | rfl <;> decide
          · obtain ⟨j, hj, rfl⟩ := List.mem_map.mp hm
            have := List.mem_range.mp hj
            omega
        rw [decide_eq_true hb.1, decide_eq_true hb.2] <;> rfl
      · rw [upd_same, List.map_append, List.map_map]
        rfl
end
end Pk

set_option Elab.async false
set_option linter.all false
set_option maxRecDepth 100000
set_option maxHeartbeats 4000000
namespace Pk
open PySem PySem.Spec PyProof.Rows L2
/-- the texts of a comprehension that joins one sign each -/
theorem join_ones2 (l : List Nat) : Txt.join ("" : Str) (l.map fun c => (⟨#[c]⟩ : Str)) = SX.S l := by
  have e1 : ("" : Str) = SX.S [] := by decide +kernel
  have e2 : (l.map fun c => (⟨#[c]⟩ : Str)) = (l.map fun c => [c]).map SX.S := by
    rw [List.map_map]
    rfl
  have e3 : ∀ ls : List (List Nat), TL.joinL [] ls = ls.flatten := by
    intro ls
    induction ls with
    | nil => rfl
    | cons p r ih =>
      cases r with
      | nil => simp [TL.joinL]
      | cons q r =>
        show p ++ ([] ++ TL.joinL [] (q :: r)) = _
        rw [ih, List.nil_append]
        rfl
  rw [e1, e2, SX.join_S, e3]
  congr 1
  induction l with
  | nil => rfl
  | cons x r ih =>
    rw [List.map_cons, List.flatten_cons, ih]
    · rfl
    · rw [List.map_map]
      rfl
theorem sum_ones : ∀ l : List Nat, ((l.map fun c => (⟨#[c]⟩ : Str)).map (·.length)).sum = l.length
  | [] => rfl
  | x :: r => by
    rw [List.map_cons, List.map_cons, List.sum_cons, sum_ones r, List.length_cons]
    show 1 + r.length = r.length + 1
    omega
def frameL (n : Int) : List Nat := (List.range (n / 2 % 8).toNat).map fun (j : Nat) => 97 + ((n / 7 + 5 * (j : Int)) % 26).toNat
theorem frameL_len (n : Int) : (frameL n).length ≤ 7 := by
  unfold frameL
  rw [List.length_map, List.length_range]
  omega
theorem frameL_az (n : Int) : Az (frameL n) := fun x hx => by
  obtain ⟨j, _, rfl⟩ := List.mem_map.mp hx
  omega
def GoodN (x : Str) : Prop := wareB (.str x) = true ∧ okS (.str x) = true
theorem goodN {l : List Nat} (h : Az l) (h1 : 1 ≤ l.length) (h8 : l.length ≤ 8) : GoodN (SX.S l) := ⟨ware_S h h1 h8, okS_az h (by omega)⟩
section
variable {P : Program} {w : World} {K : PySem.W.Frag} {mg : Str → Option Value} {base : Heap}
def namesN : List Str := ["_law_script", "_law_many", "_law_letters", "_law_number", "_law_step", "_law_frame", "_law_at", "_law_names_here", "_law_k", "_law_sign", "_law_j"]
theorem scNames : FnScope namesN ["_law_script", "_law_many"] (defScope sNames) := ⟨rfl, rfl, rfl, by decide +kernel, rfl, by decide +kernel, by decide +kernel⟩
def spNames (K : PySem.W.Frag) (T : Addr) : Sp := fun vs H Q _ => ∃ (a : Addr) (ns : List Int) (k : Nat), vs = [.ref a, .int k] ∧ SqL K H a (ns.map V.int) ∧ k ≤ 8 ∧ GxR.TabG H T ∧ ∀ (names : List Str) l H', names.length = k → (∀ y ∈ names, GoodN y) → Kp T H H' → H l = none → H' l = some (.lst (names.map V.str)) → Q (.ref l) H'
theorem ok_names {f fX T : Addr} {fd fdX : FuncData} (F : Fun K "_law_names" "_law_names" sNames f fd) (FX : Fun K "_law_mixed" "_law_mixed" sMixed fX fdX) (bX : Binds K fdX ["_law_script", "_law_k"] []) (gX : mg "_law_mixed" = some (.ref fX))
    (mL : mg "len" = none) (mR : mg "range" = none) : FnOk P w K mg base CX0 2 f fd ["_law_script", "_law_many"] (spNames K T) := by
  have GX : FnOk P w K mg base CX0 1 fX fdX ["_law_script", "_law_k"] (spMixed K) := ok_mixed FX mL
  refine F.ok scNames (fun vs H Q E h => ?_) (fun cdv A outer s H vs Q E hr h => ?_)
  · obtain ⟨a, ns, k, rfl, _⟩ := h
    rfl
  · obtain ⟨a, ns, k, rfl, hS, hk8, ht, q⟩ := h
    refine ⟨_, pss_cons (ps_set (i := 2) scNames.nd rfl (.inr rfl) pe_str)
      (pss_cons (ps_set (i := 3) scNames.nd rfl (.inr rfl) (pe_call GX hr (by rfl) gX FX.kp bX .nil pass0 (pa_cons (pv 0) (pa_cons pe_int pa_nil))))
      (pss_cons (ps_set (i := 4) scNames.nd rfl (.inl rfl) (pe_ix ix_list (pe_lst (pa_cons pe_int (pa_cons pe_int pa_nil))) (pe_op op_mod (pv 3) pe_int) (fun _ _ => rfl)))
      (pss_cons (ps_set (i := 5) scNames.nd rfl (.inr rfl) (pe_join pe_str (pe_lc (own := [("_law_j", 10)]) (g := gName 10) (tt := tYes) rfl scNames.nd (pi_range1 (by rfl) mR (pa_cons (pe_op op_mod (pe_op op_fdiv (pv 3) pe_int) pe_int) pa_nil))
          (blkOk_by (own := [("_law_j", 10)]) (N := namesN) (sc := defScope sNames) (by decide +kernel)) (fun _ _ _ _ _ => pg_name (i := 10) scNames.nd rfl (Or.inl rfl)) (fun _ _ _ _ _ => pts_nil)
          (fun _ _ _ _ _ => pe_ix ix_str (pv 2) (pe_op op_mod (pe_op op_add (pe_op op_fdiv (pv 3) pe_int) (pe_op op_mul pe_int (pv 10))) pe_int) (fun _ _ => rfl)))))
      (pss_cons (ps_set (i := 6) scNames.nd rfl (.inl rfl) (pe_op op_mod (pe_op op_fdiv (pv 3) pe_int) (pe_op op_add (pe_callB call_len_str (by rfl) mL PySem.boot_len (pa_cons (pv 5) pa_nil)) pe_int)))
      (pss_cons (ps_set (i := 7) scNames.nd rfl (.inl rfl) (pe_lst pa_nil))
      (pss_cons (ps_for PassesOwn.never rfl (pi_range1 (by rfl) mR (pa_cons (pv 1) pa_nil)) (pg_name (i := 8) scNames.nd rfl (.inl rfl))
        (pss_cons (ps_set (i := 9) scNames.nd rfl (.inl rfl) (pe_ix ix_str (pv 2) (pe_op op_mod (pe_op op_add (pe_op op_fdiv (pv 3) pe_int) (pe_op op_mul (pv 4) (pv 8))) pe_int) (fun _ _ => rfl)))
        (pss_one (ps_expr (pe_bm PySem.F.plainAttrs_list PySem.F.slot_list_append PySem.F.type_list_append mt_append (pv 7) (pa_cons (pe_op op_add_str (pe_op op_add_str (pe_slice sl_str (pv 5) po_none (po_some (pv 6))) (pv 9)) (pe_slice sl_str (pv 5) (po_some (pv 6)) po_none)) pa_nil))))))
      (C8.pss_cut (ps_if (PW.pt (pw_and (pt_cmpR op_eq (pe_op op_mod (pe_op op_fdiv (pv 3) pe_int) pe_int) pe_int (nomark _)) (pw_and1 (pt_cmpR op_lt (pv 1) pe_int (nomark _)))))
        (pss_one (ps_setLc (i := 7) (own := [("_law_k", 8)]) (g := gName 8) (tt := tYes) rfl scNames.nd rfl rfl (sw_true rfl rfl rfl (by decide +kernel)) (pi_range1 (by rfl) mR (pa_cons (pv 1) pa_nil))
          (blkOk_by (own := [("_law_k", 8)]) (N := namesN) (sc := defScope sNames) (by decide +kernel)) (fun _ _ _ _ _ => pg_name (i := 8) scNames.nd rfl (Or.inl rfl)) (fun _ _ _ _ _ => pts_nil)
          (fun _ _ _ _ _ => pe_slice sl_str (pe_op op_add_str (pe_op op_add_str (pv 5) (pe_slice sl_str (pv 2) (po_some (pe_op op_mod (pe_op op_fdiv (pv 3) pe_int) pe_int)) po_none)) (pv 2)) po_none (po_some (pe_op op_add pe_int (pv 8)))))) pss_nil)
      (pss_one (ps_ret (pe_stepL (pv 7) (pe_ix ix_list (pe_lst (pa_cons pe_int (pa_cons (pe_un un_neg pe_int) pa_nil))) (pe_op op_mod (pe_op op_fdiv (pv 3) pe_int) pe_int) (fun _ _ => rfl)))))))))))), ?_⟩
    refine ⟨_, rfl, a, ns, 1, rfl, hS, (by decide), fun n h0 hmax => ?_⟩
    -- step
    refine ⟨(by show (2 : Nat) ≤ sizeLine; decide), fun p1 np1 => ?_⟩
    have k1 := Kp.new (o := HO.lst [.int 3, .int 23]) ht np1
    obtain ⟨v, hv, st, rfl, hst0, hst1⟩ := at_pick (xs := [V.int 3, .int 23]) (i := n % 2) (p := fun v => ∃ s : Int, v = .int s ∧ 0 ≤ s ∧ s ≤ 23) (by omega) (by show n % 2 < ((2 : Nat) : Int); omega) (fun x hx => by
      simp only [List.mem_cons, List.not_mem_nil, or_false] at hx
      rcases hx with rfl | rfl
      · exact ⟨_, rfl, by decide, by decide⟩
      · exact ⟨_, rfl, by decide, by decide⟩)
    refine ⟨_, rfl, n, 2, rfl, rfl, (by show (0 : Int) < 2; decide), p1, _, _, _, rfl, rfl, .inl (.of upd_same), hv, ?_⟩
    have t1 := k1.tab
    generalize upd H p1 (.lst [.int 3, .int 23]) = H1 at k1 t1 ⊢
    -- frame
    refine ⟨⟨_, rfl⟩, _, rfl, n, 2, rfl, rfl, ⟨by decide, by decide⟩, _, 8, rfl, rfl, (by show (0 : Int) < 8; decide), n / 2 % 8, rfl, (by omega), (by omega), fun D nD => ?_⟩
    refine lc_range (lo := 0) (n := (n / 2 % 8).toNat) (fun i H' => H' = upd H1 D (.lst (((frameL n).take i).map fun x => V.str ⟨#[x]⟩))) rfl (fun i H' hi e => ?_) (fun H' e => ?_)
    · subst e
      refine ⟨rfl, ?_⟩
      refine ⟨_, rfl, _, rfl, n, 7, rfl, rfl, ⟨by decide, by decide⟩, _, rfl, 5, 0 + (i : Int), rfl, rfl, .inl ⟨by decide, by decide⟩, _, _, rfl, rfl, _, _, rfl, rfl, (by show (0 : Int) < 26; decide), ?_⟩
      refine ⟨_, _, 97 + ((n / 7 + 5 * (0 + (i : Int))) % 26).toNat, rfl, rfl, (by rw [letters_eq, SX.S_len]; exact line1000 (by decide)), ?_, _, upd_same, ?_, ?_⟩
      · rw [letters_eq]
        exact letters_at (by omega) (by omega)
      · rw [List.length_map, List.length_take]
        exact small1000 (by have := frameL_len n; omega)
      · rw [upd_upd]
        have e1 : (frameL n)[i]? = some (97 + ((n / 7 + 5 * (0 + (i : Int))) % 26).toNat) := by
          unfold frameL
          rw [List.getElem?_map, List.getElem?_range hi, Int.zero_add]
          rfl
        rw [List.take_add_one, e1, List.map_append]
        rfl
    subst e
    have el : (frameL n).length = (n / 2 % 8).toNat := by
      unfold frameL
      rw [List.length_map, List.length_range]
    have hfl := frameL_len n
    have hfa := frameL_az n
    have k2 := Kp.new (o := HO.lst (((frameL n).take (n / 2 % 8).toNat).map fun x => V.str ⟨#[x]⟩)) t1 nD
    refine ⟨_, D, (frameL n).map fun x => ⟨#[x]⟩, rfl, rfl, .inl (.of (by
      rw [upd_same, List.take_of_length_le (by omega), List.map_map]
      rfl)), ?_, ?_⟩
    · rw [sum_ones]
      have e5 : (("" : Str)).length = 0 := by decide +kernel
      rw [e5]
      omega
    rw [join_ones2]
    have k12 := k1.trans k2
    have t2 := k2.tab
    generalize upd H1 D (.lst (((frameL n).take (n / 2 % 8).toNat).map fun x => V.str ⟨#[x]⟩)) = H2 at k12 t2 ⊢
    clear k2 nD k1 t1
    generalize hF : frameL n = fr at hfl hfa ⊢
    have hfS : (SX.S fr).length = fr.length := SX.S_len _
    -- at
    refine ⟨_, rfl, n, 56, rfl, rfl, ⟨by decide, by decide⟩, _, rfl, _, rfl, line1000 (by omega), _, 1, rfl, rfl, n / 56, _, rfl, rfl, (by show (0 : Int) < ((SX.S fr).length : Int) + 1; omega), ?_⟩
    have hat0 : 0 ≤ n / 56 % (((SX.S fr).length : Int) + 1) := Int.emod_nonneg _ (by omega)
    -- the names
    refine ⟨(by show (0 : Nat) ≤ sizeLine; decide), fun L nL => ?_⟩
    have k3 := Kp.new (o := HO.lst []) t2 nL
    have nLH := k12.free nL
    have LT := tab_nn t2 nL
    refine ⟨_, rfl, k, rfl, (by omega), (by omega), for_range (lo := 0) (n := (k : Int).toNat) (fun i σ' H' => ∃ (x8 x9 : Option V) (names : List Str), σ' = [some (.ref a), some (.int k), some (.str "abcdefghijklmnopqrstuvwxyz"), some (.int n), some (.int st), some (.str (SX.S fr)), some (.int (n / 56 % (((SX.S fr).length : Int) + 1))), some (.ref L), x8, x9, none] ∧
        Kp T H H' ∧ H' L = some (.lst (names.map V.str)) ∧ names.length = i ∧ ∀ y ∈ names, GoodN y)
      ⟨none, none, [], rfl, k12.trans k3, upd_same, rfl, fun y hy => by cases hy⟩ (fun i σ' H' hi hm => ?_) (fun σ' H' hm => ?_)⟩
    · obtain ⟨x8, x9, names, rfl, kk, hL, hln, hgd⟩ := hm
      have hik : i < k := by omega
      refine ⟨_, rfl, _, rfl, n, 504, rfl, rfl, ⟨by decide, by decide⟩, _, rfl, _, rfl, st, 0 + (i : Int), rfl, rfl, .inl ⟨by omega, by omega⟩, _, _, rfl, rfl, _, 26, rfl, rfl, (by show (0 : Int) < 26; decide), ?_⟩
      refine ⟨_, _, 97 + ((n / 504 + st * (0 + (i : Int))) % 26).toNat, rfl, rfl, (by rw [letters_eq, SX.S_len]; exact line1000 (by decide)), (by rw [letters_eq]; exact letters_at (by omega) (by omega)), ?_⟩
      have e1 := cutS_to (l := fr) hat0
      have e2 := cutS_from (l := fr) hat0
      have ha1 : (fr.take (n / 56 % (((SX.S fr).length : Int) + 1)).toNat).length + (fr.drop (n / 56 % (((SX.S fr).length : Int) + 1)).toNat).length = fr.length := by
        rw [← List.length_append, List.take_append_drop]
      have l1 : (cutS (SX.S fr) none (some (n / 56 % (((SX.S fr).length : Int) + 1)))).length ≤ 7 := by rw [e1, SX.S_len]; omega
      have l2 : (cutS (SX.S fr) (some (n / 56 % (((SX.S fr).length : Int) + 1))) none).length ≤ 7 := by rw [e2, SX.S_len]; omega
      have ec : (⟨#[97 + ((n / 504 + st * (0 + (i : Int))) % 26).toNat]⟩ : Str) = SX.S [97 + ((n / 504 + st * (0 + (i : Int))) % 26).toNat] := rfl
      have l3 : (cutS (SX.S fr) none (some (n / 56 % (((SX.S fr).length : Int) + 1))) ++ (⟨#[97 + ((n / 504 + st * (0 + (i : Int))) % 26).toNat]⟩ : Str)).length ≤ 8 := by
        rw [e1, ec, SX.S_cat, SX.S_len, List.length_append, List.length_singleton]; omega
      have l4 : ((⟨#[97 + ((n / 504 + st * (0 + (i : Int))) % 26).toNat]⟩ : Str)).length = 1 := rfl
      refine ⟨_, rfl, .inl ⟨rfl, _, .inl (.inl hL)⟩, _, rfl, _, rfl, _, rfl, _, rfl, line1000 (by omega), _, rfl, _, _, rfl, rfl, line1000 (by omega), _, rfl, _, rfl, _, rfl, _, rfl, line1000 (by omega), _, _, rfl, rfl, line1000 (by omega), ?_⟩
      refine ⟨L, _, _, rfl, rfl, hL, small1000 (by rw [List.length_map]; omega), ?_⟩
      refine ⟨_, _, names ++ [SX.S (fr.take (n / 56 % (((SX.S fr).length : Int) + 1)).toNat ++ [97 + ((n / 504 + st * (0 + (i : Int))) % 26).toNat] ++ fr.drop (n / 56 % (((SX.S fr).length : Int) + 1)).toNat)], rfl, kk.set nLH LT, ?_, ?_, ?_⟩
      · rw [upd_same, List.map_append, List.map_singleton, e1, e2, ec, SX.S_cat, SX.S_cat]
      · rw [List.length_append, List.length_singleton, hln]
      · intro y hy
        rcases List.mem_append.mp hy with hy | hy
        · exact hgd y hy
        · rw [List.mem_singleton.mp hy]
          refine goodN ((Az.app (hfa.sub fun c hc => List.mem_of_mem_take hc) (fun c hc => ?_)).app (hfa.sub fun c hc => List.mem_of_mem_drop hc)) ?_ ?_
          · rw [List.mem_singleton.mp hc]; omega
          · rw [List.length_append, List.length_append, List.length_singleton]; omega
          · rw [List.length_append, List.length_append, List.length_singleton]; omega
    -- perhaps other names
    obtain ⟨x8, x9, names, rfl, kk, hL, hln, hgd⟩ := hm
    have hln' : names.length = k := by omega
    refine ⟨fun σ2 H3 => ∃ (x8 x9 : Option V) (M : Addr) (names : List Str), σ2 = [some (.ref a), some (.int k), some (.str "abcdefghijklmnopqrstuvwxyz"), some (.int n), some (.int st), some (.str (SX.S fr)), some (.int (n / 56 % (((SX.S fr).length : Int) + 1))), some (.ref M), x8, x9, none] ∧
        Kp T H H3 ∧ H3 M = some (.lst (names.map V.str)) ∧ names.length = k ∧ ∀ y ∈ names, GoodN y, ?_, fun σ2 H3 hm => ?_⟩
    · refine ⟨_, rfl, n, 16, rfl, rfl, ⟨by decide, by decide⟩, _, 3, rfl, rfl, (by show (0 : Int) < 3; decide), rfl, _, rfl, iteD (fun hz => ?_) (fun hz => ⟨x8, x9, L, names, rfl, kk, hL, hln', hgd⟩)⟩
      refine ⟨_, rfl, k, 9, rfl, rfl, _, rfl, iteD (fun hz2 => ?_) (fun hz2 => ⟨x8, x9, L, names, rfl, kk, hL, hln', hgd⟩)⟩
      refine ⟨_, rfl, k, rfl, (by omega), (by omega), fun M nM => ?_⟩
      have kM := fun o => Kp.new (o := o) kk.tab nM
      refine lc_range (lo := 0) (n := (k : Int).toNat) (fun i H3 => ∃ ys : List Str, H3 = upd H' M (.lst (ys.map V.str)) ∧ ys.length = i ∧ ∀ y ∈ ys, GoodN y) ⟨[], rfl, rfl, fun y hy => by cases hy⟩ (fun i H3 hi hm3 => ?_) (fun H3 hm3 => ?_)
      · obtain ⟨ys, rfl, hly, hgy⟩ := hm3
        refine ⟨rfl, ?_⟩
        have hb0 : 0 ≤ n / 504 % 26 := Int.emod_nonneg _ (by decide)
        have e2 := cutS_from (l := letters) hb0
        have e3 : cutS ("abcdefghijklmnopqrstuvwxyz" : Str) (some (n / 504 % 26)) none = SX.S (letters.drop (n / 504 % 26).toNat) := by rw [letters_eq]; exact e2
        have ll : letters.length = 26 := by decide
        have l1 : (cutS ("abcdefghijklmnopqrstuvwxyz" : Str) (some (n / 504 % 26)) none).length ≤ 26 := by rw [e3, SX.S_len, List.length_drop]; omega
        have l2 : (("abcdefghijklmnopqrstuvwxyz" : Str)).length = 26 := by rw [letters_eq, SX.S_len, ll]
        have e4 : SX.S fr ++ cutS ("abcdefghijklmnopqrstuvwxyz" : Str) (some (n / 504 % 26)) none = SX.S (fr ++ letters.drop (n / 504 % 26).toNat) := by rw [e3, SX.S_cat]
        have l4 : (SX.S fr ++ cutS ("abcdefghijklmnopqrstuvwxyz" : Str) (some (n / 504 % 26)) none).length ≤ 40 := by rw [e4, SX.S_len, List.length_append, List.length_drop]; omega
        have e5 : SX.S fr ++ cutS ("abcdefghijklmnopqrstuvwxyz" : Str) (some (n / 504 % 26)) none ++ ("abcdefghijklmnopqrstuvwxyz" : Str) = SX.S (fr ++ letters.drop (n / 504 % 26).toNat ++ letters) := by rw [e4, letters_eq, SX.S_cat]
        have l5 : (SX.S fr ++ cutS ("abcdefghijklmnopqrstuvwxyz" : Str) (some (n / 504 % 26)) none ++ ("abcdefghijklmnopqrstuvwxyz" : Str)).length ≤ 100 := by rw [e5, SX.S_len, List.length_append, List.length_append, List.length_drop]; omega
        refine ⟨_, rfl, _, rfl, _, rfl, n, 504, rfl, rfl, ⟨by decide, by decide⟩, _, 26, rfl, rfl, (by show (0 : Int) < 26; decide), _, rfl, _, rfl, line1000 (by omega), _, _, rfl, rfl, line1000 (by omega), _, rfl, _, _, rfl, rfl, line1000 (by omega), ?_⟩
        refine ⟨_, rfl, 1, _, rfl, rfl, _, rfl, _, rfl, line1000 (by omega), _, upd_same, small1000 (by rw [List.length_map]; omega), ?_⟩
        have e6 := cutS_to (l := fr ++ letters.drop (n / 504 % 26).toNat ++ letters) (a := 1 + (0 + (i : Int))) (by omega)
        refine ⟨ys ++ [SX.S ((fr ++ letters.drop (n / 504 % 26).toNat ++ letters).take (1 + (0 + (i : Int))).toNat)], ?_, ?_, ?_⟩
        · rw [upd_upd, List.map_append, List.map_singleton, e5, e6]
        · rw [List.length_append, List.length_singleton, hly]
        · intro y hy
          rcases List.mem_append.mp hy with hy | hy
          · exact hgy y hy
          · rw [List.mem_singleton.mp hy]
            have lt : ((fr ++ letters.drop (n / 504 % 26).toNat ++ letters).take (1 + (0 + (i : Int))).toNat).length = (1 + (0 + (i : Int))).toNat := by
              rw [List.length_take, List.length_append, ll]
              omega
            refine goodN (Az.sub (l := fr ++ letters.drop (n / 504 % 26).toNat ++ letters) ((hfa.app (letters_az.sub fun c hc => List.mem_of_mem_drop hc)).app letters_az) fun c hc => List.mem_of_mem_take hc) ?_ ?_
            · rw [lt]; omega
            · rw [lt]; omega
      · obtain ⟨ys, rfl, hly, hgy⟩ := hm3
        exact ⟨x8, x9, M, ys, rfl, kk.trans (kM _), upd_same, by omega, hgy⟩
    · obtain ⟨x8, x9, M, names, rfl, kk, hL, hln, hgd⟩ := hm
      refine ⟨_, rfl, 1, rfl, (by show (2 : Nat) ≤ sizeLine; decide), fun p2 np2 => ?_⟩
      have k4 := Kp.new (o := HO.lst [.int 1, .int (-1)]) kk.tab np2
      have pk : ∃ v, atI [V.int 1, .int (-1)] (n / 48 % 2) = some v ∧ (v = .int 1 ∨ v = .int (-1)) := at_pick (by omega) (by show n / 48 % 2 < ((2 : Nat) : Int); omega) (fun x hx => by
        simp only [List.mem_cons, List.not_mem_nil, or_false] at hx
        exact hx)
      obtain ⟨v, hv, hv2⟩ := pk
      have hM := k4.lst hL
      rcases hv2 with rfl | rfl
      · refine ⟨_, rfl, n, 48, rfl, rfl, ⟨by decide, by decide⟩, _, 2, rfl, rfl, (by show (0 : Int) < 2; decide), p2, _, _, _, rfl, rfl, .inl (.of upd_same), hv, 1, rfl, M, _, rfl, .inl (.of hM), .inl ⟨rfl, fun r nr => ?_⟩⟩
        have k5 := Kp.new (o := HO.lst (names.map V.str)) k4.tab nr
        have k6 := kk.trans k4
        exact q names r _ hln hgd (k6.trans k5) (k6.free nr) upd_same
      · refine ⟨_, rfl, n, 48, rfl, rfl, ⟨by decide, by decide⟩, _, 2, rfl, rfl, (by show (0 : Int) < 2; decide), p2, _, _, _, rfl, rfl, .inl (.of upd_same), hv, -1, rfl, M, _, rfl, .inl (.of hM), .inr ⟨rfl, fun r nr => ?_⟩⟩
        have k5 := Kp.new (o := HO.lst (names.map V.str).reverse) k4.tab nr
        have k6 := kk.trans k4
        exact q names.reverse r _ (by rw [List.length_reverse]; exact hln) (fun y hy => hgd y (List.mem_reverse.mp hy)) (k6.trans k5) (k6.free nr) (by rw [upd_same, List.map_reverse])
end
end Pk

set_option Elab.async false
set_option linter.all false
set_option maxRecDepth 100000
set_option maxHeartbeats 4000000
namespace Pk
open PySem PySem.Spec PyProof.Rows L2
/-! ### good needs -/
def ND (d : PyData) : Prop := ∃ y i j, d = .tuple [.str y, .int i, .int j] ∧ GoodN y ∧ makeB (.int i) = true ∧ makeB (.int j) = true ∧ i ≤ j
theorem ND.need {d : PyData} (h : ND d) : needB d = true := by
  obtain ⟨y, i, j, rfl, g, hi, hj, hij⟩ := h
  show (wareB (.str y) && makeB (.int i) && makeB (.int j) && decide (i ≤ j)) = true
  rw [g.1, hi, hj, decide_eq_true hij] <;> rfl
theorem ND.okT {d : PyData} (h : ND d) : okT d = true := by
  obtain ⟨y, i, j, rfl, g, _⟩ := h
  exact okT_tup (fun d hd => by
    simp only [List.mem_cons, List.not_mem_nil, or_false] at hd
    rcases hd with rfl | rfl | rfl
    · exact g.2
    · rfl
    · rfl) (by simp)
theorem ND.lay {d : PyData} (h : ND d) : d.canLay0 = true ∧ d.depth = 1 := by
  obtain ⟨y, i, j, rfl, g, _⟩ := h
  have e := okS_ok g.2
  constructor
  · show (PyData.strOk y && (true && (true && true))) = true
    rw [e] <;> rfl
  · rfl
theorem shaped_nd {ds : List PyData} (h : ∀ d ∈ ds, ND d) : SeqAt.shaped (.list ds) = true := by
  have h1 : PyData.canLayAll0 ds = true ∧ PyData.depthAll ds ≤ 1 := by
    induction ds with
    | nil => exact ⟨rfl, Nat.zero_le _⟩
    | cons d r ih =>
      obtain ⟨i1, i2⟩ := ih fun x hx => h x (List.mem_cons_of_mem _ hx)
      obtain ⟨j1, j2⟩ := (h d (List.mem_cons_self ..)).lay
      constructor
      · show (d.canLay0 && PyData.canLayAll0 r) = true
        rw [i1, j1] <;> rfl
      · show max d.depth (PyData.depthAll r) ≤ 1
        rw [j2]
        omega
  show (PyData.canLayAll0 ds && decide (PyData.depthAll ds + 1 ≤ 64)) = true
  rw [h1.1, decide_eq_true (by omega)] <;> rfl
theorem mayL_snoc (d : PyData) : ∀ (ds : List PyData) (bar : List Str), mayL bar (ds ++ [d]) = (mayL bar ds && (needB d && !decide (wOf d ∈ bar ++ ds.map wOf)))
  | [], bar => by
    show (needB d && !decide (wOf d ∈ bar) && true) = (true && (needB d && !decide (wOf d ∈ bar ++ [])))
    simp only [List.append_nil, Bool.and_true, Bool.true_and]
  | x :: r, bar => by
    show (needB x && !decide (wOf x ∈ bar) && mayL (bar ++ [wOf x]) (r ++ [d])) = (needB x && !decide (wOf x ∈ bar) && mayL (bar ++ [wOf x]) r && (needB d && !decide (wOf d ∈ bar ++ (wOf x :: r.map wOf))))
    rw [mayL_snoc d r]
    simp only [List.append_assoc, List.singleton_append, Bool.and_assoc]
theorem okL_nd {ds : List PyData} (h : ∀ d ∈ ds, ND d) (hl : ds.length ≤ 1000) : okL (.list ds) = true := by
  show (ds.all okT && decide (ds.length ≤ 1000)) = true
  rw [decide_eq_true hl, Bool.and_true, List.all_eq_true]
  exact fun d hd => (h d hd).okT
section
variable {P : Program} {w : World} {K : PySem.W.Frag} {mg : Str → Option Value} {base : Heap}
def lneedsN : List Str := ["_law_names_here", "_law_ware", "_law_cell", "_law_found", "_law_k", "_law_other", "_law_low", "_law_need"]
theorem scLNeeds : FnScope lneedsN ["_law_names_here", "_law_ware", "_law_cell"] (defScope sLNeeds) := ⟨rfl, rfl, rfl, by decide +kernel, rfl, by decide +kernel, by decide +kernel⟩
def spLNeeds (K : PySem.W.Frag) (T : Addr) : Sp := fun vs H Q _ => ∃ (pn : Addr) (names : List Str) (x : Str) (c : Int), vs = [.ref pn, .str x, .int c] ∧ SqL K H pn (names.map V.str) ∧ 0 < names.length ∧ names.length ≤ 100 ∧ (∀ y ∈ names, GoodN y) ∧ GxR.TabG H T ∧
  ∀ (xs : List V) (ds : List PyData) l H', Kp T H H' → H l = none → H' l = some (.lst xs) → (∀ A : List Addr, (∀ a ∈ A, H a ≠ none ∨ a = l) → DpAll K (hide A H') xs ds) → (∀ d ∈ ds, ND d) → ds.length ≤ 6 → mayL [x] ds = true → Q (.ref l) H'
theorem ok_lneeds {f T : Addr} {fd : FuncData} (F : Fun K "_law_needs" "_law_needs" sLNeeds f fd) (mL : mg "len" = none) (mR : mg "range" = none) : FnOk P w K mg base CX0 1 f fd ["_law_names_here", "_law_ware", "_law_cell"] (spLNeeds K T) := by
  refine F.ok scLNeeds (fun vs H Q E h => ?_) (fun cdv A outer s H vs Q E hr h => ?_)
  · obtain ⟨pn, names, x, c, rfl, _⟩ := h
    rfl
  · obtain ⟨pn, names, x, c, rfl, hN, hn0, hn1, hgd, ht, q⟩ := h
    refine ⟨_, pss_cons (ps_set (i := 3) scLNeeds.nd rfl (.inl rfl) (pe_lst pa_nil))
      (pss_cons (ps_for PassesOwn.never rfl (pi_range1 (by rfl) mR (pa_cons (pe_op op_mod (pv 2) pe_int) pa_nil)) (pg_name (i := 4) scLNeeds.nd rfl (.inl rfl))
        (pss_cons (ps_set (i := 5) scLNeeds.nd rfl (.inl rfl) (pe_ix ix_list (pv 0) (pe_op op_mod (pe_op op_add (pe_op op_fdiv (pv 2) pe_int) (pv 4)) (pe_callB call_len_seq (by rfl) mL PySem.boot_len (pa_cons (pv 0) pa_nil))) (fun _ _ => rfl)))
        (pss_one (ps_if (PW.pt (pw_and (pt_cmpR op_ne (pv 5) (pv 1) (nomark _)) (pw_and1 (pt_cmpR op_notIn_seq (pv 5) (pe_lc (own := [("_law_need", 7)]) (g := gName 7) (tt := tYes) rfl scLNeeds.nd (pi_list (pv 3))
              (blkOk_by (own := [("_law_need", 7)]) (N := lneedsN) (sc := defScope sLNeeds) (by decide +kernel)) (fun _ _ _ _ _ => pg_name (i := 7) scLNeeds.nd rfl (Or.inl rfl)) (fun _ _ _ _ _ => pts_nil)
              (fun _ _ _ _ _ => pe_ix (r := rIxT K) ix_tup (pv 7) pe_int (fun _ _ => rfl))) (by rfl)))))
          (pss_cons (ps_set (i := 6) scLNeeds.nd rfl (.inl rfl) (pe_op op_add pe_int (pe_op op_mod (pe_op op_add (pe_op op_fdiv (pv 2) pe_int) (pe_op op_mul pe_int (pv 4))) pe_int)))
          (pss_one (ps_expr (pe_bm PySem.F.plainAttrs_list PySem.F.slot_list_append PySem.F.type_list_append mt_append (pv 3) (pa_cons (pe_tup (pa_cons (pv 5) (pa_cons (pv 6) (pa_cons (pe_op op_add (pv 6) (pe_op op_mod (pe_op op_fdiv (pv 2) pe_int) (pe_op op_sub pe_int (pv 6)))) pa_nil)))) pa_nil)))))
          pss_nil))))
      (pss_one (ps_ret (pv 3)))), ?_⟩
    refine ⟨(by show (0 : Nat) ≤ sizeLine; decide), fun f0 nf => ?_⟩
    have k0 := Kp.new (o := HO.lst []) ht nf
    have fT := tab_nn ht nf
    refine ⟨_, rfl, c, 7, rfl, rfl, (by show (0 : Int) < 7; decide), c % 7, rfl, (by omega), (by omega), for_range (lo := 0) (n := (c % 7).toNat) (fun i σ' H' => ∃ (x4 x5 x6 : Option V) (xs : List V) (ds : List PyData), σ' = [some (.ref pn), some (.str x), some (.int c), some (.ref f0), x4, x5, x6, none] ∧
        Kp T H H' ∧ H' f0 = some (.lst xs) ∧ (∀ A : List Addr, (∀ a ∈ A, H a ≠ none ∨ a = f0) → DpAll K (hide A H') xs ds) ∧ (∀ d ∈ ds, ND d) ∧ ds.length ≤ i ∧ mayL [x] ds = true)
      ⟨none, none, none, [], [], rfl, k0, upd_same, fun A _ => .nil, (fun d hd => by cases hd), Nat.le_refl _, rfl⟩ (fun i σ' H' hi hm => ?_) (fun σ' H' hm => ?_)⟩
    · obtain ⟨x4, x5, x6, xs, ds, rfl, kk, hf, hA, hnd, hdl, hmy⟩ := hm
      have hN1 := kk.seq hN
      have hlen : (names.map V.str).length = names.length := List.length_map ..
      have hxd := dpAll_len (hA [] (fun a ha => by cases ha))
      -- other
      have hm0 : 0 ≤ (c / 7 + (0 + (i : Int))) % ((names.map V.str).length : Int) := Int.emod_nonneg _ (by omega)
      have hm1 : (c / 7 + (0 + (i : Int))) % ((names.map V.str).length : Int) < ((names.map V.str).length : Int) := Int.emod_lt_of_pos _ (by omega)
      obtain ⟨v, hv, ot, rfl, hog⟩ := at_pick (xs := names.map V.str) (p := fun v => ∃ y, v = .str y ∧ GoodN y) hm0 hm1 (fun z hz => by
        obtain ⟨y, hy, rfl⟩ := List.mem_map.mp hz
        exact ⟨y, rfl, hgd y hy⟩)
      refine ⟨_, rfl, _, rfl, c, 7, rfl, rfl, ⟨by decide, by decide⟩, _, rfl, _, _, rfl, rfl, _, rfl, pn, _, rfl, .inl hN1, _, _, rfl, rfl, (by omega), pn, _, _, _, rfl, rfl, hN1, hv, ?_⟩
      have stay : ∀ (y5 y6 : Option V) H2, Kp T H' H2 → ∃ (x4 x5 x6 : Option V) (xs : List V) (ds : List PyData), [some (V.ref pn), some (.str x), some (.int c), some (.ref f0), some (.int (0 + (i : Int))), y5, y6, none] = [some (.ref pn), some (.str x), some (.int c), some (.ref f0), x4, x5, x6, none] ∧
          Kp T H H2 ∧ H2 f0 = some (.lst xs) ∧ (∀ A : List Addr, (∀ a ∈ A, H a ≠ none ∨ a = f0) → DpAll K (hide A H2) xs ds) ∧ (∀ d ∈ ds, ND d) ∧ ds.length ≤ i + 1 ∧ mayL [x] ds = true := fun y5 y6 H2 k2 =>
        ⟨_, _, _, xs, ds, rfl, kk.trans k2, k2.lst hf, fun A hh => dpAll_mono (fun b o hs e => by
          obtain ⟨a1, a2⟩ := hide_some e
          exact hide_of (k2.keep b o (isSeq_ne_tab k2.t0 hs a1) a1) a2) _ _ (hA A hh), hnd, by omega, hmy⟩
      refine ⟨_, rfl, _, rfl, rfl, _, rfl, iteN (fun hne => ?_) (fun heq => ?_)⟩
      · -- the wares that are there
        refine ⟨_, rfl, _, rfl, f0, rfl, ⟨_, .inl (.of hf)⟩, fun D nD => ?_⟩
        have kD := fun o => Kp.new (o := o) kk.tab nD
        have hDf : f0 ≠ D := ne_of_none hf nD
        refine lc_list (K := K) (a := f0) (xs := xs) (fun j H2 => H2 = upd H' D (.lst ((ds.take j).map fun d => V.str (wOf d)))) rfl (fun j H2 _ e => by subst e; exact .inl (.of ((kD _).lst hf))) (fun j y H2 hj e => ?_) (fun H2 e => ?_)
        · subst e
          refine ⟨rfl, ?_⟩
          have hjl : j < ds.length := by
            have := (List.getElem?_eq_some_iff.mp hj).1
            omega
          obtain ⟨y', hy', hdy⟩ := dpAll_get (hA [] (fun a ha => by cases ha)) (List.getElem?_eq_getElem hjl)
          have ey : y' = y := Option.some.inj (hy'.symm.trans hj)
          subst ey
          obtain ⟨a0, i0, j0, ed, _⟩ := hnd _ (List.getElem_mem hjl)
          have hdy2 := (kD (.lst ((ds.take j).map fun d => V.str (wOf d)))).dp _ _ (dp_show hdy)
          have ew : wOf ds[j] = a0 := by rw [ed]; rfl
          rw [ed] at hdy2
          cases hdy2 with
          | @tup tp ys _ hT hys =>
            cases hys with
            | @cons y0 yr _ _ hy0 hyr =>
              cases hy0
              have i00 : atI (V.str a0 :: yr) 0 = some (.str a0) := atI_nat (j := 0) rfl
              refine ⟨_, rfl, tp, _, 0, _, rfl, rfl, hT, i00, _, upd_same, small1000 (by rw [List.length_map, List.length_take]; omega), ?_⟩
              rw [upd_upd, List.take_add_one, List.getElem?_eq_getElem hjl, List.map_append]
              show _ = upd H' D (.lst (_ ++ [V.str (wOf ds[j])]))
              rw [ew]
        · subst e
          have hq : (ds.take xs.length).map (fun d => V.str (wOf d)) = (ds.map wOf).map V.str := by
            rw [hxd, List.take_length, List.map_map]
            rfl
          rw [hq]
          refine ⟨D, _, rfl, .inl (.inl (.of upd_same)), rfl, flat_strs _, ?_⟩
          refine ⟨_, rfl, ?_⟩
          show if (!inV (.str ot) ((ds.map wOf).map V.str)) = true then _ else _
          rw [inV_str]
          refine iteN (fun hni => ?_) (fun hin => stay _ _ _ (kD _))
          have t1 := (kD (.lst ((ds.map wOf).map V.str))).tab
          have k1 := kD (.lst ((ds.map wOf).map V.str))
          generalize upd H' D (.lst ((ds.map wOf).map V.str)) = H1 at k1 t1 ⊢
          -- low, and the need
          refine ⟨_, rfl, c, 49, rfl, rfl, ⟨by decide, by decide⟩, _, rfl, 31, _, rfl, rfl, .inl ⟨by decide, by decide⟩, _, _, rfl, rfl, _, 999, rfl, rfl, (by show (0 : Int) < 999; decide), 1, _, rfl, rfl, ?_⟩
          have hb0 : 0 ≤ (c / 49 + 31 * (0 + (i : Int))) % 999 := Int.emod_nonneg _ (by decide)
          have hb1 : (c / 49 + 31 * (0 + (i : Int))) % 999 < 999 := Int.emod_lt_of_pos _ (by decide)
          have hf1 := k1.lst hf
          refine ⟨_, rfl, .inl ⟨rfl, _, .inl (.inl hf1)⟩, _, rfl, _, rfl, _, rfl, _, rfl, c, 3, rfl, rfl, ⟨by decide, by decide⟩, _, rfl, 1000, _, rfl, rfl, c / 3, _, rfl, rfl, (by
            show (0 : Int) < 1000 - (1 + (c / 49 + 31 * (0 + (i : Int))) % 999)
            omega), _, _, rfl, rfl, (by show (3 : Nat) ≤ sizeLine; decide), fun tp ntp => ?_⟩
          have hr0 : 0 ≤ c / 3 % (1000 - (1 + (c / 49 + 31 * (0 + (i : Int))) % 999)) := Int.emod_nonneg _ (by omega)
          have hr1 : c / 3 % (1000 - (1 + (c / 49 + 31 * (0 + (i : Int))) % 999)) < 1000 - (1 + (c / 49 + 31 * (0 + (i : Int))) % 999) := Int.emod_lt_of_pos _ (by omega)
          have k2 := Kp.new (o := HO.tup [.str ot, .int (1 + (c / 49 + 31 * (0 + (i : Int))) % 999), .int ((1 + (c / 49 + 31 * (0 + (i : Int))) % 999) + c / 3 % (1000 - (1 + (c / 49 + 31 * (0 + (i : Int))) % 999)))]) t1 ntp
          refine ⟨f0, xs, _, rfl, rfl, k2.lst hf1, small1000 (by omega), ?_⟩
          have hnew : ND (.tuple [.str ot, .int (1 + (c / 49 + 31 * (0 + (i : Int))) % 999), .int ((1 + (c / 49 + 31 * (0 + (i : Int))) % 999) + c / 3 % (1000 - (1 + (c / 49 + 31 * (0 + (i : Int))) % 999)))]) := by
            refine ⟨ot, (1 + (c / 49 + 31 * (0 + (i : Int))) % 999), _, rfl, hog, ?_, ?_, by omega⟩
            · show (decide (1 ≤ (1 + (c / 49 + 31 * (0 + (i : Int))) % 999)) && decide ((1 + (c / 49 + 31 * (0 + (i : Int))) % 999) ≤ 999)) = true
              rw [decide_eq_true (by omega), decide_eq_true (by omega)] <;> rfl
            · show (decide (1 ≤ (1 + (c / 49 + 31 * (0 + (i : Int))) % 999) + c / 3 % (1000 - (1 + (c / 49 + 31 * (0 + (i : Int))) % 999))) && decide ((1 + (c / 49 + 31 * (0 + (i : Int))) % 999) + c / 3 % (1000 - (1 + (c / 49 + 31 * (0 + (i : Int))) % 999)) ≤ 999)) = true
              rw [decide_eq_true (by omega), decide_eq_true (by omega)] <;> rfl
          have kall := kk.trans (k1.trans k2)
          have ntpH : H tp = none := (kk.trans k1).free ntp
          have tpf : tp ≠ f0 := fun z => by
            rw [z, hf1] at ntp
            cases ntp
          refine ⟨_, _, _, xs ++ [.ref tp], ds ++ [.tuple [.str ot, .int (1 + (c / 49 + 31 * (0 + (i : Int))) % 999), .int ((1 + (c / 49 + 31 * (0 + (i : Int))) % 999) + c / 3 % (1000 - (1 + (c / 49 + 31 * (0 + (i : Int))) % 999)))]], rfl, kall.set nf fT, upd_same, fun A hh => ?_, fun d hd => ?_, ?_, ?_⟩
          · have tpA : tp ∉ A := fun z => by
              rcases hh tp z with z | z
              · exact z ntpH
              · exact tpf z
            have hold : DpAll K (hide (f0 :: A) (upd (upd H1 tp (.tup [.str ot, .int (1 + (c / 49 + 31 * (0 + (i : Int))) % 999), .int ((1 + (c / 49 + 31 * (0 + (i : Int))) % 999) + c / 3 % (1000 - (1 + (c / 49 + 31 * (0 + (i : Int))) % 999)))])) f0 (.lst (xs ++ [.ref tp])))) xs ds := dpAll_mono (fun b o hs e => by
              obtain ⟨a1, a2⟩ := hide_some e
              have a3 := (k1.trans k2).keep b o (isSeq_ne_tab kk.tab hs a1) a1
              refine hide_of ?_ a2
              rw [upd_ne (fun z => a2 (by rw [z]; exact List.mem_cons_self ..))]
              exact a3) _ _ (hA (f0 :: A) (fun a ha => by
                rcases List.mem_cons.mp ha with ha | ha
                · exact .inr ha
                · exact hh a ha))
            have hold2 : DpAll K (hide A (upd (upd H1 tp (.tup [.str ot, .int (1 + (c / 49 + 31 * (0 + (i : Int))) % 999), .int ((1 + (c / 49 + 31 * (0 + (i : Int))) % 999) + c / 3 % (1000 - (1 + (c / 49 + 31 * (0 + (i : Int))) % 999)))])) f0 (.lst (xs ++ [.ref tp])))) xs ds := dpAll_mono (fun b o hs e => by
              obtain ⟨a1, a2⟩ := hide_some e
              exact hide_of a1 (fun z => a2 (List.mem_cons_of_mem _ z))) _ _ hold
            have hT : SqT K (hide A (upd (upd H1 tp (.tup [.str ot, .int (1 + (c / 49 + 31 * (0 + (i : Int))) % 999), .int ((1 + (c / 49 + 31 * (0 + (i : Int))) % 999) + c / 3 % (1000 - (1 + (c / 49 + 31 * (0 + (i : Int))) % 999)))])) f0 (.lst (xs ++ [.ref tp])))) tp [.str ot, .int (1 + (c / 49 + 31 * (0 + (i : Int))) % 999), .int ((1 + (c / 49 + 31 * (0 + (i : Int))) % 999) + c / 3 % (1000 - (1 + (c / 49 + 31 * (0 + (i : Int))) % 999)))] := .inl (.inl (hide_of (by rw [upd_ne tpf, upd_same]) tpA))
            have app : ∀ {ds : List PyData} {vs : List V}, DpAll K (hide A (upd (upd H1 tp (.tup [.str ot, .int (1 + (c / 49 + 31 * (0 + (i : Int))) % 999), .int ((1 + (c / 49 + 31 * (0 + (i : Int))) % 999) + c / 3 % (1000 - (1 + (c / 49 + 31 * (0 + (i : Int))) % 999)))])) f0 (.lst (xs ++ [.ref tp])))) vs ds →
                DpAll K (hide A (upd (upd H1 tp (.tup [.str ot, .int (1 + (c / 49 + 31 * (0 + (i : Int))) % 999), .int ((1 + (c / 49 + 31 * (0 + (i : Int))) % 999) + c / 3 % (1000 - (1 + (c / 49 + 31 * (0 + (i : Int))) % 999)))])) f0 (.lst (xs ++ [.ref tp])))) (vs ++ [.ref tp]) (ds ++ [.tuple [.str ot, .int (1 + (c / 49 + 31 * (0 + (i : Int))) % 999), .int ((1 + (c / 49 + 31 * (0 + (i : Int))) % 999) + c / 3 % (1000 - (1 + (c / 49 + 31 * (0 + (i : Int))) % 999)))]]) := by
              intro ds
              induction ds with
              | nil => intro vs h; cases h; exact .cons (.tup hT (.cons (.str _) (.cons (.int _) (.cons (.int _) .nil)))) .nil
              | cons d r ih =>
                intro vs h
                cases h with
                | cons a b => exact .cons a (ih b)
            exact app hold2
          · rcases List.mem_append.mp hd with hd | hd
            · exact hnd d hd
            · rw [List.mem_singleton.mp hd]; exact hnew
          · rw [List.length_append, List.length_singleton]; omega
          · rw [mayL_snoc, hmy, hnew.need]
            show (true && (true && !decide (ot ∈ [x] ++ ds.map wOf))) = true
            rw [decide_eq_false (fun z => ?_)]
            · rfl
            · rcases List.mem_append.mp z with z | z
              · exact hne (congrArg V.str (List.mem_singleton.mp z))
              · exact hni z
      · exact stay _ _ _ (Kp.refl kk.tab)
    · obtain ⟨x4, x5, x6, xs, ds, rfl, kk, hf, hA, hnd, hdl, hmy⟩ := hm
      exact ⟨_, rfl, q xs ds f0 H' kk nf hf hA hnd (by omega) hmy⟩
end
end Pk

set_option Elab.async false
set_option linter.all false
set_option maxRecDepth 100000
set_option maxHeartbeats 4000000
namespace Pk
open PySem PySem.Spec PyProof.Rows L2
abbrev sAsked : Stmt := topS 27
abbrev sDeed : Stmt := topS 28
/-! ### a shop and the law's own rows of it -/
structure Pair (K : PySem.W.Frag) (C : Addr) (A : List Addr) (H : Hp) (p D : Addr) (st : List Shelf) (r : Addr) (cl : List Shelf) : Prop where
  S : ShopAt K C A H p D st
  B : BoxOk K A H r cl
  dj : ∀ f ∈ foot D st, f ∉ foot r cl
  sim : ∀ v, dataOf st v = dataOf cl v
  le8 : ∀ v, (dataOf cl v).length ≤ 8
  n8 : cl.length ≤ 8
  gw : ∀ s ∈ cl, GoodN s.ware
  gd : ∀ v, ∀ e ∈ dataOf cl v, (∀ d ∈ e.2, ND d) ∧ e.2.length ≤ 6 ∧ makeB (.int e.1) = true
theorem data_ne {st : List Shelf} {s : Shelf} (nd : (st.map (·.ware)).Nodup) (hs : s ∈ st) (ne : s.ents ≠ []) : dataOf st s.ware ≠ [] := by
  unfold dataOf
  rw [look_of nd hs rfl]
  show s.ents.map entD ≠ []
  exact fun z => ne (List.map_eq_nil_iff.mp z)
theorem data_look {cl : List Shelf} {v : Str} (h : dataOf cl v ≠ []) : ∃ s, look cl v = some s ∧ s.ents ≠ [] := by
  unfold dataOf at h
  cases el : look cl v with
  | none => rw [el] at h; exact absurd rfl h
  | some s =>
    rw [el] at h
    exact ⟨s, rfl, fun z => h (by show s.ents.map entD = []; rw [z]; rfl)⟩
theorem mem_fullW {cl : List Shelf} (nd : (cl.map (·.ware)).Nodup) (v : Str) : v ∈ fullW cl ↔ dataOf cl v ≠ [] := by
  unfold fullW
  constructor
  · intro h
    obtain ⟨s, hs, rfl⟩ := List.mem_map.mp h
    obtain ⟨h1, h2⟩ := List.mem_filter.mp hs
    refine data_ne nd h1 fun z => ?_
    rw [z] at h2
    cases h2
  · intro h
    obtain ⟨s, el, hne⟩ := data_look h
    obtain ⟨h1, h2⟩ := look_mem el
    refine List.mem_map.mpr ⟨s, List.mem_filter.mpr ⟨h1, ?_⟩, h2⟩
    cases hz : s.ents with
    | nil => exact absurd hz hne
    | cons a b => rfl
section
variable {K : PySem.W.Frag} {C : Addr} {A : List Addr} {H H' : Hp} {p D r T : Addr} {st cl : List Shelf}
theorem Pair.perm (Z : Pair K C A H p D st r cl) : (st.map (·.ware)).Perm (fullW cl) := by
  have nf : (fullW cl).Nodup := (List.Sublist.map _ List.filter_sublist).nodup Z.B.nd
  refine (List.perm_ext_iff_of_nodup Z.S.bx.nd nf).mpr fun v => ?_
  rw [mem_fullW Z.B.nd, ← Z.sim]
  constructor
  · intro h
    obtain ⟨s, hs, rfl⟩ := List.mem_map.mp h
    exact data_ne Z.S.bx.nd hs (Z.S.ne s hs)
  · intro h
    obtain ⟨s, el, _⟩ := data_look h
    obtain ⟨h1, h2⟩ := look_mem el
    exact List.mem_map.mpr ⟨s, h1, h2⟩
theorem Pair.len (Z : Pair K C A H p D st r cl) : st.length ≤ 8 := by
  have h := Z.perm.length_eq
  rw [List.length_map] at h
  have := fullW_le cl
  have := Z.n8
  omega
theorem Pair.kept {F : List Addr} (Z : Pair K C A H p D st r cl) (k : Kx T F H H') (hF : ∀ f ∈ F, f ∈ A ∨ ∃ kvs, H f = some (.dK kvs)) (hFp : ∀ f ∈ F, f ∈ A → ∃ xs, H f = some (.lst xs)) (d1 : ∀ f ∈ foot D st, f ∉ F) (d2 : ∀ f ∈ foot r cl, f ∉ F) : Pair K C A H' p D st r cl :=
  ⟨Z.S.kept k hF hFp d1, Z.B.kept k hF d2, Z.dj, Z.sim, Z.le8, Z.n8, Z.gw, Z.gd⟩
theorem Pair.keptP (Z : Pair K C A H p D st r cl) (k : Kp T H H') : Pair K C A H' p D st r cl :=
  Z.kept (F := []) (.of k) (fun f hf => by cases hf) (fun f hf => by cases hf) (fun f _ hf => by cases hf) (fun f _ hf => by cases hf)
end
theorem dpAll_kx {K : PySem.W.Frag} {T : Addr} {A F : List Addr} {H H' : Hp} (k : Kx T F H H') (hF : ∀ f ∈ F, f ∈ A ∨ ∃ kvs, H f = some (.dK kvs)) {xs : List V} {ds : List PyData} (h : DpAll K (hide A H) xs ds) : DpAll K (hide A H') xs ds :=
  dpAll_mono (fun b o hs e => by
    obtain ⟨e1, e2⟩ := hide_some e
    refine hide_of (k.keep b o (isSeq_ne_tab k.t0 hs e1) (fun z => ?_) e1) e2
    rcases hF b z with z | ⟨kvs, z⟩
    · exact e2 z
    · rw [z] at e1
      cases e1
      cases hs) ds xs h
theorem gd_add {cl : List Shelf} {cl' : List Shelf} {x : Str} {m : Int} {ds : List PyData} (h : ∀ v, dataOf cl' v = if v = x then dataOf cl x ++ [(m, ds)] else dataOf cl v)
    (g : ∀ v, ∀ e ∈ dataOf cl v, (∀ d ∈ e.2, ND d) ∧ e.2.length ≤ 6 ∧ makeB (.int e.1) = true) (gd : ∀ d ∈ ds, ND d) (hl : ds.length ≤ 6) (hm : makeB (.int m) = true) :
    ∀ v, ∀ e ∈ dataOf cl' v, (∀ d ∈ e.2, ND d) ∧ e.2.length ≤ 6 ∧ makeB (.int e.1) = true := fun v e he => by
  rw [h v] at he
  by_cases hv : v = x
  · rw [if_pos hv] at he
    rcases List.mem_append.mp he with he | he
    · exact g x e he
    · rw [List.mem_singleton.mp he]
      exact ⟨gd, hl, hm⟩
  · rw [if_neg hv] at he
    exact g v e he
theorem gd_drop {cl : List Shelf} {cl' : List Shelf} {x : Str} {m : Int} (h : ∀ v, dataOf cl' v = if v = x then (dataOf cl x).filter (fun e => decide (e.1 ≠ m)) else dataOf cl v)
    (g : ∀ v, ∀ e ∈ dataOf cl v, (∀ d ∈ e.2, ND d) ∧ e.2.length ≤ 6 ∧ makeB (.int e.1) = true) :
    ∀ v, ∀ e ∈ dataOf cl' v, (∀ d ∈ e.2, ND d) ∧ e.2.length ≤ 6 ∧ makeB (.int e.1) = true := fun v e he => by
  rw [h v] at he
  by_cases hv : v = x
  · rw [if_pos hv] at he
    exact g x e (List.mem_filter.mp he).1
  · rw [if_neg hv] at he
    exact g v e he
section
variable {P : Program} {w : World} {K : PySem.W.Frag} {mg : Str → Option Value} {base : Heap}
/-! ### the law's deed -/
def deedN : List Str := ["_law_shop", "_law_rows", "_law_ware", "_law_make", "_law_needs_here", "_law_one"]
theorem scDeed : FnScope deedN ["_law_shop", "_law_rows", "_law_ware", "_law_make", "_law_needs_here"] (defScope sDeed) := ⟨rfl, rfl, rfl, by decide +kernel, rfl, by decide +kernel, by decide +kernel⟩
def spDeed (K : PySem.W.Frag) (C T : Addr) : Sp := fun vs H Q _ => ∃ (A : List Addr) (p D : Addr) (st : List Shelf) (r : Addr) (cl : List Shelf) (x : Str) (m : Int) (nd : Addr) (xs : List V) (ds : List PyData),
  vs = [.ref p, .ref r, .str x, .int m, .ref nd] ∧ Pair K C A H p D st r cl ∧ (∃ c, look cl x = some c) ∧ GoodN x ∧ makeB (.int m) = true ∧ H nd = some (.lst xs) ∧ nd ∈ A ∧ DpAll K (hide A H) xs ds ∧ (∀ d ∈ ds, ND d) ∧ ds.length ≤ 6 ∧ mayL [x] ds = true ∧
  GxR.TabG H T ∧ (∀ a ∈ A, ∃ ys, H a = some (.lst ys)) ∧
  ∀ H' st' cl', Pair K C A H' p D st' r cl' → cl'.map (·.ware) = cl.map (·.ware) → cl'.map (·.at_) = cl.map (·.at_) → Kx T (nd :: (foot D st ++ foot r cl)) H H' → (∀ f ∈ foot D st', f ∈ foot D st ∨ H f = none) → Q (.bl true) H'
theorem ok_deed {f C T fP fT : Addr} {fd fdP fdT : FuncData} (F : Fun K "_law_deed" "_law_deed" sDeed f fd) (X : ShopT K mg C)
    (GP : FnOk P w K mg base CX0 5 fP fdP ["self", "ware", "make", "needs"] (spPut K C T)) (bP : Binds K fdP ["self", "ware", "make", "needs"] []) (mP : Meth K C "put" fP)
    (GT : FnOk P w K mg base CX0 4 fT fdT ["self", "ware", "make"] (spTake K C T)) (bT : Binds K fdT ["self", "ware", "make"] []) (mT : Meth K C "take" fT) :
    FnOk P w K mg base CX0 6 f fd ["_law_shop", "_law_rows", "_law_ware", "_law_make", "_law_needs_here"] (spDeed K C T) := by
  refine F.ok scDeed (fun vs H Q E h => ?_) (fun cdv A0 outer s H vs Q E hr h => ?_)
  · obtain ⟨A, p, D, st, r, cl, x, m, nd, xs, ds, rfl, _⟩ := h
    rfl
  · obtain ⟨A, p, D, st, r, cl, x, m, nd, xs, ds, rfl, Z, ⟨c, el⟩, hg, hm, hn, hnA, hall, hnd, hdl, hmy, ht, hA, q⟩ := h
    have hu := hu_of hr
    have hu0 := Nat.lt_of_succ_lt hu
    refine ⟨_, pss_cons (ps_if (pt_cmp (pc_din hu (pv 3) (pe_dget hu (pv 1) (pv 2) (fun _ _ => rfl))))
        (pss_cons (ps_expr (pe_dpop1 (pe_dget hu (pv 1) (pv 2) (fun _ _ => rfl)) (pv 3) ⟨rfl, rfl, rfl, rfl⟩))
        (pss_one (ps_ret (pe_cmp (pc_isN (pe_meth (pv 0) X.cl mT GT (hr.mono (by decide)) bT .nil pass0 (pa_cons (pv 2) (pa_cons (pv 3) pa_nil)))))))) pss_nil)
      (C8.pss_cut (ps_if (PW.pt (pw_or (pt_cmpR op_eq (pe_callB call_lenD (by rfl) X.len PySem.boot_len (pa_cons (pe_dget hu (pv 1) (pv 2) (fun _ _ => rfl)) pa_nil)) pe_int (nomark _))
        (pw_or1 (PW.pt (pw_and (pt_cmpR (op_eqE hu0) (pe_dget hu (pv 1) (pv 2) (fun _ _ => rfl)) pe_dnewK (nomark _))
          (pw_and1 (pt_cmpR op_eq (pe_callB call_len_seq (by rfl) X.len PySem.boot_len (pa_cons (pe_lock (pe_lc (own := [("_law_one", 5)]) (g := gName 5) rfl scDeed.nd (pi_keys (pv 1))
            (blkOk_by (own := [("_law_one", 5)]) (N := deedN) (sc := defScope sDeed) (by decide +kernel)) (fun _ _ _ _ _ => pg_name (i := 5) scDeed.nd rfl (Or.inl rfl))
            (fun _ _ _ _ _ => pts_one (pt_cmpR (op_neE hu0) (pe_dget hu (pv 1) (pv 5) (fun _ _ => rfl)) pe_dnewK (nomark _))) (fun _ _ _ _ _ => pv 5))) pa_nil)) pe_int (nomark _)))))))) (pss_one (ps_ret pe_bl)) pss_nil)
      (pss_cons (ps_dput hu (pe_dget hu (pv 1) (pv 2) (fun _ _ => rfl)) (pv 3) (pe_callTy call_list_of (by rfl) X.lst boot_list (pa_cons (pv 4) pa_nil)) rfl)
      (pss_cons (ps_if (pt_cmp (pc_notN (pe_meth (pv 0) X.cl mP GP hr bP .nil pass0 (pa_cons (pv 2) (pa_cons (pv 3) (pa_cons (pv 4) pa_nil)))))) (pss_one (ps_ret pe_bl)) pss_nil)
      (pss_cons (ps_expr (pe_bm0 PySem.F.plainAttrs_list PySem.F.slot_list_clear PySem.F.type_list_clear mt_clear (pv 4)))
      (pss_one (ps_ret pe_bl)))))), ?_⟩
    have hAn : ∀ a ∈ A, H a ≠ none := fun a ha z => by
      obtain ⟨ys, e⟩ := hA a ha
      rw [e] at z; cases z
    have cm := (look_mem el).1
    have cw := (look_mem el).2
    have SC := Z.B.sh c cm
    have gC : ∀ {H2 : Hp}, BoxOk K A H2 r cl → DGet H2 r (.str x) (some (.ref c.at_)) := fun B => by
      have z := DGet.k (k := (Sum.inr x : Key)) B.dc
      rw [look_val, el] at z
      exact z
    have e0 : dataOf cl x = c.ents.map entD := by unfold dataOf; rw [el]; rfl
    have hin : hasB st (.str x) (.int m) = (lookE c.ents m).isSome := by
      rw [hasB_data hg.1 hm, Z.sim, e0, findD_ents]
      cases lookE c.ents m <;> rfl
    have ftD : ∀ f ∈ foot r cl, f ∉ foot D st := fun f hf hf2 => Z.dj f hf2 hf
    have ndD : ∀ f ∈ foot D st, f ≠ nd := fun f hf z => by
      obtain ⟨kvs, e⟩ := Z.S.bx.foot_dict f hf
      rw [z, hn] at e; cases e
    have ndR : ∀ f ∈ foot r cl, f ≠ nd := fun f hf z => by
      obtain ⟨kvs, e⟩ := Z.B.foot_dict f hf
      rw [z, hn] at e; cases e
    refine ⟨_, rfl, _, rfl, _, rfl, r, _, rfl, gC Z.B, c.at_, _, rfl, DGet.k (k := Sum.inl m) SC.dc, _, rfl, ?_⟩
    rw [lookE_val]
    cases ee : lookE c.ents m with
    | some e =>
      -- the make is there: out it goes
      refine iteT ⟨_, rfl, _, rfl, r, _, rfl, gC Z.B, c.at_, rfl, .inl ⟨_, .inl SC.dc⟩, _, rfl, _, Sum.inl m, .ref e.2.1, SC.dc, rfl, (by rw [lookE_val, ee]; rfl), ?_⟩
      rw [ent_drop]
      obtain ⟨B2, k2⟩ := Z.B.set (es := dropE c.ents m) ht el (fun e he => SC.dp e (List.mem_filter.mp he).1) (drop_nd SC.nd)
      have S2 := Z.S.kept k2 (fun f hf => .inr (Z.B.foot_dict f hf)) (fun f hf hfA => by
        obtain ⟨ys, e1⟩ := hA f hfA
        exact ⟨ys, e1⟩) Z.dj
      obtain ⟨dx2, o2⟩ := S2.ob
      refine ⟨_, rfl, p, dx2, _, rfl, o2, flS_no D (by decide +kernel), _, rfl, _, rfl, A, p, D, st, x, m, rfl, S2, hg.2, (by rw [hin, ee]; rfl), k2.tab, fun H3 S3 k3 => ?_⟩
      have hcl : ∀ v, dataOf (setE cl x (dropE c.ents m)) v = if v = x then (dataOf cl x).filter (fun e => decide (e.1 ≠ m)) else dataOf cl v := fun v => by
        rw [setE_data el, e0, drop_data]
      have B3 := B2.kept k3 (fun f hf => .inr (S2.bx.foot_dict f hf)) (fun f hf => by
        unfold foot at hf
        rw [setE_ats] at hf
        exact ftD f hf)
      refine q H3 _ _ ⟨S3, B3, fun f hf => ?_, fun v => ?_, fun v => ?_, by rw [setE_len]; exact Z.n8, fun s hs => ?_, gd_drop hcl Z.gd⟩ (setE_wares _ _ _) (setE_ats _ _ _) ⟨ht, k3.tab, fun b o hb hbF e => ?_⟩ (fun f hf => .inl (takeS_foot f hf))
      · unfold foot
        rw [setE_ats]
        exact Z.dj f (takeS_foot f hf)
      · rw [takeS_data, hcl, Z.sim, Z.sim]
      · rw [hcl]
        by_cases hv : v = x
        · rw [if_pos hv]
          exact Nat.le_trans (List.length_filter_le _ _) (Z.le8 x)
        · rw [if_neg hv]
          exact Z.le8 v
      · have hw' : s.ware ∈ cl.map (·.ware) := by
          rw [← setE_wares x (dropE c.ents m) cl]
          exact List.mem_map.mpr ⟨s, hs, rfl⟩
        obtain ⟨s', hs', e'⟩ := List.mem_map.mp hw'
        rw [← e']
        exact Z.gw s' hs'
      · refine k3.keep b o hb (fun z => hbF (List.mem_cons_of_mem _ (List.mem_append_left _ z))) (k2.keep b o hb (fun z => hbF (List.mem_cons_of_mem _ (List.mem_append_right _ z))) e)
    | none =>
      refine iteF ?_
      have same : ∀ H', Kp T H H' → Q (.bl true) H' := fun H' k => q H' st cl (Z.keptP k) rfl rfl (.of k) (fun f hf => .inl hf)
      refine ⟨fun σ' H1 => σ' = [some (.ref p), some (.ref r), some (.str x), some (.int m), some (.ref nd), none] ∧ Kp T H H1 ∧ c.ents.length ≠ 8, ?_, fun σ' H1 hm1 => ?_⟩
      · refine ⟨_, rfl, _, rfl, r, _, rfl, gC Z.B, c.at_, _, rfl, SC.dc, rfl, _, rfl, ite2 (fun h8 => same H (Kp.refl ht)) (fun h8 => ?_)⟩
        have h8' : c.ents.length ≠ 8 := fun z => h8 (decide_eq_true (by rw [List.length_map, z]; rfl))
        refine ⟨_, rfl, _, rfl, r, _, rfl, gC Z.B, fun d ndd => ?_⟩
        have k1 := Kp.new (o := HO.dK []) ht ndd
        have B1 := Z.B.keptP k1
        refine ⟨c.at_, d, _, rfl, rfl, (B1.sh c cm).dc, upd_same, _, rfl, ?_⟩
        cases hz : (c.ents.map entK).isEmpty with
        | false => exact iteF ⟨rfl, k1, h8'⟩
        | true =>
          refine iteT (read_full B1 k1.tab rfl (by decide) (by show 5 < 6; decide) (by have := Z.n8; omega) fun M H' k2 nM hM => ?_)
          refine ⟨M, _, rfl, .inl (.inl (.inl hM)), rfl, _, rfl, ite2 (fun h12 => ?_) (fun h12 => ⟨rfl, k1.trans k2, h8'⟩)⟩
          have z : (((fullW cl).map V.str).length : Int) = 12 := V.int.inj (of_decide_eq_true h12)
          rw [List.length_map] at z
          have := fullW_le cl
          have := Z.n8
          omega
      · obtain ⟨rfl, k1, h8'⟩ := hm1
        have hl8 : c.ents.length < 8 := by
          have z := Z.le8 x
          rw [e0, List.length_map] at z
          omega
        have Z1 := Z.keptP k1
        -- rows[ware][make] = list(needs)
        refine ⟨_, rfl, nd, xs, rfl, .inl (.inl (.inl (k1.lst hn))), fun l0 nl0 => ?_⟩
        have k2 := Kp.new (o := HO.lst xs) k1.tab nl0
        have nl0H : H l0 = none := k1.free nl0
        have l0A : l0 ∉ A := fun z => hAn l0 z nl0H
        have k12 := k1.trans k2
        have Z2 := Z1.keptP k2
        have all2 := dpAll_kx (A := A) (Kx.of (A := []) k12) (fun f hf => by cases hf) hall
        have dl0 : Dp K (hide A (upd H1 l0 (.lst xs))) (.ref l0) (.list ds) := .lst (.inl (.inl (hide_of upd_same l0A))) all2
        have SC2 := Z2.B.sh c cm
        refine ⟨_, rfl, _, rfl, r, _, rfl, gC Z2.B, _, rfl, c.at_, _, rfl, DPut.k (k := Sum.inl m) SC2.dc (small1000 (by rw [List.length_map]; omega)), ?_⟩
        rw [ent_put (ds := ds) ee]
        obtain ⟨B3, k3⟩ := Z2.B.set (es := c.ents ++ [(m, l0, ds)]) k2.tab el (fun e he => by
          rcases List.mem_append.mp he with he | he
          · exact SC2.dp e he
          · rw [List.mem_singleton.mp he]; exact dl0) (put_nd ee SC2.nd)
        have hAd : ∀ f ∈ foot r cl, f ∈ A → ∃ ys, upd H1 l0 (.lst xs) f = some (.lst ys) := fun f hf hfA => by
          obtain ⟨ys, e1⟩ := hA f hfA
          exact ⟨ys, k12.lst e1⟩
        have S3 := Z2.S.kept k3 (fun f hf => .inr (Z2.B.foot_dict f hf)) hAd Z2.dj
        have all3 := dpAll_kx (A := A) k3 (fun f hf => .inr (Z2.B.foot_dict f hf)) all2
        have hn3 : upd (upd H1 l0 (.lst xs)) c.at_ (.dK ((c.ents ++ [(m, l0, ds)]).map entK)) nd = some (.lst xs) := k3.keep nd _ (tab_ne k2.tab (k12.lst hn) fun _ z => by cases z) (fun z => ndR nd z rfl) (k12.lst hn)
        have t3 := k3.tab
        have hcl : ∀ v, dataOf (setE cl x (c.ents ++ [(m, l0, ds)])) v = if v = x then dataOf cl x ++ [(m, ds)] else dataOf cl v := fun v => by
          rw [setE_data el, e0, List.map_append]
          rfl
        have k03 : Kx T (foot r cl) H (upd (upd H1 l0 (.lst xs)) c.at_ (.dK ((c.ents ++ [(m, l0, ds)]).map entK))) := (Kx.of k12).trans k3
        generalize upd (upd H1 l0 (.lst xs)) c.at_ (.dK ((c.ents ++ [(m, l0, ds)]).map entK)) = H3 at B3 k3 S3 all3 hn3 t3 k03 ⊢
        obtain ⟨dx3, o3⟩ := S3.ob
        have A3 : ∀ a ∈ A, ∃ ys, H3 a = some (.lst ys) := fun a ha => by
          obtain ⟨ys, e1⟩ := hA a ha
          refine ⟨ys, k03.keep a _ (tab_ne ht e1 fun _ z => by cases z) (fun z => ?_) e1⟩
          obtain ⟨kvs, e2⟩ := Z.B.foot_dict a z
          rw [e1] at e2; cases e2
        have hpl : placeB st x = true := by
          unfold placeB
          cases es : look st x with
          | none => exact decide_eq_true (by have := Z.len; omega)
          | some sh =>
            have z := Z.sim x
            rw [e0] at z
            unfold dataOf at z
            rw [es] at z
            have z2 : sh.ents.length = c.ents.length := by
              have z3 := congrArg List.length z
              have z4 : (sh.ents.map entD).length = (c.ents.map entD).length := z3
              rw [List.length_map, List.length_map] at z4
              exact z4
            exact decide_eq_true (by omega)
        -- the shop's put
        refine ⟨_, rfl, p, dx3, _, rfl, o3, flS_no D (by decide +kernel), _, rfl, _, rfl, _, rfl, A, p, D, nd, st, x, m, xs, ds, rfl, S3, hg.2, hg.1, hm, hn3, all3, okL_nd hnd (by omega), ?_, (by rw [hin, ee]; rfl), hpl, t3, (fun a ha z => by
          obtain ⟨ys, e1⟩ := A3 a ha
          rw [e1] at z; cases z), (by have := Z.len; omega), fun H4 st' S4 hst k4 hft => ?_⟩
        · show (decide (ds.length ≤ 6) && mayL [x] ds) = true
          rw [hmy, decide_eq_true hdl] <;> rfl
        refine ⟨_, rfl, iteF ?_⟩
        have B4 := B3.kept k4 (fun f hf => .inr (S3.bx.foot_dict f hf)) (fun f hf => by
          unfold foot at hf
          rw [setE_ats] at hf
          exact ftD f hf)
        have hn4 : H4 nd = some (.lst xs) := k4.keep nd _ (tab_ne t3 hn3 fun _ z => by cases z) (fun z => ndD nd z rfl) hn3
        -- needs.clear()
        refine ⟨_, rfl, .inl ⟨rfl, _, .inl (.inl hn4)⟩, nd, xs, rfl, rfl, hn4, ?_⟩
        have ndT := tab_ne k4.tab hn4 fun _ z => by cases z
        have k5 : Kx T [nd] H4 (upd H4 nd (.lst [])) := Kx.upd k4.tab ndT (List.mem_singleton.mpr rfl)
        have h5 : ∀ f ∈ [nd], f ∈ A ∨ ∃ kvs, H4 f = some (.dK kvs) := fun f hf => .inl (by rw [List.mem_singleton.mp hf]; exact hnA)
        have h5p : ∀ f ∈ [nd], f ∈ A → ∃ ys, H4 f = some (.lst ys) := fun f hf _ => ⟨xs, by rw [List.mem_singleton.mp hf]; exact hn4⟩
        have S5 := S4.kept k5 h5 h5p (fun f hf hf2 => by
          obtain ⟨kvs, e⟩ := S4.bx.foot_dict f hf
          rw [List.mem_singleton.mp hf2, hn4] at e
          cases e)
        have B5 := B4.kept k5 h5 (fun f hf hf2 => by
          obtain ⟨kvs, e⟩ := B4.foot_dict f hf
          rw [List.mem_singleton.mp hf2, hn4] at e
          cases e)
        have efr : foot r (setE cl x (c.ents ++ [(m, l0, ds)])) = foot r cl := by unfold foot; rw [setE_ats]
        have backH : ∀ f, H3 f = none → H f = none := fun f z => by
          cases hq : H f with
          | none => rfl
          | some o =>
            by_cases hfr : f ∈ foot r cl
            · have z2 : ∃ kvs, H3 f = some (.dK kvs) := B3.foot_dict f (by rw [efr]; exact hfr)
              obtain ⟨kvs, z3⟩ := z2
              rw [z] at z3; cases z3
            · by_cases hfT : f = T
              · obtain ⟨ps, e1, _⟩ := t3
                rw [hfT, e1] at z; cases z
              · have z4 := k03.keep f o hfT hfr hq
                rw [z] at z4; cases z4
        refine q _ st' _ ⟨S5, B5, fun f hf => ?_, fun v => ?_, fun v => ?_, by rw [setE_len]; exact Z.n8, fun s hs => ?_, gd_add hcl Z.gd hnd hdl hm⟩ (setE_wares _ _ _) (setE_ats _ _ _) ⟨ht, k5.tab, fun b o hb hbF e => ?_⟩ (fun f hf => ?_)
        · rw [efr]
          rcases hft f hf with hf | hf
          · exact Z.dj f hf
          · intro hf2
            have z2 : ∃ kvs, H3 f = some (.dK kvs) := B3.foot_dict f (by rw [efr]; exact hf2)
            obtain ⟨kvs, z3⟩ := z2
            rw [hf] at z3; cases z3
        · rw [hst, hcl, Z.sim, Z.sim]
        · rw [hcl]
          by_cases hv : v = x
          · rw [if_pos hv, e0, List.length_append, List.length_map, List.length_singleton]
            omega
          · rw [if_neg hv]
            exact Z.le8 v
        · have hw' : s.ware ∈ cl.map (·.ware) := by
            rw [← setE_wares x (c.ents ++ [(m, l0, ds)]) cl]
            exact List.mem_map.mpr ⟨s, hs, rfl⟩
          obtain ⟨s', hs', e'⟩ := List.mem_map.mp hw'
          rw [← e']
          exact Z.gw s' hs'
        · refine k5.keep b o hb (fun z => hbF (by rw [List.mem_singleton.mp z]; exact List.mem_cons_self ..)) (k4.keep b o hb (fun z => hbF (List.mem_cons_of_mem _ (List.mem_append_left _ z))) (k03.keep b o hb (fun z => hbF (List.mem_cons_of_mem _ (List.mem_append_right _ z))) e))
        · rcases hft f hf with hf | hf
          · exact .inl hf
          · exact .inr (backH f hf)
end
end Pk

set_option Elab.async false
set_option linter.all false
set_option maxRecDepth 100000
set_option maxHeartbeats 4000000
namespace Pk
open PySem PySem.Spec PyProof.Rows L2
theorem shaped_strs {l : List Str} (h : ∀ y ∈ l, GoodN y) : SeqAt.shaped (.list (l.map PyData.str)) = true := (shaped_flat fun d hd => by
  obtain ⟨y, hy, rfl⟩ := List.mem_map.mp hd
  exact ⟨okS_ok (h y hy).2, rfl⟩).1
theorem shaped_ints (l : List Int) : SeqAt.shaped (.list (l.map PyData.int)) = true := (shaped_flat fun d hd => by
  obtain ⟨y, _, rfl⟩ := List.mem_map.mp hd
  exact ⟨rfl, rfl⟩).1
theorem dp_strs {K : PySem.W.Frag} {H : Hp} : ∀ l : List Str, DpAll K H (l.map V.str) (l.map PyData.str)
  | [] => .nil
  | x :: r => .cons (.str x) (dp_strs r)
theorem dp_ints {K : PySem.W.Frag} {H : Hp} : ∀ l : List Int, DpAll K H (l.map V.int) (l.map PyData.int)
  | [] => .nil
  | x :: r => .cons (.int x) (dp_ints r)
theorem Pair.more {K : PySem.W.Frag} {C : Addr} {A : List Addr} {H : Hp} {p D r n : Addr} {st cl : List Shelf} (Z : Pair K C A H p D st r cl) (nn : H n = none) : Pair K C (n :: A) H p D st r cl :=
  ⟨⟨Z.S.ob, Z.S.bx.hideMore fun _ _ _ _ _ h => dp_more nn h, Z.S.ne⟩, Z.B.hideMore fun _ _ _ _ _ h => dp_more nn h, Z.dj, Z.sim, Z.le8, Z.n8, Z.gw, Z.gd⟩
theorem Pair.less {K : PySem.W.Frag} {C : Addr} {A : List Addr} {H : Hp} {p D r n : Addr} {st cl : List Shelf} (Z : Pair K C (n :: A) H p D st r cl) : Pair K C A H p D st r cl :=
  ⟨⟨Z.S.ob, Z.S.bx.hideMore fun _ _ _ _ _ h => dp_less h, Z.S.ne⟩, Z.B.hideMore fun _ _ _ _ _ h => dp_less h, Z.dj, Z.sim, Z.le8, Z.n8, Z.gw, Z.gd⟩
section
variable {P : Program} {w : World} {K : PySem.W.Frag} {mg : Str → Option Value} {base : Heap}
def askedN : List Str := ["_law_shop", "_law_rows", "_law_ware", "_law_held", "_law_turn", "_law_told", "_law_k", "_law_way", "_law_make", "_law_found", "_law_due", "_law_one"]
theorem scAsked : FnScope askedN ["_law_shop", "_law_rows", "_law_ware", "_law_held", "_law_turn"] (defScope sAsked) := ⟨rfl, rfl, rfl, by decide +kernel, rfl, by decide +kernel, by decide +kernel⟩
def spAsked (K : PySem.W.Frag) (C T : Addr) : Sp := fun vs H Q _ => ∃ (A : List Addr) (p D : Addr) (st : List Shelf) (r : Addr) (cl : List Shelf) (x : Str) (hA : Addr) (hs : List V) (tn : Int),
  vs = [.ref p, .ref r, .str x, .ref hA, .int tn] ∧ Pair K C A H p D st r cl ∧ (∃ c, look cl x = some c) ∧ GoodN x ∧ H hA = some (.lst hs) ∧ hA ∈ A ∧ (∀ v ∈ hs, Told K A H v) ∧ hs.length ≤ 4000 ∧ GxR.TabG H T ∧ (∀ a ∈ A, ∃ ys, H a = some (.lst ys)) ∧
  ∀ H' hs', Kx T [hA] H H' → H' hA = some (.lst hs') → (∀ v ∈ hs', Told K A H' v) → hs'.length ≤ hs.length + 30 → Q (.bl true) H'
theorem ok_asked {f C T fW fM fN : Addr} {fd fdW fdM fdN : FuncData} (F : Fun K "_law_asked" "_law_asked" sAsked f fd) (X : ShopT K mg C)
    (GW : FnOk P w K mg base CX0 1 fW fdW ["self"] (spWares K C T)) (bW : Binds K fdW ["self"] []) (mW : Meth K C "wares" fW)
    (GM : FnOk P w K mg base CX0 2 fM fdM ["self", "ware"] (spMakes K C T)) (bM : Binds K fdM ["self", "ware"] []) (mM : Meth K C "makes" fM)
    (GN : FnOk P w K mg base CX0 4 fN fdN ["self", "ware", "make"] (spNeeds K C T)) (bN : Binds K fdN ["self", "ware", "make"] []) (mN : Meth K C "needs" fN)
    (mR : mg "range" = none) (mI : mg "isinstance" = none) (mB : mg "bool" = none) (mInt : mg "int" = none) :
    FnOk P w K mg base CX0 5 f fd ["_law_shop", "_law_rows", "_law_ware", "_law_held", "_law_turn"] (spAsked K C T) := by
  refine F.ok scAsked (fun vs H Q E h => ?_) (fun cdv A0 outer s H vs Q E hr h => ?_)
  · obtain ⟨A, p, D, st, r, cl, x, hA, hs, tn, rfl, _⟩ := h
    rfl
  · obtain ⟨A, p, D, st, r, cl, x, hA, hs, tn, rfl, Z, ⟨c, el⟩, hg, hh, hhA, hT, hhl, ht, hAl, q⟩ := h
    have hu := hu_of hr
    have hu0 := Nat.lt_of_succ_lt hu
    have hr1 : Room 1 _ := hr.mono (by decide)
    have hr2 : Room 2 _ := hr.mono (by decide)
    refine ⟨_, pss_cons (ps_set (i := 5) scAsked.nd rfl (.inl rfl) (pe_lst pa_nil))
      (C8.pss_cut (ps_for PassesOwn.never rfl (pi_range1 (by rfl) mR (pa_cons pe_int pa_nil)) (pg_name (i := 6) scAsked.nd rfl (.inl rfl))
        (pss_cons (ps_set (i := 7) scAsked.nd rfl (.inl rfl) (pe_op op_mod (pe_op op_add (pv 4) (pe_op op_mul (pv 6) (pe_op op_add pe_int (pe_op op_mod (pe_op op_fdiv (pv 4) pe_int) pe_int)))) pe_int))
        (C8.pss_cut (ps_if (pt_cmpR op_eq (pv 7) pe_int (nomark _)) (pss_one (ps_expr (pe_bm PySem.F.plainAttrs_list PySem.F.slot_list_append PySem.F.type_list_append mt_append (pv 5) (pa_cons (pe_tup (pa_cons (pe_meth0 (pv 0) X.cl mW GW hr1 bW .nil pass0)
            (pa_cons (pe_callB cr_sortedS (by rfl) X.srt (by decide +kernel) (pa_cons (pe_lock (pe_lc (own := [("_law_one", 11)]) (g := gName 11) rfl scAsked.nd (pi_keys (pv 1))
              (blkOk_by (own := [("_law_one", 11)]) (N := askedN) (sc := defScope sAsked) (by decide +kernel)) (fun _ _ _ _ _ => pg_name (i := 11) scAsked.nd rfl (Or.inl rfl))
              (fun _ _ _ _ _ => pts_one (pt_cmpR (op_neE hu0) (pe_dget hu (pv 1) (pv 11) (fun _ _ => rfl)) pe_dnewK (nomark _))) (fun _ _ _ _ _ => pv 11))) pa_nil)) pa_nil))) pa_nil)))) pss_nil)
        (C8.pss_cut (ps_if (pt_cmpR op_eq (pv 7) pe_int (nomark _)) (pss_one (ps_expr (pe_bm PySem.F.plainAttrs_list PySem.F.slot_list_append PySem.F.type_list_append mt_append (pv 5) (pa_cons (pe_tup (pa_cons (pe_meth (pv 0) X.cl mM GM hr2 bM .nil pass0 (pa_cons (pv 2) pa_nil))
            (pa_cons (pe_callB (call_sortedDI rfl) (by rfl) X.srt (by decide +kernel) (pa_cons (pe_dget hu (pv 1) (pv 2) (fun _ _ => rfl)) pa_nil)) pa_nil))) pa_nil)))) pss_nil)
        (pss_one (ps_for PassesOwn.never rfl (pi_list (pe_op op_rep (pe_callTy (call_listD rfl) (by rfl) X.lst boot_list (pa_cons (pe_dget hu (pv 1) (pv 2) (fun _ _ => rfl)) pa_nil)) (pe_callTy call_int1 (by rfl) mInt boot_int (pa_cons (pe_cmpR op_eq (pv 7) pe_int (nomark _)) pa_nil)))) (pg_name (i := 8) scAsked.nd rfl (.inl rfl))
          (pss_one (ps_expr (pe_bm PySem.F.plainAttrs_list PySem.F.slot_list_append PySem.F.type_list_append mt_append (pv 5) (pa_cons (pe_tup (pa_cons (pe_meth (pv 0) X.cl mN GN hr bN .nil pass0 (pa_cons (pv 2) (pa_cons (pv 8) pa_nil)))
            (pa_cons (pe_dget hu (pe_dget hu (pv 1) (pv 2) (fun _ _ => rfl)) (pv 8) (fun _ _ => rfl)) pa_nil))) pa_nil))))))))))
      (C8.pss_cut (ps_for PassesOwn.never rfl (pi_list (pv 5)) (pg_tup rfl (pgs_cons (pg_name (i := 9) scAsked.nd rfl (.inl rfl)) (pgs_cons (pg_name (i := 10) scAsked.nd rfl (.inl rfl)) pgs_nil)))
        (pss_cons (ps_if (PW.pt (pw_or (pt_not (pt_val (pe_callB call_isi (by rfl) mI boot_isinstance (pa_cons (pv 9) (pa_cons (pe_bltn (v := .ty "list") (by rfl) X.lst boot_list rfl) pa_nil)))))
          (pw_or (pt_cmpR (op_neD hr.units) (pv 9) (pv 10) (nomark _))
          (pw_or1 (pt_cmpR (op_neD hr.units) (pe_lc (own := [("_law_one", 11)]) (g := gName 11) rfl scAsked.nd (pi_list (pv 9)) (blkOk_by (own := [("_law_one", 11)]) (N := askedN) (sc := defScope sAsked) (by decide +kernel))
            (fun _ _ _ _ _ => pg_name (i := 11) scAsked.nd rfl (Or.inl rfl)) (fun _ _ _ _ _ => pts_one (pt_val (pe_callB (r := rIsi K) call_isi (by rfl) mI boot_isinstance (pa_cons (pv 11) (pa_cons (pe_bltn (v := .ty "bool") (by rfl) mB boot_bool rfl) pa_nil)))))
            (fun _ _ _ _ _ => pv 11)) (pe_lst pa_nil) (nomark _)))))) (pss_one (ps_ret pe_bl)) pss_nil)
        (pss_one (ps_expr (pe_bm PySem.F.plainAttrs_list PySem.F.slot_list_append PySem.F.type_list_append mt_append (pv 3) (pa_cons (pe_tup (pa_cons (pv 9) (pa_cons (pe_callTy call_list_of (by rfl) X.lst boot_list (pa_cons (pv 9) pa_nil)) pa_nil))) pa_nil))))))
      (C8.pss_cut (ps_if (pt_cmpR op_eq (pe_op op_mod (pe_op op_fdiv (pv 4) pe_int) pe_int) pe_int (nomark _)) (pss_one (ps_expr (pe_bm PySem.F.plainAttrs_list PySem.F.slot_list_append PySem.F.type_list_append mt_append (pe_meth0 (pv 0) X.cl mW GW hr1 bW .nil pass0) (pa_cons pe_str pa_nil)))) pss_nil)
      (C8.pss_cut (ps_if (pt_cmpR op_eq (pe_op op_mod (pe_op op_fdiv (pv 4) pe_int) pe_int) pe_int (nomark _)) (pss_one (ps_expr (pe_bm PySem.F.plainAttrs_list PySem.F.slot_list_append PySem.F.type_list_append mt_append (pe_meth (pv 0) X.cl mM GM hr2 bM .nil pass0 (pa_cons (pv 2) pa_nil)) (pa_cons pe_int pa_nil)))) pss_nil)
      (C8.pss_cut (ps_for PassesOwn.never rfl (pi_list (pe_op op_rep (pe_callTy (call_listD rfl) (by rfl) X.lst boot_list (pa_cons (pe_dget hu (pv 1) (pv 2) (fun _ _ => rfl)) pa_nil)) (pe_callTy call_int1 (by rfl) mInt boot_int (pa_cons (pe_cmpR op_eq (pe_op op_mod (pe_op op_fdiv (pv 4) pe_int) pe_int) pe_int (nomark _)) pa_nil)))) (pg_name (i := 8) scAsked.nd rfl (.inl rfl))
          (pss_one (ps_expr (pe_bm PySem.F.plainAttrs_list PySem.F.slot_list_append PySem.F.type_list_append mt_append (pe_meth (pv 0) X.cl mN GN hr bN .nil pass0 (pa_cons (pv 2) (pa_cons (pv 8) pa_nil))) (pa_cons (pe_tup (pa_cons pe_str (pa_cons pe_int (pa_cons pe_int pa_nil)))) pa_nil)))))
      (pss_one (ps_ret pe_bl))))))), ?_⟩
    -- told = []
    refine ⟨(by show (0 : Nat) ≤ sizeLine; decide), fun T0 nT0 => ?_⟩
    have k1 := Kp.new (o := HO.lst []) ht nT0
    have Z1 := (Z.more nT0).keptP k1
    have T0T := tab_nn ht nT0
    have T01 : upd H T0 (.lst []) T0 = some (.lst []) := upd_same
    have t1 := k1.tab
    generalize upd H T0 (.lst []) = H1 at k1 Z1 T01 t1 ⊢
    have cm := (look_mem el).1
    have e0 : dataOf cl x = c.ents.map entD := by unfold dataOf; rw [el]; rfl
    have gC : ∀ {A2 : List Addr} {H2 : Hp}, BoxOk K A2 H2 r cl → DGet H2 r (.str x) (some (.ref c.at_)) := fun B => by
      have z := DGet.k (k := (Sum.inr x : Key)) B.dc
      rw [look_val, el] at z
      exact z
    have cl8 : c.ents.length ≤ 8 := by
      have z := Z.le8 x
      rw [e0, List.length_map] at z
      exact z
    -- whatever is as H1 but for told
    have zA : ∀ {H2 : Hp}, Kx T [T0] H1 H2 → Pair K C (T0 :: A) H2 p D st r cl := fun k => Z1.kept k (fun f hf => .inl (by rw [List.mem_singleton.mp hf]; exact List.mem_cons_self ..)) (fun f hf _ => ⟨[], by rw [List.mem_singleton.mp hf]; exact T01⟩)
      (fun f hf hf2 => by
        obtain ⟨kvs, e⟩ := Z1.S.bx.foot_dict f hf
        rw [List.mem_singleton.mp hf2, T01] at e; cases e)
      (fun f hf hf2 => by
        obtain ⟨kvs, e⟩ := Z1.B.foot_dict f hf
        rw [List.mem_singleton.mp hf2, T01] at e; cases e)
    have nA : ∀ {H2 : Hp} {n : Addr}, Kx T [T0] H1 H2 → H2 n = none → (∃ ts, H2 T0 = some (.lst ts)) → n ∉ T0 :: A := fun k nn ⟨ts, e⟩ z => by
      rcases List.mem_cons.mp z with z | z
      · rw [z, e] at nn; cases nn
      · obtain ⟨ys, e2⟩ := hAl _ z
        have e3 := Kx.dropNew nT0 k1 k |>.keep _ _ (tab_ne ht e2 fun _ z => by cases z) e2
        rw [nn] at e3; cases e3
    -- one more pair told
    have add : ∀ {H2 H3 : Hp} {tp f0 u0 : Addr} {ts : List V} {ds : List PyData} {n : Nat}, Kx T [T0] H1 H2 → H2 T0 = some (.lst ts) → (∀ v ∈ ts, Told K (T0 :: A) H2 v) → ts.length ≤ n → Kp T H2 H3 → H3 tp = none →
        Dp K (hide (T0 :: A) H3) (.ref f0) (.list ds) → Dp K (hide (T0 :: A) H3) (.ref u0) (.list ds) → SeqAt.shaped (.list ds) = true → (∀ d ∈ ds, isBoolD d = false) → ds.length ≤ 1000 →
        ∃ ts', Kx T [T0] H1 (upd (upd H3 tp (.tup [.ref f0, .ref u0])) T0 (.lst (ts ++ [.ref tp]))) ∧ upd (upd H3 tp (.tup [.ref f0, .ref u0])) T0 (.lst (ts ++ [.ref tp])) T0 = some (.lst ts') ∧ (∀ v ∈ ts', Told K (T0 :: A) (upd (upd H3 tp (.tup [.ref f0, .ref u0])) T0 (.lst (ts ++ [.ref tp]))) v) ∧ ts'.length ≤ n + 1 := by
      intro H2 H3 tp f0 u0 ts ds n k2 e2 hts hn k3 ntp hf hu' hsh hnb hdl
      have k4 := Kp.new (o := HO.tup [.ref f0, .ref u0]) k3.tab ntp
      have k5 : Kx T [T0] (upd H3 tp (.tup [.ref f0, .ref u0])) (upd (upd H3 tp (.tup [.ref f0, .ref u0])) T0 (.lst (ts ++ [.ref tp]))) := Kx.upd k4.tab T0T (List.mem_singleton.mpr rfl)
      have hF : ∀ f ∈ [T0], f ∈ T0 :: A ∨ ∃ kvs, (upd H3 tp (.tup [.ref f0, .ref u0])) f = some (.dK kvs) := fun f hf => .inl (by rw [List.mem_singleton.mp hf]; exact List.mem_cons_self ..)
      have tpA : tp ∉ T0 :: A := nA (k2.trans (.of k3)) ntp ⟨ts, k3.lst e2⟩
      refine ⟨ts ++ [.ref tp], k2.trans ((Kx.of (k3.trans k4)).trans k5), upd_same, fun v hv => ?_, by rw [List.length_append, List.length_singleton]; omega⟩
      rcases List.mem_append.mp hv with hv | hv
      · exact ((hts v hv).keptP (k3.trans k4)).kept k5 hF
      · rw [List.mem_singleton.mp hv]
        have h0 : Told K (T0 :: A) (upd H3 tp (.tup [.ref f0, .ref u0])) (.ref tp) := ⟨tp, f0, u0, ds, rfl, .inl (.inl (hide_of upd_same tpA)), (Kx.of (A := []) k4).dpA (fun f hf => by cases hf) hf, (Kx.of (A := []) k4).dpA (fun f hf => by cases hf) hu', hsh, hnb, hdl⟩
        exact h0.kept k5 hF
    -- the three ways
    refine ⟨fun σ' H2 => ∃ (x6 x7 x8 : Option V) (ts : List V), σ' = [some (.ref p), some (.ref r), some (.str x), some (.ref hA), some (.int tn), some (.ref T0), x6, x7, x8, none, none, none] ∧ Kx T [T0] H1 H2 ∧ H2 T0 = some (.lst ts) ∧ (∀ v ∈ ts, Told K (T0 :: A) H2 v) ∧ ts.length ≤ 30, ?_, fun σ' H2 hm => ?_⟩
    · refine ⟨3, rfl, (by decide), (by decide), for_range (lo := 0) (n := 3) (fun i σ' H2 => ∃ (x6 x7 x8 : Option V) (ts : List V), σ' = [some (.ref p), some (.ref r), some (.str x), some (.ref hA), some (.int tn), some (.ref T0), x6, x7, x8, none, none, none] ∧ Kx T [T0] H1 H2 ∧ H2 T0 = some (.lst ts) ∧ (∀ v ∈ ts, Told K (T0 :: A) H2 v) ∧ ts.length ≤ 10 * i)
        ⟨none, none, none, [], rfl, Kx.refl t1, T01, fun v hv => (by cases hv), Nat.le_refl _⟩ (fun i σ' H2 hi hm => ?_) (fun σ' H2 hm => hm)⟩
      obtain ⟨x6, x7, x8, ts, rfl, k2, e2, hts, htl⟩ := hm
      refine ⟨_, rfl, _, rfl, _, rfl, tn, 3, rfl, rfl, ⟨by decide, by decide⟩, _, 2, rfl, rfl, (by show (0 : Int) < 2; decide), 1, _, rfl, rfl, 0 + (i : Int), _, rfl, rfl, .inl ⟨by omega, by omega⟩, tn, _, rfl, rfl, _, 3, rfl, rfl, (by show (0 : Int) < 3; decide), ?_⟩
      -- wares
      refine ⟨fun σ' H3 => ∃ (wy : Int) (ts : List V), σ' = [some (.ref p), some (.ref r), some (.str x), some (.ref hA), some (.int tn), some (.ref T0), some (.int (0 + (i : Int))), some (.int wy), x8, none, none, none] ∧ Kx T [T0] H1 H3 ∧ H3 T0 = some (.lst ts) ∧ (∀ v ∈ ts, Told K (T0 :: A) H3 v) ∧ ts.length ≤ 10 * i + 1, ?_, fun σ' H3 hm => ?_⟩
      · refine ⟨_, rfl, rfl, _, rfl, ite2 (fun _ => ?_) (fun _ => ⟨_, ts, rfl, k2, e2, hts, by omega⟩)⟩
        have Z2 := zA k2
        obtain ⟨dx, o2⟩ := Z2.S.ob
        refine ⟨_, rfl, .inl ⟨rfl, _, .inl (.inl e2)⟩, _, rfl, p, dx, _, rfl, o2, flS_no D (by decide +kernel), T0 :: A, p, D, st, rfl, Z2.S, k2.tab, (by have := Z.len; omega), fun ys l H3 hp hs k3 nl hl => ?_⟩
        have Z3 := Z2.keptP k3
        refine read_full Z3.B k3.tab rfl (by decide) (by show 11 < 12; decide) (by have := Z.n8; omega) fun M H4 k4 nM hM => ?_
        have hfl := fullW_le cl
        refine ⟨M, fullW cl, rfl, .inl (.of hM), (by have := Z.n8; omega), fun zs z hp2 hs2 nz => ?_⟩
        have k5 := Kp.new (o := HO.lst (zs.map V.str)) k4.tab nz
        have eyz : ys = zs := sorted_same (hp.trans (Z.perm.trans hp2.symm)) hs hs2
        subst eyz
        have k35 := k3.trans (k4.trans k5)
        have hgy : ∀ y ∈ ys, GoodN y := fun y hy => by
          obtain ⟨s', hs', e'⟩ := List.mem_map.mp (hp2.mem_iff.mp hy)
          rw [← e']
          exact Z.gw s' (List.mem_filter.mp hs').1
        refine ⟨(by show (2 : Nat) ≤ sizeLine; decide), fun tp ntp => ?_⟩
        have k6 := fun o => Kp.new (o := o) k5.tab ntp
        have lA : l ∉ T0 :: A := nA k2 nl ⟨ts, e2⟩
        have zA2 : z ∉ T0 :: A := nA (k2.trans (.of (k3.trans k4))) nz ⟨ts, (k3.trans k4).lst e2⟩
        refine ⟨T0, ts, .ref tp, rfl, rfl, (k6 _).lst (k35.lst e2), small1000 (by omega), ?_⟩
        obtain ⟨ts', a1, a2, a3, a4⟩ := add (tp := tp) (f0 := l) (u0 := z) (ds := ys.map PyData.str) k2 e2 hts htl k35 ntp (.lst (.inl (.inl (hide_of ((k4.trans k5).lst hl) lA))) (dp_strs ys)) (.lst (.inl (.inl (hide_of upd_same zA2))) (dp_strs ys)) (shaped_strs hgy) (fun d hd => by
          obtain ⟨y, _, rfl⟩ := List.mem_map.mp hd
          rfl) (by rw [List.length_map, hp2.length_eq]; have := Z.n8; omega)
        exact ⟨_, ts', rfl, a1, a2, a3, a4⟩
      obtain ⟨wy, ts, rfl, k2, e2, hts, htl⟩ := hm
      -- makes
      refine ⟨fun σ' H3 => ∃ (wy : Int) (ts : List V), σ' = [some (.ref p), some (.ref r), some (.str x), some (.ref hA), some (.int tn), some (.ref T0), some (.int (0 + (i : Int))), some (.int wy), x8, none, none, none] ∧ Kx T [T0] H1 H3 ∧ H3 T0 = some (.lst ts) ∧ (∀ v ∈ ts, Told K (T0 :: A) H3 v) ∧ ts.length ≤ 10 * i + 1 + 1, ?_, fun σ' H3 hm => ?_⟩
      · refine ⟨_, rfl, rfl, _, rfl, ite2 (fun _ => ?_) (fun _ => ⟨wy, ts, rfl, k2, e2, hts, by omega⟩)⟩
        have Z2 := zA k2
        obtain ⟨dx, o2⟩ := Z2.S.ob
        have e0s : dataOf st x = c.ents.map entD := (Z.sim x).trans e0
        refine ⟨_, rfl, .inl ⟨rfl, _, .inl (.inl e2)⟩, _, rfl, p, dx, _, rfl, o2, flS_no D (by decide +kernel), _, rfl, T0 :: A, p, D, st, x, rfl, Z2.S, hg.2, hg.1, k2.tab, (by rw [e0s, List.length_map]; omega), fun ys l H3 hp hs k3 nl hl => ?_⟩
        have Z3 := Z2.keptP k3
        refine ⟨_, rfl, _, rfl, r, _, rfl, gC Z3.B, c.at_, _, c.ents.map (·.1), rfl, .inl (Z3.B.sh c cm).dc, (by rw [List.map_map, List.map_map]; rfl), (by rw [List.length_map]; omega), fun zs z hp2 hs2 nz => ?_⟩
        have k5 := Kp.new (o := HO.lst (zs.map V.int)) k3.tab nz
        have eks : (dataOf st x).map (·.1) = c.ents.map (·.1) := by
          rw [e0s, List.map_map]
          rfl
        rw [eks] at hp
        have eyz : ys = zs := ints_same (hp.trans hp2.symm) hs hs2
        subst eyz
        have k35 := k3.trans k5
        refine ⟨(by show (2 : Nat) ≤ sizeLine; decide), fun tp ntp => ?_⟩
        have k6 := fun o => Kp.new (o := o) k5.tab ntp
        have lA : l ∉ T0 :: A := nA k2 nl ⟨ts, e2⟩
        have zA2 : z ∉ T0 :: A := nA (k2.trans (.of k3)) nz ⟨ts, k3.lst e2⟩
        refine ⟨T0, ts, .ref tp, rfl, rfl, (k6 _).lst (k35.lst e2), small1000 (by omega), ?_⟩
        obtain ⟨ts', a1, a2, a3, a4⟩ := add (tp := tp) (f0 := l) (u0 := z) (ds := ys.map PyData.int) k2 e2 hts htl k35 ntp (.lst (.inl (.inl (hide_of (k5.lst hl) lA))) (dp_ints ys)) (.lst (.inl (.inl (hide_of upd_same zA2))) (dp_ints ys)) (shaped_ints ys) (fun d hd => by
          obtain ⟨y, _, rfl⟩ := List.mem_map.mp hd
          rfl) (by rw [List.length_map, hp2.length_eq, List.length_map]; omega)
        exact ⟨wy, ts', rfl, a1, a2, a3, a4⟩
      obtain ⟨wy, ts, rfl, k2, e2, hts, htl⟩ := hm
      -- needs
      have Z2 := zA k2
      refine ⟨_, rfl, _, rfl, r, _, rfl, gC Z2.B, c.at_, _, rfl, .inl (Z2.B.sh c cm).dc, fun l1 n1 => ?_⟩
      have k3 := Kp.new (o := HO.lst ((c.ents.map entK).map fun kv => kV kv.1)) k2.tab n1
      obtain ⟨rs1, rs2⟩ := rep_sub (decide (V.int wy = V.int 2)) ((c.ents.map entK).map fun kv => kV kv.1)
      have hk01 : (if (decide (V.int wy = V.int 2)) = true then (1 : Int) else 0) = 0 ∨ (if (decide (V.int wy = V.int 2)) = true then (1 : Int) else 0) = 1 := by
        cases decide (V.int wy = V.int 2) with
        | true => exact .inr rfl
        | false => exact .inl rfl
      have hkl : ((c.ents.map entK).map fun kv => kV kv.1).length = c.ents.length := by rw [List.length_map, List.length_map]
      refine ⟨_, rfl, rfl, .inr ⟨_, rfl, l1, _, _, rfl, rfl, upd_same, (by rcases hk01 with z | z <;> rw [z] <;> decide), (by rcases hk01 with z | z <;> rw [z] <;> decide), line1000 (by
        rw [hkl]
        rcases hk01 with z | z <;> rw [z]
        · exact Nat.zero_le _
        · show c.ents.length * 1 ≤ 1000
          omega), fun l2 n2 => ?_⟩⟩
      generalize hLL : (List.replicate (if (decide (V.int wy = V.int 2)) = true then (1 : Int) else 0).toNat ((c.ents.map entK).map fun kv => kV kv.1)).flatten = LL at rs1 rs2 ⊢
      have k4 := Kp.new (o := HO.lst LL) k3.tab n2
      have k34 := k3.trans k4
      have l2T0 : l2 ≠ T0 := fun z => by
        rw [z, k3.lst e2] at n2
        cases n2
      refine ⟨l2, rfl, ⟨_, .inl (.of upd_same)⟩, for_list (K := K) (a := l2) (xs := LL) (fun j σ' H4 => ∃ (x8 : Option V) (ts : List V), σ' = [some (.ref p), some (.ref r), some (.str x), some (.ref hA), some (.int tn), some (.ref T0), some (.int (0 + (i : Int))), some (.int wy), x8, none, none, none] ∧ Kx T [T0] H1 H4 ∧ H4 l2 = some (.lst LL) ∧ H4 T0 = some (.lst ts) ∧ (∀ v ∈ ts, Told K (T0 :: A) H4 v) ∧ ts.length ≤ 10 * i + 2 + j)
        ⟨x8, ts, rfl, k2.trans (.of k34), upd_same, k34.lst e2, fun v hv => (hts v hv).keptP k34, htl⟩ (fun j σ' H4 _ ⟨_, _, _, _, z, _⟩ => .inl (.of z)) (fun j v σ' H4 hj hm => ?_) (fun σ' H4 hm => ?_)⟩
      · obtain ⟨x8', ts', rfl, k5, hl2, e5, hts5, htl5⟩ := hm
        have hjl := (List.getElem?_eq_some_iff.mp hj).1
        obtain ⟨kv, hkv, rfl⟩ := List.mem_map.mp (rs1 v (List.mem_of_getElem? hj))
        obtain ⟨e, he, rfl⟩ := List.mem_map.mp hkv
        have Z5 := zA k5
        obtain ⟨dx, o5⟩ := Z5.S.ob
        have SC := Z5.B.sh c cm
        have le : lookE c.ents e.1 = some e := lookE_of SC.nd he
        have gde := Z.gd x (entD e) (by rw [e0]; exact List.mem_map.mpr ⟨e, he, rfl⟩)
        have e0s : dataOf st x = c.ents.map entD := (Z.sim x).trans e0
        have hfd : findD (dataOf st x) e.1 = some (entD e) := by rw [e0s, findD_ents, le]; rfl
        refine ⟨_, rfl, .inl ⟨rfl, _, .inl (.inl e5)⟩, _, rfl, p, dx, _, rfl, o5, flS_no D (by decide +kernel), _, rfl, _, rfl, T0 :: A, p, D, st, x, e.1, rfl, Z5.S, hg.2, (by rw [hasB_data (m := e.1) hg.1 gde.2.2, hfd]; rfl), k5.tab, fun xs ds l H6 hfd2 k6 nl hl hall => ?_⟩
        have eds : ds = e.2.2 := by
          rw [hfd] at hfd2
          exact (congrArg Prod.snd (Option.some.inj hfd2)).symm
        subst eds
        have Z6 := Z5.keptP k6
        have SC6 := Z6.B.sh c cm
        have gE : DGet H6 c.at_ (.int e.1) (some (.ref e.2.1)) := by
          have z := DGet.k (k := (Sum.inl e.1 : Key)) SC6.dc
          rw [lookE_val, le] at z
          exact z
        refine ⟨_, rfl, _, rfl, r, _, rfl, gC Z6.B, _, rfl, c.at_, _, rfl, gE, (by show (2 : Nat) ≤ sizeLine; decide), fun tp ntp => ?_⟩
        have k7 := fun o => Kp.new (o := o) k6.tab ntp
        have lA : l ∉ T0 :: A := nA k5 nl ⟨ts', e5⟩
        have htl6 : ts'.length ≤ 1000 := by omega
        refine ⟨T0, ts', .ref tp, rfl, rfl, (k7 _).lst (k6.lst e5), small1000 htl6, ?_⟩
        obtain ⟨ts2, a1, a2, a3, a4⟩ := add (tp := tp) (f0 := l) (u0 := e.2.1) (ds := e.2.2) k5 e5 hts5 htl5 k6 ntp (.lst (.inl (.inl (hide_of hl lA))) hall) (SC6.dp e he) (shaped_nd gde.1) (fun d hd => by
          obtain ⟨y, i', j', rfl, _⟩ := gde.1 d hd
          rfl) (by have := gde.2.1; show e.2.2.length ≤ 1000; have z : (entD e).2.length ≤ 6 := this; have z2 : e.2.2.length ≤ 6 := z; omega)
        refine ⟨_, ts2, rfl, a1, ?_, a2, a3, by omega⟩
        rw [upd_ne l2T0]
        exact (k7 _).lst (k6.lst hl2)
      · obtain ⟨x8', ts', rfl, k5, hl2, e5, hts5, htl5⟩ := hm
        exact ⟨_, _, x8', ts', rfl, k5, e5, hts5, by omega⟩
    -- what was told is held
    obtain ⟨x6, x7, x8, ts, rfl, k2, e2, hts, htl⟩ := hm
    have kp2 := Kx.dropNew nT0 k1 k2
    have Z2 := Z.keptP kp2
    have hh2 := kp2.lst hh
    have hT2 : ∀ v ∈ hs, Told K A H2 v := fun v hv => (hT v hv).keptP kp2
    have hAT0 : T0 ≠ hA := fun z => by rw [z, hh] at nT0; cases nT0
    have hAT : hA ≠ T := tab_ne ht hh fun _ z => by cases z
    have zB : ∀ {H3 : Hp}, Kx T [hA] H2 H3 → Pair K C A H3 p D st r cl := fun k => Z2.kept k (fun f hf => .inl (by rw [List.mem_singleton.mp hf]; exact hhA)) (fun f hf _ => ⟨hs, by rw [List.mem_singleton.mp hf]; exact hh2⟩)
      (fun f hf hf2 => by
        obtain ⟨kvs, e⟩ := Z2.S.bx.foot_dict f hf
        rw [List.mem_singleton.mp hf2, hh2] at e; cases e)
      (fun f hf hf2 => by
        obtain ⟨kvs, e⟩ := Z2.B.foot_dict f hf
        rw [List.mem_singleton.mp hf2, hh2] at e; cases e)
    refine ⟨fun σ' H3 => ∃ (x6 x7 x8 x9 x10 : Option V) (hs' : List V), σ' = [some (.ref p), some (.ref r), some (.str x), some (.ref hA), some (.int tn), some (.ref T0), x6, x7, x8, x9, x10, none] ∧ Kx T [hA] H2 H3 ∧ H3 hA = some (.lst hs') ∧ (∀ v ∈ hs', Told K A H3 v) ∧ hs'.length ≤ hs.length + 30, ?_, fun σ' H3 hm => ?_⟩
    · refine ⟨_, rfl, T0, rfl, ⟨_, .inl (.of e2)⟩, for_list (K := K) (a := T0) (xs := ts) (fun j σ' H3 => ∃ (x6 x7 x8 x9 x10 : Option V) (hs' : List V), σ' = [some (.ref p), some (.ref r), some (.str x), some (.ref hA), some (.int tn), some (.ref T0), x6, x7, x8, x9, x10, none] ∧ Kx T [hA] H2 H3 ∧ H3 hA = some (.lst hs') ∧ (∀ v ∈ hs', Told K A H3 v) ∧ hs'.length ≤ hs.length + j)
        ⟨x6, x7, x8, none, none, hs, rfl, Kx.refl k2.tab, hh2, hT2, Nat.le_refl _⟩ (fun j σ' H3 _ ⟨_, _, _, _, _, _, _, kk, _⟩ => .inl (.of (kk.keep T0 _ (tab_ne k2.tab e2 fun _ z => by cases z) (fun z => hAT0 (List.mem_singleton.mp z)) e2))) (fun j v σ' H3 hj hm => ?_) (fun σ' H3 hm => ?_)⟩
      · obtain ⟨y6, y7, y8, y9, y10, hs', rfl, kk, e3, hts3, hlen3⟩ := hm
        have hjl := (List.getElem?_eq_some_iff.mp hj).1
        have hF : ∀ f ∈ [hA], f ∈ T0 :: A ∨ ∃ kvs, H2 f = some (.dK kvs) := fun f hf => .inl (by rw [List.mem_singleton.mp hf]; exact List.mem_cons_of_mem _ hhA)
        obtain ⟨t, f0, u0, ds, rfl, hTt, hf0, hu0', hsh, hnb, hdl⟩ := (hts v (List.mem_of_getElem? hj)).kept kk hF
        refine ⟨t, [.ref f0, .ref u0], rfl, sqt_show hTt, rfl, .ref f0, [.ref u0], rfl, .ref u0, [], rfl, rfl, ?_⟩
        refine ⟨_, rfl, _, .ty "list", _, _, true, rfl, .ty "list", tyx_of (dp_show hf0), by rw [kit_lst] <;> rfl, true, rfl, iteF ?_⟩
        refine ⟨_, rfl, _, rfl, _, _, dp_show hf0, dp_show hu0', hsh, hsh, _, rfl, ?_⟩
        rw [eqv_self hsh]
        refine iteF ?_
        have hf1 := hf0
        cases hf0 with
        | @lst _ zs _ hfz hall =>
          have hzl := dpAll_len hall
          have hfL : SqL K H3 f0 zs := by
            rcases hfz with (a | ⟨o, a⟩) | a
            · exact .inl (.inl (hide_some a).1)
            · exact .inl (.inr ⟨o, (hide_some a).1⟩)
            · exact .inr a
          refine ⟨_, rfl, f0, rfl, ⟨_, hfL⟩, fun D' nD => lc_list (K := K) (a := f0) (xs := zs) (fun n H' => H' = upd H3 D' (.lst [])) rfl (fun n H' _ e => by subst e; exact (Kp.new kk.tab nD).seq hfL) (fun n y H' hn e => ?_) (fun H' e => ?_)⟩
          · subst e
            have hnl : n < ds.length := by
              have := (List.getElem?_eq_some_iff.mp hn).1
              omega
            obtain ⟨y', hy', hdy⟩ := dpAll_get hall (List.getElem?_eq_getElem hnl)
            have ey : y' = y := Option.some.inj (hy'.symm.trans hn)
            subst ey
            have hd2 := (Kp.new (o := HO.lst []) kk.tab nD).dp _ _ (dp_show hdy)
            exact ⟨rfl, _, rfl, y', .ty "bool", _, _, false, rfl, .ty "bool", tyx_of hd2, by rw [kit_bool, hnb _ (List.getElem_mem hnl)], _, rfl, iteF rfl⟩
          · subst e
            refine ⟨(by show (0 : Nat) ≤ sizeLine; decide), fun g ng => ?_⟩
            have k3 := Kp.new (o := HO.lst []) kk.tab nD
            have k4 := Kp.new (o := HO.lst []) k3.tab ng
            refine ⟨.list [], .list [], .lst (k4.seq (.inl (.of upd_same))) .nil, .lst (.inl (.of upd_same)) .nil, rfl, rfl, _, rfl, iteF ?_⟩
            have k34 := k3.trans k4
            have e4 := k34.lst e3
            have hts4 : ∀ v ∈ hs', Told K A _ v := fun v hv => (hts3 v hv).keptP k34
            have hf4 := (Kx.of (A := []) k34).dpA (A := T0 :: A) (fun f hf => by cases hf) hf1
            have hfL4 := k34.seq hfL
            have kk4 : Kx T [hA] H2 (upd (upd H3 D' (.lst [])) g (.lst [])) := kk.trans (.of k34)
            have hall4 := dpAll_kx (A := T0 :: A) (Kx.of (A := []) k34) (fun f hf => by cases hf) hall
            generalize upd (upd H3 D' (.lst [])) g (.lst []) = H4 at e4 hts4 hf4 hfL4 kk4 hall4 ⊢
            -- held.append((found, list(found)))
            refine ⟨_, rfl, .inl ⟨rfl, _, .inl (.inl e4)⟩, _, rfl, _, rfl, f0, zs, rfl, .inl hfL4, fun g1 ng1 => ⟨(by show (2 : Nat) ≤ sizeLine; decide), fun tp ntp => ?_⟩⟩
            have k5 := Kp.new (o := HO.lst zs) kk4.tab ng1
            have k6 := Kp.new (o := HO.tup [.ref f0, .ref g1]) k5.tab ntp
            have k56 := k5.trans k6
            refine ⟨hA, hs', .ref tp, rfl, rfl, k56.lst e4, small5000 (by omega), ?_⟩
            have notA : ∀ {n : Addr}, (∀ a ∈ A, ∃ ys, H4 a = some (.lst ys)) → H4 n = none → n ∉ A := fun hl nn z => by
              obtain ⟨ys, e⟩ := hl _ z
              rw [nn] at e; cases e
            have hA4 : ∀ a ∈ A, ∃ ys, H4 a = some (.lst ys) := fun a ha => by
              by_cases hah : a = hA
              · exact ⟨hs', by rw [hah]; exact e4⟩
              · obtain ⟨ys, e⟩ := hAl a ha
                have e' := kp2.lst e
                exact ⟨ys, kk4.keep a _ (tab_ne k2.tab e' fun _ z => by cases z) (fun z => hah (List.mem_singleton.mp z)) e'⟩
            have g1A := notA hA4 ng1
            have tpA := notA hA4 (k5.free ntp)
            have k7 : Kx T [hA] (upd (upd H4 g1 (.lst zs)) tp (.tup [.ref f0, .ref g1])) (upd (upd (upd H4 g1 (.lst zs)) tp (.tup [.ref f0, .ref g1])) hA (.lst (hs' ++ [.ref tp]))) := Kx.upd k6.tab hAT (List.mem_singleton.mpr rfl)
            have hF7 : ∀ f ∈ [hA], f ∈ A ∨ ∃ kvs, (upd (upd H4 g1 (.lst zs)) tp (.tup [.ref f0, .ref g1])) f = some (.dK kvs) := fun f hf => .inl (by rw [List.mem_singleton.mp hf]; exact hhA)
            refine ⟨_, _, _, _, _, hs' ++ [.ref tp], rfl, kk4.trans ((Kx.of k56).trans k7), upd_same, fun v hv => ?_, by rw [List.length_append, List.length_singleton]; omega⟩
            rcases List.mem_append.mp hv with hv | hv
            · exact ((hts4 v hv).keptP k56).kept k7 hF7
            · rw [List.mem_singleton.mp hv]
              have hd6 : ∀ {v : V} {d : PyData}, Dp K (hide (T0 :: A) H4) v d → Dp K (hide A (upd (upd H4 g1 (.lst zs)) tp (.tup [.ref f0, .ref g1]))) v d := fun h => (Kx.of (A := []) k56).dpA (fun f hf => by cases hf) (dp_less h)
              have h0 : Told K A (upd (upd H4 g1 (.lst zs)) tp (.tup [.ref f0, .ref g1])) (.ref tp) := ⟨tp, f0, g1, ds, rfl, .inl (.inl (hide_of upd_same tpA)), hd6 hf4, .lst (.inl (.inl (hide_of (k6.lst upd_same) g1A))) (dpAll_kx (A := A) (Kx.of (A := []) k56) (fun f hf => by cases hf) (dpAll_mono (fun b o _ e => by
                obtain ⟨a1, a2⟩ := hide_some e
                exact hide_of a1 fun z => a2 (List.mem_cons_of_mem _ z)) _ _ hall4)), hsh, hnb, hdl⟩
              exact h0.kept k7 hF7
      · obtain ⟨y6, y7, y8, y9, y10, hs', rfl, kk, e3, hts3, hlen3⟩ := hm
        exact ⟨y6, y7, y8, y9, y10, hs', rfl, kk, e3, hts3, by omega⟩
    obtain ⟨y6, y7, y8, y9, y10, hs3, rfl, k3, e3, hts3, hlen3⟩ := hm
    -- what is told once more is changed by its asker: nothing of it was held
    have step : ∀ {H3 H4 : Hp} {hs' : List V}, Kx T [hA] H2 H3 → H3 hA = some (.lst hs') → (∀ v ∈ hs', Told K A H3 v) → Kp T H3 H4 → Kx T [hA] H2 H4 ∧ H4 hA = some (.lst hs') ∧ (∀ v ∈ hs', Told K A H4 v) := fun k e h k4 => ⟨k.trans (.of k4), k4.lst e, fun v hv => (h v hv).keptP k4⟩
    have e0s : dataOf st x = c.ents.map entD := (Z.sim x).trans e0
    refine ⟨fun σ' H4 => σ' = [some (.ref p), some (.ref r), some (.str x), some (.ref hA), some (.int tn), some (.ref T0), y6, y7, y8, y9, y10, none] ∧ Kx T [hA] H2 H4 ∧ H4 hA = some (.lst hs3) ∧ (∀ v ∈ hs3, Told K A H4 v), ?_, fun σ' H4 hm => ?_⟩
    · refine ⟨_, rfl, tn, 6, rfl, rfl, ⟨by decide, by decide⟩, _, 3, rfl, rfl, (by show (0 : Int) < 3; decide), rfl, _, rfl, ite2 (fun _ => ?_) (fun _ => ⟨rfl, k3, e3, hts3⟩)⟩
      have Z3 := zB k3
      obtain ⟨dx, o3⟩ := Z3.S.ob
      refine ⟨_, rfl, p, dx, _, rfl, o3, flS_no D (by decide +kernel), A, p, D, st, rfl, Z3.S, k3.tab, (by have := Z.len; omega), fun ys l H4 hp hs k4 nl hl => ?_⟩
      refine ⟨.inl ⟨rfl, _, .inl (.inl hl)⟩, l, _, _, rfl, rfl, hl, small1000 (by rw [List.length_map, hp.length_eq, List.length_map]; have := Z.len; omega), ?_⟩
      have lT := tab_nn k3.tab nl
      exact ⟨rfl, step k3 e3 hts3 (k4.set nl lT)⟩
    obtain ⟨rfl, k4, e4, hts4⟩ := hm
    refine ⟨fun σ' H5 => σ' = [some (.ref p), some (.ref r), some (.str x), some (.ref hA), some (.int tn), some (.ref T0), y6, y7, y8, y9, y10, none] ∧ Kx T [hA] H2 H5 ∧ H5 hA = some (.lst hs3) ∧ (∀ v ∈ hs3, Told K A H5 v), ?_, fun σ' H5 hm => ?_⟩
    · refine ⟨_, rfl, tn, 6, rfl, rfl, ⟨by decide, by decide⟩, _, 3, rfl, rfl, (by show (0 : Int) < 3; decide), rfl, _, rfl, ite2 (fun _ => ?_) (fun _ => ⟨rfl, k4, e4, hts4⟩)⟩
      have Z4 := zB k4
      obtain ⟨dx, o4⟩ := Z4.S.ob
      refine ⟨_, rfl, p, dx, _, rfl, o4, flS_no D (by decide +kernel), _, rfl, A, p, D, st, x, rfl, Z4.S, hg.2, hg.1, k4.tab, (by rw [e0s, List.length_map]; omega), fun ys l H5 hp hs k5 nl hl => ?_⟩
      refine ⟨.inl ⟨rfl, _, .inl (.inl hl)⟩, l, _, _, rfl, rfl, hl, small1000 (by rw [List.length_map, hp.length_eq, e0s, List.length_map, List.length_map]; omega), ?_⟩
      exact ⟨rfl, step k4 e4 hts4 (k5.set nl (tab_nn k4.tab nl))⟩
    obtain ⟨rfl, k5, e5, hts5⟩ := hm
    refine ⟨fun σ' H6 => ∃ y8, σ' = [some (.ref p), some (.ref r), some (.str x), some (.ref hA), some (.int tn), some (.ref T0), y6, y7, y8, y9, y10, none] ∧ Kx T [hA] H2 H6 ∧ H6 hA = some (.lst hs3) ∧ (∀ v ∈ hs3, Told K A H6 v), ?_, fun σ' H6 hm => ?_⟩
    · have Z5 := zB k5
      refine ⟨_, rfl, _, rfl, r, _, rfl, gC Z5.B, c.at_, _, rfl, .inl (Z5.B.sh c cm).dc, fun l1 n1 => ?_⟩
      have k6 := Kp.new (o := HO.lst ((c.ents.map entK).map fun kv => kV kv.1)) k5.tab n1
      generalize hbb : (decide (V.int (tn / 6 % 3) = V.int 2)) = bb
      obtain ⟨rs1, rs2⟩ := rep_sub bb ((c.ents.map entK).map fun kv => kV kv.1)
      have hk01 : (if bb = true then (1 : Int) else 0) = 0 ∨ (if bb = true then (1 : Int) else 0) = 1 := by
        cases bb with
        | true => exact .inr rfl
        | false => exact .inl rfl
      have hkl : ((c.ents.map entK).map fun kv => kV kv.1).length = c.ents.length := by rw [List.length_map, List.length_map]
      refine ⟨_, rfl, tn, 6, rfl, rfl, ⟨by decide, by decide⟩, _, 3, rfl, rfl, (by show (0 : Int) < 3; decide), rfl, .inr ⟨bb, (by rw [← hbb]), l1, _, _, rfl, rfl, upd_same, (by rcases hk01 with z | z <;> rw [z] <;> decide), (by rcases hk01 with z | z <;> rw [z] <;> decide), line1000 (by
        rw [hkl]
        rcases hk01 with z | z <;> rw [z]
        · exact Nat.zero_le _
        · show c.ents.length * 1 ≤ 1000
          omega), fun l2 n2 => ?_⟩⟩
      generalize hLL : (List.replicate (if bb = true then (1 : Int) else 0).toNat ((c.ents.map entK).map fun kv => kV kv.1)).flatten = LL at rs1 rs2 ⊢
      have k7 := Kp.new (o := HO.lst LL) k6.tab n2
      have k67 := k6.trans k7
      obtain ⟨s1, s2, s3⟩ := step k5 e5 hts5 k67
      refine ⟨l2, rfl, ⟨_, .inl (.of upd_same)⟩, for_list (K := K) (a := l2) (xs := LL) (fun j σ' H8 => ∃ (y8 : Option V), σ' = [some (.ref p), some (.ref r), some (.str x), some (.ref hA), some (.int tn), some (.ref T0), y6, y7, y8, y9, y10, none] ∧ Kx T [hA] H2 H8 ∧ H8 l2 = some (.lst LL) ∧ H8 hA = some (.lst hs3) ∧ (∀ v ∈ hs3, Told K A H8 v))
        ⟨y8, rfl, s1, upd_same, s2, s3⟩ (fun j σ' H8 _ ⟨_, _, _, z, _⟩ => .inl (.of z)) (fun j v σ' H8 hj hm => ?_) (fun σ' H8 hm => ?_)⟩
      · obtain ⟨y8', rfl, k8, hl2, e8, hts8⟩ := hm
        obtain ⟨kv, hkv, rfl⟩ := List.mem_map.mp (rs1 v (List.mem_of_getElem? hj))
        obtain ⟨e, he, rfl⟩ := List.mem_map.mp hkv
        have Z8 := zB k8
        obtain ⟨dx, o8⟩ := Z8.S.ob
        have le : lookE c.ents e.1 = some e := lookE_of (Z8.B.sh c cm).nd he
        have gde := Z.gd x (entD e) (by rw [e0]; exact List.mem_map.mpr ⟨e, he, rfl⟩)
        have hfd : findD (dataOf st x) e.1 = some (entD e) := by rw [e0s, findD_ents, le]; rfl
        refine ⟨_, rfl, p, dx, _, rfl, o8, flS_no D (by decide +kernel), _, rfl, _, rfl, A, p, D, st, x, e.1, rfl, Z8.S, hg.2, (by rw [hasB_data (m := e.1) hg.1 gde.2.2, hfd]; rfl), k8.tab, fun xs ds l H9 hfd2 k9 nl hl hall => ?_⟩
        have hxs : xs.length ≤ 6 := by
          have z := dpAll_len hall
          have eds : ds = e.2.2 := by
            rw [hfd] at hfd2
            exact (congrArg Prod.snd (Option.some.inj hfd2)).symm
          have z2 : e.2.2.length ≤ 6 := gde.2.1
          rw [z, eds]
          exact z2
        refine ⟨.inl ⟨rfl, _, .inl (.inl hl)⟩, (by show (3 : Nat) ≤ sizeLine; decide), fun tp ntp => ?_⟩
        have k10 := Kp.new (o := HO.tup [.str "a", .int 1, .int 1]) k9.tab ntp
        have lT := tab_nn k8.tab nl
        have l2l : l2 ≠ l := ne_of_none hl2 nl
        refine ⟨l, xs, _, rfl, rfl, k10.lst hl, small1000 (by omega), ?_⟩
        obtain ⟨q1, q2, q3⟩ := step k8 e8 hts8 ((k9.trans k10).set (o := HO.lst (xs ++ [.ref tp])) nl lT)
        exact ⟨_, rfl, q1, by rw [upd_ne l2l]; exact k10.lst (k9.lst hl2), q2, q3⟩
      · obtain ⟨y8', rfl, k8, hl2, e8, hts8⟩ := hm
        exact ⟨y8', rfl, k8, e8, hts8⟩
    obtain ⟨y8', rfl, k6, e6, hts6⟩ := hm
    exact q H6 hs3 ((Kx.of kp2).trans k6) e6 hts6 hlen3
end
end Pk

set_option Elab.async false
set_option linter.all false
set_option maxRecDepth 100000
set_option maxHeartbeats 4000000
namespace Pk
open PySem PySem.Spec PyProof.Rows L2
/-! ### lists that stay -/
theorem sql_kx {K : PySem.W.Frag} {T a : Addr} {A F : List Addr} {H H' : Hp} {xs : List V} (k : Kx T F H H') (hF : ∀ f ∈ F, f ∈ A ∨ ∃ kvs, H f = some (.dK kvs)) (h : SqL K (hide A H) a xs) : SqL K (hide A H') a xs := by
  have st : ∀ o, isSeqO o = true → hide A H a = some o → hide A H' a = some o := fun o hs e => by
    obtain ⟨e1, e2⟩ := hide_some e
    refine hide_of (k.keep a o (isSeq_ne_tab k.t0 hs e1) (fun z => ?_) e1) e2
    rcases hF a z with z | ⟨kvs, z⟩
    · exact e2 z
    · rw [z] at e1
      cases e1
      cases hs
  rcases h with (h | ⟨o, h⟩) | h
  · exact .inl (.inl (st _ rfl h))
  · exact .inl (.inr ⟨o, st _ rfl h⟩)
  · exact .inr h
theorem sql_map {K : PySem.W.Frag} {a : Addr} {H H' : Hp} {xs : List V} (st : ∀ o, H a = some o → H' a = some o) (h : SqL K H a xs) : SqL K H' a xs := by
  rcases h with (h | ⟨o, h⟩) | h
  · exact .inl (.inl (st _ h))
  · exact .inl (.inr ⟨o, st _ h⟩)
  · exact .inr h
theorem sql_show {K : PySem.W.Frag} {A : List Addr} {H : Hp} {a : Addr} {xs : List V} (h : SqL K (hide A H) a xs) : SqL K H a xs := sql_map (fun o e => (hide_some e).1) h
theorem sql_less {K : PySem.W.Frag} {A : List Addr} {H : Hp} {n a : Addr} {xs : List V} (h : SqL K (hide (n :: A) H) a xs) : SqL K (hide A H) a xs := sql_map (fun o e => by
  obtain ⟨e1, e2⟩ := hide_some e
  exact hide_of e1 fun z => e2 (List.mem_cons_of_mem _ z)) h
theorem sql_more {K : PySem.W.Frag} {A : List Addr} {H : Hp} {n a : Addr} {xs : List V} (nn : H n = none) (h : SqL K (hide A H) a xs) : SqL K (hide (n :: A) H) a xs := sql_map (fun o e => by
  obtain ⟨e1, e2⟩ := hide_some e
  refine hide_of e1 fun z => ?_
  rcases List.mem_cons.mp z with z | z
  · rw [z, nn] at e1; cases e1
  · exact e2 z) h
theorem sql_hid {K : PySem.W.Frag} {H : Hp} {n a : Addr} {xs : List V} (nn : H n = none) (h : SqL K H a xs) : SqL K (hide [n] H) a xs := sql_map (fun o e => hide_of e fun z => by
  rw [List.mem_singleton.mp z] at e
  rw [nn] at e; cases e) h
theorem Told.more {K : PySem.W.Frag} {A : List Addr} {H : Hp} {n : Addr} {v : V} (nn : H n = none) (h : Told K A H v) : Told K (n :: A) H v := by
  obtain ⟨t, f, u, ds, e, h1, h2, h3, h4⟩ := h
  refine ⟨t, f, u, ds, e, ?_, dp_more nn h2, dp_more nn h3, h4⟩
  have st : ∀ o, hide A H t = some o → hide (n :: A) H t = some o := fun o e => by
    obtain ⟨e1, e2⟩ := hide_some e
    refine hide_of e1 fun z => ?_
    rcases List.mem_cons.mp z with z | z
    · rw [z, nn] at e1; cases e1
    · exact e2 z
  rcases h1 with (h | ⟨o, h⟩) | h
  · exact .inl (.inl (st _ h))
  · exact .inl (.inr ⟨o, st _ h⟩)
  · exact .inr h
theorem look_ex {x : Str} : ∀ {cl : List Shelf}, x ∈ cl.map (·.ware) → ∃ c, look cl x = some c
  | [], h => by cases h
  | s :: r, h => by
    unfold look
    rw [List.find?_cons]
    by_cases e : s.ware = x
    · rw [decide_eq_true e]
      exact ⟨s, rfl⟩
    · rw [decide_eq_false e]
      rw [List.map_cons] at h
      rcases List.mem_cons.mp h with h | h
      · exact absurd h.symm e
      · exact look_ex h
/-! ### the cells of a row: a dict of texts and new dicts, a text may come twice -/
def putC (cl : List Shelf) (p : Str × Addr) : List Shelf := if (cl.any fun s => decide (s.ware = p.1)) = true then cl.map (fun s => if s.ware = p.1 then ⟨p.1, p.2, []⟩ else s) else cl ++ [⟨p.1, p.2, []⟩]
theorem putC_keys (cl : List Shelf) (p : Str × Addr) : (putC cl p).map keyW = putK (cl.map keyW) (Sum.inr p.1 : Key) (.ref p.2) := by
  have e1 : ((cl.map keyW).any fun kv => decide (kv.1 = (Sum.inr p.1 : Key))) = (cl.any fun s => decide (s.ware = p.1)) := by
    rw [List.any_map]
    congr 1
    funext s
    show decide ((Sum.inr s.ware : Key) = Sum.inr p.1) = decide (s.ware = p.1)
    exact key_rr _ _
  unfold putC putK
  rw [e1]
  by_cases h : (cl.any fun s => decide (s.ware = p.1)) = true
  · rw [if_pos h, if_pos h, List.map_map, List.map_map]
    refine List.map_congr_left fun s _ => ?_
    show keyW (if s.ware = p.1 then _ else s) = if (keyW s).1 = (Sum.inr p.1 : Key) then ((keyW s).1, V.ref p.2) else keyW s
    by_cases hs : s.ware = p.1
    · rw [if_pos hs, if_pos (show (keyW s).1 = (Sum.inr p.1 : Key) by show (Sum.inr s.ware : Key) = _; rw [hs])]
      show (Sum.inr p.1, _) = (Sum.inr s.ware, _)
      rw [hs]
    · have h2 : ¬ (keyW s).1 = (Sum.inr p.1 : Key) := fun z => hs (Sum.inr.inj z)
      rw [if_neg hs, if_neg h2]
  · rw [if_neg h, if_neg h, List.map_append]
    rfl
structure CellOk (cl : List Shelf) : Prop where
  nw : (cl.map (·.ware)).Nodup
  na : (cl.map (·.at_)).Nodup
  em : ∀ s ∈ cl, s.ents = []
theorem map_at_sub {w : Str} {a : Addr} : ∀ {cl : List Shelf}, ∀ b ∈ (cl.map fun s => if s.ware = w then (⟨w, a, []⟩ : Shelf) else s).map (·.at_), b = a ∨ b ∈ cl.map (·.at_)
  | [], b, h => by cases h
  | s :: r, b, h => by
    rw [List.map_cons, List.map_cons] at h
    rcases List.mem_cons.mp h with h | h
    · by_cases hs : s.ware = w
      · rw [if_pos hs] at h; exact .inl h
      · rw [if_neg hs] at h; exact .inr (by rw [h]; exact List.mem_cons_self ..)
    · rcases map_at_sub b h with h | h
      · exact .inl h
      · exact .inr (List.mem_cons_of_mem _ h)
theorem map_same {w : Str} {a : Addr} : ∀ {cl : List Shelf}, (∀ s ∈ cl, s.ware ≠ w) → (cl.map fun s => if s.ware = w then (⟨w, a, []⟩ : Shelf) else s) = cl
  | [], _ => rfl
  | s :: r, h => by
    rw [List.map_cons, if_neg (h s (List.mem_cons_self ..)), map_same fun x hx => h x (List.mem_cons_of_mem _ hx)]
theorem map_at_nd {w : Str} {a : Addr} : ∀ {cl : List Shelf}, (cl.map (·.ware)).Nodup → (cl.map (·.at_)).Nodup → a ∉ cl.map (·.at_) → ((cl.map fun s => if s.ware = w then (⟨w, a, []⟩ : Shelf) else s).map (·.at_)).Nodup
  | [], _, _, _ => List.nodup_nil
  | s :: r, nw, na, ha => by
    rw [List.map_cons, List.nodup_cons] at nw na
    rw [List.map_cons] at ha
    by_cases hs : s.ware = w
    · rw [List.map_cons, if_pos hs, map_same (fun x hx z => nw.1 (by rw [hs, ← z]; exact List.mem_map.mpr ⟨x, hx, rfl⟩)), List.map_cons, List.nodup_cons]
      exact ⟨fun z => ha (List.mem_cons_of_mem _ z), na.2⟩
    · rw [List.map_cons, if_neg hs, List.map_cons, List.nodup_cons]
      refine ⟨fun z => ?_, map_at_nd nw.2 na.2 fun z => ha (List.mem_cons_of_mem _ z)⟩
      rcases map_at_sub _ z with z | z
      · exact ha (by rw [← z]; exact List.mem_cons_self ..)
      · exact na.1 z
theorem putC_ok {cl : List Shelf} {p : Str × Addr} (C : CellOk cl) (ha : p.2 ∉ cl.map (·.at_)) : CellOk (putC cl p) ∧ (∀ s ∈ putC cl p, s ∈ cl ∨ s = ⟨p.1, p.2, []⟩) ∧ (∀ w ∈ cl.map (·.ware), w ∈ (putC cl p).map (·.ware)) ∧ p.1 ∈ (putC cl p).map (·.ware) ∧ (putC cl p).length ≤ cl.length + 1 := by
  unfold putC
  by_cases h : (cl.any fun s => decide (s.ware = p.1)) = true
  · rw [if_pos h]
    have ew : (cl.map fun s => if s.ware = p.1 then (⟨p.1, p.2, []⟩ : Shelf) else s).map (·.ware) = cl.map (·.ware) := by
      rw [List.map_map]
      refine List.map_congr_left fun s _ => ?_
      show (if s.ware = p.1 then _ else s : Shelf).ware = s.ware
      by_cases hs : s.ware = p.1
      · rw [if_pos hs]; exact hs.symm
      · rw [if_neg hs]
    refine ⟨⟨by rw [ew]; exact C.nw, map_at_nd C.nw C.na ha, fun s hs => ?_⟩, fun s hs => ?_, fun w hw => by rw [ew]; exact hw, ?_, by rw [List.length_map]; omega⟩
    · obtain ⟨s', hs', rfl⟩ := List.mem_map.mp hs
      by_cases hz : s'.ware = p.1
      · rw [if_pos hz]
      · rw [if_neg hz]; exact C.em s' hs'
    · obtain ⟨s', hs', rfl⟩ := List.mem_map.mp hs
      by_cases hz : s'.ware = p.1
      · rw [if_pos hz]; exact .inr rfl
      · rw [if_neg hz]; exact .inl hs'
    · rw [ew]
      obtain ⟨s, hs, hz⟩ := List.any_eq_true.mp h
      exact List.mem_map.mpr ⟨s, hs, of_decide_eq_true hz⟩
  · rw [if_neg h]
    have hno : ∀ s ∈ cl, s.ware ≠ p.1 := fun s hs z => h (List.any_eq_true.mpr ⟨s, hs, decide_eq_true z⟩)
    refine ⟨⟨?_, ?_, fun s hs => ?_⟩, fun s hs => ?_, fun w hw => ?_, ?_, by rw [List.length_append, List.length_singleton]; omega⟩
    · rw [List.map_append, List.nodup_append]
      refine ⟨C.nw, List.nodup_cons.mpr ⟨List.not_mem_nil, List.nodup_nil⟩, fun x hx y hy => ?_⟩
      obtain ⟨s, hs, rfl⟩ := List.mem_map.mp hx
      rw [List.map_singleton] at hy
      rw [List.mem_singleton.mp hy]
      exact hno s hs
    · rw [List.map_append, List.nodup_append]
      refine ⟨C.na, List.nodup_cons.mpr ⟨List.not_mem_nil, List.nodup_nil⟩, fun x hx y hy z => ?_⟩
      rw [List.map_singleton] at hy
      rw [z, List.mem_singleton.mp hy] at hx
      exact ha hx
    · rcases List.mem_append.mp hs with hs | hs
      · exact C.em s hs
      · rw [List.mem_singleton.mp hs]
    · rcases List.mem_append.mp hs with hs | hs
      · exact .inl hs
      · exact .inr (List.mem_singleton.mp hs)
    · rw [List.map_append]
      exact List.mem_append_left _ hw
    · rw [List.map_append]
      exact List.mem_append_right _ (List.mem_cons_self ..)
theorem merge_cells : ∀ (ps : List (Str × Addr)) (cl : List Shelf), (ps.foldl putC cl).map keyW = mergeK (cl.map keyW) (ps.map fun p => ((Sum.inr p.1 : Key), V.ref p.2))
  | [], _ => rfl
  | p :: r, cl => by
    rw [List.foldl_cons, merge_cells r, putC_keys]
    rfl
theorem cells_ok : ∀ (ps : List (Str × Addr)) (cl : List Shelf), CellOk cl → (ps.map (·.2)).Nodup → (∀ p ∈ ps, p.2 ∉ cl.map (·.at_)) →
    CellOk (ps.foldl putC cl) ∧ (∀ s ∈ ps.foldl putC cl, s ∈ cl ∨ ∃ p ∈ ps, s = ⟨p.1, p.2, []⟩) ∧ (∀ w ∈ cl.map (·.ware), w ∈ (ps.foldl putC cl).map (·.ware)) ∧ (∀ p ∈ ps, p.1 ∈ (ps.foldl putC cl).map (·.ware)) ∧ (ps.foldl putC cl).length ≤ cl.length + ps.length
  | [], cl, C, _, _ => ⟨C, fun s hs => .inl hs, fun w hw => hw, fun p hp => (by cases hp), Nat.le_refl _⟩
  | p :: r, cl, C, nd, hn => by
    rw [List.map_cons, List.nodup_cons] at nd
    obtain ⟨c1, c2, c3, c4, c5⟩ := putC_ok C (hn p (List.mem_cons_self ..))
    obtain ⟨d1, d2, d3, d4, d5⟩ := cells_ok r (putC cl p) c1 nd.2 fun q hq z => by
      obtain ⟨s, hs, e⟩ := List.mem_map.mp z
      rcases c2 s hs with hs | hs
      · exact hn q (List.mem_cons_of_mem _ hq) (by rw [← e]; exact List.mem_map.mpr ⟨s, hs, rfl⟩)
      · rw [hs] at e
        have e' : p.2 = q.2 := e
        exact nd.1 (by rw [e']; exact List.mem_map.mpr ⟨q, hq, rfl⟩)
    rw [List.foldl_cons]
    refine ⟨d1, fun s hs => ?_, fun w hw => d3 w (c3 w hw), fun q hq => ?_, by rw [List.length_cons]; omega⟩
    · rcases d2 s hs with hs | ⟨q, hq, e⟩
      · rcases c2 s hs with hs | hs
        · exact .inl hs
        · exact .inr ⟨p, List.mem_cons_self .., hs⟩
      · exact .inr ⟨q, List.mem_cons_of_mem _ hq, e⟩
    · rcases List.mem_cons.mp hq with hq | hq
      · rw [hq]; exact d3 _ c4
      · exact d4 q hq
/-- a row: the dict of all names, each with an empty dict of its own -/
structure RowNew (K : PySem.W.Frag) (names : List Str) (H H' : Hp) (r : Addr) (cl : List Shelf) : Prop where
  bx : ∀ A, BoxOk K A H' r cl
  nw : ∀ f ∈ foot r cl, H f = none
  em : ∀ s ∈ cl, s.ents = []
  mem : ∀ x ∈ names, x ∈ cl.map (·.ware)
  sub : ∀ s ∈ cl, s.ware ∈ names
  len : cl.length ≤ names.length
theorem read_row {K : PySem.W.Frag} {H : Hp} {T pn : Addr} {names : List Str} {i j : Nat} {σ : L2.St} {Q : VK} (hp : SqL K H pn (names.map V.str)) (t : GxR.TabG H T) (hj : σ[j]? = some (some (.ref pn))) (hij : i ≠ j) (hi : i < σ.length) (hn : names.length ≤ 100)
    (q : ∀ r cl H', Kp T H H' → RowNew K names H H' r cl → Q (.ref r) H') :
    tLc (iList K (tVar j)) (gName i) tYes (tTup (tCons (tVar i) (fun σ H Q => tDNewK σ H fun y H1 => tNil σ H1 fun ys H2 => Q (y :: ys) H2))) [i] σ H (fun v H1 => ∃ (a : Addr) (ps : List Addr) (kvs : List (Key × V)), [v] = [.ref a] ∧ SqL K H1 a (ps.map V.ref) ∧ Paired (fun p kv => SqT K H1 p [kV kv.1, kv.2]) ps kvs ∧
      ∀ p, H1 p = none → Q (.ref p) (upd H1 p (.dK (mergeK [] kvs)))) := by
  refine ⟨_, hj, pn, rfl, ⟨_, hp⟩, fun I nI => ?_⟩
  have IT := tab_nn t nI
  have w1 : wipe σ [i] = σ.set i none := rfl
  refine lc_list (K := K) (a := pn) (xs := names.map V.str) (fun n H' => ∃ (ts : List Addr) (ps : List (Str × Addr)), H' I = some (.lst (ts.map V.ref)) ∧ Kp T H H' ∧ Paired (fun t p => H' t = some (.tup [.str p.1, .ref p.2])) ts ps ∧ ps.map (·.1) = names.take n ∧ (∀ p ∈ ps, H' p.2 = some (.dK []) ∧ H p.2 = none) ∧ (ps.map (·.2)).Nodup)
    ⟨[], [], upd_same, Kp.new t nI, .nil, rfl, fun p hp => (by cases hp), List.nodup_nil⟩ (fun n H' _ ⟨_, _, _, kk, _⟩ => kk.seq hp) (fun n x H' hx hm => ?_) (fun H' hm => ?_)
  · obtain ⟨ts, ps, hI, kk, hpr, hnm, hps, hnd⟩ := hm
    have hnl : n < names.length := by
      have := (List.getElem?_eq_some_iff.mp hx).1
      rw [List.length_map] at this
      exact this
    rw [List.getElem?_map, List.getElem?_eq_getElem hnl] at hx
    have ex : x = .str names[n] := (Option.some.inj hx).symm
    subst ex
    have s2i : ((wipe σ [i]).set i (some (V.str names[n])))[i]? = some (some (.str names[n])) := by rw [w1, List.set_set, List.getElem?_set_self hi]
    refine ⟨by show ((σ.set i none).set i _).set i none = σ.set i none; rw [List.set_set, List.set_set], ?_⟩
    refine ⟨_, s2i, fun d nd => ⟨(by show (2 : Nat) ≤ sizeLine; decide), fun tp ntp => ?_⟩⟩
    have k1 := Kp.new (o := HO.dK []) kk.tab nd
    have k2 := Kp.new (o := HO.tup [.str names[n], .ref d]) k1.tab ntp
    have k12 := k1.trans k2
    have ndH := kk.free nd
    have tl : ts.length = ps.length := Paired.length hpr
    have pl : ps.length ≤ 100 := by
      have z := congrArg List.length hnm
      rw [List.length_map, List.length_take] at z
      omega
    have dI : d ≠ I := fun z => by rw [z, hI] at nd; cases nd
    have tI : tp ≠ I := fun z => by
      rw [z, k1.lst hI] at ntp; cases ntp
    have kI : ∀ b o, b ≠ I → b ≠ T → H' b = some o → upd (upd (upd H' d (.dK [])) tp (.tup [.str names[n], .ref d])) I (.lst (ts.map V.ref ++ [.ref tp])) b = some o := fun b o h1 h2 e => by
      rw [upd_ne h1]
      exact k12.keep b o h2 e
    refine ⟨_, k12.lst hI, small1000 (by rw [List.length_map]; omega), ts ++ [tp], ps ++ [(names[n], d)], by rw [upd_same, List.map_append]; rfl, (kk.trans k12).set nI IT, ?_, ?_, fun p hp => ?_, ?_⟩
    · have app : ∀ {ts : List Addr} {ps : List (Str × Addr)}, Paired (fun t p => H' t = some (.tup [.str p.1, .ref p.2])) ts ps → (∀ l, Paired (fun t p => upd (upd (upd H' d (.dK [])) tp (.tup [.str names[n], .ref d])) I l t = some (.tup [.str p.1, .ref p.2])) (ts ++ [tp]) (ps ++ [(names[n], d)]) ∨ ∃ t ∈ ts, t = I) := by
        intro ts ps hpr l
        induction hpr with
        | nil => exact .inl (.cons (by rw [upd_ne tI, upd_same]) .nil)
        | @cons t p ts' ps' h1 h2 ih =>
          by_cases ht : t = I
          · exact .inr ⟨t, List.mem_cons_self .., ht⟩
          · rcases ih with ih | ⟨t', h3, h4⟩
            · refine .inl (.cons ?_ ih)
              rw [upd_ne ht]
              exact k12.keep t _ (tab_ne kk.tab h1 fun _ z => by cases z) h1
            · exact .inr ⟨t', List.mem_cons_of_mem _ h3, h4⟩
      rcases app hpr (.lst (ts.map V.ref ++ [.ref tp])) with z | ⟨t', h3, h4⟩
      · exact z
      · have no : ∀ {ts : List Addr} {ps : List (Str × Addr)}, Paired (fun t p => H' t = some (.tup [.str p.1, .ref p.2])) ts ps → I ∉ ts := by
          intro ts ps hpr
          induction hpr with
          | nil => intro z; cases z
          | @cons t p ts' ps' h1 h2 ih =>
            intro z
            rcases List.mem_cons.mp z with z | z
            · rw [← z, hI] at h1; cases h1
            · exact ih z
        exact absurd (by rw [← h4]; exact h3) (no hpr)
    · rw [List.map_append, hnm, List.take_add_one, List.getElem?_eq_getElem hnl]
      rfl
    · rcases List.mem_append.mp hp with hp | hp
      · obtain ⟨a1, a2⟩ := hps p hp
        refine ⟨kI _ _ (fun z => ?_) (tab_ne kk.tab a1 fun _ z => by cases z) a1, a2⟩
        rw [z, hI] at a1; cases a1
      · rw [List.mem_singleton.mp hp]
        refine ⟨?_, ndH⟩
        show upd (upd (upd H' d (.dK [])) tp (.tup [.str names[n], .ref d])) I _ d = _
        rw [upd_ne dI, upd_ne (fun z => ?_), upd_same]
        rw [z] at ntp
        rw [upd_same] at ntp; cases ntp
    · rw [List.map_append, List.nodup_append]
      refine ⟨hnd, List.nodup_cons.mpr ⟨List.not_mem_nil, List.nodup_nil⟩, fun x hx y hy z => ?_⟩
      obtain ⟨p, hp, e⟩ := List.mem_map.mp hx
      rw [List.map_singleton] at hy
      rw [z, List.mem_singleton.mp hy] at e
      have a1 := (hps p hp).1
      have e' : p.2 = d := e
      rw [e', nd] at a1; cases a1
  · obtain ⟨ts, ps, hI, kk, hpr, hnm, hps, hnd⟩ := hm
    rw [List.length_map, List.take_length] at hnm
    refine ⟨I, ts, ps.map fun p => ((Sum.inr p.1 : Key), V.ref p.2), rfl, .inl (.of hI), ?_, fun r nr => ?_⟩
    · have app : ∀ {ts : List Addr} {ps : List (Str × Addr)}, Paired (fun t p => H' t = some (.tup [.str p.1, .ref p.2])) ts ps → Paired (fun p kv => SqT K H' p [kV kv.1, kv.2]) ts (ps.map fun p => ((Sum.inr p.1 : Key), V.ref p.2)) := by
        intro ts ps hpr
        induction hpr with
        | nil => exact .nil
        | @cons t p ts' ps' h1 h2 ih => exact .cons (.inl (.inl h1)) ih
      exact app hpr
    · have k3 := Kp.new (o := HO.dK (mergeK [] (ps.map fun p => ((Sum.inr p.1 : Key), V.ref p.2)))) kk.tab nr
      obtain ⟨d1, d2, d3, d4, d5⟩ := cells_ok ps [] ⟨List.nodup_nil, List.nodup_nil, fun s hs => (by cases hs)⟩ hnd (fun p hp z => (by cases z))
      have inps : ∀ s ∈ ps.foldl putC [], ∃ p ∈ ps, s = ⟨p.1, p.2, []⟩ := fun s hs => by
        rcases d2 s hs with z | z
        · cases z
        · exact z
      have ekeys : mergeK [] (ps.map fun p => ((Sum.inr p.1 : Key), V.ref p.2)) = (ps.foldl putC []).map keyW := (merge_cells ps []).symm
      have at_d : ∀ s ∈ ps.foldl putC [], H' s.at_ = some (.dK []) ∧ H s.at_ = none := fun s hs => by
        obtain ⟨p, hp, e⟩ := inps s hs
        rw [e]
        exact hps p hp
      have rs : ∀ s ∈ ps.foldl putC [], s.at_ ≠ r := fun s hs z => by
        have a1 := (at_d s hs).1
        rw [z, nr] at a1; cases a1
      refine q r (ps.foldl putC []) _ (kk.trans k3) ⟨fun A => ⟨by rw [upd_same, ekeys], fun s hs => ⟨?_, fun e he => ?_, ?_⟩, d1.nw, ?_⟩, fun f hf => ?_, d1.em, fun x hx => ?_, fun s hs => ?_, ?_⟩
      · rw [upd_ne (rs s hs), (at_d s hs).1, d1.em s hs]
        rfl
      · rw [d1.em s hs] at he; cases he
      · rw [d1.em s hs]; exact List.nodup_nil
      · rw [List.nodup_cons]
        refine ⟨fun z => ?_, d1.na⟩
        obtain ⟨s, hs, e⟩ := List.mem_map.mp z
        exact rs s hs e
      · rcases List.mem_cons.mp hf with hf | hf
        · rw [hf]; exact kk.free nr
        · obtain ⟨s, hs, e⟩ := List.mem_map.mp hf
          rw [← e]; exact (at_d s hs).2
      · rw [← hnm] at hx
        obtain ⟨p, hp, e⟩ := List.mem_map.mp hx
        rw [← e]; exact d4 p hp
      · obtain ⟨p, hp, e⟩ := inps s hs
        rw [e, ← hnm]
        exact List.mem_map.mpr ⟨p, hp, rfl⟩
      · have z := congrArg List.length hnm
        rw [List.length_map] at z
        rw [← z]
        simpa using d5
end Pk

set_option Elab.async false
set_option linter.all false
set_option maxRecDepth 100000
set_option maxHeartbeats 4000000
namespace Pk
open PySem PySem.Spec PyProof.Rows L2
abbrev sLaw : Stmt := topS 29
/-- the two shops with their rows -/
structure Two (K : PySem.W.Frag) (C : Addr) (A : List Addr) (p0 D0 r0 p1 D1 r1 : Addr) (W : List Str) (H : Hp) (st0 cl0 st1 cl1 : List Shelf) : Prop where
  z0 : Pair K C A H p0 D0 st0 r0 cl0
  z1 : Pair K C A H p1 D1 st1 r1 cl1
  dj : ∀ f ∈ foot D0 st0 ++ foot r0 cl0, f ∉ foot D1 st1 ++ foot r1 cl1
  w0 : ∀ x ∈ W, x ∈ cl0.map (·.ware)
  w1 : ∀ x ∈ W, x ∈ cl1.map (·.ware)
theorem Pair.feet {K : PySem.W.Frag} {C : Addr} {A : List Addr} {H : Hp} {p D r : Addr} {st cl : List Shelf} (Z : Pair K C A H p D st r cl) : ∀ f ∈ foot D st ++ foot r cl, ∃ kvs, H f = some (.dK kvs) := fun f hf => by
  rcases List.mem_append.mp hf with hf | hf
  · exact Z.S.bx.foot_dict f hf
  · exact Z.B.foot_dict f hf

/-- a loop over enumerate of a list -/
theorem for_enum {K : PySem.W.Frag} {a : Addr} {xs : List V} {g : TG} {tb : TS} {D : Ends} {σ : L2.St} {H : Hp} (Pv : Nat → L2.St → Hp → Prop) (h0 : Pv 0 σ H) (hl : ∀ i σ H, i ≤ xs.length → Pv i σ H → SqL K H a xs)
    (hs : ∀ i x σ H p, xs[i]? = some x → Pv i σ H → H p = none → g (.ref p) σ (upd H p (.tup [.int (i : Nat), x])) fun σ2 H2 => tb { D with nx := Pv (i + 1), ct := Pv (i + 1), bk := D.nx } σ2 H2) (hd : ∀ σ H, Pv xs.length σ H → D.nx σ H) :
    ∃ W : Nat → Nat → L2.St → Hp → Prop, (∃ m, W 0 m σ H) ∧ ∀ i m σ H, W i m σ H →
      ((Ite K a).stop i H ∧ D.nx σ H) ∨ ((Ite K a).go i H ∧ ∃ N : L2.St → Hp → Prop, (∀ σ' H', N σ' H' → ∃ m', m' < m ∧ W (i + 1) m' σ' H') ∧ ∀ x H', (Ite K a).yld i H x H' → g x σ H' fun σ2 H2 => tb { D with nx := N, ct := N, bk := D.nx } σ2 H2) := by
  refine ⟨fun i m σ H => m = xs.length - i ∧ i ≤ xs.length ∧ Pv i σ H, ⟨xs.length, by simp, Nat.zero_le _, h0⟩, ?_⟩
  rintro i m σ H ⟨rfl, hi, p⟩
  have q := hl i σ H hi p
  by_cases hlt : i < xs.length
  · refine .inr ⟨⟨xs, xs[i], q, by simp [hlt]⟩, Pv (i + 1), fun σ' H' p' => ⟨xs.length - (i + 1), by omega, rfl, hlt, p'⟩, fun x H' y => ?_⟩
    obtain ⟨tp, z, rfl, ntp, rfl, hz⟩ := y
    exact hs i z σ H tp (hz xs q) p ntp
  · have e : i = xs.length := by omega
    subst e
    exact .inl ⟨⟨xs, q, Nat.le_refl _⟩, hd σ H p⟩
theorem new_shop {K : PySem.W.Frag} {C T x dx D : Addr} {H : Hp} (t : GxR.TabG H T) (nx : H x = none) (ndx : H dx = none) (ne : dx ≠ x) (nD : (upd (upd H dx (.own x)) x (.ins C dx [])) D = none) :
    Kp T H (upd (upd (upd (upd H dx (.own x)) x (.ins C dx [])) D (.dK [])) x (.ins C dx (flS D))) ∧ (∀ A, ShopAt K C A (upd (upd (upd (upd H dx (.own x)) x (.ins C dx [])) D (.dK [])) x (.ins C dx (flS D))) x D []) ∧ H D = none := by
  have k1 := Kp.new (o := HO.own x) t ndx
  have nx1 : upd H dx (.own x) x = none := by rw [upd_ne ne.symm]; exact nx
  have k2 := Kp.new (o := HO.ins C dx []) k1.tab nx1
  have k3 := Kp.new (o := HO.dK []) k2.tab nD
  have xT := tab_nn t nx
  have Dx : D ≠ x := fun z => by rw [z, upd_same] at nD; cases nD
  refine ⟨((k1.trans k2).trans k3).set nx xT, fun A => ⟨⟨dx, upd_same⟩, ⟨?_, fun s hs => (by cases hs), List.nodup_nil, List.nodup_cons.mpr ⟨List.not_mem_nil, List.nodup_nil⟩⟩, fun s hs => (by cases hs)⟩, (k1.trans k2).free nD⟩
  rw [upd_ne Dx, upd_same]
  rfl
/-- rows without entries stay wherever their dicts stay -/
theorem BoxOk.keptE {K : PySem.W.Frag} {T r : Addr} {F : List Addr} {H H' : Hp} {cl : List Shelf} (B : ∀ A, BoxOk K A H r cl) (em : ∀ s ∈ cl, s.ents = []) (k : Kx T F H H') (dj : ∀ f ∈ foot r cl, f ∉ F) : ∀ A, BoxOk K A H' r cl := fun A => by
  have kd : ∀ f ∈ foot r cl, ∀ o, H f = some o → H' f = some o := fun f hf o e => k.keep f o ((B []).foot_ne k.t0 f hf) (dj f hf) e
  refine ⟨kd r (List.mem_cons_self ..) _ (B []).dc, fun s hs => ⟨kd _ (List.mem_cons_of_mem _ (List.mem_map.mpr ⟨s, hs, rfl⟩)) _ ((B []).sh s hs).dc, fun e he => ?_, ((B []).sh s hs).nd⟩, (B []).nd, (B []).na⟩
  rw [em s hs] at he
  cases he
theorem data_empty {cl : List Shelf} (em : ∀ s ∈ cl, s.ents = []) (v : Str) : dataOf cl v = [] := by
  unfold dataOf
  cases el : look cl v with
  | none => rfl
  | some s =>
    show s.ents.map entD = []
    rw [em s (look_mem el).1]
    rfl
/-! ### two pairs through a turn -/
def TwoX (K : PySem.W.Frag) (C : Addr) (A : List Addr) (p0 D0 r0 p1 D1 r1 : Addr) (W : List Str) (H : Hp) : Prop := ∃ st0 cl0 st1 cl1, Two K C A p0 D0 r0 p1 D1 r1 W H st0 cl0 st1 cl1
section
variable {K : PySem.W.Frag} {C T p0 D0 r0 p1 D1 r1 : Addr} {A : List Addr} {W : List Str} {H H' : Hp} {st0 cl0 st1 cl1 : List Shelf}
theorem Two.swap (t : Two K C A p0 D0 r0 p1 D1 r1 W H st0 cl0 st1 cl1) : Two K C A p1 D1 r1 p0 D0 r0 W H st1 cl1 st0 cl0 :=
  ⟨t.z1, t.z0, fun f hf hf2 => t.dj f hf2 hf, t.w1, t.w0⟩
theorem Two.step {nd : Addr} {xs : List V} {st' cl' : List Shelf} (t : Two K C A p0 D0 r0 p1 D1 r1 W H st0 cl0 st1 cl1) (hn : H nd = some (.lst xs)) (hnA : nd ∈ A) (hAl : ∀ b ∈ A, ∃ ys, H b = some (.lst ys)) (Z : Pair K C A H' p0 D0 st' r0 cl') (ew : cl'.map (·.ware) = cl0.map (·.ware)) (ea : cl'.map (·.at_) = cl0.map (·.at_))
    (k : Kx T (nd :: (foot D0 st0 ++ foot r0 cl0)) H H') (hf : ∀ f ∈ foot D0 st', f ∈ foot D0 st0 ∨ H f = none) : Two K C A p0 D0 r0 p1 D1 r1 W H' st' cl' st1 cl1 := by
  have nf : ∀ f ∈ foot D1 st1 ++ foot r1 cl1, f ∉ nd :: (foot D0 st0 ++ foot r0 cl0) := fun f hf1 hf2 => by
    rcases List.mem_cons.mp hf2 with z | z
    · obtain ⟨kvs, e⟩ := t.z1.feet f hf1
      rw [z, hn] at e; cases e
    · exact t.dj f z hf1
  have efr : foot r0 cl' = foot r0 cl0 := by unfold foot; rw [ea]
  refine ⟨Z, t.z1.kept k (fun f hf1 => ?_) (fun f hf1 hfA => ?_) (fun f h => nf f (List.mem_append_left _ h)) (fun f h => nf f (List.mem_append_right _ h)), fun f hf1 hf2 => ?_, fun x hx => by rw [ew]; exact t.w0 x hx, t.w1⟩
  · rcases List.mem_cons.mp hf1 with z | z
    · exact .inl (by rw [z]; exact hnA)
    · exact .inr (t.z0.feet f z)
  · rcases List.mem_cons.mp hf1 with z | z
    · exact ⟨xs, by rw [z]; exact hn⟩
    · exact hAl f hfA
  · rcases List.mem_append.mp hf1 with z | z
    · rcases hf f z with z | z
      · exact t.dj f (List.mem_append_left _ z) hf2
      · obtain ⟨kvs, e⟩ := t.z1.feet f hf2
        rw [z] at e; cases e
    · rw [efr] at z
      exact t.dj f (List.mem_append_right _ z) hf2
theorem TwoX.pick {at_ : Int} (t : TwoX K C A p0 D0 r0 p1 D1 r1 W H) (h : at_ = 0 ∨ at_ = 1) : ∃ p D st r cl, atI [V.ref p0, .ref p1] at_ = some (.ref p) ∧ atI [V.ref r0, .ref r1] at_ = some (.ref r) ∧ Pair K C A H p D st r cl ∧ (∀ x ∈ W, x ∈ cl.map (·.ware)) ∧
    (∀ f ∈ foot D st ++ foot r cl, ∃ kvs, H f = some (.dK kvs)) ∧
    ∀ T nd xs H' st' cl', H nd = some (.lst xs) → nd ∈ A → (∀ b ∈ A, ∃ ys, H b = some (.lst ys)) → Pair K C A H' p D st' r cl' → cl'.map (·.ware) = cl.map (·.ware) → cl'.map (·.at_) = cl.map (·.at_) → Kx T (nd :: (foot D st ++ foot r cl)) H H' → (∀ f ∈ foot D st', f ∈ foot D st ∨ H f = none) → TwoX K C A p0 D0 r0 p1 D1 r1 W H' := by
  obtain ⟨st0, cl0, st1, cl1, t⟩ := t
  rcases h with rfl | rfl
  · exact ⟨p0, D0, st0, r0, cl0, atI_nat (j := 0) rfl, atI_nat (j := 0) rfl, t.z0, t.w0, t.z0.feet, fun T nd xs H' st' cl' hn hnA hAl Z ew ea k hf => ⟨_, _, _, _, t.step hn hnA hAl Z ew ea k hf⟩⟩
  · exact ⟨p1, D1, st1, r1, cl1, atI_nat (j := 1) rfl, atI_nat (j := 1) rfl, t.z1, t.w1, t.z1.feet, fun T nd xs H' st' cl' hn hnA hAl Z ew ea k hf => ⟨_, _, _, _, (t.swap.step hn hnA hAl Z ew ea k hf).swap⟩⟩
theorem TwoX.kept {F : List Addr} (t : TwoX K C A p0 D0 r0 p1 D1 r1 W H) (k : Kx T F H H') (hF : ∀ f ∈ F, f ∈ A ∧ ∃ ys, H f = some (.lst ys)) : TwoX K C A p0 D0 r0 p1 D1 r1 W H' := by
  obtain ⟨st0, cl0, st1, cl1, t⟩ := t
  have nf : ∀ f ∈ F, ¬ ∃ kvs, H f = some (.dK kvs) := fun f hf ⟨kvs, e⟩ => by
    obtain ⟨_, ys, e2⟩ := hF f hf
    rw [e] at e2; cases e2
  have one : ∀ {p D r : Addr} {st cl : List Shelf}, Pair K C A H p D st r cl → Pair K C A H' p D st r cl := fun Z => Z.kept k (fun f hf => .inl (hF f hf).1) (fun f hf _ => (hF f hf).2) (fun f hf hf2 => nf f hf2 (Z.S.bx.foot_dict f hf)) (fun f hf hf2 => nf f hf2 (Z.B.foot_dict f hf))
  exact ⟨_, _, _, _, one t.z0, one t.z1, t.dj, t.w0, t.w1⟩
theorem TwoX.keptP (t : TwoX K C A p0 D0 r0 p1 D1 r1 W H) (k : Kp T H H') : TwoX K C A p0 D0 r0 p1 D1 r1 W H' := t.kept (F := []) (.of k) fun f hf => by cases hf
theorem TwoX.more {n : Addr} (t : TwoX K C A p0 D0 r0 p1 D1 r1 W H) (nn : H n = none) : TwoX K C (n :: A) p0 D0 r0 p1 D1 r1 W H := by
  obtain ⟨st0, cl0, st1, cl1, t⟩ := t
  exact ⟨_, _, _, _, t.z0.more nn, t.z1.more nn, t.dj, t.w0, t.w1⟩
theorem TwoX.less {n : Addr} (t : TwoX K C (n :: A) p0 D0 r0 p1 D1 r1 W H) : TwoX K C A p0 D0 r0 p1 D1 r1 W H := by
  obtain ⟨st0, cl0, st1, cl1, t⟩ := t
  exact ⟨_, _, _, _, t.z0.less, t.z1.less, t.dj, t.w0, t.w1⟩
end
/-- what stays through the turns -/
structure Std (K : PySem.W.Frag) (T a pn sh R s : Addr) (va vn vs vr vc : List V) (A : List Addr) (H : Hp) : Prop where
  t : GxR.TabG H T
  fa : SqL K (hide A H) a va
  fn : SqL K (hide A H) pn vn
  fs : SqL K (hide A H) sh vs
  fr : SqL K (hide A H) R vr
  fc : SqL K (hide A H) s vc
section
variable {K : PySem.W.Frag} {T a pn sh R s : Addr} {va vn vs vr vc : List V} {A : List Addr} {H H' : Hp}
theorem Std.kx {F : List Addr} (S : Std K T a pn sh R s va vn vs vr vc A H) (k : Kx T F H H') (hF : ∀ f ∈ F, f ∈ A ∨ ∃ kvs, H f = some (.dK kvs)) : Std K T a pn sh R s va vn vs vr vc A H' :=
  ⟨k.tab, sql_kx k hF S.fa, sql_kx k hF S.fn, sql_kx k hF S.fs, sql_kx k hF S.fr, sql_kx k hF S.fc⟩
theorem Std.kp (S : Std K T a pn sh R s va vn vs vr vc A H) (k : Kp T H H') : Std K T a pn sh R s va vn vs vr vc A H' := S.kx (F := []) (.of k) fun f hf => by cases hf
theorem Std.more {n : Addr} (S : Std K T a pn sh R s va vn vs vr vc A H) (nn : H n = none) : Std K T a pn sh R s va vn vs vr vc (n :: A) H :=
  ⟨S.t, sql_more nn S.fa, sql_more nn S.fn, sql_more nn S.fs, sql_more nn S.fr, sql_more nn S.fc⟩
theorem Std.less {n : Addr} (S : Std K T a pn sh R s va vn vs vr vc (n :: A) H) : Std K T a pn sh R s va vn vs vr vc A H :=
  ⟨S.t, sql_less S.fa, sql_less S.fn, sql_less S.fs, sql_less S.fr, sql_less S.fc⟩
end
theorem tYes_if {σ : L2.St} {H : Hp} {a b : Hp → Prop} (h : a H) : tYes σ H (fun c H3 => if c = true then a H3 else b H3) := by
  show (if true = true then a H else b H)
  rw [if_pos rfl]
  exact h
def RowsM (K : PySem.W.Frag) (T R : Addr) (HS : Hp) (names : List Str) (n : Nat) (H' : Hp) : Prop := ∃ rs : List (Addr × List Shelf), H' R = some (.lst (rs.map fun q => V.ref q.1)) ∧ Kp T HS H' ∧ rs.length = n ∧
  (∀ q ∈ rs, (∀ A, BoxOk K A H' q.1 q.2) ∧ (∀ s ∈ q.2, s.ents = []) ∧ (∀ x ∈ names, x ∈ q.2.map (·.ware)) ∧ (∀ s ∈ q.2, s.ware ∈ names) ∧ q.2.length ≤ names.length ∧ ∀ f ∈ foot q.1 q.2, HS f = none) ∧
  rs.Pairwise fun q q' => ∀ f ∈ foot q.1 q.2, f ∉ foot q'.1 q'.2
section
variable {P : Program} {w : World} {K : PySem.W.Frag} {mg : Str → Option Value} {base : Heap}
def lawN : List Str := ["_law_script", "_law_names_here", "_law_shops", "_law_rows", "_law_held", "_law_k", "_law_cell", "_law_number", "_law_at", "_law_ware", "_law_make", "_law_needs_here", "_law_one", "_law_name", "_law_shop", "_law_pair"]
theorem scLaw : FnScope lawN ["_law_script"] (defScope sLaw) := ⟨rfl, rfl, rfl, by decide +kernel, rfl, by decide +kernel, by decide +kernel⟩
def spLaw (K : PySem.W.Frag) (T : Addr) : Sp := fun vs H Q _ => ∃ (a : Addr) (ns : List Int), vs = [.ref a] ∧ SqL K H a (ns.map V.int) ∧ ns.length ≤ 63 ∧ GxR.TabG H T ∧ ∀ H', Q (.bl true) H'
theorem ok_law {f C T fN fI fX fK fE fD fA : Addr} {fd fdN fdI fdX fdK fdE fdD fdA : FuncData} {t12 t8 t6 : Tok} (F : Fun K "law" "law" sLaw f fd) (X : ShopT K mg C) (gC : mg "Shop" = some (.ref C)) (M : Mk K C fI)
    (GN : FnOk P w K mg base CX0 2 fN fdN ["_law_script", "_law_many"] (spNames K T)) (kN : PySem.W.keepIn K (.ref fN) = true) (bN : Binds K fdN ["_law_script", "_law_many"] []) (gN : mg "_law_names" = some (.ref fN))
    (GI : FnOk P w K mg base CX0 1 fI fdI ["self"] (spInit C)) (bI : Binds K fdI ["self"] [])
    (GX : FnOk P w K mg base CX0 1 fX fdX ["_law_script", "_law_k"] (spMixed K)) (kX : PySem.W.keepIn K (.ref fX) = true) (bX : Binds K fdX ["_law_script", "_law_k"] []) (gX : mg "_law_mixed" = some (.ref fX))
    (GK : FnOk P w K mg base CX0 1 fK fdK ["_law_number"] (spLMakes T)) (kK : PySem.W.keepIn K (.ref fK) = true) (bK : Binds K fdK ["_law_number"] []) (gK : mg "_law_makes" = some (.ref fK))
    (GE : FnOk P w K mg base CX0 1 fE fdE ["_law_names_here", "_law_ware", "_law_cell"] (spLNeeds K T)) (kE : PySem.W.keepIn K (.ref fE) = true) (bE : Binds K fdE ["_law_names_here", "_law_ware", "_law_cell"] []) (gE : mg "_law_needs" = some (.ref fE))
    (GD : FnOk P w K mg base CX0 6 fD fdD ["_law_shop", "_law_rows", "_law_ware", "_law_make", "_law_needs_here"] (spDeed K C T)) (kD : PySem.W.keepIn K (.ref fD) = true) (bD : Binds K fdD ["_law_shop", "_law_rows", "_law_ware", "_law_make", "_law_needs_here"] []) (gD : mg "_law_deed" = some (.ref fD))
    (GA : FnOk P w K mg base CX0 5 fA fdA ["_law_shop", "_law_rows", "_law_ware", "_law_held", "_law_turn"] (spAsked K C T)) (kA : PySem.W.keepIn K (.ref fA) = true) (bA : Binds K fdA ["_law_shop", "_law_rows", "_law_ware", "_law_held", "_law_turn"] []) (gA : mg "_law_asked" = some (.ref fA))
    (mDi : mg "dict" = none) (mEn : mg "enumerate" = none) (m12 : mg "MOST_WARES" = some (.int 12 t12)) (m8 : mg "MOST_MAKES" = some (.int 8 t8)) (m6 : mg "MOST_NEEDS" = some (.int 6 t6)) :
    FnOk P w K mg base CX0 7 f fd ["_law_script"] (spLaw K T) := by
  refine F.ok scLaw (fun vs H Q E h => ?_) (fun cdv A0 outer s H vs Q E hr h => ?_)
  · obtain ⟨a, ns, rfl, _⟩ := h
    rfl
  · obtain ⟨a, ns, rfl, hS, hlen, ht, q⟩ := h
    have hr1 : Room 1 _ := hr.mono (by decide)
    have hr2 : Room 2 _ := hr.mono (by decide)
    refine ⟨_, pss_cons (ps_set (i := 1) scLaw.nd rfl (.inr rfl) (pe_call GN hr2 (by rfl) gN kN bN .nil pass0 (pa_cons (pv 0) (pa_cons pe_int pa_nil))))
      (pss_cons (ps_set (i := 2) scLaw.nd rfl (.inl rfl) (pe_lst (pa_cons (pe_make0 M GI hr2 (by rfl) gC bI .nil pass0) (pa_cons (pe_make0 M GI hr2 (by rfl) gC bI .nil pass0) pa_nil))))
      (pss_cons (ps_setLc (i := 3) (own := [("_law_shop", 14)]) (g := gName 14) (tt := tYes) rfl scLaw.nd rfl rfl (sw_true rfl rfl rfl (by decide +kernel)) (pi_list (pv 2))
          (blkOk_by (own := [("_law_shop", 14)]) (N := lawN) (sc := defScope sLaw) (by decide +kernel)) (fun _ _ _ _ _ => pg_name (i := 14) scLaw.nd rfl (Or.inl rfl)) (fun _ _ _ _ _ => pts_nil)
          (fun s1 H1 C1 cl1 fp1 => pe_callTy (r := fun xs H Q => ∃ (a : Addr) (ps : List Addr) (kvs : List (Key × V)), xs = [.ref a] ∧ SqL K H a (ps.map V.ref) ∧ Paired (fun p kv => SqT K H p [kV kv.1, kv.2]) ps kvs ∧ ∀ p, H p = none → Q (.ref p) (upd H p (.dK (mergeK [] kvs)))) (call_dictP rfl) (by rfl) mDi (by decide +kernel)
            (pa_cons (pe_lc (own := [("_law_name", 13)]) (g := gName 13) (tt := tYes) (wi := iList K (tVar 1)) rfl scLaw.nd (pi_list (pv 1)) (blkOk_by (own := [("_law_name", 13)]) (N := lawN) (sc := relS _ (defScope sLaw)) (by decide +kernel))
              (fun _ _ _ _ _ => pg_name (i := 13) scLaw.nd rfl (Or.inl rfl)) (fun _ _ _ _ _ => pts_nil) (fun _ _ _ _ _ => pe_tup (pa_cons (pv 13) (pa_cons pe_dnewK pa_nil)))) pa_nil)))
      (pss_cons (ps_set (i := 4) scLaw.nd rfl (.inl rfl) (pe_lst pa_nil))
      (pss_cons (ps_for PassesOwn.never rfl (pi_enum (by rfl) mEn (pa_cons (pe_slice sl_list (pv 0) po_none (po_some pe_int)) pa_nil)) (pg_tup rfl (pgs_cons (pg_name (i := 5) scLaw.nd rfl (.inl rfl)) (pgs_cons (pg_name (i := 6) scLaw.nd rfl (.inl rfl)) pgs_nil)))
        (pss_cons (ps_set (i := 7) scLaw.nd rfl (.inl rfl) (pe_call GX hr1 (by rfl) gX kX bX .nil pass0 (pa_cons (pv 0) (pa_cons (pv 5) pa_nil))))
        (pss_cons (ps_set (i := 8) scLaw.nd rfl (.inl rfl) (pe_op op_mod (pv 7) pe_int))
        (pss_cons (ps_set (i := 9) scLaw.nd rfl (.inl rfl) (pe_ix ix_list (pv 1) (pe_op op_mod (pe_op op_fdiv (pv 7) pe_int) pe_int) (fun _ _ => rfl)))
        (pss_cons (ps_set (i := 10) scLaw.nd rfl (.inl rfl) (pe_ix ix_list (pe_call GK hr1 (by rfl) gK kK bK .nil pass0 (pa_cons (pe_ix ix_list (pv 0) pe_int (fun _ _ => rfl)) pa_nil)) (pe_op op_mod (pe_op op_fdiv (pv 7) pe_int) pe_int) (fun _ _ => rfl)))
        (pss_cons (ps_set (i := 11) scLaw.nd rfl (.inl rfl) (pe_call GE hr1 (by rfl) gE kE bE .nil pass0 (pa_cons (pv 1) (pa_cons (pv 9) (pa_cons (pe_op op_add (pe_op op_fdiv (pv 7) pe_int) (pe_op op_mod (pv 6) pe_int)) pa_nil)))))
        (C8.pss_cut (ps_if (pt_not (pt_val (pe_call GD hr (by rfl) gD kD bD .nil pass0 (pa_cons (pe_ix ix_list (pv 2) (pv 8) (fun _ _ => rfl)) (pa_cons (pe_ix ix_list (pv 3) (pv 8) (fun _ _ => rfl)) (pa_cons (pv 9) (pa_cons (pv 10) (pa_cons (pv 11) pa_nil)))))))) (pss_one (ps_ret pe_bl)) pss_nil)
        (pss_one (ps_for PassesOwn.never rfl (pi_tup (pe_tup (pa_cons (pe_op op_mod (pe_op op_fdiv (pv 7) pe_int) pe_int) (pa_cons (pe_op op_sub pe_int (pe_op op_mod (pe_op op_fdiv (pv 7) pe_int) pe_int)) pa_nil)))) (pg_name (i := 12) scLaw.nd rfl (.inl rfl))
          (pss_one (ps_if (pt_not (pt_val (pe_call GA (hr.mono (by decide)) (by rfl) gA kA bA .nil pass0 (pa_cons (pe_ix ix_list (pv 2) (pv 12) (fun _ _ => rfl)) (pa_cons (pe_ix ix_list (pv 3) (pv 12) (fun _ _ => rfl)) (pa_cons (pv 9) (pa_cons (pv 4) (pa_cons (pe_op op_mod (pe_op op_fdiv (pv 7) pe_int) pe_int) pa_nil)))))))) (pss_one (ps_ret pe_bl)) pss_nil)))))))))))
      (pss_cons (ps_if (pt_cmpR (op_neD hr.units) (pe_tup (pa_cons (pe_glob (v := .int 12) rfl m12 ⟨_, rfl⟩) (pa_cons (pe_glob (v := .int 8) rfl m8 ⟨_, rfl⟩) (pa_cons (pe_glob (v := .int 6) rfl m6 ⟨_, rfl⟩) pa_nil)))) (pe_tup (pa_cons pe_int (pa_cons pe_int (pa_cons pe_int pa_nil)))) (nomark _)) (pss_one (ps_ret pe_bl)) pss_nil)
      (pss_one (ps_ret (pe_cmpR (op_eqD hr.units) (pe_lc (own := [("_law_pair", 15)]) (g := gName 15) rfl scLaw.nd (pi_list (pv 4)) (blkOk_by (own := [("_law_pair", 15)]) (N := lawN) (sc := defScope sLaw) (by decide +kernel))
        (fun _ _ _ _ _ => pg_name (i := 15) scLaw.nd rfl (Or.inl rfl)) (fun _ _ _ _ _ => pts_one (pt_cmpR (r := rNeD K) (op_neD hr.units) (pe_ix (r := rIxT K) ix_tup (pv 15) pe_int (fun _ _ => rfl)) (pe_ix (r := rIxT K) ix_tup (pv 15) pe_int (fun _ _ => rfl)) (nomark _)))
        (fun _ _ _ _ _ => pv 15)) (pe_lst pa_nil) (nomark _))))))))), ?_⟩
    -- the names
    refine ⟨_, rfl, a, ns, 7, rfl, hS, (by decide), ht, fun names pn H1 hnl hgn k1 npn hpn => ?_⟩
    have hS1 := k1.seq hS
    -- the shops
    refine fun x0 dx0 nx0 ndx0 ne0 => ⟨x0, dx0, rfl, upd_same, fun D0 nD0 => ⟨rfl, ?_⟩⟩
    obtain ⟨k2, S0, nD0'⟩ := new_shop (K := K) k1.tab nx0 ndx0 ne0 nD0
    generalize upd (upd (upd (upd H1 dx0 (.own x0)) x0 (.ins C dx0 [])) D0 (.dK [])) x0 (.ins C dx0 (flS D0)) = H2 at k2 S0 ⊢
    refine fun x1 dx1 nx1 ndx1 ne1 => ⟨x1, dx1, rfl, upd_same, fun D1 nD1 => ⟨rfl, (by show (2 : Nat) ≤ sizeLine; decide), fun sh nsh => ?_⟩⟩
    obtain ⟨k3, S1, nD1'⟩ := new_shop (K := K) k2.tab nx1 ndx1 ne1 nD1
    generalize upd (upd (upd (upd H2 dx1 (.own x1)) x1 (.ins C dx1 [])) D1 (.dK [])) x1 (.ins C dx1 (flS D1)) = H3 at k3 S1 nsh ⊢
    have D01 : D0 ≠ D1 := fun z => by
      have e := (S0 []).bx.dc
      rw [z, nD1'] at e; cases e
    have S0' := fun A => (S0 A).keptP k3
    have k4 := Kp.new (o := HO.lst [.ref x0, .ref x1]) k3.tab nsh
    have S0s := fun A => (S0' A).keptP k4
    have S1s := fun A => (S1 A).keptP k4
    have hsh : upd H3 sh (.lst [.ref x0, .ref x1]) sh = some (.lst [.ref x0, .ref x1]) := upd_same
    have kS := k1.trans ((k2.trans k3).trans k4)
    have hpn4 := ((k2.trans k3).trans k4).lst hpn
    have t4 := k4.tab
    generalize upd H3 sh (.lst [.ref x0, .ref x1]) = HS at kS S0s S1s hsh hpn4 t4 ⊢
    clear k4 k3 k2 S0 S1 S0' hpn k1 hS1
    have hS4 := kS.seq hS
    -- the rows
    refine ⟨_, rfl, sh, rfl, ⟨_, .inl (.of hsh)⟩, fun R nR => ?_⟩
    have RT := tab_nn t4 nR
    refine lc_list (K := K) (a := sh) (xs := [.ref x0, .ref x1]) (RowsM K T R HS names)
      ⟨[], upd_same, Kp.new t4 nR, rfl, fun q hq => (by cases hq), List.Pairwise.nil⟩ (fun n H' _ ⟨_, _, kk, _⟩ => kk.seq (.inl (.of hsh))) (fun n x H' hx hm => ?_) (fun H' hm => ?_)
    · obtain ⟨rs, hR, kk, hrl, hrs, hpw⟩ := hm
      have hn2 : n < 2 := (List.getElem?_eq_some_iff.mp hx).1
      refine ⟨rfl, ?_⟩
      refine tYes_if ?_
      refine read_row (K := K) (Q := fun y H4 => ∃ acc, H4 R = some (HO.lst acc) ∧ acc.length < sizeLine ∧ RowsM K T R HS names (n + 1) (upd H4 R (.lst (acc ++ [y])))) (i := 13) (j := 1) (names := names) (.inl (.of (kk.lst hpn4))) kk.tab ?hj (by decide) ?hi (by omega) fun r cl H4 k5 rn => ?_
      case hj => rfl
      case hi => show 13 < 16; decide
      have RF : ∀ q ∈ rs, ∀ f ∈ foot q.1 q.2, f ∉ [R] := fun q hq f hf z => by
        obtain ⟨kvs, e⟩ := ((hrs q hq).1 []).foot_dict f hf
        rw [List.mem_singleton.mp z, hR] at e; cases e
      have RF2 : ∀ f ∈ foot r cl, f ∉ [R] := fun f hf z => by
        have e := rn.nw f hf
        rw [List.mem_singleton.mp z, hR] at e; cases e
      have k6 : Kx T [R] H4 (upd H4 R (.lst ((rs.map fun q => V.ref q.1) ++ [.ref r]))) := Kx.upd k5.tab RT (List.mem_singleton.mpr rfl)
      refine ⟨_, k5.lst hR, small1000 (by rw [List.length_map]; omega), rs ++ [(r, cl)], by rw [upd_same, List.map_append]; rfl, (kk.trans k5).set nR RT, by rw [List.length_append, List.length_singleton, hrl], fun q hq => ?_, ?_⟩
      · rcases List.mem_append.mp hq with hq | hq
        · obtain ⟨b1, b2, b3, b4, b5, b6⟩ := hrs q hq
          exact ⟨BoxOk.keptE (fun A => (b1 A).keptP k5) b2 k6 (RF q hq), b2, b3, b4, b5, b6⟩
        · rw [List.mem_singleton.mp hq]
          exact ⟨BoxOk.keptE rn.bx rn.em k6 RF2, rn.em, rn.mem, rn.sub, rn.len, fun f hf => kk.free (rn.nw f hf)⟩
      · refine List.pairwise_append.mpr ⟨hpw, List.pairwise_cons.mpr ⟨fun _ h => (by cases h), List.Pairwise.nil⟩, fun q hq q' hq' f hf hf' => ?_⟩
        rw [List.mem_singleton.mp hq'] at hf'
        obtain ⟨kvs, e⟩ := ((hrs q hq).1 []).foot_dict f hf
        have e2 := rn.nw f hf'
        rw [e] at e2; cases e2
    obtain ⟨rs, hR, kk, hrl, hrs, hpw⟩ := hm
    obtain ⟨⟨r0, cl0⟩, ⟨r1, cl1⟩, rfl⟩ : ∃ q0 q1, rs = [q0, q1] := by
      match rs, hrl with
      | [q0, q1], _ => exact ⟨q0, q1, rfl⟩
    obtain ⟨B0, em0, mem0, sub0, len0, nw0⟩ := hrs (r0, cl0) (List.mem_cons_self ..)
    obtain ⟨B1, em1, mem1, sub1, len1, nw1⟩ := hrs (r1, cl1) (List.mem_cons_of_mem _ (List.mem_cons_self ..))
    have d01 : ∀ f ∈ foot r0 cl0, f ∉ foot r1 cl1 := (List.pairwise_cons.mp hpw).1 (r1, cl1) (List.mem_cons_self ..)
    -- held = []
    refine ⟨(by show (0 : Nat) ≤ sizeLine; decide), fun hA nA => ?_⟩
    have k7 := Kp.new (o := HO.lst []) kk.tab nA
    have kH := kk.trans k7
    have hS7 : SqL K (hide [hA] (upd H' hA (.lst []))) a (ns.map V.int) := sql_kx (A := [hA]) (Kx.of (A := []) k7) (fun f hf => by cases hf) (sql_hid nA (kk.seq hS4))
    have hpn7 : SqL K (hide [hA] (upd H' hA (.lst []))) pn (names.map V.str) := sql_kx (A := [hA]) (Kx.of (A := []) k7) (fun f hf => by cases hf) (sql_hid nA (.inl (.of (kk.lst hpn4))))
    have hsh7 : SqL K (hide [hA] (upd H' hA (.lst []))) sh [.ref x0, .ref x1] := sql_kx (A := [hA]) (Kx.of (A := []) k7) (fun f hf => by cases hf) (sql_hid nA (.inl (.of (kk.lst hsh))))
    have hR7 : SqL K (hide [hA] (upd H' hA (.lst []))) R [.ref r0, .ref r1] := sql_kx (A := [hA]) (Kx.of (A := []) k7) (fun f hf => by cases hf) (sql_hid nA (.inl (.of hR)))
    have hA7 : upd H' hA (.lst []) hA = some (.lst []) := upd_same
    have mkP : ∀ {p D r : Addr} {cl : List Shelf}, (∀ A, ShopAt K C A HS p D []) → (∀ A, BoxOk K A H' r cl) → (∀ s ∈ cl, s.ents = []) → (∀ s ∈ cl, s.ware ∈ names) → cl.length ≤ names.length → (∀ f ∈ foot r cl, HS f = none) → Pair K C [hA] (upd H' hA (.lst [])) p D [] r cl := by
      intro p D r cl S B em sub len nw
      refine ⟨(S _).keptP kH, (B _).keptP k7, fun f hf hf2 => ?_, fun v => by rw [data_empty em]; rfl, fun v => by rw [data_empty em]; exact Nat.zero_le _, by omega, fun s hs => hgn _ (sub s hs), fun v e he => by rw [data_empty em] at he; cases he⟩
      obtain ⟨kvs, e⟩ := (S []).bx.foot_dict f hf
      rw [nw f hf2] at e; cases e
    have z0 := mkP S0s B0 em0 sub0 len0 nw0
    have z1 := mkP S1s B1 em1 sub1 len1 nw1
    have two : Two K C [hA] x0 D0 r0 x1 D1 r1 names (upd H' hA (.lst [])) [] cl0 [] cl1 := by
      refine ⟨z0, z1, fun f hf hf2 => ?_, mem0, mem1⟩
      rcases List.mem_append.mp hf with hf | hf
      · rcases List.mem_append.mp hf2 with hf2 | hf2
        · rw [List.mem_singleton.mp hf] at hf2
          exact D01 (List.mem_singleton.mp hf2)
        · obtain ⟨kvs, e⟩ := (S0s []).bx.foot_dict f hf
          rw [nw1 f hf2] at e; cases e
      · rcases List.mem_append.mp hf2 with hf2 | hf2
        · obtain ⟨kvs, e⟩ := (S1s []).bx.foot_dict f hf2
          rw [nw0 f hf] at e; cases e
        · exact d01 f hf hf2
    have t7 := k7.tab
    generalize upd H' hA (.lst []) = H7 at hS7 hpn7 hsh7 hR7 hA7 two t7 ⊢
    clear z0 z1 mkP k7 kH
    have tw7 : TwoX K C [hA] x0 D0 r0 x1 D1 r1 names H7 := ⟨_, _, _, _, two⟩
    -- for k, cell in enumerate(script[:40])
    refine ⟨_, rfl, 40, rfl, a, _, rfl, sql_show hS7, fun s8 ns8 => ?_⟩
    have k8 := Kp.new (o := HO.lst (cutV (ns.map V.int) none (some 40))) t7 ns8
    have cvl := cutV_length (ns.map V.int) none (some 40)
    rw [List.length_map] at cvl
    have cvi : ∀ x ∈ cutV (ns.map V.int) none (some 40), ∃ c : Int, x = .int c := fun x hx => by
      obtain ⟨c, _, rfl⟩ := List.mem_map.mp (cutV_mem hx)
      exact ⟨c, rfl⟩
    generalize cutV (ns.map V.int) none (some 40) = cv at cvl cvi k8 ⊢
    have sA : s8 ∉ [hA] := fun z => by
      rw [List.mem_singleton.mp z, hA7] at ns8; cases ns8
    have nk : ∀ f ∈ ([] : List Addr), f ∈ [hA] ∨ ∃ kvs, H7 f = some (.dK kvs) := fun f hf => by cases hf
    have k8x : Kx T [] H7 (upd H7 s8 (.lst cv)) := .of k8
    have std8 : Std K T a pn sh R s8 (ns.map V.int) (names.map V.str) [.ref x0, .ref x1] [.ref r0, .ref r1] cv [hA] (upd H7 s8 (.lst cv)) :=
      ⟨k8.tab, sql_kx k8x nk hS7, sql_kx k8x nk hpn7, sql_kx k8x nk hsh7, sql_kx k8x nk hR7, .inl (.inl (hide_of upd_same sA))⟩
    have hs8 : SqL K (upd H7 s8 (.lst cv)) s8 cv := .inl (.of upd_same)
    have tw8 := tw7.keptP k8
    have hA8 := k8.lst hA7
    generalize upd H7 s8 (.lst cv) = H8 at std8 hs8 tw8 hA8 ⊢
    refine ⟨s8, cv, rfl, hs8, for_enum (K := K) (a := s8) (xs := cv) (fun i σ' H' => ∃ (x5 x6 x7 x8 x9 x10 x11 x12 : Option V) (hs : List V), σ' = [some (.ref a), some (.ref pn), some (.ref sh), some (.ref R), some (.ref hA), x5, x6, x7, x8, x9, x10, x11, x12, none, none, none] ∧
        TwoX K C [hA] x0 D0 r0 x1 D1 r1 names H' ∧ H' hA = some (.lst hs) ∧ (∀ v ∈ hs, Told K [hA] H' v) ∧ hs.length ≤ 60 * i ∧ Std K T a pn sh R s8 (ns.map V.int) (names.map V.str) [.ref x0, .ref x1] [.ref r0, .ref r1] cv [hA] H')
      ⟨none, none, none, none, none, none, none, none, [], rfl, tw8, hA8, fun v hv => (by cases hv), Nat.le_refl _, std8⟩ (fun i σ' H' _ hm => ?_) (fun i x σ' H' p hi hm np => ?_) (fun σ' H' hm => ?_)⟩
    · obtain ⟨_, _, _, _, _, _, _, _, _, _, _, _, _, _, std⟩ := hm
      exact sql_show std.fc
    · obtain ⟨x5, x6, x7, x8, x9, x10, x11, x12, hs, rfl, tw, hh, hT, hl, std⟩ := hm
      have hil := (List.getElem?_eq_some_iff.mp hi).1
      obtain ⟨c, rfl⟩ := cvi x (List.mem_of_getElem? hi)
      have kp := Kp.new (o := HO.tup [.int (i : Nat), .int c]) std.t np
      have tw := tw.keptP kp
      have hh := kp.lst hh
      have hT : ∀ v ∈ hs, Told K [hA] _ v := fun v hv => (hT v hv).keptP kp
      have std := std.kp kp
      have hp : SqT K (upd H' p (.tup [.int (i : Nat), .int c])) p [.int (i : Nat), .int c] := .inl (.inl upd_same)
      generalize upd H' p (.tup [.int (i : Nat), .int c]) = H9 at tw hh hT std hp ⊢
      refine ⟨p, _, rfl, hp, rfl, .int (i : Nat), [.int c], rfl, .int c, [], rfl, rfl, ?_⟩
      -- number, at
      refine ⟨_, rfl, _, rfl, a, ns, i, rfl, sql_show std.fa, (by omega), fun n hn0 hn1 => ?_⟩
      refine ⟨_, rfl, n, 2, rfl, rfl, (by show (0 : Int) < 2; decide), ?_⟩
      -- ware
      obtain ⟨vx, ex, x, rfl, hx⟩ := at_pick (xs := names.map V.str) (i := n / 2 % 7) (p := fun v => ∃ x : Str, v = .str x ∧ x ∈ names) (by omega) (by rw [List.length_map, hnl]; omega) (fun v hv => by
        obtain ⟨y, hy, rfl⟩ := List.mem_map.mp hv
        exact ⟨y, rfl, hy⟩)
      refine ⟨_, rfl, _, rfl, n, 2, rfl, rfl, ⟨by decide, by decide⟩, _, 7, rfl, rfl, (by show (0 : Int) < 7; decide), pn, _, _, _, rfl, rfl, sql_show std.fn, ex, ?_⟩
      -- make
      obtain ⟨c0, nr, rfl⟩ : ∃ c0 nr, ns = c0 :: nr := by
        cases ns with
        | nil => exact absurd cvl (by have : ([] : List Int).length = 0 := rfl; omega)
        | cons c0 nr => exact ⟨c0, nr, rfl⟩
      refine ⟨_, rfl, a, _, 0, _, rfl, rfl, sql_show std.fa, atI_nat (j := 0) rfl, c0, rfl, std.t, fun ms ml H10 hml hms k10 hl10 => ?_⟩
      obtain ⟨vm, em, m, rfl, hm⟩ := at_pick (xs := ms.map V.int) (i := n / 14 % 10) (p := fun v => ∃ m : Int, v = .int m ∧ m ∈ ms) (by omega) (by rw [List.length_map, hml]; omega) (fun v hv => by
        obtain ⟨y, hy, rfl⟩ := List.mem_map.mp hv
        exact ⟨y, rfl, hy⟩)
      refine ⟨_, rfl, n, 14, rfl, rfl, ⟨by decide, by decide⟩, _, 10, rfl, rfl, (by show (0 : Int) < 10; decide), ml, _, _, _, rfl, rfl, .inl (.of hl10), em, ?_⟩
      have std10 := std.kp k10
      -- needs
      refine ⟨_, rfl, _, rfl, _, rfl, n, 140, rfl, rfl, ⟨by decide, by decide⟩, _, rfl, c, 5, rfl, rfl, (by show (0 : Int) < 5; decide), _, _, rfl, rfl, pn, names, x, _, rfl, sql_show std10.fn, (by omega), (by omega), hgn, std10.t, fun xs ds nd H11 k11 nnd hnd hall hND hl6 hmy => ?_⟩
      have tw10 := tw.keptP k10
      have tw11 := (tw10.more nnd).keptP k11
      have std11 := (std10.more nnd).kp k11
      have hh11 := k11.lst (k10.lst hh)
      have hT11 : ∀ v ∈ hs, Told K (nd :: [hA]) H11 v := fun v hv => (((hT v hv).keptP k10).more nnd).keptP k11
      have hA10 : H10 hA ≠ none := fun z => by rw [k10.lst hh] at z; cases z
      have hall11 := hall (nd :: [hA]) (fun b hb => by
        rcases List.mem_cons.mp hb with z | z
        · exact .inr z
        · exact .inl (by rw [List.mem_singleton.mp z]; exact hA10))
      clear tw10 std10 tw hh hT std
      -- the deed
      refine ⟨fun σ' H' => σ' = [some (.ref a), some (.ref pn), some (.ref sh), some (.ref R), some (.ref hA), some (.int (i : Nat)), some (.int c), some (.int n), some (.int (n % 2)), some (.str x), some (.int m), some (.ref nd), x12, none, none, none] ∧
        TwoX K C [hA] x0 D0 r0 x1 D1 r1 names H' ∧ H' hA = some (.lst hs) ∧ (∀ v ∈ hs, Told K [hA] H' v) ∧ Std K T a pn sh R s8 ((c0 :: nr).map V.int) (names.map V.str) [.ref x0, .ref x1] [.ref r0, .ref r1] cv [hA] H', ?_, fun σ' H12 hm => ?_⟩
      · have hAl11 : ∀ b ∈ nd :: [hA], ∃ ys, H11 b = some (.lst ys) := fun b hb => by
          rcases List.mem_cons.mp hb with z | z
          · exact ⟨_, by rw [z]; exact hnd⟩
          · exact ⟨_, by rw [List.mem_singleton.mp z]; exact hh11⟩
        obtain ⟨p, D, st, r, cl, e1, e2, Z, hW, hfd, back⟩ := tw11.pick (at_ := n % 2) (by omega)
        refine ⟨_, rfl, _, rfl, sh, _, _, _, rfl, rfl, sql_show std11.fs, e1, _, rfl, _, rfl, R, _, _, _, rfl, rfl, sql_show std11.fr, e2, _, rfl, _, rfl, _, rfl, nd :: [hA], p, D, st, r, cl, x, m, nd, xs, ds, rfl, Z, look_ex (hW x hx), hgn x hx, hms m hm, hnd, List.mem_cons_self .., hall11, hND, hl6, hmy, std11.t, hAl11, fun H12 st' cl' Z' ew ea k12 hf12 => ⟨true, rfl, iteF ?_⟩⟩
        · have hF : ∀ f ∈ nd :: (foot D st ++ foot r cl), f ∈ nd :: [hA] ∨ ∃ kvs, H11 f = some (.dK kvs) := fun f hf => by
            rcases List.mem_cons.mp hf with z | z
            · exact .inl (by rw [z]; exact List.mem_cons_self ..)
            · exact .inr (hfd f z)
          have hAT : hA ≠ T := tab_ne std11.t hh11 fun _ z => by cases z
          have hAnd : hA ≠ nd := fun z => by rw [z] at hA10; exact hA10 nnd
          refine ⟨rfl, (back T nd xs H12 st' cl' hnd (List.mem_cons_self ..) hAl11 Z' ew ea k12 hf12).less, k12.keep hA _ hAT (fun z => ?_) hh11, fun v hv => ((hT11 v hv).kept k12 hF).less, (std11.kx k12 hF).less⟩
          rcases List.mem_cons.mp z with z | z
          · exact hAnd z
          · obtain ⟨kvs, e⟩ := hfd hA z
            rw [hh11] at e; cases e
      obtain ⟨rfl, tw, hh, hT, std⟩ := hm
      clear tw11 std11 hh11 hT11 hall11
      -- for one in both
      refine ⟨_, rfl, n, 5, rfl, rfl, ⟨by decide, by decide⟩, _, 2, rfl, rfl, (by show (0 : Int) < 2; decide), _, rfl, n, 5, rfl, rfl, ⟨by decide, by decide⟩, _, 2, rfl, rfl, (by show (0 : Int) < 2; decide), 1, _, rfl, rfl, (by show (2 : Nat) ≤ sizeLine; decide), fun tp ntp => ?_⟩
      have k13 := Kp.new (o := HO.tup [.int (n / 5 % 2), .int (1 - n / 5 % 2)]) std.t ntp
      have tw13 := tw.keptP k13
      have hh13 := k13.lst hh
      have hT13 : ∀ v ∈ hs, Told K [hA] _ v := fun v hv => (hT v hv).keptP k13
      have std13 := std.kp k13
      have htp : upd H12 tp (.tup [.int (n / 5 % 2), .int (1 - n / 5 % 2)]) tp = some (.tup [.int (n / 5 % 2), .int (1 - n / 5 % 2)]) := upd_same
      generalize upd H12 tp (.tup [.int (n / 5 % 2), .int (1 - n / 5 % 2)]) = H13 at tw13 hh13 hT13 std13 htp ⊢
      clear tw hh hT std
      refine ⟨tp, rfl, ⟨_, .inl (.inl htp)⟩, for_tup (K := K) (a := tp) (xs := [.int (n / 5 % 2), .int (1 - n / 5 % 2)]) (fun j σ' H' => ∃ (x12 : Option V) (hs2 : List V), σ' = [some (.ref a), some (.ref pn), some (.ref sh), some (.ref R), some (.ref hA), some (.int (i : Nat)), some (.int c), some (.int n), some (.int (n % 2)), some (.str x), some (.int m), some (.ref nd), x12, none, none, none] ∧
          TwoX K C [hA] x0 D0 r0 x1 D1 r1 names H' ∧ H' hA = some (.lst hs2) ∧ (∀ v ∈ hs2, Told K [hA] H' v) ∧ hs2.length ≤ hs.length + 30 * j ∧ Std K T a pn sh R s8 ((c0 :: nr).map V.int) (names.map V.str) [.ref x0, .ref x1] [.ref r0, .ref r1] cv [hA] H' ∧ H' tp = some (.tup [.int (n / 5 % 2), .int (1 - n / 5 % 2)]))
        ⟨x12, hs, rfl, tw13, hh13, hT13, Nat.le_refl _, std13, htp⟩ (fun j σ' H' _ hm => ?_) (fun j y σ' H' hj hm => ?_) (fun σ' H' hm => ?_)⟩
      · obtain ⟨_, _, _, _, _, _, _, _, e⟩ := hm
        exact .inl (.inl e)
      · obtain ⟨x12', hs2, rfl, tw, hh, hT, hl2, std, etp⟩ := hm
        have hj2 : j < 2 := (List.getElem?_eq_some_iff.mp hj).1
        obtain ⟨o, rfl, ho⟩ : ∃ o : Int, y = .int o ∧ (o = 0 ∨ o = 1) := by
          have hy := List.mem_of_getElem? hj
          simp only [List.mem_cons, List.not_mem_nil, or_false] at hy
          rcases hy with rfl | rfl
          · exact ⟨_, rfl, by omega⟩
          · exact ⟨_, rfl, by omega⟩
        obtain ⟨p, D, st, r, cl, e1, e2, Z, hW, hfd, back⟩ := tw.pick ho
        refine ⟨_, rfl, _, rfl, sh, _, _, _, rfl, rfl, sql_show std.fs, e1, _, rfl, _, rfl, R, _, _, _, rfl, rfl, sql_show std.fr, e2, _, rfl, _, rfl, _, rfl, n, 10, rfl, rfl, ⟨by decide, by decide⟩, _, 18, rfl, rfl, (by show (0 : Int) < 18; decide), [hA], p, D, st, r, cl, x, hA, hs2, _, rfl, Z, look_ex (hW x hx), hgn x hx, hh, List.mem_singleton.mpr rfl, hT, (by omega), std.t, (fun b hb => ⟨hs2, by rw [List.mem_singleton.mp hb]; exact hh⟩), fun H14 hs3 k14 e14 hT14 hl14 => ⟨true, rfl, iteF ?_⟩⟩
        have htA : tp ≠ hA := fun z => by rw [z, hh] at etp; cases etp
        refine ⟨_, hs3, rfl, tw.kept k14 (fun f hf => ⟨hf, hs2, by rw [List.mem_singleton.mp hf]; exact hh⟩), e14, hT14, by omega, std.kx k14 (fun f hf => .inl hf), k14.keep tp _ (tab_ne std.t etp fun _ z => by cases z) (fun z => htA (List.mem_singleton.mp z)) etp⟩
      · obtain ⟨x12', hs2, rfl, tw, hh, hT, hl2, std, etp⟩ := hm
        have hl2' : hs2.length ≤ hs.length + 30 * 2 := hl2
        exact ⟨_, _, _, _, _, _, _, _, hs2, rfl, tw, hh, hT, by omega, std⟩
    -- the numbers of the document
    obtain ⟨x5, x6, x7, x8, x9, x10, x11, x12, hs, rfl, tw, hh, hT, hl, std⟩ := hm
    refine ⟨(by show (3 : Nat) ≤ sizeLine; decide), fun t1 nt1 => ⟨(by show (3 : Nat) ≤ sizeLine; decide), fun t2 nt2 => ?_⟩⟩
    have k15 := Kp.new (o := HO.tup [.int 12, .int 8, .int 6]) std.t nt1
    have k16 := Kp.new (o := HO.tup [.int 12, .int 8, .int 6]) k15.tab nt2
    have sh3 : SeqAt.shaped (.tuple [.int 12, .int 8, .int 6]) = true := rfl
    refine ⟨.tuple [.int 12, .int 8, .int 6], .tuple [.int 12, .int 8, .int 6], .tup (k16.sqt (.inl (.inl upd_same))) (.cons (.int _) (.cons (.int _) (.cons (.int _) .nil))), .tup (.inl (.inl upd_same)) (.cons (.int _) (.cons (.int _) (.cons (.int _) .nil))), sh3, sh3, _, rfl, iteF ?_⟩
    have k1516 := k15.trans k16
    have hh := k1516.lst hh
    have hT : ∀ v ∈ hs, Told K [hA] _ v := fun v hv => (hT v hv).keptP k1516
    have t16 := k16.tab
    generalize upd (upd H' t1 (.tup [.int 12, .int 8, .int 6])) t2 (.tup [.int 12, .int 8, .int 6]) = H16 at hh hT t16 ⊢
    -- what was told is as it was
    have hS16 : SqL K H16 hA hs := .inl (.of hh)
    refine ⟨_, rfl, hA, rfl, ⟨_, hS16⟩, fun D' nD => lc_list (K := K) (a := hA) (xs := hs) (fun j H' => H' = upd H16 D' (.lst [])) rfl (fun j H' _ e => by subst e; exact (Kp.new t16 nD).seq hS16) (fun j y H' hj e => ?_) (fun H' e => ?_)⟩
    · subst e
      have kD := Kp.new (o := HO.lst []) t16 nD
      obtain ⟨t, f0, u0, ds, rfl, hTt, hf0, hu0', hsh, hnb, hdl⟩ := (hT y (List.mem_of_getElem? hj)).keptP kD
      refine ⟨rfl, _, rfl, t, _, 0, _, rfl, rfl, sqt_show hTt, atI_nat (j := 0) rfl, _, rfl, t, _, 1, _, rfl, rfl, sqt_show hTt, atI_nat (j := 1) rfl, _, _, dp_show hf0, dp_show hu0', hsh, hsh, _, rfl, ?_⟩
      rw [eqv_self hsh]
      exact iteF rfl
    · subst e
      refine ⟨(by show (0 : Nat) ≤ sizeLine; decide), fun g ng => ?_⟩
      have k17 := Kp.new (o := HO.lst []) t16 nD
      have k18 := Kp.new (o := HO.lst []) k17.tab ng
      exact ⟨.list [], .list [], .lst (k18.seq (.inl (.of upd_same))) .nil, .lst (.inl (.of upd_same)) .nil, rfl, rfl, q _⟩
end
end Pk

set_option Elab.async false
set_option linter.all false
set_option maxRecDepth 100000
set_option maxHeartbeats 4000000
namespace Pk
open PySem PySem.Spec PyProof.Rows L2
theorem all_mk {l : PySem.W.OpenLaw} {w : World} {K : PySem.W.Frag} {h : Heap} {mg : Str → Option Value} {fa T c C : Addr} (X : K.In h) (G : h.Ns mainGlobals mg) (hfa : mg "law" = some (.ref fa)) {q : Program}
    (hT0 : ∀ (y : Str) (c T : Addr), ((recsOf q).any fun e => e.name == y) = true → PySem.W.tabIn K y = some (c, T) → PySem.W.CodeHd h c T ∧ h.get? T = some (PySem.W.tabObj #[])) (hrec : ((recsOf q).any fun e => e.name == ("is_ware" : Str)) = true)
    {ec : Value} {dcc : Option Addr} {vsc : Array Value} {slc : Array (Option Value)} (lc : K.lookup c = some ⟨ec, dcc, .fields vsc, slc⟩) (v11 : vsc[11]? = some (.ref T)) (nT : K.lookup T = none)
    {f1 f2 f3 f4 f5 f6 f7 f8 f9 f10 f11 f12 f13 f14 f15 f16 f17 f18 f19 f20 : Addr} {od1 an1 od2 an2 od3 an3 od4 an4 od5 an5 od6 an6 od7 an7 od8 an8 od9 an9 od10 an10 od11 an11 od12 an12 od13 an13 od14 an14 od15 an15 od16 an16 od17 an17 od18 an18 od19 an19 od20 an20 : Option Addr} {sl1 sl2 sl3 sl4 sl5 sl6 sl7 sl8 sl9 sl10 sl11 sl12 sl13 sl14 sl15 sl16 sl17 sl18 sl19 sl20 : Array (Option Value)}
    {oc1 kV1 dc1 pm1 ct1 oc2 kV2 dc2 pm2 ct2 cd2 oc3 kV3 dc3 pm3 ct3 cd3 oc4 kV4 dc4 pm4 ct4 cd4 oc5 kV5 dc5 pm5 ct5 cd5 oc6 kV6 dc6 pm6 ct6 cd6 oc7 kV7 dc7 pm7 ct7 cd7 oc8 kV8 dc8 pm8 ct8 cd8 oc9 kV9 dc9 pm9 ct9 cd9 oc10 kV10 dc10 pm10 ct10 cd10 oc11 kV11 dc11 pm11 ct11 cd11 oc12 kV12 dc12 pm12 ct12 cd12 oc13 kV13 dc13 pm13 ct13 cd13 oc14 kV14 dc14 pm14 ct14 cd14 oc15 kV15 dc15 pm15 ct15 cd15 oc16 kV16 dc16 pm16 ct16 cd16 oc17 kV17 dc17 pm17 ct17 cd17 oc18 kV18 dc18 pm18 ct18 cd18 oc19 kV19 dc19 pm19 ct19 cd19 oc20 kV20 dc20 pm20 ct20 cd20 : Value} {t8 t1 t9 t12 t88 t6 : Tok}
    (aC : PySem.W.nsIn K mainGlobals "Shop" = some (some (.ref C)))
    (a1 : PySem.W.nsIn K mainGlobals "is_ware" = some (some (.ref f1))) (l1 : K.lookup f1 = some ⟨oc1, od1, .func (PySem.W.fnOf "is_ware" "is_ware" (defArgs sWare) (defBody sWare) (defScope sWare) .none kV1 dc1 pm1 an1 (.ref c) ct1), sl1⟩) (c1 : PySem.W.codeIn K (.ref c) "is_ware" = true) (k1 : PySem.W.keepIn K (.ref f1) = true)
    (a2 : PySem.W.nsIn K mainGlobals "is_make" = some (some (.ref f2))) (l2 : K.lookup f2 = some ⟨oc2, od2, .func (PySem.W.fnOf "is_make" "is_make" (defArgs sMake) (defBody sMake) (defScope sMake) .none kV2 dc2 pm2 an2 cd2 ct2), sl2⟩) (c2 : PySem.W.codeIn K cd2 "is_make" = true) (k2 : PySem.W.keepIn K (.ref f2) = true)
    (a3 : PySem.W.nsIn K mainGlobals "is_need" = some (some (.ref f3))) (l3 : K.lookup f3 = some ⟨oc3, od3, .func (PySem.W.fnOf "is_need" "is_need" (defArgs sNeed) (defBody sNeed) (defScope sNeed) .none kV3 dc3 pm3 an3 cd3 ct3), sl3⟩) (c3 : PySem.W.codeIn K cd3 "is_need" = true) (k3 : PySem.W.keepIn K (.ref f3) = true)
    (a4 : PySem.W.nsIn K mainGlobals "within" = some (some (.ref f4))) (l4 : K.lookup f4 = some ⟨oc4, od4, .func (PySem.W.fnOf "within" "within" (defArgs sWithin) (defBody sWithin) (defScope sWithin) .none kV4 dc4 pm4 an4 cd4 ct4), sl4⟩) (c4 : PySem.W.codeIn K cd4 "within" = true) (k4 : PySem.W.keepIn K (.ref f4) = true)
    (a5 : PySem.W.nsIn K mainGlobals "_may_need" = some (some (.ref f5))) (l5 : K.lookup f5 = some ⟨oc5, od5, .func (PySem.W.fnOf "_may_need" "_may_need" (defArgs sMay) (defBody sMay) (defScope sMay) .none kV5 dc5 pm5 an5 cd5 ct5), sl5⟩) (c5 : PySem.W.codeIn K cd5 "_may_need" = true) (k5 : PySem.W.keepIn K (.ref f5) = true)
    (a6 : PySem.W.nsIn K mainGlobals "_law_mixed" = some (some (.ref f6))) (l6 : K.lookup f6 = some ⟨oc6, od6, .func (PySem.W.fnOf "_law_mixed" "_law_mixed" (defArgs sMixed) (defBody sMixed) (defScope sMixed) .none kV6 dc6 pm6 an6 cd6 ct6), sl6⟩) (c6 : PySem.W.codeIn K cd6 "_law_mixed" = true) (k6 : PySem.W.keepIn K (.ref f6) = true)
    (a7 : PySem.W.nsIn K mainGlobals "_law_names" = some (some (.ref f7))) (l7 : K.lookup f7 = some ⟨oc7, od7, .func (PySem.W.fnOf "_law_names" "_law_names" (defArgs sNames) (defBody sNames) (defScope sNames) .none kV7 dc7 pm7 an7 cd7 ct7), sl7⟩) (c7 : PySem.W.codeIn K cd7 "_law_names" = true) (k7 : PySem.W.keepIn K (.ref f7) = true)
    (a8 : PySem.W.nsIn K mainGlobals "_law_makes" = some (some (.ref f8))) (l8 : K.lookup f8 = some ⟨oc8, od8, .func (PySem.W.fnOf "_law_makes" "_law_makes" (defArgs sLMakes) (defBody sLMakes) (defScope sLMakes) .none kV8 dc8 pm8 an8 cd8 ct8), sl8⟩) (c8 : PySem.W.codeIn K cd8 "_law_makes" = true) (k8 : PySem.W.keepIn K (.ref f8) = true)
    (a9 : PySem.W.nsIn K mainGlobals "_law_needs" = some (some (.ref f9))) (l9 : K.lookup f9 = some ⟨oc9, od9, .func (PySem.W.fnOf "_law_needs" "_law_needs" (defArgs sLNeeds) (defBody sLNeeds) (defScope sLNeeds) .none kV9 dc9 pm9 an9 cd9 ct9), sl9⟩) (c9 : PySem.W.codeIn K cd9 "_law_needs" = true) (k9 : PySem.W.keepIn K (.ref f9) = true)
    (a10 : PySem.W.nsIn K mainGlobals "_law_asked" = some (some (.ref f10))) (l10 : K.lookup f10 = some ⟨oc10, od10, .func (PySem.W.fnOf "_law_asked" "_law_asked" (defArgs sAsked) (defBody sAsked) (defScope sAsked) .none kV10 dc10 pm10 an10 cd10 ct10), sl10⟩) (c10 : PySem.W.codeIn K cd10 "_law_asked" = true) (k10 : PySem.W.keepIn K (.ref f10) = true)
    (a11 : PySem.W.nsIn K mainGlobals "_law_deed" = some (some (.ref f11))) (l11 : K.lookup f11 = some ⟨oc11, od11, .func (PySem.W.fnOf "_law_deed" "_law_deed" (defArgs sDeed) (defBody sDeed) (defScope sDeed) .none kV11 dc11 pm11 an11 cd11 ct11), sl11⟩) (c11 : PySem.W.codeIn K cd11 "_law_deed" = true) (k11 : PySem.W.keepIn K (.ref f11) = true)
    (a12 : PySem.W.nsIn K mainGlobals "law" = some (some (.ref f12))) (l12 : K.lookup f12 = some ⟨oc12, od12, .func (PySem.W.fnOf "law" "law" (defArgs sLaw) (defBody sLaw) (defScope sLaw) .none kV12 dc12 pm12 an12 cd12 ct12), sl12⟩) (c12 : PySem.W.codeIn K cd12 "law" = true) (k12 : PySem.W.keepIn K (.ref f12) = true)
    (a13 : PySem.W.findIn K (.ref C) "__init__" = some (some (.ref f13))) (i13 : PySem.W.isFn K (.ref f13) = true) (l13 : K.lookup f13 = some ⟨oc13, od13, .func (PySem.W.fnOf "__init__" "Shop.__init__" (defArgs sInit) (defBody sInit) (defScope sInit) .none kV13 dc13 pm13 an13 cd13 ct13), sl13⟩) (c13 : PySem.W.codeIn K cd13 "Shop.__init__" = true) (k13 : PySem.W.keepIn K (.ref f13) = true)
    (a14 : PySem.W.findIn K (.ref C) "put" = some (some (.ref f14))) (i14 : PySem.W.isFn K (.ref f14) = true) (l14 : K.lookup f14 = some ⟨oc14, od14, .func (PySem.W.fnOf "put" "Shop.put" (defArgs sPut) (defBody sPut) (defScope sPut) .none kV14 dc14 pm14 an14 cd14 ct14), sl14⟩) (c14 : PySem.W.codeIn K cd14 "Shop.put" = true) (k14 : PySem.W.keepIn K (.ref f14) = true)
    (a15 : PySem.W.findIn K (.ref C) "take" = some (some (.ref f15))) (i15 : PySem.W.isFn K (.ref f15) = true) (l15 : K.lookup f15 = some ⟨oc15, od15, .func (PySem.W.fnOf "take" "Shop.take" (defArgs sTake) (defBody sTake) (defScope sTake) .none kV15 dc15 pm15 an15 cd15 ct15), sl15⟩) (c15 : PySem.W.codeIn K cd15 "Shop.take" = true) (k15 : PySem.W.keepIn K (.ref f15) = true)
    (a16 : PySem.W.findIn K (.ref C) "makes" = some (some (.ref f16))) (i16 : PySem.W.isFn K (.ref f16) = true) (l16 : K.lookup f16 = some ⟨oc16, od16, .func (PySem.W.fnOf "makes" "Shop.makes" (defArgs sMakes) (defBody sMakes) (defScope sMakes) .none kV16 dc16 pm16 an16 cd16 ct16), sl16⟩) (c16 : PySem.W.codeIn K cd16 "Shop.makes" = true) (k16 : PySem.W.keepIn K (.ref f16) = true)
    (a17 : PySem.W.findIn K (.ref C) "needs" = some (some (.ref f17))) (i17 : PySem.W.isFn K (.ref f17) = true) (l17 : K.lookup f17 = some ⟨oc17, od17, .func (PySem.W.fnOf "needs" "Shop.needs" (defArgs sNeeds) (defBody sNeeds) (defScope sNeeds) .none kV17 dc17 pm17 an17 cd17 ct17), sl17⟩) (c17 : PySem.W.codeIn K cd17 "Shop.needs" = true) (k17 : PySem.W.keepIn K (.ref f17) = true)
    (a18 : PySem.W.findIn K (.ref C) "wares" = some (some (.ref f18))) (i18 : PySem.W.isFn K (.ref f18) = true) (l18 : K.lookup f18 = some ⟨oc18, od18, .func (PySem.W.fnOf "wares" "Shop.wares" (defArgs sWares) (defBody sWares) (defScope sWares) .none kV18 dc18 pm18 an18 cd18 ct18), sl18⟩) (c18 : PySem.W.codeIn K cd18 "Shop.wares" = true) (k18 : PySem.W.keepIn K (.ref f18) = true)
    (a19 : PySem.W.findIn K (.ref C) "_has" = some (some (.ref f19))) (i19 : PySem.W.isFn K (.ref f19) = true) (l19 : K.lookup f19 = some ⟨oc19, od19, .func (PySem.W.fnOf "_has" "Shop._has" (defArgs sHas) (defBody sHas) (defScope sHas) .none kV19 dc19 pm19 an19 cd19 ct19), sl19⟩) (c19 : PySem.W.codeIn K cd19 "Shop._has" = true) (k19 : PySem.W.keepIn K (.ref f19) = true)
    (a20 : PySem.W.findIn K (.ref C) "_has_place" = some (some (.ref f20))) (i20 : PySem.W.isFn K (.ref f20) = true) (l20 : K.lookup f20 = some ⟨oc20, od20, .func (PySem.W.fnOf "_has_place" "Shop._has_place" (defArgs sPlace) (defBody sPlace) (defScope sPlace) .none kV20 dc20 pm20 an20 cd20 ct20), sl20⟩) (c20 : PySem.W.codeIn K cd20 "Shop._has_place" = true) (k20 : PySem.W.keepIn K (.ref f20) = true)
    (gt8 : PySem.W.nsIn K mainGlobals "MOST_SIGNS" = some (some (.int 8 t8)))    (gt1 : PySem.W.nsIn K mainGlobals "LEAST_MAKE" = some (some (.int 1 t1)))    (gt9 : PySem.W.nsIn K mainGlobals "MOST_MAKE" = some (some (.int 999 t9)))    (gt12 : PySem.W.nsIn K mainGlobals "MOST_WARES" = some (some (.int 12 t12)))    (gt88 : PySem.W.nsIn K mainGlobals "MOST_MAKES" = some (some (.int 8 t88)))    (gt6 : PySem.W.nsIn K mainGlobals "MOST_NEEDS" = some (some (.int 6 t6)))
    (pg : PySem.W.plainGet K C Str.empty = true) (hd : PySem.W.hasDictIn K C = true) (po : PySem.W.plainOver K C = true) (sa : PySem.W.findIn K (.ref C) "__setattr__" = some (some (.builtin "object.__setattr__"))) (mk : PySem.W.makesIn K C = true) (kc : PySem.W.keepIn K (.ref C) = true) (nS : PySem.W.findIn K (.ref C) "_shelves" = some none)
    (z1 : PySem.W.nsIn K mainGlobals "isinstance" = some none) (z2 : PySem.W.nsIn K mainGlobals "type" = some none) (z3 : PySem.W.nsIn K mainGlobals "str" = some none) (z4 : PySem.W.nsIn K mainGlobals "int" = some none) (z5 : PySem.W.nsIn K mainGlobals "bool" = some none) (z6 : PySem.W.nsIn K mainGlobals "tuple" = some none) (z7 : PySem.W.nsIn K mainGlobals "list" = some none) (z8 : PySem.W.nsIn K mainGlobals "len" = some none) (z9 : PySem.W.nsIn K mainGlobals "all" = some none) (z10 : PySem.W.nsIn K mainGlobals "range" = some none) (z11 : PySem.W.nsIn K mainGlobals "sorted" = some none) (z12 : PySem.W.nsIn K mainGlobals "dict" = some none) (z13 : PySem.W.nsIn K mainGlobals "enumerate" = some none) :
    LamX.LawAtS l w K CX0 7 63 "_law_script" mg fa h := by
  have hTab := hT0 "is_ware" c T hrec (tabIn_of a1 l1 rfl lc v11)
  have e := hfa.symm.trans (PySem.W.mg_of X G a12)
  cases e
  have mC := PySem.W.mg_of X G aC
  have F1 := fun_mk (st := sWare) l1 c1 k1
  have b1 := F1.binds (ps := ["thing"]) fun _ _ _ _ _ _ us hl => match us, hl with | [_], _ => rfl
  have m1 := PySem.W.mg_of X G a1
  have F2 := fun_mk (st := sMake) l2 c2 k2
  have b2 := F2.binds (ps := ["thing"]) fun _ _ _ _ _ _ us hl => match us, hl with | [_], _ => rfl
  have m2 := PySem.W.mg_of X G a2
  have F3 := fun_mk (st := sNeed) l3 c3 k3
  have b3 := F3.binds (ps := ["thing"]) fun _ _ _ _ _ _ us hl => match us, hl with | [_], _ => rfl
  have m3 := PySem.W.mg_of X G a3
  have F4 := fun_mk (st := sWithin) l4 c4 k4
  have b4 := F4.binds (ps := ["make", "low", "high"]) fun _ _ _ _ _ _ us hl => match us, hl with | [_, _, _], _ => rfl
  have m4 := PySem.W.mg_of X G a4
  have F5 := fun_mk (st := sMay) l5 c5 k5
  have b5 := F5.binds (ps := ["ware", "thing"]) fun _ _ _ _ _ _ us hl => match us, hl with | [_, _], _ => rfl
  have m5 := PySem.W.mg_of X G a5
  have F6 := fun_mk (st := sMixed) l6 c6 k6
  have b6 := F6.binds (ps := ["_law_script", "_law_k"]) fun _ _ _ _ _ _ us hl => match us, hl with | [_, _], _ => rfl
  have m6 := PySem.W.mg_of X G a6
  have F7 := fun_mk (st := sNames) l7 c7 k7
  have b7 := F7.binds (ps := ["_law_script", "_law_many"]) fun _ _ _ _ _ _ us hl => match us, hl with | [_, _], _ => rfl
  have m7 := PySem.W.mg_of X G a7
  have F8 := fun_mk (st := sLMakes) l8 c8 k8
  have b8 := F8.binds (ps := ["_law_number"]) fun _ _ _ _ _ _ us hl => match us, hl with | [_], _ => rfl
  have m8 := PySem.W.mg_of X G a8
  have F9 := fun_mk (st := sLNeeds) l9 c9 k9
  have b9 := F9.binds (ps := ["_law_names_here", "_law_ware", "_law_cell"]) fun _ _ _ _ _ _ us hl => match us, hl with | [_, _, _], _ => rfl
  have m9 := PySem.W.mg_of X G a9
  have F10 := fun_mk (st := sAsked) l10 c10 k10
  have b10 := F10.binds (ps := ["_law_shop", "_law_rows", "_law_ware", "_law_held", "_law_turn"]) fun _ _ _ _ _ _ us hl => match us, hl with | [_, _, _, _, _], _ => rfl
  have m10 := PySem.W.mg_of X G a10
  have F11 := fun_mk (st := sDeed) l11 c11 k11
  have b11 := F11.binds (ps := ["_law_shop", "_law_rows", "_law_ware", "_law_make", "_law_needs_here"]) fun _ _ _ _ _ _ us hl => match us, hl with | [_, _, _, _, _], _ => rfl
  have m11 := PySem.W.mg_of X G a11
  have F12 := fun_mk (st := sLaw) l12 c12 k12
  have m12 := PySem.W.mg_of X G a12
  have F13 := fun_mk (st := sInit) l13 c13 k13
  have b13 := F13.binds (ps := ["self"]) fun _ _ _ _ _ _ us hl => match us, hl with | [_], _ => rfl
  have m13 : Meth K C "__init__" f13 := ⟨a13, i13, k13⟩
  have F14 := fun_mk (st := sPut) l14 c14 k14
  have b14 := F14.binds (ps := ["self", "ware", "make", "needs"]) fun _ _ _ _ _ _ us hl => match us, hl with | [_, _, _, _], _ => rfl
  have m14 : Meth K C "put" f14 := ⟨a14, i14, k14⟩
  have F15 := fun_mk (st := sTake) l15 c15 k15
  have b15 := F15.binds (ps := ["self", "ware", "make"]) fun _ _ _ _ _ _ us hl => match us, hl with | [_, _, _], _ => rfl
  have m15 : Meth K C "take" f15 := ⟨a15, i15, k15⟩
  have F16 := fun_mk (st := sMakes) l16 c16 k16
  have b16 := F16.binds (ps := ["self", "ware"]) fun _ _ _ _ _ _ us hl => match us, hl with | [_, _], _ => rfl
  have m16 : Meth K C "makes" f16 := ⟨a16, i16, k16⟩
  have F17 := fun_mk (st := sNeeds) l17 c17 k17
  have b17 := F17.binds (ps := ["self", "ware", "make"]) fun _ _ _ _ _ _ us hl => match us, hl with | [_, _, _], _ => rfl
  have m17 : Meth K C "needs" f17 := ⟨a17, i17, k17⟩
  have F18 := fun_mk (st := sWares) l18 c18 k18
  have b18 := F18.binds (ps := ["self"]) fun _ _ _ _ _ _ us hl => match us, hl with | [_], _ => rfl
  have m18 : Meth K C "wares" f18 := ⟨a18, i18, k18⟩
  have F19 := fun_mk (st := sHas) l19 c19 k19
  have b19 := F19.binds (ps := ["self", "ware", "make"]) fun _ _ _ _ _ _ us hl => match us, hl with | [_, _, _], _ => rfl
  have m19 : Meth K C "_has" f19 := ⟨a19, i19, k19⟩
  have F20 := fun_mk (st := sPlace) l20 c20 k20
  have b20 := F20.binds (ps := ["self", "ware"]) fun _ _ _ _ _ _ us hl => match us, hl with | [_, _], _ => rfl
  have m20 : Meth K C "_has_place" f20 := ⟨a20, i20, k20⟩
  have qt8 := PySem.W.mg_of X G gt8
  have qt1 := PySem.W.mg_of X G gt1
  have qt9 := PySem.W.mg_of X G gt9
  have qt12 := PySem.W.mg_of X G gt12
  have qt88 := PySem.W.mg_of X G gt88
  have qt6 := PySem.W.mg_of X G gt6
  have y1 := PySem.W.mg_none_of X G z1
  have y2 := PySem.W.mg_none_of X G z2
  have y3 := PySem.W.mg_none_of X G z3
  have y4 := PySem.W.mg_none_of X G z4
  have y5 := PySem.W.mg_none_of X G z5
  have y6 := PySem.W.mg_none_of X G z6
  have y7 := PySem.W.mg_none_of X G z7
  have y8 := PySem.W.mg_none_of X G z8
  have y9 := PySem.W.mg_none_of X G z9
  have y10 := PySem.W.mg_none_of X G z10
  have y11 := PySem.W.mg_none_of X G z11
  have y12 := PySem.W.mg_none_of X G z12
  have y13 := PySem.W.mg_none_of X G z13
  have S : ShopT K mg C := ⟨⟨pg, hd, po, sa⟩, nS, y8, y7, y11⟩
  refine ⟨PySem.W.fnOf "law" "law" (defArgs sLaw) (defBody sLaw) (defScope sLaw) .none kV12 dc12 pm12 an12 cd12 ct12, [(c, T)], spLaw K T, ?_, ?_, ?_, fun s v => .of_eq rfl, ?_, fun base hK hN hB => ?_⟩
  · intro p hp
    rw [List.mem_singleton.mp hp]
    exact hTab.2
  · intro p hp
    rw [List.mem_singleton.mp hp]
    exact nT
  · intro p hp
    rw [List.mem_singleton.mp hp]
    exact hTab.1
  · intro H a ns hl _ hH hS
    exact ⟨a, ns, rfl, hS, hl, ⟨#[], hH _ (List.mem_singleton.mpr rfl), True.intro⟩, fun _ => rfl⟩
  · have TB := hB _ (List.mem_singleton.mpr rfl)
    have G1 := ok_ware (P := l.prog) (w := w) l1 c1 ⟨TB.code, TB.bm, TB.gP⟩ y2 y3 y8 y9 qt8
    have G2 := ok_make (P := l.prog) (w := w) (base := base) F2 F4 b4 m4 y2 y4 qt1 qt9
    have G3 := ok_need (P := l.prog) (w := w) (base := base) F3 G1 F1.kp b1 m1 G2 F2.kp b2 m2 y2 y6 y8
    have G5 := ok_may (P := l.prog) (w := w) (base := base) F5 G3 F3.kp b3 m3 y2 y7 y8 qt6
    have G13 := ok_init (P := l.prog) (w := w) (base := base) F13 S
    have G19 := ok_has (P := l.prog) (w := w) (base := base) F19 S G1 F1.kp b1 m1 G2 F2.kp b2 m2
    have G20 := ok_place (P := l.prog) (w := w) (base := base) F20 S qt88 qt12
    have G15 := ok_take (P := l.prog) (w := w) (base := base) F15 S G19 b19 m19
    have G14 := ok_put (P := l.prog) (w := w) (base := base) F14 S G1 F1.kp b1 m1 G2 F2.kp b2 m2 G5 F5.kp b5 m5 G19 b19 m19 G20 b20 m20
    have G16 := ok_makes (P := l.prog) (w := w) (base := base) F16 S G1 F1.kp b1 m1
    have G17 := ok_needs (P := l.prog) (w := w) (base := base) F17 S G19 b19 m19
    have G18 := ok_wares (P := l.prog) (w := w) (base := base) (Tb := T) F18 S
    have G6 := ok_mixed (P := l.prog) (w := w) (base := base) F6 y8
    have G7 := ok_names (P := l.prog) (w := w) (base := base) (T := T) F7 F6 b6 m6 y8 y10
    have G8 := ok_lmakes (P := l.prog) (w := w) (base := base) (T := T) F8 y10
    have G9 := ok_lneeds (P := l.prog) (w := w) (base := base) (T := T) F9 y8 y10
    have G11 := ok_deed (P := l.prog) (w := w) (base := base) F11 S G14 b14 m14 G15 b15 m15
    have G10 := ok_asked (P := l.prog) (w := w) (base := base) F10 S G18 b18 m18 G16 b16 m16 G17 b17 m17 y10 y1 y5 y4
    exact ok_law F12 S mC ⟨mk, a13, i13, kc⟩ G7 F7.kp b7 m7 G13 b13 G6 F6.kp b6 m6 G8 F8.kp b8 m8 G9 F9.kp b9 m9 G11 F11.kp b11 m11 G10 F10.kp b10 m10 y12 y13 qt12 qt88 qt6
end Pk
open PySem PySem.W PyProof.Rows
set_option maxRecDepth 100000 in
set_option maxHeartbeats 0 in
theorem PySem.Challenge.cw_pickfloor_k02_a_shop_holds : PySem.Challenge.rw_pickfloor_k02_a_shop.Holds := by
  w_on; o_law; k_head; (case hw => w_witness2)
  k_fill
  refine Pk.walk_ofD (l := PySem.Challenge.rw_pickfloor_k02_a_shop) (n := 63) (k := 7) (x := "_law_script") (CX := fun _ => L2.CX0) rfl (by decide) rfl ⟨rfl, by decide, by decide⟩ (fun w h Y => PySem.W.kIn_of Y) ?F (fun _ _ _ _ _ h => h)
  case F =>
    intro w mg fa h KX G hmg hTab
    refine' Pk.all_mk KX G hmg hTab (by decide +kernel) ?lc ?v11 ?nT ?aC ?a1 ?l1 ?c1 ?k1 ?a2 ?l2 ?c2 ?k2 ?a3 ?l3 ?c3 ?k3 ?a4 ?l4 ?c4 ?k4 ?a5 ?l5 ?c5 ?k5 ?a6 ?l6 ?c6 ?k6 ?a7 ?l7 ?c7 ?k7 ?a8 ?l8 ?c8 ?k8 ?a9 ?l9 ?c9 ?k9 ?a10 ?l10 ?c10 ?k10 ?a11 ?l11 ?c11 ?k11 ?a12 ?l12 ?c12 ?k12 ?a13 ?i13 ?l13 ?c13 ?k13 ?a14 ?i14 ?l14 ?c14 ?k14 ?a15 ?i15 ?l15 ?c15 ?k15 ?a16 ?i16 ?l16 ?c16 ?k16 ?a17 ?i17 ?l17 ?c17 ?k17 ?a18 ?i18 ?l18 ?c18 ?k18 ?a19 ?i19 ?l19 ?c19 ?k19 ?a20 ?i20 ?l20 ?c20 ?k20 ?gt8 ?gt1 ?gt9 ?gt12 ?gt88 ?gt6 ?pg ?hd ?po ?sa ?mk ?kc ?nS ?z1 ?z2 ?z3 ?z4 ?z5 ?z6 ?z7 ?z8 ?z9 ?z10 ?z11 ?z12 ?z13
    (case aC => k_is); (case a1 => k_is); (case l1 => k_is); (case c1 => k_is); (case k1 => k_is); (case a2 => k_is); (case l2 => k_is); (case c2 => k_is); (case k2 => k_is); (case a3 => k_is); (case l3 => k_is); (case c3 => k_is); (case k3 => k_is); (case a4 => k_is); (case l4 => k_is); (case c4 => k_is); (case k4 => k_is); (case a5 => k_is); (case l5 => k_is); (case c5 => k_is); (case k5 => k_is); (case a6 => k_is); (case l6 => k_is); (case c6 => k_is); (case k6 => k_is); (case a7 => k_is); (case l7 => k_is); (case c7 => k_is); (case k7 => k_is); (case a8 => k_is); (case l8 => k_is); (case c8 => k_is); (case k8 => k_is); (case a9 => k_is); (case l9 => k_is); (case c9 => k_is); (case k9 => k_is); (case a10 => k_is); (case l10 => k_is); (case c10 => k_is); (case k10 => k_is); (case a11 => k_is); (case l11 => k_is); (case c11 => k_is); (case k11 => k_is); (case a12 => k_is); (case l12 => k_is); (case c12 => k_is); (case k12 => k_is); (case a13 => k_is); (case i13 => k_is); (case l13 => k_is); (case c13 => k_is); (case k13 => k_is); (case a14 => k_is); (case i14 => k_is); (case l14 => k_is); (case c14 => k_is); (case k14 => k_is); (case a15 => k_is); (case i15 => k_is); (case l15 => k_is); (case c15 => k_is); (case k15 => k_is); (case a16 => k_is); (case i16 => k_is); (case l16 => k_is); (case c16 => k_is); (case k16 => k_is); (case a17 => k_is); (case i17 => k_is); (case l17 => k_is); (case c17 => k_is); (case k17 => k_is); (case a18 => k_is); (case i18 => k_is); (case l18 => k_is); (case c18 => k_is); (case k18 => k_is); (case a19 => k_is); (case i19 => k_is); (case l19 => k_is); (case c19 => k_is); (case k19 => k_is); (case a20 => k_is); (case i20 => k_is); (case l20 => k_is); (case c20 => k_is); (case k20 => k_is); (case gt8 => k_is); (case gt1 => k_is); (case gt9 => k_is); (case gt12 => k_is); (case gt88 => k_is); (case gt6 => k_is); (case pg => k_is); (case hd => k_is); (case po => k_is); (case sa => k_is); (case mk => k_is); (case kc => k_is); (case nS => k_is); (case z1 => k_is); (case z2 => k_is); (case z3 => k_is); (case z4 => k_is); (case z5 => k_is); (case z6 => k_is); (case z7 => k_is); (case z8 => k_is); (case z9 => k_is); (case z10 => k_is); (case z11 => k_is); (case z12 => k_is); (case z13 => k_is)
    (case lc => k_is); (case v11 => rfl); (case nT => with_unfolding_all rfl)

