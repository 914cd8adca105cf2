import PyProof.Rows.All
import Wide.All
import OpenK.AllK
import Wide.FinOn
import HandS.ForMost
import HandS.IsInst
import HandS.Style
import HandS.AnyAll
import HandS.EndTab
import HandS.Codes
import HandS.More
import HandS.SetKeys
import HandS.SortInts
import HandS.DictComp
import HandS.Exc
import HandS.TryOnly
import HandS.ExcOwn
import HandS.WordsExc
import HandS.ExcIs
import HandS.ExcCtx
import KE.KRevSl
import HandS.Walk
import HandS.GenList
import HandS.Sort
import KE.GoesEnum
import HandS.Iter
import KE.KEqNest
import PyProof.NeKinds
import KE.LtData
import HandS.Finally
import PySem.Challenge.RW_pickfloor_k06_which_is_ahead
set_option Elab.async false
set_option linter.all false
set_option maxRecDepth 100000
set_option maxHeartbeats 4000000
namespace Pk
open PySem PySem.Spec PyProof.Rows L2

/-! ### heaps: all that was tracked is kept, the table at P may have grown -/
structure Kp (P : Addr) (H H' : Hp) : Prop where
  t0 : GxR.TabG H P
  tab : GxR.TabG H' P
  keep : ∀ b o, b ≠ P → H b = some o → H' b = some o
theorem Kp.refl {P : Addr} {H : Hp} (t : GxR.TabG H P) : Kp P H H := ⟨t, t, fun _ _ _ e => e⟩
theorem Kp.trans {P : Addr} {H H1 H2 : Hp} (a : Kp P H H1) (b : Kp P H1 H2) : Kp P H H2 := ⟨a.t0, b.tab, fun c o n e => b.keep c o n (a.keep c o n e)⟩
theorem tab_ne {P b : Addr} {H : Hp} (t : GxR.TabG H P) {o : HO} (e : H b = some o) (n : ∀ ps, o ≠ .tbl ps) : b ≠ P := fun z => by
  obtain ⟨ps, h, _⟩ := t
  rw [z, h] at e
  exact n ps (Option.some.inj e).symm
theorem tab_nn {P b : Addr} {H : Hp} (t : GxR.TabG H P) (e : H b = none) : b ≠ P := fun z => by
  obtain ⟨ps, h, _⟩ := t
  rw [z, h] at e
  cases e
theorem Kp.of_tabbed {P : Addr} {H H' : Hp} (t : GxR.TabG H P) (h : GxR.Tabbed P H H') : Kp P H H' := ⟨t, h.1, fun b o n e => (h.2 b n).trans e⟩
theorem Kp.new {P p : Addr} {H : Hp} {o : HO} (t : GxR.TabG H P) (np : H p = none) : Kp P H (upd H p o) := by
  have n := tab_nn t np
  refine ⟨t, ?_, fun b u _ e => by rw [upd_ne (ne_of_none e np)]; exact e⟩
  obtain ⟨ps, h, q⟩ := t
  exact ⟨ps, by rw [upd_ne n.symm]; exact h, q⟩
/-- a store at an object that is new since H -/
theorem Kp.set {P p : Addr} {H H1 : Hp} {o : HO} (k : Kp P H H1) (np : H p = none) (hp : p ≠ P) : Kp P H (upd H1 p o) := by
  refine ⟨k.t0, ?_, fun b u n e => by rw [upd_ne (ne_of_none e np)]; exact k.keep b u n e⟩
  obtain ⟨ps, h, q⟩ := k.tab
  exact ⟨ps, by rw [upd_ne hp.symm]; exact h, q⟩
theorem Kp.free {P p : Addr} {H H1 : Hp} (k : Kp P H H1) (np : H1 p = none) : H p = none := by
  cases q : H p with
  | none => rfl
  | some o =>
    have z := k.keep p o (tab_nn k.tab np) q
    rw [np] at z
    cases z
theorem Kp.seq {P : Addr} {K : PySem.W.Frag} {H H' : Hp} {a : Addr} {xs : List V} (k : Kp P H H') (h : SqL K H a xs) : SqL K H' a xs := by
  rcases h with (h | ⟨o, h⟩) | h
  · exact .inl (.inl (k.keep _ _ (tab_ne k.t0 h fun _ z => by cases z) h))
  · exact .inl (.inr ⟨o, k.keep _ _ (tab_ne k.t0 h fun _ z => by cases z) h⟩)
  · exact .inr h
theorem Kp.sqt {P : Addr} {K : PySem.W.Frag} {H H' : Hp} {a : Addr} {xs : List V} (k : Kp P H H') (h : SqT K H a xs) : SqT K H' a xs := by
  rcases h with (h | ⟨o, h⟩) | h
  · exact .inl (.inl (k.keep _ _ (tab_ne k.t0 h fun _ z => by cases z) h))
  · exact .inl (.inr ⟨o, k.keep _ _ (tab_ne k.t0 h fun _ z => by cases z) h⟩)
  · exact .inr h
mutual
theorem Kp.dp {P : Addr} {K : PySem.W.Frag} {H H' : Hp} (k : Kp P H H') : ∀ (d : PyData) (v : V), Dp K H v d → Dp K H' v d
  | .none, _, h => by cases h; exact .non
  | .bool b, _, h => by cases h; exact .bl b
  | .int i, _, h => by cases h; exact .int i
  | .str x, _, h => by cases h; exact .str x
  | .list ds, _, h => by
    cases h with
    | lst a b => exact .lst (k.seq a) (Kp.dpAll k ds _ b)
  | .tuple ds, _, h => by
    cases h with
    | tup a b => exact .tup (k.sqt a) (Kp.dpAll k ds _ b)
  | .dict _, _, h => by cases h
theorem Kp.dpAll {P : Addr} {K : PySem.W.Frag} {H H' : Hp} (k : Kp P H H') : ∀ (ds : List PyData) (vs : List V), DpAll K H vs ds → DpAll K H' vs ds
  | [], _, h => by cases h; exact .nil
  | d :: ds, _, h => by
    cases h with
    | cons a b => exact .cons (Kp.dp k d _ a) (Kp.dpAll k ds _ b)
end
theorem dpAll_get {K : PySem.W.Frag} {H : Hp} : ∀ {ds : List PyData} {vs : List V}, DpAll K H vs ds → ∀ {i : Nat} {d : PyData}, ds[i]? = some d → ∃ v, vs[i]? = some v ∧ Dp K H v d
  | [], _, _, i, d, e => by simp at e
  | x :: r, _, h, i, d, e => by
    cases h with
    | cons a b =>
      cases i with
      | zero => exact ⟨_, rfl, by have e' : x = d := Option.some.inj e; subst e'; exact a⟩
      | succ i => exact dpAll_get b (i := i) (d := d) (by simpa using e)
theorem dpAll_len {K : PySem.W.Frag} {H : Hp} : ∀ {ds : List PyData} {vs : List V}, DpAll K H vs ds → vs.length = ds.length
  | [], _, h => by cases h; rfl
  | x :: r, _, h => by
    cases h with
    | cons a b => simp [dpAll_len b]

/-! ### kinds -/
def tyN : PyData → String
  | .none => "NoneType" | .bool _ => "bool" | .int _ => "int" | .str _ => "str" | .list _ => "list" | .tuple _ => "tuple" | .dict _ => "dict"
theorem tyx_of {K : PySem.W.Frag} {H : Hp} {v : V} {d : PyData} (h : Dp K H v d) : TyX K H v (.type (tyN d)) := by
  cases h with
  | non => exact .base .non
  | bl b => exact .base (.bl b)
  | int i => exact .base (.int i)
  | str x => exact .base (.str x)
  | lst a _ =>
    rcases a with (a | ⟨o, a⟩) | ⟨o, its, n, l, c, _⟩
    · exact .base (.lst a)
    · exact .base (.frz a)
    · exact .kList l c
  | tup a _ =>
    rcases a with (a | ⟨o, a⟩) | ⟨o, its, n, l, c, _⟩
    · exact .base (.tup a)
    · exact .fTuple a
    · exact .kTuple l c
def isStrD : PyData → Bool | .str _ => true | _ => false
def isIntD : PyData → Bool | .int _ => true | .bool _ => true | _ => false
def isBoolD : PyData → Bool | .bool _ => true | _ => false
def isTupD : PyData → Bool | .tuple _ => true | _ => false
def isLstD : PyData → Bool | .list _ => true | _ => false
theorem kit_str (K : PySem.W.Frag) (d : PyData) : PySem.W.kitOne K (.type (tyN d)) (.type "str") = some (isStrD d) := by
  cases d
  · exact kit_ty (a := "NoneType") (b := "str") (r := false) (by decide +kernel)
  · exact kit_ty (a := "bool") (b := "str") (r := false) (by decide +kernel)
  · exact kit_ty (a := "int") (b := "str") (r := false) (by decide +kernel)
  · exact kit_ty (a := "str") (b := "str") (r := true) (by decide +kernel)
  · exact kit_ty (a := "list") (b := "str") (r := false) (by decide +kernel)
  · exact kit_ty (a := "tuple") (b := "str") (r := false) (by decide +kernel)
  · exact kit_ty (a := "dict") (b := "str") (r := false) (by decide +kernel)
theorem kit_int (K : PySem.W.Frag) (d : PyData) : PySem.W.kitOne K (.type (tyN d)) (.type "int") = some (isIntD d) := by
  cases d
  · exact kit_ty (a := "NoneType") (b := "int") (r := false) (by decide +kernel)
  · exact kit_ty (a := "bool") (b := "int") (r := true) (by decide +kernel)
  · exact kit_ty (a := "int") (b := "int") (r := true) (by decide +kernel)
  · exact kit_ty (a := "str") (b := "int") (r := false) (by decide +kernel)
  · exact kit_ty (a := "list") (b := "int") (r := false) (by decide +kernel)
  · exact kit_ty (a := "tuple") (b := "int") (r := false) (by decide +kernel)
  · exact kit_ty (a := "dict") (b := "int") (r := false) (by decide +kernel)
theorem kit_bool (K : PySem.W.Frag) (d : PyData) : PySem.W.kitOne K (.type (tyN d)) (.type "bool") = some (isBoolD d) := by
  cases d
  · exact kit_ty (a := "NoneType") (b := "bool") (r := false) (by decide +kernel)
  · exact kit_ty (a := "bool") (b := "bool") (r := true) (by decide +kernel)
  · exact kit_ty (a := "int") (b := "bool") (r := false) (by decide +kernel)
  · exact kit_ty (a := "str") (b := "bool") (r := false) (by decide +kernel)
  · exact kit_ty (a := "list") (b := "bool") (r := false) (by decide +kernel)
  · exact kit_ty (a := "tuple") (b := "bool") (r := false) (by decide +kernel)
  · exact kit_ty (a := "dict") (b := "bool") (r := false) (by decide +kernel)
theorem kit_tup (K : PySem.W.Frag) (d : PyData) : PySem.W.kitOne K (.type (tyN d)) (.type "tuple") = some (isTupD d) := by
  cases d
  · exact kit_ty (a := "NoneType") (b := "tuple") (r := false) (by decide +kernel)
  · exact kit_ty (a := "bool") (b := "tuple") (r := false) (by decide +kernel)
  · exact kit_ty (a := "int") (b := "tuple") (r := false) (by decide +kernel)
  · exact kit_ty (a := "str") (b := "tuple") (r := false) (by decide +kernel)
  · exact kit_ty (a := "list") (b := "tuple") (r := false) (by decide +kernel)
  · exact kit_ty (a := "tuple") (b := "tuple") (r := true) (by decide +kernel)
  · exact kit_ty (a := "dict") (b := "tuple") (r := false) (by decide +kernel)
theorem kit_lst (K : PySem.W.Frag) (d : PyData) : PySem.W.kitOne K (.type (tyN d)) (.type "list") = some (isLstD d) := by
  cases d
  · exact kit_ty (a := "NoneType") (b := "list") (r := false) (by decide +kernel)
  · exact kit_ty (a := "bool") (b := "list") (r := false) (by decide +kernel)
  · exact kit_ty (a := "int") (b := "list") (r := false) (by decide +kernel)
  · exact kit_ty (a := "str") (b := "list") (r := false) (by decide +kernel)
  · exact kit_ty (a := "list") (b := "list") (r := true) (by decide +kernel)
  · exact kit_ty (a := "tuple") (b := "list") (r := false) (by decide +kernel)
  · exact kit_ty (a := "dict") (b := "list") (r := false) (by decide +kernel)
/-! ### the mirror: wares, makes, needs -/
def azB (c : Nat) : Bool := if (!decide ((⟨#[c]⟩ : Str).cps.toList < ("a" : Str).cps.toList)) = true then !decide (("z" : Str).cps.toList < (⟨#[c]⟩ : Str).cps.toList) else false
def wareB : PyData → Bool
  | .str x => decide (1 ≤ x.length) && decide (x.length ≤ 8) && x.cps.toList.all azB
  | _ => false
def makeB : PyData → Bool
  | .int i => decide (1 ≤ i) && decide (i ≤ 999)
  | _ => false
def leD : PyData → PyData → Bool
  | .int i, .int j => decide (i ≤ j)
  | _, _ => false
def needB : PyData → Bool
  | .tuple [a, b, c] => wareB a && makeB b && makeB c && leD b c
  | _ => false
theorem needB_len {ds : List PyData} (h : ds.length ≠ 3) : needB (.tuple ds) = false := by
  match ds, h with
  | [], _ => rfl
  | [_], _ => rfl
  | [_, _], _ => rfl
  | [_, _, _], h => exact absurd rfl h
  | _ :: _ :: _ :: _ :: _, _ => rfl
theorem makeB_ex {d : PyData} (h : makeB d = true) : ∃ i, d = .int i := by
  cases d <;> first | exact ⟨_, rfl⟩ | cases h
/-- all texts in it are short -/
def okS : PyData → Bool
  | .str x => decide (x.length ≤ 1000) && PyData.strOk x
  | _ => true
/-- and those of a tuple's items -/
def okT : PyData → Bool
  | .str x => decide (x.length ≤ 1000) && PyData.strOk x
  | .tuple ds => ds.all okS && decide (ds.length ≤ 1000)
  | _ => true
theorem okT_s {d : PyData} (h : okT d = true) : okS d = true := by
  cases d <;> first | exact h | rfl
theorem okS_len {x : Str} (h : okS (.str x) = true) : x.length ≤ 1000 := of_decide_eq_true (Bool.and_eq_true_iff.mp h).1
theorem okS_ok {x : Str} (h : okS (.str x) = true) : PyData.strOk x = true := (Bool.and_eq_true_iff.mp h).2
theorem line1000 {n : Nat} (h : n ≤ 1000) : n ≤ sizeLine := Nat.le_of_lt (small1000 h)

/-! ### the element 'a' <= sign <= 'z' of a generator expression -/
theorem elt_az {prog : Program} {w : World} {scope : Scope} {x : Str} {j1 j2 : Nat} {p1 p2 p3 p4 : Pos} (hk : scope.kind = .function) (hl : scope.names.lookup x = some .local) (hd : (x == ("__debug__" : Str)) = false := by decide) :
    GxR.EltP prog w scope x (.Compare (.Constant (.str "a") j1 p1) [.LtE, .LtE] [.Name x p2, .Constant (.str "z") j2 p3] p4) azB := by
  intro cenv A' E' c t s₂ m₂ hs hn hm
  have hk' : cenv.scope.kind = .function := by rw [hs]; exact hk
  have hl' : cenv.scope.names.lookup x = some .local := by rw [hs]; exact hl
  refine Compare_chain (Calls.Constant_str ?_) (by with_unfolding_all rfl)
  refine chain_link (wpAny_Name (wpAny_loadName_local hk' hl' hn hm ?_) hd)
  refine PySem.P.le_str ?_
  refine wpAny_truthy_bool ?_
  cases e : (!decide ((⟨#[c]⟩ : Str).cps.toList < ("a" : Str).cps.toList)) with
  | false => exact ite_ff ⟨by unfold azB; rw [if_neg (by rw [e]; exact Bool.false_ne_true)], GxR.keeps_tok _ _⟩
  | true =>
    refine ite_tt (chain_last (Calls.Constant_str (PySem.P.le_str ⟨?_, GxR.keeps_tok _ _⟩)))
    unfold azB
    rw [if_pos e]

/-! ### lists of booleans and such, as data -/
theorem iteD {p A B : Prop} [Decidable p] (h1 : p → A) (h2 : ¬ p → B) : if decide p = true then A else B := by
  by_cases h : p
  · rw [if_pos (decide_eq_true h)]
    exact h1 h
  · rw [if_neg (by rw [decide_eq_false h]; exact Bool.false_ne_true)]
    exact h2 h
theorem iteN {p A B : Prop} [Decidable p] (h1 : ¬ p → A) (h2 : p → B) : if (!decide p) = true then A else B := by
  by_cases h : p
  · rw [decide_eq_true h]
    exact iteF (h2 h)
  · rw [decide_eq_false h]
    exact iteT (h1 h)
/-! ### type(thing) is not .. -/
def isI (d : PyData) : Bool := match d with | .int _ => true | _ => false
def isDctD (d : PyData) : Bool := match d with | .dict _ => true | _ => false
theorem tyN_str (d : PyData) : decide (tyN d = "str") = isStrD d := by
  cases d
  · exact (by decide +kernel : decide ("NoneType" = "str") = false)
  · exact (by decide +kernel : decide ("bool" = "str") = false)
  · exact (by decide +kernel : decide ("int" = "str") = false)
  · exact (by decide +kernel : decide ("str" = "str") = true)
  · exact (by decide +kernel : decide ("list" = "str") = false)
  · exact (by decide +kernel : decide ("tuple" = "str") = false)
  · exact (by decide +kernel : decide ("dict" = "str") = false)
theorem tyN_int (d : PyData) : decide (tyN d = "int") = isI d := by
  cases d
  · exact (by decide +kernel : decide ("NoneType" = "int") = false)
  · exact (by decide +kernel : decide ("bool" = "int") = false)
  · exact (by decide +kernel : decide ("int" = "int") = true)
  · exact (by decide +kernel : decide ("str" = "int") = false)
  · exact (by decide +kernel : decide ("list" = "int") = false)
  · exact (by decide +kernel : decide ("tuple" = "int") = false)
  · exact (by decide +kernel : decide ("dict" = "int") = false)
theorem tyN_tup (d : PyData) : decide (tyN d = "tuple") = isTupD d := by
  cases d
  · exact (by decide +kernel : decide ("NoneType" = "tuple") = false)
  · exact (by decide +kernel : decide ("bool" = "tuple") = false)
  · exact (by decide +kernel : decide ("int" = "tuple") = false)
  · exact (by decide +kernel : decide ("str" = "tuple") = false)
  · exact (by decide +kernel : decide ("list" = "tuple") = false)
  · exact (by decide +kernel : decide ("tuple" = "tuple") = true)
  · exact (by decide +kernel : decide ("dict" = "tuple") = false)
theorem tyN_lst (d : PyData) : decide (tyN d = "list") = isLstD d := by
  cases d
  · exact (by decide +kernel : decide ("NoneType" = "list") = false)
  · exact (by decide +kernel : decide ("bool" = "list") = false)
  · exact (by decide +kernel : decide ("int" = "list") = false)
  · exact (by decide +kernel : decide ("str" = "list") = false)
  · exact (by decide +kernel : decide ("list" = "list") = true)
  · exact (by decide +kernel : decide ("tuple" = "list") = false)
  · exact (by decide +kernel : decide ("dict" = "list") = false)
theorem tyN_dct (d : PyData) : decide (tyN d = "dict") = isDctD d := by
  cases d
  · exact (by decide +kernel : decide ("NoneType" = "dict") = false)
  · exact (by decide +kernel : decide ("bool" = "dict") = false)
  · exact (by decide +kernel : decide ("int" = "dict") = false)
  · exact (by decide +kernel : decide ("str" = "dict") = false)
  · exact (by decide +kernel : decide ("list" = "dict") = false)
  · exact (by decide +kernel : decide ("tuple" = "dict") = false)
  · exact (by decide +kernel : decide ("dict" = "dict") = true)
theorem tyN_no {a b : String} {c : Bool} {A B : Prop} (h : decide (a = b) = c) (e : c = false) (p : A) : if (!decide (a = b)) = true then A else B := by
  rw [h, e]
  exact iteT p
theorem tyN_yes {a b : String} {c : Bool} {A B : Prop} (h : decide (a = b) = c) (e : c = true) (p : B) : if (!decide (a = b)) = true then A else B := by
  rw [h, e]
  exact iteF p
theorem tyI_no {a b : String} {c : Bool} {A B : Prop} (h : decide (a = b) = c) (e : c = false) (p : B) : if (decide (a = b)) = true then A else B := by
  rw [h, e]
  exact iteF p
theorem tyI_yes {a b : String} {c : Bool} {A B : Prop} (h : decide (a = b) = c) (e : c = true) (p : A) : if (decide (a = b)) = true then A else B := by
  rw [h, e]
  exact iteT p
theorem tyb_of {K : PySem.W.Frag} {H : Hp} {v : V} {d : PyData} (h : Dp K H v d) : TyB K H v (tyN d) := by
  cases h with
  | non => exact .non
  | bl b => exact .bl b
  | int i => exact .int i
  | str x => exact .str x
  | lst a _ => exact .lst a
  | tup a _ => exact .tup a
theorem isI_no {d : PyData} (h : isI d = false) : makeB d = false := by
  cases d <;> first | rfl | cases h
theorem isI_ex {d : PyData} (h : isI d = true) : ∃ i, d = .int i := by
  cases d <;> first | exact ⟨_, rfl⟩ | cases h
/-! ### signs a to z -/
theorem azB_iff (c : Nat) : azB c = (decide (97 ≤ c) && decide (c ≤ 122)) := by
  have e1 : (⟨#[c]⟩ : Str).cps.toList = [c] := rfl
  have e2 : ("a" : Str).cps.toList = [97] := by decide +kernel
  have e3 : ("z" : Str).cps.toList = [122] := by decide +kernel
  unfold azB
  rw [e1, e2, e3]
  by_cases h1 : 97 ≤ c
  · have f1 : ¬ ([c] < [97]) := by
      intro h
      cases h with
      | rel h => omega
      | cons h => cases h
    rw [decide_eq_false f1, decide_eq_true h1, Bool.true_and]
    show (if true = true then _ else _) = _
    rw [if_pos rfl]
    by_cases h2 : c ≤ 122
    · have f2 : ¬ ([122] < [c]) := by
        intro h
        cases h with
        | rel h => omega
        | cons h => cases h
      rw [decide_eq_false f2, decide_eq_true h2] <;> rfl
    · have f2 : [122] < [c] := List.Lex.rel (by omega)
      rw [decide_eq_true f2, decide_eq_false h2] <;> rfl
  · have f1 : [c] < [97] := List.Lex.rel (by omega)
    rw [decide_eq_true f1, decide_eq_false h1]
    rfl
def Az (l : List Nat) : Prop := ∀ c ∈ l, 97 ≤ c ∧ c ≤ 122
def Ok8 (l : List Nat) : Prop := ∀ c ∈ l, c < 0x110000
theorem Az.ok {l : List Nat} (h : Az l) : Ok8 l := fun c hc => by have := h c hc; omega
theorem strOk_S {l : List Nat} (h : Ok8 l) : PyData.strOk (SX.S l) = true := by
  unfold PyData.strOk
  rw [← Array.all_toList, List.all_eq_true]
  intro c hc
  exact decide_eq_true (h c hc)
theorem ok8_of {x : Str} (h : PyData.strOk x = true) : Ok8 x.cps.toList := by
  unfold PyData.strOk at h
  rw [← Array.all_toList, List.all_eq_true] at h
  intro c hc
  exact of_decide_eq_true (h c hc)
theorem okS_S {l : List Nat} (h : Ok8 l) (hl : l.length ≤ 1000) : okS (.str (SX.S l)) = true := by
  show (decide _ && _) = true
  rw [strOk_S h, SX.S_len, decide_eq_true hl] <;> rfl
theorem at_gen {α : Type} {xs : List α} {z : Int} {j : Nat} {v : α} (e : z = (j : Int)) (h : xs[j]? = some v) : atI xs z = some v := by
  rw [e]
  exact atI_nat h
def letters : List Nat := (List.range 26).map (97 + ·)
theorem letters_eq : ("abcdefghijklmnopqrstuvwxyz" : Str) = SX.S letters := by decide +kernel
theorem letters_at {i : Int} (h0 : 0 ≤ i) (h : i < 26) : atI letters i = some (97 + i.toNat) := by
  refine at_gen (j := i.toNat) (by omega) ?_
  unfold letters
  rw [List.getElem?_map, List.getElem?_range (by omega)]
  rfl
/-- an item of a list at a place in it -/
theorem at_pick {α : Type} {xs : List α} {i : Int} {p : α → Prop} (h0 : 0 ≤ i) (h1 : i < (xs.length : Int)) (hp : ∀ x ∈ xs, p x) : ∃ v, atI xs i = some v ∧ p v := by
  have hl : i.toNat < xs.length := by omega
  exact ⟨xs[i.toNat], at_gen (j := i.toNat) (by omega) (List.getElem?_eq_getElem hl), hp _ (List.getElem_mem hl)⟩
theorem cutV_mem {xs : List V} {lo hi : Option Int} {v : V} (h : v ∈ cutV xs lo hi) : v ∈ xs := List.mem_of_mem_drop (List.mem_of_mem_take h)
theorem cutS_S {l : List Nat} {lo hi : Option Int} : ∃ m, cutS (SX.S l) lo hi = SX.S m ∧ m.length ≤ l.length ∧ ∀ c ∈ m, c ∈ l := by
  refine ⟨_, rfl, ?_, fun c hc => List.mem_of_mem_drop (List.mem_of_mem_take hc)⟩
  have e : (SX.S l).cps.toList.length = l.length := by simp
  rw [List.length_take, List.length_drop]
  omega
/-- a comprehension over a text's signs -/
theorem lc_str {x : Str} {g : TG} {tt : TT} {te : TE} {vs : List Nat} {σ : L2.St} {H1 : Hp} {D : Addr} {Qd : Hp → Prop} (Pv : Nat → Hp → Prop) (h0 : Pv 0 (upd H1 D (.lst [])))
    (hs : ∀ i c H, x.cps.toList[i]? = some c → Pv i H → g (.str ⟨#[c]⟩) (wipe σ vs) H fun σ2 H2 => wipe σ2 vs = wipe σ vs ∧ tt σ2 H2 fun b H3 =>
      if b = true then te σ2 H3 fun y H4 => ∃ acc, H4 D = some (.lst acc) ∧ acc.length < sizeLine ∧ Pv (i + 1) (upd H4 D (.lst (acc ++ [y]))) else Pv (i + 1) H3) (hd : ∀ H, Pv x.cps.toList.length H → Qd H) :
    ∃ W : Nat → Nat → Hp → Prop, (∃ m, W 0 m (upd H1 D (.lst []))) ∧ ∀ i m H, W i m H →
      ((Its x).stop i H ∧ Qd H) ∨ ((Its x).go i H ∧ ∃ Nx : Hp → Prop, (∀ H', Nx H' → ∃ m', m' < m ∧ W (i + 1) m' H') ∧ ∀ v H', (Its x).yld i H v H' → g v (wipe σ vs) H' fun σ2 H2 => wipe σ2 vs = wipe σ vs ∧ tt σ2 H2 fun b H3 =>
        if b = true then te σ2 H3 fun y H4 => ∃ acc, H4 D = some (.lst acc) ∧ acc.length < sizeLine ∧ Nx (upd H4 D (.lst (acc ++ [y]))) else Nx H3) := by
  have hsz : x.cps.toList.length = x.cps.size := by simp
  refine ⟨fun i m H => m = x.cps.size - i ∧ i ≤ x.cps.size ∧ Pv i H, ⟨x.cps.size, by simp, Nat.zero_le _, h0⟩, ?_⟩
  rintro i m H ⟨rfl, hi, p⟩
  by_cases hlt : i < x.cps.size
  · refine .inr ⟨hlt, Pv (i + 1), fun H' p' => ⟨x.cps.size - (i + 1), by omega, rfl, hlt, p'⟩, fun v H' y => ?_⟩
    obtain ⟨rfl, c, hc, rfl⟩ := y
    exact hs i c _ (by rw [Array.getElem?_toList]; exact hc) p
  · have e : i = x.cps.size := by omega
    subst e
    exact .inl ⟨Nat.le_refl _, hd H (by rw [hsz]; exact p)⟩
/-! ### lists of flat things as data -/
theorem shaped_flat {ds : List PyData} (h : ∀ d ∈ ds, d.canLay0 = true ∧ d.depth = 0) : SeqAt.shaped (.list ds) = true ∧ SeqAt.shaped (.tuple ds) = true := by
  have h1 : PyData.canLayAll0 ds = true ∧ PyData.depthAll ds = 0 := by
    induction ds with
    | nil => exact ⟨rfl, rfl⟩
    | cons d r ih =>
      obtain ⟨i1, i2⟩ := ih fun x hx => h x (List.mem_cons_of_mem _ hx)
      obtain ⟨j1, j2⟩ := h d (List.mem_cons_self ..)
      constructor
      · show (d.canLay0 && PyData.canLayAll0 r) = true
        rw [i1, j1] <;> rfl
      · show max d.depth (PyData.depthAll r) = 0
        rw [i2, j2] <;> rfl
  constructor
  · show (PyData.canLayAll0 ds && decide (PyData.depthAll ds + 1 ≤ 64)) = true
    rw [h1.1, h1.2] <;> rfl
  · show (PyData.canLayAll0 ds && decide (PyData.depthAll ds + 1 ≤ 64)) = true
    rw [h1.1, h1.2] <;> rfl
theorem canLay_of {d : PyData} (h : SeqAt.shaped d = true) : d.canLay0 = true := SeqAt.canLay_of_shaped h
theorem eqv_self {d : PyData} (h : SeqAt.shaped d = true) : PyData.eqv d d = true := SeqAt.eqv_refl d (canLay_of h)
theorem eqv_nil (ds : List PyData) : PyData.eqv (.list ds) (.list []) = ds.isEmpty := by
  cases ds <;> rfl
theorem okT_tup {ds : List PyData} (h : ∀ d ∈ ds, okS d = true) (hl : ds.length ≤ 1000) : okT (.tuple ds) = true := by
  show (ds.all okS && decide (ds.length ≤ 1000)) = true
  rw [decide_eq_true hl, Bool.and_true, List.all_eq_true]
  exact h
theorem pick_thing {T : Addr} {K : PySem.W.Frag} {H HF : Hp} {xs : List V} {i : Int} (_ks : Kp T H HF) (hall : ∀ x ∈ xs, ∃ d, Dp K HF x d ∧ okT d = true) (h0 : 0 ≤ i) (h1 : i < (xs.length : Int)) :
    ∃ v d, atI xs i = some v ∧ Dp K HF v d ∧ okT d = true := by
  obtain ⟨v, hv, d, h⟩ := at_pick h0 h1 hall
  exact ⟨v, d, hv, h⟩
theorem Kp.lst {P a : Addr} {H H' : Hp} {xs : List V} (k : Kp P H H') (h : H a = some (.lst xs)) : H' a = some (.lst xs) := k.keep _ _ (tab_ne k.t0 h fun _ z => by cases z) h
theorem gens {env : Env} {scope : Scope} {x : Str} (k : scope.kind = .function) (co : scope.isCoroutine = false) (cell : ∀ y ∈ scope.names, y.2 ≠ .cell) (dot : scope.names.lookup (".0" : Str) = some NameKind.local)
    (loc : scope.names.lookup x = some .local) (nf : ∀ y ∈ scope.names, y.2 ≠ .free) : GxR.GenS env scope x := ⟨k, co, cell, dot, loc, fun y hy e => absurd e (nf y hy)⟩
theorem isStrD_ex {d : PyData} (h : isStrD d = true) : ∃ x, d = .str x := by
  cases d <;> first | exact ⟨_, rfl⟩ | cases h
theorem wareB_no {d : PyData} (h : isStrD d = false) : wareB d = false := by
  cases d <;> first | rfl | cases h
theorem tabIn_of {K : PySem.W.Frag} {x : Str} {f c T : Addr} {oc : Value} {od : Option Addr} {osl : Array (Option Value)} {fd : FuncData} {ec : Value} {dc : Option Addr} {vs : Array Value} {sl : Array (Option Value)}
    (a : PySem.W.nsIn K mainGlobals x = some (some (.ref f))) (l : K.lookup f = some ⟨oc, od, .func fd, osl⟩) (hc : fd.code = .ref c) (lc : K.lookup c = some ⟨ec, dc, .fields vs, sl⟩) (v : vs[11]? = some (.ref T)) : PySem.W.tabIn K x = some (c, T) := by
  unfold PySem.W.tabIn
  rw [a]
  simp only [l, hc, lc, v]
/-! ### the end, with the tables of the defs that the view holds -/
theorem walk_ofD {l : PySem.W.OpenLaw} {n k : Nat} {q : Program} {loose : List Str} {XP : (Str → Option Value) → Heap → Prop} {YP : World → Heap → Prop} {d : DefRec} {K : Params → PySem.W.Frag} {CX : World → CXT} {x : Str}
    (hn : l.most = some n) (hn2 : n ≤ sizeLine) (hdf : d.params.defaults = []) (hr : Room k callerA) (hY : ∀ (w : World) (h : Heap), YP w h → (K w.params).In h)
    (F : ∀ (w : World) (mg : Str → Option Value) (fa : Addr) (h : Heap), (K w.params).In h → h.Ns mainGlobals mg → mg d.name = some (.ref fa) →
      (∀ (y : Str) (c T : Addr), ((recsOf q).any fun e => e.name == y) = true → PySem.W.tabIn (K w.params) y = some (c, T) → PySem.W.CodeHd h c T ∧ h.get? T = some (PySem.W.tabObj #[])) → LamX.LawAtS l w (K w.params) (CX w) k n x mg fa h)
    (hCX : ∀ (w : World) (H : Hp) (s : Shared) (e : Value) (s' : Shared), CX w [] H s (fun _ _ _ => False) e s' → False) :
    PySem.W.WalkO q loose XP YP l.row.toRowW d [] (fun f vs => PySem.call f vs) := by
  refine Att.attach_callB hn hdf fun w s0 s1 mg mb fa o pm cd doc a vs ns G Y ho hd hcd hmg hobj hints hlen hbits hg => ?_
  have KX := hY w _ Y
  obtain ⟨fd, cs, sp, hT, nT, C, hb, hsp, hF⟩ := F w mg fa _ KX G.T.g hmg fun y c T hy ht => by
    cases hf : (recsOf q).find? (fun e => e.name == y) with
    | none =>
      rw [List.find?_eq_none] at hf
      obtain ⟨e, he, hz⟩ := List.any_eq_true.mp hy
      exact absurd hz (hf e he)
    | some e => exact PySem.W.tab_of G.T KX hf ht
  exact LamX.law_callTs KX G.T.g G.T.b G.T.builtins G.T.nolimit hg hT nT C G.T.bmain hobj hints (Nat.le_trans hlen hn2) hr hF hb (fun H hH hS => hsp H a ns hlen hbits hH hS) fun H e s' => hCX w H s1 e s'
end Pk

set_option Elab.async false
set_option linter.all false
set_option maxRecDepth 100000
set_option maxHeartbeats 4000000
namespace Pk
open PySem PySem.Spec PyProof.Rows L2

/-! ### parts of a heap hidden; kept but for some addresses -/
def hide (A : List Addr) (H : Hp) : Hp := fun b => if b ∈ A then none else H b
theorem hide_some {A : List Addr} {H : Hp} {b : Addr} {o : HO} (h : hide A H b = some o) : H b = some o ∧ b ∉ A := by
  unfold hide at h
  by_cases hb : b ∈ A
  · rw [if_pos hb] at h; cases h
  · rw [if_neg hb] at h; exact ⟨h, hb⟩
theorem hide_of {A : List Addr} {H : Hp} {b : Addr} {o : HO} (h : H b = some o) (hb : b ∉ A) : hide A H b = some o := by
  unfold hide
  rw [if_neg hb]
  exact h
def isSeqO : HO → Bool
  | .lst _ => true | .tup _ => true | .frz _ (.lst _) => true | .frz _ (.tup _) => true | _ => false
mutual
theorem dp_mono {K : PySem.W.Frag} {H H' : Hp} (k : ∀ b o, isSeqO o = true → H b = some o → H' b = some o) : ∀ (d : PyData) (v : V), Dp K H v d → Dp K H' v d
  | .none, _, h => by cases h; exact .non
  | .bool b, _, h => by cases h; exact .bl b
  | .int i, _, h => by cases h; exact .int i
  | .str x, _, h => by cases h; exact .str x
  | .list ds, _, h => by
    cases h with
    | lst a b =>
      refine .lst ?_ (dpAll_mono k ds _ b)
      rcases a with (a | ⟨o, a⟩) | a
      · exact .inl (.inl (k _ _ rfl a))
      · exact .inl (.inr ⟨o, k _ _ rfl a⟩)
      · exact .inr a
  | .tuple ds, _, h => by
    cases h with
    | tup a b =>
      refine .tup ?_ (dpAll_mono k ds _ b)
      rcases a with (a | ⟨o, a⟩) | a
      · exact .inl (.inl (k _ _ rfl a))
      · exact .inl (.inr ⟨o, k _ _ rfl a⟩)
      · exact .inr a
  | .dict _, _, h => by cases h
theorem dpAll_mono {K : PySem.W.Frag} {H H' : Hp} (k : ∀ b o, isSeqO o = true → H b = some o → H' b = some o) : ∀ (ds : List PyData) (vs : List V), DpAll K H vs ds → DpAll K H' vs ds
  | [], _, h => by cases h; exact .nil
  | d :: ds, _, h => by
    cases h with
    | cons a b => exact .cons (dp_mono k d _ a) (dpAll_mono k ds _ b)
end
theorem dp_show {K : PySem.W.Frag} {A : List Addr} {H : Hp} {d : PyData} {v : V} (h : Dp K (hide A H) v d) : Dp K H v d := dp_mono (fun _ _ _ e => (hide_some e).1) d v h
structure Kx (T : Addr) (A : List Addr) (H H' : Hp) : Prop where
  t0 : GxR.TabG H T
  tab : GxR.TabG H' T
  keep : ∀ b o, b ≠ T → b ∉ A → H b = some o → H' b = some o
theorem Kx.of {T : Addr} {A : List Addr} {H H' : Hp} (k : Kp T H H') : Kx T A H H' := ⟨k.t0, k.tab, fun b o n _ e => k.keep b o n e⟩
theorem Kx.refl {T : Addr} {A : List Addr} {H : Hp} (t : GxR.TabG H T) : Kx T A H H := ⟨t, t, fun _ _ _ _ e => e⟩
theorem Kx.trans {T : Addr} {A : List Addr} {H H1 H2 : Hp} (a : Kx T A H H1) (b : Kx T A H1 H2) : Kx T A H H2 := ⟨a.t0, b.tab, fun c o n m e => b.keep c o n m (a.keep c o n m e)⟩
theorem Kx.mono {T : Addr} {A B : List Addr} {H H' : Hp} (k : Kx T A H H') (h : ∀ a ∈ A, a ∈ B) : Kx T B H H' := ⟨k.t0, k.tab, fun b o n m e => k.keep b o n (fun z => m (h b z)) e⟩
theorem tab_upd {T a : Addr} {H : Hp} {o : HO} (t : GxR.TabG H T) (n : a ≠ T) : GxR.TabG (upd H a o) T := by
  obtain ⟨ps, h, q⟩ := t
  exact ⟨ps, by rw [upd_ne n.symm]; exact h, q⟩
theorem Kx.upd {T a : Addr} {A : List Addr} {H : Hp} {o : HO} (t : GxR.TabG H T) (n : a ≠ T) (m : a ∈ A) : Kx T A H (upd H a o) := by
  refine ⟨t, tab_upd t n, fun b u _ hb e => ?_⟩
  rw [upd_ne (fun z => hb (by rw [z]; exact m))]
  exact e
theorem Kx.free {T p : Addr} {A : List Addr} {H H1 : Hp} (k : Kx T A H H1) (hA : p ∉ A) (np : H1 p = none) : H p = none := by
  cases q : H p with
  | none => rfl
  | some o =>
    have z := k.keep p o (tab_nn k.tab np) hA q
    rw [np] at z
    cases z
theorem isSeq_ne_tab {T b : Addr} {H : Hp} {o : HO} (t : GxR.TabG H T) (hs : isSeqO o = true) (e : H b = some o) : b ≠ T := tab_ne t e fun ps z => by
  rw [z] at hs
  cases hs
/-- data outside A stand where what changes is a dict or hidden -/
theorem Kx.dpA {K : PySem.W.Frag} {T : Addr} {A F : List Addr} {H H' : Hp} (k : Kx T F H H') (hF : ∀ f ∈ F, f ∈ A ∨ ∃ kvs, H f = some (.dK kvs)) {v : V} {d : PyData} (h : Dp K (hide A H) v d) : Dp K (hide A H') v d :=
  dp_mono (fun b o hs e => by
    obtain ⟨e1, e2⟩ := hide_some e
    refine hide_of (k.keep b o (isSeq_ne_tab k.t0 hs e1) (fun z => ?_) e1) e2
    rcases hF b z with z | ⟨kvs, z⟩
    · exact e2 z
    · rw [z] at e1
      cases e1
      cases hs) d v h

theorem hide_upd {A : List Addr} {H : Hp} {a : Addr} {o : HO} (h : a ∈ A) : hide A (upd H a o) = hide A H := by
  funext b
  unfold hide
  by_cases hb : b ∈ A
  · rw [if_pos hb, if_pos hb]
  · rw [if_neg hb, if_neg hb, upd_ne (fun z => hb (by rw [z]; exact h))]
theorem Kx.dropNew {T n : Addr} {H H1 H2 : Hp} (nn : H n = none) (k1 : Kp T H H1) (k : Kx T [n] H1 H2) : Kp T H H2 := ⟨k1.t0, k.tab, fun b o hb e => k.keep b o hb (fun z => by
  rw [List.mem_singleton.mp z, nn] at e
  cases e) (k1.keep b o hb e)⟩
theorem dp_more {K : PySem.W.Frag} {A : List Addr} {H : Hp} {n : Addr} (nn : H n = none) {v : V} {d : PyData} (h : Dp K (hide A H) v d) : Dp K (hide (n :: A) H) v d := dp_mono (fun b o _ e => by
  obtain ⟨e1, e2⟩ := hide_some e
  refine hide_of e1 fun z => ?_
  rcases List.mem_cons.mp z with z | z
  · rw [z, nn] at e1; cases e1
  · exact e2 z) d v h
theorem dp_less {K : PySem.W.Frag} {A : List Addr} {H : Hp} {n : Addr} {v : V} {d : PyData} (h : Dp K (hide (n :: A) H) v d) : Dp K (hide A H) v d := dp_mono (fun b o _ e => by
  obtain ⟨e1, e2⟩ := hide_some e
  exact hide_of e1 fun z => e2 (List.mem_cons_of_mem _ z)) d v h
theorem sqt_kx {K : PySem.W.Frag} {T a : Addr} {A F : List Addr} {H H' : Hp} {xs : List V} (k : Kx T F H H') (hF : ∀ f ∈ F, f ∈ A ∨ ∃ kvs, H f = some (.dK kvs)) (h : SqT K (hide A H) a xs) : SqT K (hide A H') a xs := by
  have st : ∀ o, isSeqO o = true → hide A H a = some o → hide A H' a = some o := fun o hs e => by
    obtain ⟨e1, e2⟩ := hide_some e
    refine hide_of (k.keep a o (isSeq_ne_tab k.t0 hs e1) (fun z => ?_) e1) e2
    rcases hF a z with z | ⟨kvs, z⟩
    · exact e2 z
    · rw [z] at e1
      cases e1
      cases hs
  rcases h with (h | ⟨o, h⟩) | h
  · exact .inl (.inl (st _ rfl h))
  · exact .inl (.inr ⟨o, st _ rfl h⟩)
  · exact .inr h
theorem sqt_show {K : PySem.W.Frag} {A : List Addr} {H : Hp} {a : Addr} {xs : List V} (h : SqT K (hide A H) a xs) : SqT K H a xs := by
  rcases h with (h | ⟨o, h⟩) | h
  · exact .inl (.inl (hide_some h).1)
  · exact .inl (.inr ⟨o, (hide_some h).1⟩)
  · exact .inr h
theorem sqt_less {K : PySem.W.Frag} {A : List Addr} {H : Hp} {n a : Addr} {xs : List V} (h : SqT K (hide (n :: A) H) a xs) : SqT K (hide A H) a xs := by
  have st : ∀ o, hide (n :: A) H a = some o → hide A H a = some o := fun o e => by
    obtain ⟨e1, e2⟩ := hide_some e
    exact hide_of e1 fun z => e2 (List.mem_cons_of_mem _ z)
  rcases h with (h | ⟨o, h⟩) | h
  · exact .inl (.inl (st _ h))
  · exact .inl (.inr ⟨o, st _ h⟩)
  · exact .inr h
/-- a pair of two lists that hold the same data -/
def Told (K : PySem.W.Frag) (A : List Addr) (H : Hp) (v : V) : Prop := ∃ (t f u : Addr) (ds : List PyData), v = .ref t ∧ SqT K (hide A H) t [.ref f, .ref u] ∧ Dp K (hide A H) (.ref f) (.list ds) ∧ Dp K (hide A H) (.ref u) (.list ds) ∧
  SeqAt.shaped (.list ds) = true ∧ (∀ d ∈ ds, isBoolD d = false) ∧ ds.length ≤ 1000
theorem Told.kept {K : PySem.W.Frag} {T : Addr} {A F : List Addr} {H H' : Hp} {v : V} (h : Told K A H v) (k : Kx T F H H') (hF : ∀ f ∈ F, f ∈ A ∨ ∃ kvs, H f = some (.dK kvs)) : Told K A H' v := by
  obtain ⟨t, f, u, ds, e, h1, h2, h3, h4⟩ := h
  exact ⟨t, f, u, ds, e, sqt_kx k hF h1, k.dpA hF h2, k.dpA hF h3, h4⟩
theorem Told.keptP {K : PySem.W.Frag} {T : Addr} {A : List Addr} {H H' : Hp} {v : V} (h : Told K A H v) (k : Kp T H H') : Told K A H' v := h.kept (F := []) (.of k) fun f hf => by cases hf
theorem Told.less {K : PySem.W.Frag} {A : List Addr} {H : Hp} {n : Addr} {v : V} (h : Told K (n :: A) H v) : Told K A H v := by
  obtain ⟨t, f, u, ds, e, h1, h2, h3, h4⟩ := h
  exact ⟨t, f, u, ds, e, sqt_less h1, dp_less h2, dp_less h3, h4⟩
theorem small5000 {n : Nat} (h : n ≤ 5000) : n < sizeLine := Nat.lt_of_le_of_lt h (by decide)
/-! ### sorted texts and numbers -/
def leS (a b : Str) : Prop := ¬ (b.cps.toList < a.cps.toList)
theorem leS_trans {a b c : Str} (h1 : leS a b) (h2 : leS b c) : leS a c := by
  have z1 : a.cps.toList ≤ b.cps.toList := List.not_lt.mp h1
  have z2 : b.cps.toList ≤ c.cps.toList := List.not_lt.mp h2
  exact List.not_lt.mpr (List.le_trans z1 z2)
theorem leS_anti {a b : Str} (h1 : leS a b) (h2 : leS b a) : a = b := by
  have z1 : a.cps.toList ≤ b.cps.toList := List.not_lt.mp h1
  have z2 : b.cps.toList ≤ a.cps.toList := List.not_lt.mp h2
  have e := List.le_antisymm z1 z2
  cases a with
  | mk x =>
    cases b with
    | mk y =>
      have e2 : x = y := Array.toList_inj.mp e
      rw [e2]
theorem rising_pw : ∀ (l : List Str) (p : Str), risingS p l = true → (p :: l).Pairwise leS
  | [], p, _ => List.pairwise_cons.mpr ⟨fun _ h => (by cases h), List.Pairwise.nil⟩
  | x :: r, p, h => by
    have h' : (!ltCps x.cps.toList p.cps.toList && risingS x r) = true := h
    rw [Bool.and_eq_true, Bool.not_eq_true', ltCps_eq] at h'
    have h1 : leS p x := of_decide_eq_false h'.1
    have ih := rising_pw r x h'.2
    refine List.pairwise_cons.mpr ⟨fun y hy => ?_, ih⟩
    rcases List.mem_cons.mp hy with hy | hy
    · rw [hy]; exact h1
    · exact leS_trans h1 ((List.pairwise_cons.mp ih).1 y hy)
theorem sorted_pw : ∀ l : List Str, sortedS l = true → l.Pairwise leS
  | [], _ => List.Pairwise.nil
  | x :: r, h => rising_pw r x h
theorem sorted_same {a b : List Str} (hp : a.Perm b) (ha : sortedS a = true) (hb : sortedS b = true) : a = b :=
  List.Perm.eq_of_pairwise (fun x y _ _ h1 h2 => leS_anti h1 h2) (sorted_pw a ha) (sorted_pw b hb) hp
theorem ints_same {a b : List Int} (hp : a.Perm b) (ha : a.Pairwise (· ≤ ·)) (hb : b.Pairwise (· ≤ ·)) : a = b :=
  List.Perm.eq_of_pairwise (fun x y _ _ h1 h2 => Int.le_antisymm h1 h2) ha hb hp
/-! ### shelves: a dict of dicts of lists -/
structure Shelf where
  ware : Str
  at_ : Addr
  ents : List (Int × Addr × List PyData)
def entK (e : Int × Addr × List PyData) : Key × V := (Sum.inl e.1, V.ref e.2.1)
def keyW (s : Shelf) : Key × V := (Sum.inr s.ware, V.ref s.at_)
def look (st : List Shelf) (w : Str) : Option Shelf := st.find? fun s => decide (s.ware = w)
def lookE (es : List (Int × Addr × List PyData)) (m : Int) : Option (Int × Addr × List PyData) := es.find? fun e => decide (e.1 = m)
def entD (e : Int × Addr × List PyData) : Int × List PyData := (e.1, e.2.2)
def dataOf (st : List Shelf) (w : Str) : List (Int × List PyData) := ((look st w).map fun s => s.ents.map entD).getD []
theorem look_val (w : Str) : ∀ st : List Shelf, valV (st.map keyW) (Sum.inr w : Key) = (look st w).map fun s => V.ref s.at_
  | [] => rfl
  | s :: r => by
    have ih := look_val w r
    by_cases h : s.ware = w
    · rw [List.map_cons, valV_pos (p := keyW s) (by show (Sum.inr s.ware : Key) = Sum.inr w; rw [h])]
      unfold look
      rw [List.find?_cons, decide_eq_true h]
      rfl
    · rw [List.map_cons, valV_neg (p := keyW s) (fun z => h (Sum.inr.inj z)), ih]
      unfold look
      rw [List.find?_cons, decide_eq_false h]
theorem lookE_val (m : Int) : ∀ es : List (Int × Addr × List PyData), valV (es.map entK) (Sum.inl m : Key) = (lookE es m).map fun e => V.ref e.2.1
  | [] => rfl
  | e :: r => by
    have ih := lookE_val m r
    by_cases h : e.1 = m
    · rw [List.map_cons, valV_pos (p := entK e) (by show (Sum.inl e.1 : Key) = Sum.inl m; rw [h])]
      unfold lookE
      rw [List.find?_cons, decide_eq_true h]
      rfl
    · rw [List.map_cons, valV_neg (p := entK e) (fun z => h (Sum.inl.inj z)), ih]
      unfold lookE
      rw [List.find?_cons, decide_eq_false h]
theorem look_mem {st : List Shelf} {w : Str} {s : Shelf} (h : look st w = some s) : s ∈ st ∧ s.ware = w := ⟨List.mem_of_find?_eq_some h, of_decide_eq_true (List.find?_some (p := fun s : Shelf => decide (s.ware = w)) h)⟩
theorem look_none {st : List Shelf} {w : Str} (h : look st w = none) : ∀ s ∈ st, s.ware ≠ w := fun s hs z => by
  have := List.find?_eq_none.mp h s hs
  exact this (decide_eq_true z)
theorem look_of {w : Str} {s : Shelf} : ∀ {st : List Shelf}, (st.map (·.ware)).Nodup → s ∈ st → s.ware = w → look st w = some s
  | [], _, h, _ => by cases h
  | a :: r, nd, h, e => by
    rw [List.map_cons, List.nodup_cons] at nd
    unfold look
    rw [List.find?_cons]
    by_cases ha : a.ware = w
    · rw [decide_eq_true ha]
      rcases List.mem_cons.mp h with rfl | h
      · rfl
      · exact absurd (List.mem_map.mpr ⟨s, h, by rw [e, ha]⟩) nd.1
    · rw [decide_eq_false ha]
      rcases List.mem_cons.mp h with rfl | h
      · exact absurd e ha
      · exact look_of nd.2 h e
theorem lookE_mem {es : List (Int × Addr × List PyData)} {m : Int} {e : Int × Addr × List PyData} (h : lookE es m = some e) : e ∈ es ∧ e.1 = m := ⟨List.mem_of_find?_eq_some h, of_decide_eq_true (List.find?_some (p := fun e : Int × Addr × List PyData => decide (e.1 = m)) h)⟩
theorem lookE_none {es : List (Int × Addr × List PyData)} {m : Int} (h : lookE es m = none) : ∀ e ∈ es, e.1 ≠ m := fun e he z => by
  have := List.find?_eq_none.mp h e he
  exact this (decide_eq_true z)
theorem lookE_of {e : Int × Addr × List PyData} : ∀ {es : List (Int × Addr × List PyData)}, (es.map (·.1)).Nodup → e ∈ es → lookE es e.1 = some e
  | [], _, h => by cases h
  | a :: r, nd, h => by
    rw [List.map_cons, List.nodup_cons] at nd
    unfold lookE
    rw [List.find?_cons]
    by_cases ha : a.1 = e.1
    · rw [decide_eq_true ha]
      rcases List.mem_cons.mp h with h | h
      · rw [h]
      · exact absurd (List.mem_map.mpr ⟨e, h, ha.symm⟩) nd.1
    · rw [decide_eq_false ha]
      rcases List.mem_cons.mp h with h | h
      · exact absurd (by rw [h]) ha
      · exact lookE_of nd.2 h
theorem rep_sub (b : Bool) (xs : List V) : (∀ v ∈ (List.replicate (if b = true then (1 : Int) else 0).toNat xs).flatten, v ∈ xs) ∧ (List.replicate (if b = true then (1 : Int) else 0).toNat xs).flatten.length ≤ xs.length := by
  cases b with
  | true =>
    have e : (List.replicate (if true = true then (1 : Int) else 0).toNat xs).flatten = xs := by
      show (List.replicate 1 xs).flatten = xs
      simp
    rw [e]
    exact ⟨fun v h => h, Nat.le_refl _⟩
  | false =>
    have e : (List.replicate (if false = true then (1 : Int) else 0).toNat xs).flatten = [] := by
      show (List.replicate 0 xs).flatten = []
      simp
    rw [e]
    exact ⟨fun v h => (by cases h), Nat.zero_le _⟩
structure ShelfOk (K : PySem.W.Frag) (A : List Addr) (H : Hp) (s : Shelf) : Prop where
  dc : H s.at_ = some (.dK (s.ents.map entK))
  dp : ∀ e ∈ s.ents, Dp K (hide A H) (.ref e.2.1) (.list e.2.2)
  nd : (s.ents.map (·.1)).Nodup
structure BoxOk (K : PySem.W.Frag) (A : List Addr) (H : Hp) (D : Addr) (st : List Shelf) : Prop where
  dc : H D = some (.dK (st.map keyW))
  sh : ∀ s ∈ st, ShelfOk K A H s
  nd : (st.map (·.ware)).Nodup
  na : (D :: st.map (·.at_)).Nodup
def foot (D : Addr) (st : List Shelf) : List Addr := D :: st.map (·.at_)
theorem BoxOk.foot_dict {K : PySem.W.Frag} {A : List Addr} {H : Hp} {D : Addr} {st : List Shelf} (B : BoxOk K A H D st) : ∀ f ∈ foot D st, ∃ kvs, H f = some (.dK kvs) := fun f hf => by
  rcases List.mem_cons.mp hf with rfl | hf
  · exact ⟨_, B.dc⟩
  · obtain ⟨s, hs, rfl⟩ := List.mem_map.mp hf
    exact ⟨_, (B.sh s hs).dc⟩
theorem BoxOk.foot_ne {K : PySem.W.Frag} {A : List Addr} {H : Hp} {D T : Addr} {st : List Shelf} (B : BoxOk K A H D st) (t : GxR.TabG H T) : ∀ f ∈ foot D st, f ≠ T := fun f hf => by
  obtain ⟨kvs, e⟩ := B.foot_dict f hf
  exact tab_ne t e fun _ z => by cases z
/-- a box stands where what changes lies elsewhere -/
theorem BoxOk.kept {K : PySem.W.Frag} {A F : List Addr} {H H' : Hp} {D T : Addr} {st : List Shelf} (B : BoxOk K A H D st) (k : Kx T F H H') (hF : ∀ f ∈ F, f ∈ A ∨ ∃ kvs, H f = some (.dK kvs)) (dj : ∀ f ∈ foot D st, f ∉ F) : BoxOk K A H' D st := by
  have kd : ∀ f ∈ foot D st, ∀ o, H f = some o → H' f = some o := fun f hf o e => k.keep f o (B.foot_ne k.t0 f hf) (dj f hf) e
  refine ⟨kd D (List.mem_cons_self ..) _ B.dc, fun s hs => ?_, B.nd, B.na⟩
  have S := B.sh s hs
  exact ⟨kd _ (List.mem_cons_of_mem _ (List.mem_map.mpr ⟨s, hs, rfl⟩)) _ S.dc, fun e he => k.dpA hF (S.dp e he), S.nd⟩
theorem BoxOk.keptP {K : PySem.W.Frag} {A : List Addr} {H H' : Hp} {D T : Addr} {st : List Shelf} (B : BoxOk K A H D st) (k : Kp T H H') : BoxOk K A H' D st :=
  B.kept (F := []) (.of k) (fun f hf => by cases hf) (fun f _ hf => by cases hf)
/-- more is hidden: what was not there then -/
theorem BoxOk.hideMore {K : PySem.W.Frag} {A B' : List Addr} {H : Hp} {D : Addr} {st : List Shelf} (B : BoxOk K A H D st) (h : ∀ s ∈ st, ∀ e ∈ s.ents, ∀ d, Dp K (hide A H) (.ref e.2.1) d → Dp K (hide B' H) (.ref e.2.1) d) : BoxOk K B' H D st :=
  ⟨B.dc, fun s hs => ⟨(B.sh s hs).dc, fun e he => h s hs e he _ ((B.sh s hs).dp e he), (B.sh s hs).nd⟩, B.nd, B.na⟩

/-! ### the four changes -/
def setE (st : List Shelf) (w : Str) (es : List (Int × Addr × List PyData)) : List Shelf := st.map fun s => if s.ware = w then { s with ents := es } else s
theorem setE_keys (w : Str) (es : List (Int × Addr × List PyData)) (st : List Shelf) : (setE st w es).map keyW = st.map keyW := by
  unfold setE
  rw [List.map_map]
  refine List.map_congr_left fun s _ => ?_
  show keyW (if s.ware = w then _ else s) = keyW s
  split <;> rfl
theorem setE_wares (w : Str) (es : List (Int × Addr × List PyData)) (st : List Shelf) : (setE st w es).map (·.ware) = st.map (·.ware) := by
  unfold setE
  rw [List.map_map]
  refine List.map_congr_left fun s _ => ?_
  show (if s.ware = w then _ else s : Shelf).ware = s.ware
  split <;> rfl
theorem setE_ats (w : Str) (es : List (Int × Addr × List PyData)) (st : List Shelf) : (setE st w es).map (·.at_) = st.map (·.at_) := by
  unfold setE
  rw [List.map_map]
  refine List.map_congr_left fun s _ => ?_
  show (if s.ware = w then _ else s : Shelf).at_ = s.at_
  split <;> rfl
theorem setE_len (w : Str) (es : List (Int × Addr × List PyData)) (st : List Shelf) : (setE st w es).length = st.length := by
  unfold setE
  rw [List.length_map]
theorem setE_mem {w : Str} {es : List (Int × Addr × List PyData)} {st : List Shelf} {x : Shelf} (h : x ∈ setE st w es) : (∃ s ∈ st, s.ware = w ∧ x = { s with ents := es }) ∨ (x ∈ st ∧ x.ware ≠ w) := by
  obtain ⟨s, hs, rfl⟩ := List.mem_map.mp h
  by_cases hw : s.ware = w
  · exact .inl ⟨s, hs, hw, by rw [if_pos hw]⟩
  · exact .inr ⟨by rw [if_neg hw]; exact hs, by rw [if_neg hw]; exact hw⟩
theorem setE_look {w : Str} {es : List (Int × Addr × List PyData)} (v : Str) : ∀ {st : List Shelf}, look (setE st w es) v = (look st v).map fun s => if v = w then { s with ents := es } else s
  | [] => rfl
  | s :: r => by
    have ih := setE_look (w := w) (es := es) v (st := r)
    show look ((if s.ware = w then { s with ents := es } else s) :: setE r w es) v = _
    unfold look
    rw [List.find?_cons, List.find?_cons]
    have ew : ((if s.ware = w then { s with ents := es } else s : Shelf)).ware = s.ware := by split <;> rfl
    by_cases h : s.ware = v
    · rw [decide_eq_true (by rw [ew]; exact h), decide_eq_true h]
      show some _ = some _
      show some (if s.ware = w then _ else _) = some (if v = w then _ else _)
      simp only [h]
    · rw [decide_eq_false (by rw [ew]; exact h), decide_eq_false h]
      exact ih
theorem setE_data {st : List Shelf} {w : Str} {es : List (Int × Addr × List PyData)} {s : Shelf} (h : look st w = some s) (v : Str) : dataOf (setE st w es) v = if v = w then es.map entD else dataOf st v := by
  unfold dataOf
  rw [setE_look]
  by_cases e : v = w
  · rw [if_pos e, e, h, Option.map_some, Option.map_some, if_pos rfl]
    rfl
  · rw [if_neg e]
    cases look st v with
    | none => rfl
    | some z => rw [Option.map_some, Option.map_some, if_neg e]; rfl
theorem at_inj : ∀ {l : List Shelf} {a b : Shelf}, (l.map (·.at_)).Nodup → a ∈ l → b ∈ l → a.at_ = b.at_ → a = b
  | [], _, _, _, ha, _, _ => by cases ha
  | y :: r, a, b, hn, ha, hb, hab => by
    rw [List.map_cons, List.nodup_cons] at hn
    rcases List.mem_cons.mp ha with ha | ha
    · rcases List.mem_cons.mp hb with hb | hb
      · rw [ha, hb]
      · refine absurd (List.mem_map.mpr ⟨b, hb, ?_⟩) hn.1
        rw [← hab, ha]
    · rcases List.mem_cons.mp hb with hb | hb
      · refine absurd (List.mem_map.mpr ⟨a, ha, ?_⟩) hn.1
        rw [hab, hb]
      · exact at_inj hn.2 ha hb hab
/-- the shelf s of the box is given other entries -/
theorem BoxOk.set {K : PySem.W.Frag} {A : List Addr} {H : Hp} {D T : Addr} {st : List Shelf} {w : Str} {s : Shelf} {es : List (Int × Addr × List PyData)} (B : BoxOk K A H D st) (t : GxR.TabG H T) (h : look st w = some s)
    (dp : ∀ e ∈ es, Dp K (hide A H) (.ref e.2.1) (.list e.2.2)) (nd : (es.map (·.1)).Nodup) : BoxOk K A (upd H s.at_ (.dK (es.map entK))) D (setE st w es) ∧ Kx T (foot D st) H (upd H s.at_ (.dK (es.map entK))) := by
  obtain ⟨hs, hw⟩ := look_mem h
  have hf : s.at_ ∈ foot D st := List.mem_cons_of_mem _ (List.mem_map.mpr ⟨s, hs, rfl⟩)
  have k : Kx T [s.at_] H (L2.upd H s.at_ (.dK (es.map entK))) := Kx.upd t (B.foot_ne t _ hf) (List.mem_singleton.mpr rfl)
  have hF : ∀ f ∈ [s.at_], f ∈ A ∨ ∃ kvs, H f = some (.dK kvs) := fun f z => .inr (by rw [List.mem_singleton.mp z]; exact ⟨_, (B.sh s hs).dc⟩)
  have na := B.na
  rw [List.nodup_cons] at na
  refine ⟨⟨?_, fun x hx => ?_, by rw [setE_wares]; exact B.nd, by rw [setE_ats]; exact B.na⟩, Kx.upd t (B.foot_ne t _ hf) hf⟩
  · rw [upd_ne (fun z => na.1 (by rw [z]; exact List.mem_map.mpr ⟨s, hs, rfl⟩)), setE_keys]
    exact B.dc
  · rcases setE_mem hx with ⟨s', hs', hw', rfl⟩ | ⟨hx, hne⟩
    · have e : s' = s := by
        have a := look_of B.nd hs' hw'
        rw [h] at a
        exact (Option.some.inj a).symm
      subst e
      exact ⟨upd_same, fun e he => k.dpA hF (dp e he), nd⟩
    · have S := B.sh x hx
      refine ⟨?_, fun e he => k.dpA hF (S.dp e he), S.nd⟩
      rw [upd_ne (fun z => ?_)]
      · exact S.dc
      · have q := at_inj na.2 hx hs z
        rw [q] at hne
        exact hne hw
/-- a new, empty shelf -/
theorem BoxOk.new {K : PySem.W.Frag} {A : List Addr} {H : Hp} {D T a : Addr} {st : List Shelf} {w : Str} (B : BoxOk K A H D st) (t : GxR.TabG H T) (h : look st w = none) (ha : H a = none) :
    BoxOk K A (upd (upd H a (.dK [])) D (.dK (putK (st.map keyW) (Sum.inr w) (.ref a)))) D (st ++ [⟨w, a, []⟩]) ∧ Kx T (foot D st) H (upd (upd H a (.dK [])) D (.dK (putK (st.map keyW) (Sum.inr w) (.ref a)))) := by
  have hD : D ∈ foot D st := List.mem_cons_self ..
  have na := B.na
  rw [List.nodup_cons] at na
  have naF : ∀ f ∈ foot D st, f ≠ a := fun f hf z => by
    obtain ⟨kvs, e⟩ := B.foot_dict f hf
    rw [z, ha] at e
    cases e
  have k : Kx T (foot D st) H (L2.upd (L2.upd H a (.dK [])) D (.dK (putK (st.map keyW) (Sum.inr w) (.ref a)))) := by
    refine ⟨t, tab_upd (tab_upd t (tab_nn t ha)) (B.foot_ne t D hD), fun b o _ hb e => ?_⟩
    rw [upd_ne (fun z => hb (by rw [z]; exact hD)), upd_ne (ne_of_none e ha)]
    exact e
  have eput : putK (st.map keyW) (Sum.inr w : Key) (.ref a) = (st ++ [(⟨w, a, []⟩ : Shelf)]).map keyW := by
    rw [putK_new _ (by rw [look_val, h]; rfl), List.map_append]
    rfl
  refine ⟨⟨?_, fun x hx => ?_, ?_, ?_⟩, k⟩
  · rw [upd_same, eput]
  · have kd : ∀ f, f ≠ D → f ≠ a → L2.upd (L2.upd H a (.dK [])) D (.dK (putK (st.map keyW) (Sum.inr w) (.ref a))) f = H f := fun f h1 h2 => by rw [upd_ne h1, upd_ne h2]
    rcases List.mem_append.mp hx with hx | hx
    · have S := B.sh x hx
      have xm : x.at_ ∈ st.map (·.at_) := List.mem_map.mpr ⟨x, hx, rfl⟩
      refine ⟨?_, fun e he => k.dpA (fun f hf => .inr (B.foot_dict f hf)) (S.dp e he), S.nd⟩
      rw [kd _ (fun z => na.1 (by rw [← z]; exact xm)) (naF _ (List.mem_cons_of_mem _ xm))]
      exact S.dc
    · rw [List.mem_singleton.mp hx]
      refine ⟨?_, fun e he => (by cases he), List.nodup_nil⟩
      show L2.upd (L2.upd H a (.dK [])) D _ a = _
      rw [upd_ne (naF D hD).symm, upd_same]
      rfl
  · rw [List.map_append, List.nodup_append]
    refine ⟨B.nd, List.nodup_cons.mpr ⟨List.not_mem_nil, List.nodup_nil⟩, fun x hx y hy => ?_⟩
    obtain ⟨s, hs, rfl⟩ := List.mem_map.mp hx
    rw [List.map_singleton] at hy
    rw [List.mem_singleton.mp hy]
    exact look_none h s hs
  · show (D :: (st ++ [(⟨w, a, []⟩ : Shelf)]).map (fun x => x.at_)).Nodup
    rw [List.map_append, List.map_singleton, ← List.cons_append, List.nodup_append]
    refine ⟨B.na, List.nodup_cons.mpr ⟨List.not_mem_nil, List.nodup_nil⟩, fun x hx y hy => ?_⟩
    rw [List.mem_singleton.mp hy]
    exact naF x hx
theorem look_app {st : List Shelf} {w : Str} {a : Addr} (h : look st w = none) (v : Str) : look (st ++ [⟨w, a, []⟩]) v = if v = w then some ⟨w, a, []⟩ else look st v := by
  unfold look at h ⊢
  rw [List.find?_append, List.find?_cons, List.find?_nil]
  by_cases e : v = w
  · rw [if_pos e, e, h, decide_eq_true rfl]
    rfl
  · rw [if_neg e, decide_eq_false (fun z => e z.symm)]
    cases List.find? (fun s : Shelf => decide (s.ware = v)) st <;> rfl
theorem data_app {st : List Shelf} {w : Str} {a : Addr} (h : look st w = none) (v : Str) : dataOf (st ++ [⟨w, a, []⟩]) v = dataOf st v := by
  unfold dataOf
  rw [look_app h]
  by_cases e : v = w
  · rw [if_pos e, e, h]
    rfl
  · rw [if_neg e]
/-- a shelf leaves the box -/
def delS (st : List Shelf) (w : Str) : List Shelf := st.filter fun s => decide (s.ware ≠ w)
theorem delS_keys (w : Str) : ∀ st : List Shelf, (delS st w).map keyW = dropK (st.map keyW) (Sum.inr w : Key)
  | [] => rfl
  | s :: r => by
    have ih := delS_keys w r
    unfold delS dropK at ih ⊢
    rw [List.map_cons, List.filter_cons, List.filter_cons]
    by_cases h : s.ware = w
    · have h2 : (keyW s).1 = (Sum.inr w : Key) := by show (Sum.inr s.ware : Key) = _; rw [h]
      rw [if_neg (by rw [decide_eq_false (fun z => z h)]; exact Bool.false_ne_true), if_neg (by rw [decide_eq_false (fun z => z h2)]; exact Bool.false_ne_true)]
      exact ih
    · have h2 : (keyW s).1 ≠ (Sum.inr w : Key) := fun z => h (Sum.inr.inj z)
      rw [if_pos (decide_eq_true h), if_pos (decide_eq_true h2), List.map_cons, ih]
theorem delS_mem {st : List Shelf} {w : Str} {x : Shelf} (h : x ∈ delS st w) : x ∈ st ∧ x.ware ≠ w := ⟨(List.mem_filter.mp h).1, of_decide_eq_true (List.mem_filter.mp h).2⟩
theorem delS_look {w : Str} (v : Str) : ∀ {st : List Shelf}, look (delS st w) v = if v = w then none else look st v
  | [] => by unfold delS look; simp
  | s :: r => by
    have ih := delS_look (w := w) v (st := r)
    unfold delS look at ih ⊢
    rw [List.filter_cons]
    by_cases h : s.ware = w
    · rw [if_neg (by rw [decide_eq_false (fun z => z h)]; exact Bool.false_ne_true), ih, List.find?_cons]
      by_cases e : v = w
      · rw [if_pos e, if_pos e]
      · rw [if_neg e, if_neg e, decide_eq_false (fun z => e (by rw [← z, h]))]
    · rw [if_pos (decide_eq_true h), List.find?_cons, List.find?_cons]
      by_cases e : s.ware = v
      · rw [decide_eq_true e, if_neg (fun z => h (by rw [e, z]))]
      · rw [decide_eq_false e]
        exact ih
theorem delS_data {st : List Shelf} {w : Str} (v : Str) : dataOf (delS st w) v = if v = w then [] else dataOf st v := by
  unfold dataOf
  rw [delS_look]
  by_cases e : v = w
  · rw [if_pos e, if_pos e]
    rfl
  · rw [if_neg e, if_neg e]
theorem BoxOk.del {K : PySem.W.Frag} {A : List Addr} {H : Hp} {D T : Addr} {st : List Shelf} {w : Str} (B : BoxOk K A H D st) (t : GxR.TabG H T) :
    BoxOk K A (upd H D (.dK (dropK (st.map keyW) (Sum.inr w)))) D (delS st w) ∧ Kx T (foot D st) H (upd H D (.dK (dropK (st.map keyW) (Sum.inr w)))) := by
  have hD : D ∈ foot D st := List.mem_cons_self ..
  have na := B.na
  rw [List.nodup_cons] at na
  have k : Kx T (foot D st) H (L2.upd H D (.dK (dropK (st.map keyW) (Sum.inr w)))) := Kx.upd t (B.foot_ne t D hD) hD
  have sub : ∀ {α : Type} (f : Shelf → α), ((delS st w).map f).Sublist (st.map f) := fun f => List.Sublist.map f List.filter_sublist
  refine ⟨⟨by rw [upd_same, delS_keys], fun x hx => ?_, (sub _).nodup B.nd, List.nodup_cons.mpr ⟨fun z => na.1 ((sub _).subset z), (sub _).nodup na.2⟩⟩, k⟩
  obtain ⟨hx, _⟩ := delS_mem hx
  have S := B.sh x hx
  refine ⟨?_, fun e he => k.dpA (fun f hf => .inr (B.foot_dict f hf)) (S.dp e he), S.nd⟩
  rw [upd_ne (fun z => na.1 (by rw [← z]; exact List.mem_map.mpr ⟨x, hx, rfl⟩))]
  exact S.dc
/-- entries put, dropped -/
theorem ent_put {es : List (Int × Addr × List PyData)} {m : Int} {l : Addr} {ds : List PyData} (h : lookE es m = none) : putK (es.map entK) (Sum.inl m : Key) (.ref l) = (es ++ [(m, l, ds)]).map entK := by
  rw [putK_new _ (by rw [lookE_val, h]; rfl), List.map_append]
  rfl
def dropE (es : List (Int × Addr × List PyData)) (m : Int) : List (Int × Addr × List PyData) := es.filter fun e => decide (e.1 ≠ m)
theorem ent_drop (m : Int) : ∀ es : List (Int × Addr × List PyData), dropK (es.map entK) (Sum.inl m : Key) = (dropE es m).map entK
  | [] => rfl
  | e :: r => by
    have ih := ent_drop m r
    unfold dropE dropK at ih ⊢
    rw [List.map_cons, List.filter_cons, List.filter_cons]
    by_cases h : e.1 = m
    · have h2 : (entK e).1 = (Sum.inl m : Key) := by show (Sum.inl e.1 : Key) = _; rw [h]
      rw [if_neg (by rw [decide_eq_false (fun z => z h2)]; exact Bool.false_ne_true), if_neg (by rw [decide_eq_false (fun z => z h)]; exact Bool.false_ne_true)]
      exact ih
    · have h2 : (entK e).1 ≠ (Sum.inl m : Key) := fun z => h (Sum.inl.inj z)
      rw [if_pos (decide_eq_true h2), if_pos (decide_eq_true h), List.map_cons, ih]
theorem drop_data (m : Int) : ∀ es : List (Int × Addr × List PyData), (dropE es m).map entD = (es.map entD).filter fun x => decide (x.1 ≠ m)
  | [] => rfl
  | e :: r => by
    have ih := drop_data m r
    unfold dropE at ih ⊢
    rw [List.map_cons, List.filter_cons, List.filter_cons]
    by_cases h : e.1 = m
    · have h2 : (entD e).1 = m := h
      rw [if_neg (by rw [decide_eq_false (fun z => z h)]; exact Bool.false_ne_true), if_neg (by rw [decide_eq_false (fun z => z h2)]; exact Bool.false_ne_true)]
      exact ih
    · have h2 : (entD e).1 ≠ m := h
      rw [if_pos (decide_eq_true h), if_pos (decide_eq_true h2), List.map_cons, ih]
theorem put_nd {es : List (Int × Addr × List PyData)} {m : Int} {l : Addr} {ds : List PyData} (h : lookE es m = none) (nd : (es.map (·.1)).Nodup) : ((es ++ [(m, l, ds)]).map (·.1)).Nodup := by
  rw [List.map_append, List.nodup_append]
  refine ⟨nd, List.nodup_cons.mpr ⟨List.not_mem_nil, List.nodup_nil⟩, fun x hx y hy => ?_⟩
  obtain ⟨e, he, rfl⟩ := List.mem_map.mp hx
  rw [List.map_singleton] at hy
  rw [List.mem_singleton.mp hy]
  exact lookE_none h e he
theorem drop_nd {es : List (Int × Addr × List PyData)} {m : Int} (nd : (es.map (·.1)).Nodup) : ((dropE es m).map (·.1)).Nodup := (List.Sublist.map _ List.filter_sublist).nodup nd

/-! ### a dict compared with {} -/
def rEqE : R2 := fun x y H Q => ∃ a b ks, x = .ref a ∧ y = .ref b ∧ H a = some (.dK ks) ∧ H b = some (.dK []) ∧ Q (.bl ks.isEmpty) H
def rNeE : R2 := fun x y H Q => ∃ a b ks, x = .ref a ∧ y = .ref b ∧ H a = some (.dK ks) ∧ H b = some (.dK []) ∧ Q (.bl (!ks.isEmpty)) H
section
variable {X : Cx}
theorem op_eqE (hu : X.A.units < cLine) : OpR X (compareOp .Eq) rEqE := by
  intro pins s σ H x y v u Q I rx ry h
  obtain ⟨a, b, ks, rfl, rfl, ea, eb, q⟩ := h
  obtain rfl : v = Value.ref a := rx
  obtain rfl : u = Value.ref b := ry
  obtain ⟨_, ya, va, ra, da⟩ := (show ObjOk X.prog X.w H s.heap a (.dK ks) from I.hok a _ ea)
  obtain ⟨_, yb, vb, rb, db⟩ := (show ObjOk X.prog X.w H s.heap b (.dK []) from I.hok b _ eb)
  have lb : vb.length = 0 := rb.length.symm
  have la : va.length = ks.length := ra.length.symm
  refine PySem.W.keq_eq (knd := mixKind X.prog X.w) (r := true) ya yb da db hu (fun e => ?_) (fin_bl I q ?_)
  · have : va = [] := List.eq_nil_of_length_eq_zero (by omega)
    rw [this]
    exact .nil
  · rw [la, lb]
    cases ks <;> rfl
theorem op_neE (hu : X.A.units < cLine) : OpR X (compareOp .NotEq) rNeE := by
  intro pins s σ H x y v u Q I rx ry h
  obtain ⟨a, b, ks, rfl, rfl, ea, eb, q⟩ := h
  obtain rfl : v = Value.ref a := rx
  obtain rfl : u = Value.ref b := ry
  obtain ⟨_, ya, va, ra, da⟩ := (show ObjOk X.prog X.w H s.heap a (.dK ks) from I.hok a _ ea)
  obtain ⟨_, yb, vb, rb, db⟩ := (show ObjOk X.prog X.w H s.heap b (.dK []) from I.hok b _ eb)
  have lb : vb.length = 0 := rb.length.symm
  have la : va.length = ks.length := ra.length.symm
  refine PySem.W.keq_ne (knd := mixKind X.prog X.w) (r := true) ya yb da db hu (fun e => ?_) (fin_bl I q ?_)
  · have : va = [] := List.eq_nil_of_length_eq_zero (by omega)
    rw [this]
    exact .nil
  · rw [la, lb]
    cases ks <;> rfl
end

/-! ### a comprehension over a locked dict's keys -/
theorem lc_keys {d : Addr} {o : Obj} {kvs : List (Key × V)} {g : TG} {tt : TT} {te : TE} {vs : List Nat} {σ : L2.St} {H1 : Hp} {D : Addr} {Qd : Hp → Prop} (Pv : Nat → Hp → Prop) (h0 : Pv 0 (upd H1 D (.lst []))) (hl : ∀ i H, i ≤ kvs.length → Pv i H → H d = some (.frz o (.dK kvs)))
    (hs : ∀ i k v H, kvs[i]? = some (k, v) → Pv i H → g (kV k) (wipe σ vs) H fun σ2 H2 => wipe σ2 vs = wipe σ vs ∧ tt σ2 H2 fun b H3 =>
      if b = true then te σ2 H3 fun y H4 => ∃ acc, H4 D = some (.lst acc) ∧ acc.length < sizeLine ∧ Pv (i + 1) (upd H4 D (.lst (acc ++ [y]))) else Pv (i + 1) H3) (hd : ∀ H, Pv kvs.length H → Qd H) :
    ∃ W : Nat → Nat → Hp → Prop, (∃ m, W 0 m (upd H1 D (.lst []))) ∧ ∀ i m H, W i m H →
      ((Itk d o kvs).stop i H ∧ Qd H) ∨ ((Itk d o kvs).go i H ∧ ∃ Nx : Hp → Prop, (∀ H', Nx H' → ∃ m', m' < m ∧ W (i + 1) m' H') ∧ ∀ x H', (Itk d o kvs).yld i H x H' → g x (wipe σ vs) H' fun σ2 H2 => wipe σ2 vs = wipe σ vs ∧ tt σ2 H2 fun b H3 =>
        if b = true then te σ2 H3 fun y H4 => ∃ acc, H4 D = some (.lst acc) ∧ acc.length < sizeLine ∧ Nx (upd H4 D (.lst (acc ++ [y]))) else Nx H3) := by
  refine ⟨fun i m H => m = kvs.length - i ∧ i ≤ kvs.length ∧ Pv i H, ⟨kvs.length, by simp, Nat.zero_le _, h0⟩, ?_⟩
  rintro i m H ⟨rfl, hi, p⟩
  have q := hl i H hi p
  by_cases hlt : i < kvs.length
  · refine .inr ⟨⟨q, hlt⟩, Pv (i + 1), fun H' p' => ⟨kvs.length - (i + 1), by omega, rfl, hlt, p'⟩, fun x H' y => ?_⟩
    obtain ⟨rfl, k, v, hk, rfl⟩ := y
    exact hs i k v _ hk p
  · have e : i = kvs.length := by omega
    subst e
    exact .inl ⟨⟨q, Nat.le_refl _⟩, hd H p⟩
def fullW (cl : List Shelf) : List Str := (cl.filter fun s => !s.ents.isEmpty).map (·.ware)
theorem fullW_le (cl : List Shelf) : (fullW cl).length ≤ cl.length := by
  unfold fullW
  rw [List.length_map]
  exact List.length_filter_le _ _
/-- the wares whose cell is not empty, in the order of the rows -/
theorem read_full {K : PySem.W.Frag} {A : List Addr} {H : Hp} {T r : Addr} {cl : List Shelf} {i j : Nat} {σ : L2.St} {Q : VK} (B : BoxOk K A H r cl) (t : GxR.TabG H T) (hj : σ[j]? = some (some (.ref r))) (hij : i ≠ j) (hi : i < σ.length) (hl : cl.length ≤ 1000)
    (q : ∀ M H', Kp T H H' → H M = none → H' M = some (.lst ((fullW cl).map V.str)) → Q (.ref M) H') :
    tLockE (tLc (iKeys (tVar j)) (gName i) (tTest (tOp rNeE (tDGet (tVar j) (tVar i)) tDNewK)) (tVar i) [i]) σ H Q := by
  have rT := B.foot_ne t r (List.mem_cons_self ..)
  have na := B.na
  rw [List.nodup_cons] at na
  refine ⟨r, _, B.dc, True.intro, fun od => ?_⟩
  have tL : GxR.TabG (upd H r (.frz od (.dK (cl.map keyW)))) T := tab_upd t rT
  have eqL : ∀ b, b ≠ r → upd H r (.frz od (.dK (cl.map keyW))) b = H b := fun b hb => upd_ne hb
  have hr : upd H r (.frz od (.dK (cl.map keyW))) r = some (.frz od (.dK (cl.map keyW))) := upd_same
  generalize upd H r (.frz od (.dK (cl.map keyW))) = HL at tL eqL hr ⊢
  refine ⟨_, hj, r, od, rfl, .inl ⟨_, hr, fun D nD => ?_⟩⟩
  have DT := tab_nn tL nD
  have Dr : D ≠ r := fun z => by rw [z, hr] at nD; cases nD
  refine lc_keys (d := r) (o := od) (kvs := cl.map keyW) (fun n H' => Kp T HL H' ∧ H' D = some (.lst ((fullW (cl.take n)).map V.str))) ⟨Kp.new tL nD, upd_same⟩
    (fun n H' _ hm => hm.1.keep r _ rT hr) (fun n k v H' hk hm => ?_) (fun H' hm => ?_)
  · obtain ⟨kk, hD⟩ := hm
    have hnl : n < cl.length := by
      have := (List.getElem?_eq_some_iff.mp hk).1
      rw [List.length_map] at this
      exact this
    rw [List.getElem?_map, List.getElem?_eq_getElem hnl] at hk
    have hk' : keyW cl[n] = (k, v) := Option.some.inj hk
    have ek : k = Sum.inr cl[n].ware := (congrArg Prod.fst hk').symm
    subst ek
    have hs := B.sh _ (List.getElem_mem hnl)
    have am : cl[n].at_ ∈ cl.map (·.at_) := List.mem_map.mpr ⟨_, List.getElem_mem hnl, rfl⟩
    have ar : cl[n].at_ ≠ r := fun z => na.1 (by rw [← z]; exact am)
    have aT := B.foot_ne t _ (List.mem_cons_of_mem _ am)
    have ha : H' cl[n].at_ = some (.dK (cl[n].ents.map entK)) := kk.keep _ _ aT (by rw [eqL _ ar]; exact hs.dc)
    have hrr : H' r = some (.frz od (.dK (cl.map keyW))) := kk.keep r _ rT hr
    have w1 : wipe σ [i] = σ.set i none := rfl
    have s2j : ((wipe σ [i]).set i (some (V.str cl[n].ware)))[j]? = some (some (.ref r)) := by rw [w1, List.set_set, List.getElem?_set_ne hij]; exact hj
    have s2i : ((wipe σ [i]).set i (some (V.str cl[n].ware)))[i]? = some (some (.str cl[n].ware)) := by rw [w1, List.set_set, List.getElem?_set_self hi]
    have elook : look cl cl[n].ware = some cl[n] := look_of B.nd (List.getElem_mem hnl) rfl
    have gD : DGet H' r (.str cl[n].ware) (some (.ref cl[n].at_)) := by
      refine .inl ⟨cl.map keyW, Sum.inr cl[n].ware, .inr ⟨od, hrr⟩, rfl, ?_⟩
      rw [look_val, elook]
      rfl
    have etake : cl.take (n + 1) = cl.take n ++ [cl[n]] := by rw [List.take_add_one, List.getElem?_eq_getElem hnl]; rfl
    refine ⟨by show wipe ((wipe σ [i]).set i _) [i] = wipe σ [i]; show ((σ.set i none).set i _).set i none = σ.set i none; rw [List.set_set, List.set_set], ?_⟩
    refine ⟨_, s2j, _, s2i, r, _, rfl, gD, fun d nd => ?_⟩
    have k2 := Kp.new (o := HO.dK []) kk.tab nd
    have ha2 : upd H' d (.dK []) cl[n].at_ = some (.dK (cl[n].ents.map entK)) := by rw [upd_ne (ne_of_none ha nd)]; exact ha
    refine ⟨cl[n].at_, d, _, rfl, rfl, ha2, upd_same, _, rfl, ?_⟩
    have hD2 := k2.lst hD
    cases he : cl[n].ents.isEmpty with
    | true =>
      have e1 : ((cl[n].ents.map entK).isEmpty) = true := by
        rw [List.isEmpty_iff] at he
        rw [he]
        rfl
      rw [e1]
      refine iteF ⟨kk.trans k2, ?_⟩
      have ef : fullW (cl.take (n + 1)) = fullW (cl.take n) := by
        unfold fullW
        rw [etake, List.filter_append, List.filter_cons, if_neg (by rw [he]; decide), List.filter_nil, List.append_nil]
      rw [ef]
      exact hD2
    | false =>
      have e1 : ((cl[n].ents.map entK).isEmpty) = false := by
        cases hz : cl[n].ents with
        | nil => rw [hz] at he; cases he
        | cons a b => rfl
      rw [e1]
      refine iteT ⟨_, s2i, _, hD2, ?_, (kk.trans k2).set nD DT, ?_⟩
      · rw [List.length_map]
        have := fullW_le (cl.take n)
        rw [List.length_take] at this
        exact small1000 (by omega)
      · have ef : fullW (cl.take (n + 1)) = fullW (cl.take n) ++ [cl[n].ware] := by
          unfold fullW
          rw [etake, List.filter_append, List.filter_cons, if_pos (by rw [he]; rfl), List.filter_nil, List.map_append]
          rfl
        rw [upd_same, ef, List.map_append]
        rfl
  · obtain ⟨kk, hD⟩ := hm
    have hrr : H' r = some (.frz od (.dK (cl.map keyW))) := kk.keep r _ rT hr
    rw [List.length_map, List.take_length] at hD
    refine ⟨hrr, q D _ ⟨t, tab_upd kk.tab rT, fun b o hb e => ?_⟩ (by rw [← eqL D Dr]; exact nD) (by rw [upd_ne Dr]; exact hD)⟩
    by_cases hbr : b = r
    · rw [hbr, upd_same, ← B.dc, ← hbr]
      exact e
    · rw [upd_ne hbr]
      exact kk.keep b o hb (by rw [eqL b hbr]; exact e)
end Pk

set_option Elab.async false
set_option linter.all false
set_option maxRecDepth 100000
set_option maxHeartbeats 4000000
namespace Pk
open PySem PySem.Spec PyProof.Rows L2
/-! ### data, or a dict: of a dict only that it is one -/
mutual
inductive Dq (K : PySem.W.Frag) (H : Hp) : V → PyData → Prop
  | non : Dq K H .non .none
  | bl (b : Bool) : Dq K H (.bl b) (.bool b)
  | int (i : Int) : Dq K H (.int i) (.int i)
  | str (x : Str) : Dq K H (.str x) (.str x)
  | lst {a : Addr} {xs : List V} {ds : List PyData} : SqL K H a xs → DqAll K H xs ds → Dq K H (.ref a) (.list ds)
  | tup {a : Addr} {xs : List V} {ds : List PyData} : SqT K H a xs → DqAll K H xs ds → Dq K H (.ref a) (.tuple ds)
  | dct {a : Addr} {kvs : List (Key × V)} : H a = some (.dK kvs) → Dq K H (.ref a) (.dict [])
inductive DqAll (K : PySem.W.Frag) (H : Hp) : List V → List PyData → Prop
  | nil : DqAll K H [] []
  | cons {v : V} {vs : List V} {d : PyData} {ds : List PyData} : Dq K H v d → DqAll K H vs ds → DqAll K H (v :: vs) (d :: ds)
end
mutual
theorem Dq.of {K : PySem.W.Frag} {H : Hp} : ∀ {d : PyData} {v : V}, Dp K H v d → Dq K H v d
  | .none, _, h => by cases h; exact .non
  | .bool b, _, h => by cases h; exact .bl b
  | .int i, _, h => by cases h; exact .int i
  | .str x, _, h => by cases h; exact .str x
  | .list ds, _, h => by
    cases h with
    | lst a b => exact .lst a (DqAll.of b)
  | .tuple ds, _, h => by
    cases h with
    | tup a b => exact .tup a (DqAll.of b)
  | .dict _, _, h => by cases h
theorem DqAll.of {K : PySem.W.Frag} {H : Hp} : ∀ {ds : List PyData} {vs : List V}, DpAll K H vs ds → DqAll K H vs ds
  | [], _, h => by cases h; exact .nil
  | d :: ds, _, h => by
    cases h with
    | cons a b => exact .cons (Dq.of a) (DqAll.of b)
end
mutual
theorem Kp.dq {P : Addr} {K : PySem.W.Frag} {H H' : Hp} (k : Kp P H H') : ∀ (d : PyData) (v : V), Dq K H v d → Dq K H' v d
  | .none, _, h => by cases h; exact .non
  | .bool b, _, h => by cases h; exact .bl b
  | .int i, _, h => by cases h; exact .int i
  | .str x, _, h => by cases h; exact .str x
  | .list ds, _, h => by
    cases h with
    | lst a b => exact .lst (k.seq a) (Kp.dqAll k ds _ b)
  | .tuple ds, _, h => by
    cases h with
    | tup a b => exact .tup (k.sqt a) (Kp.dqAll k ds _ b)
  | .dict _, _, h => by
    cases h with
    | dct e => exact .dct (k.keep _ _ (tab_ne k.t0 e fun _ z => by cases z) e)
theorem Kp.dqAll {P : Addr} {K : PySem.W.Frag} {H H' : Hp} (k : Kp P H H') : ∀ (ds : List PyData) (vs : List V), DqAll K H vs ds → DqAll K H' vs ds
  | [], _, h => by cases h; exact .nil
  | d :: ds, _, h => by
    cases h with
    | cons a b => exact .cons (Kp.dq k d _ a) (Kp.dqAll k ds _ b)
end
theorem dqAll_get {K : PySem.W.Frag} {H : Hp} : ∀ {ds : List PyData} {vs : List V}, DqAll K H vs ds → ∀ {i : Nat} {d : PyData}, ds[i]? = some d → ∃ v, vs[i]? = some v ∧ Dq K H v d
  | [], _, _, i, d, e => by simp at e
  | x :: r, _, h, i, d, e => by
    cases h with
    | cons a b =>
      cases i with
      | zero => exact ⟨_, rfl, by have e' : x = d := Option.some.inj e; subst e'; exact a⟩
      | succ i => exact dqAll_get b (i := i) (d := d) (by simpa using e)
theorem dqAll_len {K : PySem.W.Frag} {H : Hp} : ∀ {ds : List PyData} {vs : List V}, DqAll K H vs ds → vs.length = ds.length
  | [], _, h => by cases h; rfl
  | x :: r, _, h => by
    cases h with
    | cons a b => simp [dqAll_len b]
theorem dqAll_app {K : PySem.W.Frag} {H : Hp} : ∀ {ds es : List PyData} {vs us : List V}, DqAll K H vs ds → DqAll K H us es → DqAll K H (vs ++ us) (ds ++ es)
  | [], _, _, _, h, h2 => by cases h; exact h2
  | x :: r, _, _, _, h, h2 => by
    cases h with
    | cons a b => exact .cons a (dqAll_app b h2)
theorem tyx_ofq {K : PySem.W.Frag} {H : Hp} {v : V} {d : PyData} (h : Dq K H v d) : TyX K H v (.type (tyN d)) := by
  cases h with
  | non => exact .base .non
  | bl b => exact .base (.bl b)
  | int i => exact .base (.int i)
  | str x => exact .base (.str x)
  | lst a _ =>
    rcases a with (a | ⟨o, a⟩) | ⟨o, its, n, l, c, _⟩
    · exact .base (.lst a)
    · exact .base (.frz a)
    · exact .kList l c
  | tup a _ =>
    rcases a with (a | ⟨o, a⟩) | ⟨o, its, n, l, c, _⟩
    · exact .base (.tup a)
    · exact .fTuple a
    · exact .kTuple l c
  | dct e => exact .base (.dK e)
theorem tyb_ofq {K : PySem.W.Frag} {H : Hp} {v : V} {d : PyData} (h : Dq K H v d) : TyB K H v (tyN d) := by
  cases h with
  | non => exact .non
  | bl b => exact .bl b
  | int i => exact .int i
  | str x => exact .str x
  | lst a _ => exact .lst a
  | tup a _ => exact .tup a
  | dct e => exact .dK e
end Pk

set_option Elab.async false
set_option linter.all false
set_option maxRecDepth 100000
set_option maxHeartbeats 4000000
namespace Pk
open PySem PySem.Spec PyProof.Rows L2
/-! ### the text: the statements of the top -/
def topS (i : Nat) : Stmt := PySem.Challenge.pw_pickfloor_k06_which_is_ahead.main.body.getD i (.Pass ⟨0, 0, 0, 0⟩)
abbrev sWare : Stmt := topS 14
abbrev sMake : Stmt := topS 15
abbrev sNeed : Stmt := topS 16
abbrev sWithin : Stmt := topS 17
abbrev sNewer : Stmt := topS 20
abbrev sChkW : Stmt := topS 21
abbrev sHasM : Stmt := topS 22
abbrev sAddW : Stmt := topS 23
abbrev sChkP : Stmt := topS 24
abbrev sAgOf : Stmt := topS 25
abbrev sMeetsU : Stmt := topS 26
abbrev sInit : Stmt := inClass (topS 31) 0
abbrev sPut : Stmt := inClass (topS 31) 1
abbrev sTake : Stmt := inClass (topS 31) 2
abbrev sMakes : Stmt := inClass (topS 31) 3
abbrev sNeeds : Stmt := inClass (topS 31) 4
abbrev sWares : Stmt := inClass (topS 31) 5
abbrev sHas : Stmt := inClass (topS 31) 6
abbrev sPlace : Stmt := inClass (topS 31) 7
abbrev sMay : Stmt := topS 32
abbrev sMixed : Stmt := topS 34
abbrev sNames : Stmt := topS 35
abbrev sStretch : Stmt := topS 36
abbrev sLNeeds : Stmt := topS 37
abbrev sRows : Stmt := topS 38
abbrev sWish : Stmt := topS 39
abbrev sLShop : Stmt := topS 40
abbrev sLAg : Stmt := topS 41
abbrev sLMeets : Stmt := topS 42
abbrev sAllP : Stmt := topS 43
abbrev sAhead : Stmt := topS 44
abbrev sWide : Stmt := topS 45
abbrev sSChg : Stmt := topS 46
abbrev sThere : Stmt := topS 47
abbrev sAllR : Stmt := topS 48
abbrev sPairR : Stmt := topS 49
abbrev sLaw : Stmt := topS 50
abbrev nOther : Str := "_law_other"
abbrev nPick : Str := "_law_pick"
end Pk

set_option Elab.async false
set_option linter.all false
set_option maxRecDepth 100000
set_option maxHeartbeats 4000000
namespace Pk
open PySem PySem.Spec PyProof.Rows L2
section
variable {P : Program} {w : World} {K : PySem.W.Frag} {mg : Str → Option Value} {base : Heap}
/-! ### is_ware -/
theorem scWare : FnScope ["thing"] ["thing"] (defScope sWare) := ⟨rfl, rfl, rfl, by decide +kernel, rfl, by decide +kernel, by decide +kernel⟩
def spWare (K : PySem.W.Frag) (T : Addr) : Sp := fun vs H Q _ => ∃ (v : V) (d : PyData), vs = [v] ∧ Dq K H v d ∧ okS d = true ∧ GxR.TabG H T ∧ ∀ H', Kp T H H' → Q (.bl (wareB d)) H'
theorem ok_ware {f c T : Addr} {oc kV doc pm ct : Value} {od an : Option Addr} {osl : Array (Option Value)} {t8 : Tok}
    (lk : K.lookup f = some ⟨oc, od, .func (PySem.W.fnOf "is_ware" "is_ware" (defArgs sWare) (defBody sWare) (defScope sWare) .none kV doc pm an (.ref c) ct), osl⟩) (hcd : PySem.W.codeIn K (.ref c) "is_ware" = true)
    (TB : GxR.TabB base mg c T) (mI : mg "type" = none) (mS : mg "str" = none) (mL : mg "len" = none) (mA : mg "all" = none) (m8 : mg "MOST_SIGNS" = some (.int 8 t8)) :
    FnOk P w K mg base CX0 1 f (PySem.W.fnOf "is_ware" "is_ware" (defArgs sWare) (defBody sWare) (defScope sWare) .none kV doc pm an (.ref c) ct) ["thing"] (spWare K T) := by
  refine fn_of lk hcd scWare (fun vs H Q E h => ?_) fun A outer s H vs Q E hr h => ?_
  · obtain ⟨v, d, rfl, _⟩ := h
    rfl
  · obtain ⟨v, d, rfl, hd, ho, ht, q⟩ := h
    suffices z : ∃ t, PSs (cxOf CX0 P w K mg base ["thing"] "is_ware" (defScope sWare) f (.ref c) A outer s H E).nox (defBody sWare) t ∧ t { nx := fun _ H' => Q .non H', rt := Q } (start ["thing"] [v]) H by
      obtain ⟨t, z1, z2⟩ := z
      exact ⟨t, z1.nox, z2⟩
    refine ⟨_, pss_cons (ps_if (PW.pt (pw_or (pt_cmpR op_notTyB (pe_callTy call_type1 (by rfl) mI boot_type (pa_cons (pv 0) pa_nil)) (pe_bltn (v := .ty "str") (by rfl) mS boot_str rfl) (nomark _))
        (pw_or1 (pt_not (pt_chain op_le op_le pe_int (pe_callB call_len_str (by rfl) mL PySem.boot_len (pa_cons (pv 0) pa_nil)) (pe_glob (v := .int 8) rfl m8 ⟨_, rfl⟩))))))
        (pss_one (ps_ret pe_bl)) pss_nil)
      (pss_one (ps_ret (GxR.pe_allS hr (by rfl) mA (by decide +kernel) TB rfl (x := "sign") (gens rfl rfl (by decide +kernel) (by decide +kernel) (by decide +kernel) (by decide +kernel)) (pv 0) (elt_az rfl (by decide +kernel)) (fun _ => rfl)))), ?_⟩
    cases e : isStrD d with
    | false =>
      refine ⟨v, rfl, v, _, rfl, tyb_ofq hd, _, "str", rfl, rfl, _, rfl, tyN_no (tyN_str d) e ?_⟩
      have z := q H (Kp.refl ht)
      rw [wareB_no e] at z
      exact z
    | true =>
      obtain ⟨x, rfl⟩ := isStrD_ex e
      cases hd
      have hx : x.length ≤ 1000 := okS_len ho
      refine ⟨_, rfl, _, _, rfl, tyb_ofq (.str x), _, "str", rfl, rfl, _, rfl, tyN_yes (tyN_str (.str x)) rfl ?_⟩
      -- not 1 <= len(thing) <= 8
      refine ⟨.str x, rfl, x, rfl, line1000 hx, _, _, rfl, rfl, ?_⟩
      refine ⟨_, rfl, iteD (fun h1 => ?_) (fun h1 => ?_)⟩
      · refine ⟨_, _, rfl, rfl, _, rfl, iteN (fun h8 => ?_) (fun h8 => ?_)⟩
        · have z := q H (Kp.refl ht)
          rw [show wareB (.str x) = false by
            show (decide (1 ≤ x.length) && decide (x.length ≤ 8) && x.cps.toList.all azB) = false
            rw [decide_eq_false (show ¬ x.length ≤ 8 by omega), Bool.and_false, Bool.false_and]] at z
          exact z
        · refine ⟨_, rfl, x, rfl, ht, fun H2 h2 => ?_⟩
          have z := q H2 (Kp.of_tabbed ht h2)
          rw [show wareB (.str x) = x.cps.toList.all azB by
            show (decide (1 ≤ x.length) && decide (x.length ≤ 8) && x.cps.toList.all azB) = _
            rw [decide_eq_true (show x.length ≤ 8 by omega), decide_eq_true (show 1 ≤ x.length by omega), Bool.true_and, Bool.true_and]] at z
          exact z
      · refine ⟨_, rfl, iteT ?_⟩
        have z := q H (Kp.refl ht)
        rw [show wareB (.str x) = false by
          show (decide (1 ≤ x.length) && decide (x.length ≤ 8) && x.cps.toList.all azB) = false
          rw [decide_eq_false (show ¬ 1 ≤ x.length by omega), Bool.false_and, Bool.false_and]] at z
        exact z

/-! ### within -/
theorem scWithin : FnScope ["make", "low", "high"] ["make", "low", "high"] (defScope sWithin) := ⟨rfl, rfl, rfl, by decide +kernel, rfl, by decide +kernel, by decide +kernel⟩
def spWithin : Sp := fun vs H Q _ => ∃ (m a b : Int), vs = [.int m, .int a, .int b] ∧ Q (.bl (decide (a ≤ m) && decide (m ≤ b))) H
theorem ok_within {f : Addr} {fd : FuncData} (F : Fun K "within" "within" sWithin f fd) : FnOk P w K mg base CX0 1 f fd ["make", "low", "high"] spWithin := by
  refine F.ok scWithin (fun vs H Q E h => ?_) (fun cdv A outer s H vs Q E hr h => ?_)
  · obtain ⟨m, a, b, rfl, _⟩ := h
    rfl
  · obtain ⟨m, a, b, rfl, q⟩ := h
    refine ⟨_, pss_one (ps_ret (pe_chain op_le op_le (pv 1) (pv 0) (pv 2))), ?_⟩
    refine ⟨_, rfl, _, rfl, _, _, rfl, rfl, _, rfl, iteD (fun h1 => ?_) (fun h1 => ?_)⟩
    · refine ⟨_, rfl, _, _, rfl, rfl, ?_⟩
      rw [decide_eq_true h1, Bool.true_and] at q
      exact q
    · rw [decide_eq_false h1, Bool.false_and] at q
      exact q
/-! ### is_make -/
theorem scMake : FnScope ["thing"] ["thing"] (defScope sMake) := ⟨rfl, rfl, rfl, by decide +kernel, rfl, by decide +kernel, by decide +kernel⟩
def spMake (K : PySem.W.Frag) : Sp := fun vs H Q _ => ∃ (v : V) (d : PyData), vs = [v] ∧ Dq K H v d ∧ Q (.bl (makeB d)) H
theorem ok_make {f fW : Addr} {fd fdW : FuncData} {t1 t9 : Tok} (F : Fun K "is_make" "is_make" sMake f fd) (FW : Fun K "within" "within" sWithin fW fdW) (bW : Binds K fdW ["make", "low", "high"] []) (gW : mg "within" = some (.ref fW))
    (mI : mg "type" = none) (mN : mg "int" = none) (m1 : mg "LEAST_MAKE" = some (.int 1 t1)) (m9 : mg "MOST_MAKE" = some (.int 999 t9)) : FnOk P w K mg base CX0 2 f fd ["thing"] (spMake K) := by
  have GW : FnOk P w K mg base CX0 1 fW fdW ["make", "low", "high"] spWithin := ok_within FW
  refine F.ok scMake (fun vs H Q E h => ?_) (fun cdv A outer s H vs Q E hr h => ?_)
  · obtain ⟨v, d, rfl, _⟩ := h
    rfl
  · obtain ⟨v, d, rfl, hd, q⟩ := h
    refine ⟨_, pss_one (ps_ret (pe_and (pe_cmpR op_isTyB (pe_callTy call_type1 (by rfl) mI boot_type (pa_cons (pv 0) pa_nil)) (pe_bltn (v := .ty "int") (by rfl) mN boot_int rfl) (nomark _))
      (pe_one (pe_call GW hr (by rfl) gW FW.kp bW .nil pass0 (pa_cons (pv 0) (pa_cons (pe_glob (v := .int 1) rfl m1 ⟨_, rfl⟩) (pa_cons (pe_glob (v := .int 999) rfl m9 ⟨_, rfl⟩) pa_nil))))))), ?_⟩
    refine ⟨v, rfl, v, _, rfl, tyb_ofq hd, _, "int", rfl, rfl, _, rfl, ?_⟩
    cases e : isI d with
    | false =>
      rw [isI_no e] at q
      exact tyI_no (tyN_int d) e q
    | true =>
      obtain ⟨i, rfl⟩ := isI_ex e
      cases hd
      exact tyI_yes (tyN_int (.int i)) rfl ⟨_, rfl, i, 1, 999, rfl, q⟩
/-! ### is_need -/
theorem scNeed : FnScope ["thing", "ware", "low", "high"] ["thing"] (defScope sNeed) := ⟨rfl, rfl, rfl, by decide +kernel, rfl, by decide +kernel, by decide +kernel⟩
def spNeed (K : PySem.W.Frag) (T : Addr) : Sp := fun vs H Q _ => ∃ (v : V) (d : PyData), vs = [v] ∧ Dq K H v d ∧ okT d = true ∧ GxR.TabG H T ∧ ∀ H', Kp T H H' → Q (.bl (needB d)) H'
theorem ok_need {f fW fM T : Addr} {fd fdW fdM : FuncData} (F : Fun K "is_need" "is_need" sNeed f fd)
    (GW : FnOk P w K mg base CX0 1 fW fdW ["thing"] (spWare K T)) (kW : PySem.W.keepIn K (.ref fW) = true) (bW : Binds K fdW ["thing"] []) (gW : mg "is_ware" = some (.ref fW))
    (GM : FnOk P w K mg base CX0 2 fM fdM ["thing"] (spMake K)) (kM : PySem.W.keepIn K (.ref fM) = true) (bM : Binds K fdM ["thing"] []) (gM : mg "is_make" = some (.ref fM))
    (mI : mg "type" = none) (mT : mg "tuple" = none) (mL : mg "len" = none) : FnOk P w K mg base CX0 3 f fd ["thing"] (spNeed K T) := by
  refine F.ok scNeed (fun vs H Q E h => ?_) (fun cdv A outer s H vs Q E hr h => ?_)
  · obtain ⟨v, d, rfl, _⟩ := h
    rfl
  · obtain ⟨v, d, rfl, hd, ho, ht, q⟩ := h
    have hr1 : Room 1 _ := hr.mono (by decide)
    refine ⟨_, pss_cons (ps_if (PW.pt (pw_or (pt_cmpR op_notTyB (pe_callTy call_type1 (by rfl) mI boot_type (pa_cons (pv 0) pa_nil)) (pe_bltn (v := .ty "tuple") (by rfl) mT boot_tuple rfl) (nomark _))
        (pw_or1 (pt_cmpR op_ne (pe_callB call_len_seq (by rfl) mL PySem.boot_len (pa_cons (pv 0) pa_nil)) pe_int (nomark _)))))
        (pss_one (ps_ret pe_bl)) pss_nil)
      (pss_cons (ps_asg (pv 0) (pg_tup (by rfl) (pgs_cons (pg_name (i := 1) scNeed.nd rfl (.inl rfl)) (pgs_cons (pg_name (i := 2) scNeed.nd rfl (.inl rfl)) (pgs_cons (pg_name (i := 3) scNeed.nd rfl (.inl rfl)) pgs_nil)))))
      (pss_one (ps_ret (pe_and (pe_call GW hr1 (by rfl) gW kW bW .nil pass0 (pa_cons (pv 1) pa_nil))
        (pe_and (pe_call GM hr (by rfl) gM kM bM .nil pass0 (pa_cons (pv 2) pa_nil))
        (pe_and (pe_call GM hr (by rfl) gM kM bM .nil pass0 (pa_cons (pv 3) pa_nil))
        (pe_one (pe_cmpR op_le (pv 2) (pv 3) (nomark _))))))))), ?_⟩
    have no : needB d = false → Q (.bl false) H := fun e => by
      have z := q H (Kp.refl ht)
      rw [e] at z
      exact z
    cases e : isTupD d with
    | false =>
      refine ⟨v, rfl, v, _, rfl, tyb_ofq hd, _, "tuple", rfl, rfl, _, rfl, tyN_no (tyN_tup d) e ?_⟩
      exact no (by cases d <;> first | rfl | cases e)
    | true =>
      refine ⟨v, rfl, v, _, rfl, tyb_ofq hd, _, "tuple", rfl, rfl, _, rfl, tyN_yes (tyN_tup d) e ?_⟩
      obtain ⟨ds, rfl⟩ : ∃ ds, d = .tuple ds := by cases d <;> first | exact ⟨_, rfl⟩ | cases e
      cases hd with
      | @tup a xs _ hT hA =>
        have hl := dqAll_len hA
        refine ⟨.ref a, rfl, a, xs, rfl, .inr hT, ?_⟩
        refine ⟨rfl, _, rfl, iteN (fun h3 => ?_) (fun h3 => ?_)⟩
        · refine no (needB_len fun z => h3 ?_)
          show V.int _ = V.int 3
          rw [show xs.length = 3 by omega] <;> rfl
        · have h3' : xs.length = 3 := by
            have z : ((xs.length : Nat) : Int) = 3 := V.int.inj h3
            omega
          obtain ⟨da, db, dc, rfl⟩ : ∃ a b c, ds = [a, b, c] := by
            match ds, hl.symm.trans h3' with
            | [a, b, c], _ => exact ⟨a, b, c, rfl⟩
          have od : okS da = true := by
            have z : (([da, db, dc].all okS) && _) = true := ho
            simp only [List.all_cons, Bool.and_eq_true] at z
            exact z.1.1
          cases hA with
          | @cons x _ _ _ hx hA =>
          cases hA with
          | @cons y _ _ _ hy hA =>
          cases hA with
          | @cons z _ _ _ hz hA =>
          cases hA
          refine ⟨_, rfl, a, [x, y, z], rfl, hT, rfl, x, [y, z], rfl, y, [z], rfl, z, [], rfl, rfl, ?_⟩
          refine ⟨x, rfl, x, da, rfl, hx, od, ht, fun H1 k1 => ⟨_, rfl, ?_⟩⟩
          have fin : ∀ b, needB (.tuple [da, db, dc]) = b → Q (.bl b) H1 := fun b e => by
            have z := q H1 k1
            rw [e] at z
            exact z
          cases ea : wareB da with
          | false => exact iteF (fin false (by show (wareB da && _ && _ && _) = false; rw [ea] <;> rfl))
          | true =>
            refine iteT ⟨y, rfl, y, db, rfl, k1.dq _ _ hy, _, rfl, ?_⟩
            cases eb : makeB db with
            | false => exact iteF (fin false (by show (wareB da && makeB db && _ && _) = false; rw [ea, eb] <;> rfl))
            | true =>
              refine iteT ⟨z, rfl, z, dc, rfl, k1.dq _ _ hz, _, rfl, ?_⟩
              cases ec : makeB dc with
              | false => exact iteF (fin false (by show (wareB da && makeB db && makeB dc && _) = false; rw [ea, eb, ec] <;> rfl))
              | true =>
                obtain ⟨i, rfl⟩ := makeB_ex eb
                obtain ⟨j, rfl⟩ := makeB_ex ec
                cases hy
                cases hz
                exact iteT ⟨_, rfl, _, rfl, _, _, rfl, rfl, fin _ (by show (wareB da && makeB (.int i) && makeB (.int j) && _) = _; rw [ea, eb, ec] <;> rfl)⟩

/-! ### _may_need -/
def wOf : PyData → Str
  | .tuple (.str a :: _) => a
  | _ => ⟨#[]⟩
def mayL (bar : List Str) : List PyData → Bool
  | [] => true
  | x :: r => needB x && !decide (wOf x ∈ bar) && mayL (bar ++ [wOf x]) r
def mayB (w : Str) : PyData → Bool
  | .list ds => decide (ds.length ≤ 6) && mayL [w] ds
  | _ => false
theorem needB_ex {d : PyData} (h : needB d = true) : ∃ a b c, d = .tuple [.str a, b, c] ∧ wareB (.str a) = true := by
  match d with
  | .tuple [a, b, c] =>
    have z : (wareB a && makeB b && makeB c && leD b c) = true := h
    simp only [Bool.and_eq_true] at z
    cases e : isStrD a with
    | false => rw [wareB_no e] at z; exact absurd z.1.1.1 Bool.false_ne_true
    | true =>
      obtain ⟨x, rfl⟩ := isStrD_ex e
      exact ⟨x, b, c, rfl, z.1.1.1⟩
  | .none => cases h
  | .bool _ => cases h
  | .int _ => cases h
  | .str _ => cases h
  | .list _ => cases h
  | .dict _ => cases h
  | .tuple [] => cases h
  | .tuple [_] => cases h
  | .tuple [_, _] => cases h
  | .tuple (_ :: _ :: _ :: _ :: _) => cases h
theorem inV_str (a : Str) : ∀ l : List Str, inV (.str a) (l.map V.str) = decide (a ∈ l)
  | [] => rfl
  | b :: r => by
    have ih := inV_str a r
    unfold inV at ih ⊢
    rw [List.map_cons, List.any_cons, ih]
    by_cases h : a = b
    · rw [decide_eq_true (show a ∈ b :: r by rw [h]; exact List.mem_cons_self ..)]
      have e : eqV (.str b) (.str a) = true := by rw [h]; simp [eqV]
      rw [e] <;> rfl
    · have e : eqV (.str b) (.str a) = false := by
        simp only [eqV]
        exact decide_eq_false (fun z => h z.symm)
      rw [e, Bool.false_or]
      by_cases h2 : a ∈ r
      · rw [decide_eq_true h2, decide_eq_true (List.mem_cons_of_mem _ h2)]
      · rw [decide_eq_false h2, decide_eq_false (fun z => (List.mem_cons.mp z).elim h h2)]
theorem flat_strs (l : List Str) : (l.map V.str).all flatV = true := by
  rw [List.all_eq_true]
  intro v hv
  obtain ⟨x, _, rfl⟩ := List.mem_map.mp hv
  rfl
theorem isLstD_ex {d : PyData} (h : isLstD d = true) : ∃ x, d = .list x := by
  cases d <;> first | exact ⟨_, rfl⟩ | cases h
def okL : PyData → Bool
  | .list ds => ds.all okT && decide (ds.length ≤ 1000)
  | _ => true
theorem scMay : FnScope ["ware", "thing", "barred", "need"] ["ware", "thing"] (defScope sMay) := ⟨rfl, rfl, rfl, by decide +kernel, rfl, by decide +kernel, by decide +kernel⟩
def spMay (K : PySem.W.Frag) (T : Addr) : Sp := fun vs H Q _ => ∃ (wx : Str) (v : V) (d : PyData), vs = [.str wx, v] ∧ Dq K H v d ∧ okL d = true ∧ GxR.TabG H T ∧ ∀ H', Kp T H H' → Q (.bl (mayB wx d)) H'
theorem ok_may {f fN T : Addr} {fd fdN : FuncData} {t6 : Tok} (F : Fun K "_may_need" "_may_need" sMay f fd)
    (GN : FnOk P w K mg base CX0 3 fN fdN ["thing"] (spNeed K T)) (kN : PySem.W.keepIn K (.ref fN) = true) (bN : Binds K fdN ["thing"] []) (gN : mg "is_need" = some (.ref fN))
    (mI : mg "type" = none) (mLi : mg "list" = none) (mL : mg "len" = none) (m6 : mg "MOST_NEEDS" = some (.int 6 t6)) : FnOk P w K mg base CX0 4 f fd ["ware", "thing"] (spMay K T) := by
  refine F.ok scMay (fun vs H Q E h => ?_) (fun cdv A outer s H vs Q E hr h => ?_)
  · obtain ⟨wx, v, d, rfl, _⟩ := h
    rfl
  · obtain ⟨wx, v, d, rfl, hd, ho, ht, q⟩ := h
    refine ⟨_, pss_cons (ps_if (PW.pt (pw_or (pt_cmpR op_notTyB (pe_callTy call_type1 (by rfl) mI boot_type (pa_cons (pv 1) pa_nil)) (pe_bltn (v := .ty "list") (by rfl) mLi boot_list rfl) (nomark _))
        (pw_or1 (pt_cmpR op_gt (pe_callB call_len_seq (by rfl) mL PySem.boot_len (pa_cons (pv 1) pa_nil)) (pe_glob (v := .int 6) rfl m6 ⟨_, rfl⟩) (nomark _)))))
        (pss_one (ps_ret pe_bl)) pss_nil)
      (pss_cons (ps_set (i := 2) scMay.nd rfl (.inl rfl) (pe_lst (pa_cons (pv 0) pa_nil)))
      (pss_cons (ps_for PassesOwn.never rfl (pi_list (pv 1)) (pg_name (i := 3) scMay.nd rfl (.inl rfl))
        (pss_cons (ps_if (PW.pt (pw_or (pt_not (pt_val (pe_call GN hr (by rfl) gN kN bN .nil pass0 (pa_cons (pv 3) pa_nil))))
            (pw_or1 (pt_cmpR op_in_seq (pe_ix ix_tup (pv 3) pe_int (fun _ _ => rfl)) (pv 2) (by rfl))))) (pss_one (ps_ret pe_bl)) pss_nil)
        (pss_one (ps_expr (pe_bm PySem.F.plainAttrs_list PySem.F.slot_list_append PySem.F.type_list_append mt_append (pv 2) (pa_cons (pe_ix ix_tup (pv 3) pe_int (fun _ _ => rfl)) pa_nil))))))
      (pss_one (ps_ret pe_bl)))), ?_⟩
    cases e : isLstD d with
    | false =>
      have z := q H (Kp.refl ht)
      rw [show mayB wx d = false by cases d <;> first | rfl | cases e] at z
      exact ⟨v, rfl, v, _, rfl, tyb_ofq hd, _, "list", rfl, rfl, _, rfl, tyN_no (tyN_lst d) e z⟩
    | true =>
      obtain ⟨ds, rfl⟩ := isLstD_ex e
      cases hd with
      | @lst a xs _ hA hall =>
        have hl := dqAll_len hall
        refine ⟨_, rfl, _, _, rfl, tyb_ofq (.lst hA hall), _, "list", rfl, rfl, _, rfl, tyN_yes (tyN_lst (.list ds)) rfl ?_⟩
        refine ⟨_, rfl, a, xs, rfl, .inl hA, _, _, rfl, rfl, _, rfl, iteD (fun h6 => ?_) (fun h6 => ?_)⟩
        · have z := q H (Kp.refl ht)
          rw [show mayB wx (.list ds) = false by
            show (decide (ds.length ≤ 6) && _) = false
            rw [decide_eq_false (show ¬ ds.length ≤ 6 by omega), Bool.false_and]] at z
          exact z
        · have fin : ∀ H', Kp T H H' → ∀ b, mayL [wx] ds = b → Q (.bl b) H' := fun H' k b eb => by
            have z := q H' k
            rw [show mayB wx (.list ds) = b by
              show (decide (ds.length ≤ 6) && mayL [wx] ds) = b
              rw [decide_eq_true (show ds.length ≤ 6 by omega), Bool.true_and, eb]] at z
            exact z
          have hoT : ∀ x ∈ ds, okT x = true := by
            have z : (ds.all okT && _) = true := ho
            rw [Bool.and_eq_true, List.all_eq_true] at z
            exact z.1
          refine ⟨_, rfl, (by show (1 : Nat) ≤ sizeLine; decide), fun b nb => ?_⟩
          have k1 := Kp.new (o := HO.lst [.str wx]) ht nb
          have bT := tab_nn ht nb
          refine ⟨_, rfl, a, rfl, ⟨_, k1.seq hA⟩, for_list (K := K) (a := a) (xs := xs) (fun i σ' H' => ∃ (x : Option V) (bar : List Str), σ' = [some (.str wx), some (.ref a), some (.ref b), x] ∧ Kp T H H' ∧ H' b = some (.lst (bar.map V.str)) ∧ bar.length = i + 1 ∧ mayL [wx] ds = mayL bar (ds.drop i))
            ⟨none, [wx], rfl, k1, upd_same, rfl, by rw [List.drop_zero]⟩ (fun i σ' H' _ ⟨_, _, _, kk, _⟩ => kk.seq hA) ?_ ?_⟩
          · rintro i x σ' H' hi ⟨x3, bar, rfl, kk, hb, hbl, em⟩
            have hil : i < ds.length := by
              have := (List.getElem?_eq_some_iff.mp hi).1
              omega
            obtain ⟨x', hx', hdx⟩ := dqAll_get (Kp.dqAll kk _ _ hall) (List.getElem?_eq_getElem hil)
            have exx : x' = x := Option.some.inj (hx'.symm.trans hi)
            subst exx
            have edrop : ds.drop i = ds[i] :: ds.drop (i + 1) := List.drop_eq_getElem_cons hil
            rw [edrop] at em
            refine ⟨_, rfl, x', ds[i], rfl, hdx, hoT _ (List.getElem_mem hil), kk.tab, fun H2 k2 => ⟨_, rfl, ?_⟩⟩
            have hb2 := k2.lst hb
            cases en : needB ds[i] with
            | false =>
              refine iteT (fin H2 (kk.trans k2) false ?_)
              rw [em]
              show (needB ds[i] && _ && _) = false
              rw [en] <;> rfl
            | true =>
              refine iteF ?_
              obtain ⟨a0, b0, c0, ed, _⟩ := needB_ex en
              have hdx2 := k2.dq _ _ hdx
              rw [ed] at hdx2
              cases hdx2 with
              | @tup tp ys _ hT hys =>
                cases hys with
                | @cons y0 yr _ _ hy0 hyr =>
                  cases hy0
                  have i0 : atI (V.str a0 :: yr) 0 = some (.str a0) := atI_nat (j := 0) rfl
                  have ew : wOf ds[i] = a0 := by rw [ed]; rfl
                  have em2 : mayL [wx] ds = (!decide (a0 ∈ bar) && mayL (bar ++ [a0]) (ds.drop (i + 1))) := by
                    rw [em]
                    show (needB ds[i] && !decide (wOf ds[i] ∈ bar) && mayL (bar ++ [wOf ds[i]]) (ds.drop (i + 1))) = _
                    rw [en, ew, Bool.true_and]
                  refine ⟨_, rfl, tp, _, 0, _, rfl, rfl, hT, i0, _, rfl, b, _, rfl, .inl (.inl (.inl hb2)), rfl, flat_strs bar, ?_⟩
                  refine ⟨_, rfl, ?_⟩
                  show if (inV (.str a0) (bar.map V.str)) = true then _ else _
                  rw [inV_str]
                  refine iteD (fun hin => ?_) (fun hin => ?_)
                  · refine fin H2 (kk.trans k2) false ?_
                    rw [em2, decide_eq_true hin] <;> rfl
                  · refine ⟨_, rfl, .inl ⟨rfl, _, .inl (.inl hb2)⟩, _, rfl, tp, _, 0, _, rfl, rfl, hT, i0, b, _, _, rfl, rfl, hb2, small1000 (by rw [List.length_map]; omega), ?_⟩
                    refine ⟨_, bar ++ [a0], rfl, (kk.trans k2).set nb bT, ?_, ?_, ?_⟩
                    · rw [upd_same, List.map_append]
                      rfl
                    · rw [List.length_append, List.length_singleton, hbl]
                    · rw [em2, decide_eq_false hin] <;> rfl
          · rintro σ' H' ⟨x3, bar, rfl, kk, hb, hbl, em⟩
            refine fin H' kk true ?_
            rw [em, hl, List.drop_length]
            rfl
end
end Pk

set_option Elab.async false
set_option linter.all false
set_option maxRecDepth 100000
set_option maxHeartbeats 4000000
namespace Pk
open PySem PySem.Spec PyProof.Rows L2
/-! ### a shop -/
def flS (D : Addr) : List (Str × V) := putF "_shelves" (.ref D) []
theorem flS_look (D : Addr) : (flS D).lookup ("_shelves" : Str) = some (.ref D) := by
  unfold flS
  rw [lookup_putF, if_pos rfl]
theorem flS_no (D : Addr) {m : Str} (h : ¬ m = "_shelves") : (flS D).lookup m = none := by
  unfold flS
  rw [lookup_putF, if_neg h]
  rfl
structure ShopAt (K : PySem.W.Frag) (C : Addr) (A : List Addr) (H : Hp) (p D : Addr) (st : List Shelf) : Prop where
  ob : ∃ dx, H p = some (.ins C dx (flS D))
  bx : BoxOk K A H D st
  ne : ∀ s ∈ st, s.ents ≠ []
structure ShopT (K : PySem.W.Frag) (mg : Str → Option Value) (C : Addr) : Prop where
  cl : Cls K C
  nS : NoAttr K C "_shelves"
  len : mg "len" = none
  lst : mg "list" = none
  srt : mg "sorted" = none
def inB (st : List Shelf) : PyData → PyData → Bool
  | .str w, .int m => ((look st w).bind fun s => lookE s.ents m).isSome
  | _, _ => false
def hasB (st : List Shelf) (wd md : PyData) : Bool := wareB wd && makeB md && inB st wd md
def placeB (st : List Shelf) (w : Str) : Bool := match look st w with
  | some s => decide (s.ents.length < 8)
  | none => decide (st.length < 12)
theorem ShopAt.kept {K : PySem.W.Frag} {C T : Addr} {A F : List Addr} {H H' : Hp} {p D : Addr} {st : List Shelf} (S : ShopAt K C A H p D st) (k : Kx T F H H') (hF : ∀ f ∈ F, f ∈ A ∨ ∃ kvs, H f = some (.dK kvs)) (hFp : ∀ f ∈ F, f ∈ A → ∃ xs, H f = some (.lst xs)) (dj : ∀ f ∈ foot D st, f ∉ F) : ShopAt K C A H' p D st := by
  obtain ⟨dx, e⟩ := S.ob
  refine ⟨⟨dx, k.keep p _ (tab_ne k.t0 e fun _ z => by cases z) (fun z => ?_) e⟩, S.bx.kept k hF dj, S.ne⟩
  rcases hF p z with z2 | ⟨kvs, z2⟩
  · obtain ⟨xs, z3⟩ := hFp p z z2
    rw [e] at z3; cases z3
  · rw [e] at z2; cases z2
theorem ShopAt.keptP {K : PySem.W.Frag} {C T : Addr} {A : List Addr} {H H' : Hp} {p D : Addr} {st : List Shelf} (S : ShopAt K C A H p D st) (k : Kp T H H') : ShopAt K C A H' p D st :=
  S.kept (F := []) (.of k) (fun f hf => by cases hf) (fun f hf => by cases hf) (fun f _ hf => by cases hf)
section
variable {P : Program} {w : World} {K : PySem.W.Frag} {mg : Str → Option Value} {base : Heap}
/-! ### __init__ -/
theorem scInit : FnScope ["self"] ["self"] (defScope sInit) := ⟨rfl, rfl, rfl, by decide +kernel, rfl, by decide +kernel, by decide +kernel⟩
def spInit (C : Addr) : Sp := fun vs H Q _ => ∃ (p dx : Addr), vs = [.ref p] ∧ H p = some (.ins C dx []) ∧ ∀ D, H D = none → Q .non (upd (upd H D (.dK [])) p (.ins C dx (flS D)))
theorem ok_init {f C : Addr} {fd : FuncData} (F : Fun K "__init__" "Shop.__init__" sInit f fd) (T : ShopT K mg C) : FnOk P w K mg base CX0 1 f fd ["self"] (spInit C) := by
  refine F.ok scInit (fun vs H Q E h => ?_) (fun cdv A outer s H vs Q E hr h => ?_)
  · obtain ⟨p, dx, rfl, _⟩ := h
    rfl
  · obtain ⟨p, dx, rfl, hp, q⟩ := h
    refine ⟨_, pss_one (ps_fld (pv 0) pe_dnewK rfl), ?_⟩
    intro D hD
    exact ⟨_, rfl, p, C, dx, [], rfl, (by rw [upd_ne (ne_of_none hp hD)]; exact hp), T.cl, T.nS, (by show 0 < 1000; decide), q D hD⟩
/-! ### _has -/
theorem scHas : FnScope ["self", "ware", "make"] ["self", "ware", "make"] (defScope sHas) := ⟨rfl, rfl, rfl, by decide +kernel, rfl, by decide +kernel, by decide +kernel⟩
def spHas (K : PySem.W.Frag) (C Tb : Addr) : Sp := fun vs H Q _ => ∃ (A : List Addr) (p D : Addr) (st : List Shelf) (wv mv : V) (wd md : PyData), vs = [.ref p, wv, mv] ∧ ShopAt K C A H p D st ∧ Dq K H wv wd ∧ okS wd = true ∧ Dq K H mv md ∧ GxR.TabG H Tb ∧
  ∀ H', Kp Tb H H' → Q (.bl (hasB st wd md)) H'
theorem ok_has {f C Tb fW fM : Addr} {fd fdW fdM : FuncData} (F : Fun K "_has" "Shop._has" sHas f fd) (T : ShopT K mg C)
    (GW : FnOk P w K mg base CX0 1 fW fdW ["thing"] (spWare K Tb)) (kW : PySem.W.keepIn K (.ref fW) = true) (bW : Binds K fdW ["thing"] []) (gW : mg "is_ware" = some (.ref fW))
    (GM : FnOk P w K mg base CX0 2 fM fdM ["thing"] (spMake K)) (kM : PySem.W.keepIn K (.ref fM) = true) (bM : Binds K fdM ["thing"] []) (gM : mg "is_make" = some (.ref fM)) :
    FnOk P w K mg base CX0 3 f fd ["self", "ware", "make"] (spHas K C Tb) := by
  refine F.ok scHas (fun vs H Q E h => ?_) (fun cdv A outer s H vs Q E hr h => ?_)
  · obtain ⟨A, p, D, st, wv, mv, wd, md, rfl, _⟩ := h
    rfl
  · obtain ⟨A, p, D, st, wv, mv, wd, md, rfl, S, hw, ho, hm, ht, q⟩ := h
    have hu := hu_of hr
    refine ⟨_, pss_one (ps_ret (pe_and (pe_call GW (hr.mono (by decide)) (by rfl) gW kW bW .nil pass0 (pa_cons (pv 1) pa_nil))
      (pe_and (pe_call GM hr (by rfl) gM kM bM .nil pass0 (pa_cons (pv 2) pa_nil))
      (pe_one (pe_cmp (pc_din hu (pv 2) (pe_dget2 hu (pe_fld (pv 0) rfl) (pv 1) pe_dnewK ⟨rfl, rfl, rfl, rfl⟩)) rfl))))), ?_⟩
    refine ⟨_, rfl, wv, wd, rfl, hw, ho, ht, fun H1 k1 => ⟨_, rfl, ?_⟩⟩
    have fin : ∀ H', Kp Tb H H' → ∀ b, hasB st wd md = b → Q (.bl b) H' := fun H' k b eb => by
      have z := q H' k
      rw [eb] at z
      exact z
    cases ea : wareB wd with
    | false => exact iteF (fin H1 k1 false (by show (wareB wd && _ && _) = false; rw [ea] <;> rfl))
    | true =>
      refine iteT ⟨_, rfl, mv, md, rfl, k1.dq _ _ hm, _, rfl, ?_⟩
      cases eb : makeB md with
      | false => exact iteF (fin H1 k1 false (by show (wareB wd && makeB md && _) = false; rw [ea, eb] <;> rfl))
      | true =>
        obtain ⟨m, rfl⟩ := makeB_ex eb
        obtain ⟨x, rfl⟩ : ∃ x, wd = .str x := by
          cases es : isStrD wd with
          | false => rw [wareB_no es] at ea; cases ea
          | true => exact isStrD_ex es
        have hw1 := hw
        cases hw
        cases hm
        have S1 := S.keptP k1
        obtain ⟨dx, e1⟩ := S1.ob
        refine iteT ⟨_, rfl, _, rfl, p, C, dx, _, _, rfl, e1, T.cl, T.nS, flS_look D, D, rfl, .inl ⟨_, .inl S1.bx.dc⟩, _, rfl, fun d nd => ?_⟩
        have k2 := Kp.new (o := HO.dK []) k1.tab nd
        have S2 := S1.keptP k2
        have eh : hasB st (.str x) (.int m) = ((look st x).bind fun s => lookE s.ents m).isSome := by
          show (wareB (.str x) && makeB (.int m) && _) = _
          rw [ea, eb] <;> rfl
        refine ⟨_, DGet.k (k := Sum.inr x) S2.bx.dc, ?_⟩
        rw [look_val]
        cases el : look st x with
        | none =>
          refine ⟨d, _, rfl, DGet.k (k := Sum.inl m) (kvs := []) upd_same, ?_⟩
          exact fin _ (k1.trans k2) _ (by rw [eh, el]; rfl)
        | some s =>
          have hs := (S2.bx.sh s (look_mem el).1).dc
          refine ⟨s.at_, _, rfl, DGet.k (k := Sum.inl m) hs, ?_⟩
          rw [lookE_val]
          exact fin _ (k1.trans k2) _ (by
            rw [eh, el]
            show (lookE s.ents m).isSome = _
            cases lookE s.ents m <;> rfl)
/-! ### _has_place -/
theorem scPlace : FnScope ["self", "ware"] ["self", "ware"] (defScope sPlace) := ⟨rfl, rfl, rfl, by decide +kernel, rfl, by decide +kernel, by decide +kernel⟩
def spPlace (K : PySem.W.Frag) (C : Addr) : Sp := fun vs H Q _ => ∃ (A : List Addr) (p D : Addr) (st : List Shelf) (x : Str), vs = [.ref p, .str x] ∧ ShopAt K C A H p D st ∧ Q (.bl (placeB st x)) H
theorem ok_place {f C : Addr} {fd : FuncData} {t8 t12 : Tok} (F : Fun K "_has_place" "Shop._has_place" sPlace f fd) (T : ShopT K mg C) (m8 : mg "MOST_MAKES" = some (.int 8 t8)) (m12 : mg "MOST_WARES" = some (.int 12 t12)) :
    FnOk P w K mg base CX0 1 f fd ["self", "ware"] (spPlace K C) := by
  refine F.ok scPlace (fun vs H Q E h => ?_) (fun cdv A outer s H vs Q E hr h => ?_)
  · obtain ⟨A, p, D, st, x, rfl, _⟩ := h
    rfl
  · obtain ⟨A, p, D, st, x, rfl, S, q⟩ := h
    have hu := hu_of hr
    obtain ⟨dx, e1⟩ := S.ob
    refine ⟨_, pss_cons (ps_if (pt_cmp (pc_din hu (pv 1) (pe_fld (pv 0) rfl))) (pss_one (ps_ret (pe_cmpR op_lt (pe_callB call_lenD (by rfl) T.len PySem.boot_len (pa_cons (pe_dget hu (pe_fld (pv 0) rfl) (pv 1) (fun _ _ => rfl)) pa_nil)) (pe_glob (v := .int 8) rfl m8 ⟨_, rfl⟩) (nomark _)))) pss_nil)
      (pss_one (ps_ret (pe_cmpR op_lt (pe_callB call_lenD (by rfl) T.len PySem.boot_len (pa_cons (pe_fld (pv 0) rfl) pa_nil)) (pe_glob (v := .int 12) rfl m12 ⟨_, rfl⟩) (nomark _)))), ?_⟩
    refine ⟨_, rfl, _, rfl, p, C, dx, _, _, rfl, e1, T.cl, T.nS, flS_look D, D, _, rfl, DGet.k (k := Sum.inr x) S.bx.dc, _, rfl, ?_⟩
    rw [look_val]
    cases el : look st x with
    | none =>
      refine iteF ⟨_, rfl, p, C, dx, _, _, rfl, e1, T.cl, T.nS, flS_look D, D, _, rfl, S.bx.dc, _, _, rfl, rfl, ?_⟩
      rw [show placeB st x = decide (((st.map keyW).length : Int) < 12) by
        unfold placeB
        rw [el, List.length_map]
        by_cases h : st.length < 12
        · rw [decide_eq_true h, decide_eq_true (by omega)]
        · rw [decide_eq_false h, decide_eq_false (by omega)]] at q
      exact q
    | some s =>
      have hs := (S.bx.sh s (look_mem el).1).dc
      refine iteT ⟨_, rfl, p, C, dx, _, _, rfl, e1, T.cl, T.nS, flS_look D, _, rfl, D, .ref s.at_, rfl, ?_, s.at_, _, rfl, hs, _, _, rfl, rfl, ?_⟩
      · have z := DGet.k (k := (Sum.inr x : Key)) S.bx.dc
        rw [look_val, el] at z
        exact z
      · rw [show placeB st x = decide (((s.ents.map entK).length : Int) < 8) by
          unfold placeB
          rw [el, List.length_map]
          show decide (s.ents.length < 8) = decide ((s.ents.length : Int) < 8)
          by_cases h : s.ents.length < 8
          · rw [decide_eq_true h, decide_eq_true (by omega)]
          · rw [decide_eq_false h, decide_eq_false (by omega)]] at q
        exact q
end
end Pk

set_option Elab.async false
set_option linter.all false
set_option maxRecDepth 100000
set_option maxHeartbeats 4000000
namespace Pk
open PySem PySem.Spec PyProof.Rows L2
/-! ### what put and take leave -/
def takeS (st : List Shelf) (x : Str) (m : Int) : List Shelf := match look st x with
  | some s => if dropE s.ents m = [] then delS (setE st x (dropE s.ents m)) x else setE st x (dropE s.ents m)
  | none => st
theorem takeS_data {st : List Shelf} {x : Str} {m : Int} (v : Str) : dataOf (takeS st x m) v = if v = x then (dataOf st x).filter (fun e => decide (e.1 ≠ m)) else dataOf st v := by
  unfold takeS
  cases el : look st x with
  | none =>
    by_cases h : v = x
    · rw [if_pos h, h]
      unfold dataOf
      rw [el]
      rfl
    · rw [if_neg h]
  | some s =>
    have e0 : dataOf st x = s.ents.map entD := by unfold dataOf; rw [el]; rfl
    by_cases hd : dropE s.ents m = []
    · show dataOf (if dropE s.ents m = [] then _ else _) v = _
      rw [if_pos hd, delS_data, setE_data el]
      by_cases h : v = x
      · rw [if_pos h, if_pos h, e0, ← drop_data, hd]
        rfl
      · rw [if_neg h, if_neg h, if_neg h]
    · show dataOf (if dropE s.ents m = [] then _ else _) v = _
      rw [if_neg hd, setE_data el]
      by_cases h : v = x
      · rw [if_pos h, if_pos h, e0, drop_data]
      · rw [if_neg h, if_neg h]
theorem takeS_foot {st : List Shelf} {x : Str} {m : Int} {D : Addr} : ∀ f ∈ foot D (takeS st x m), f ∈ foot D st := by
  intro f hf
  unfold takeS at hf
  cases el : look st x with
  | none => rw [el] at hf; exact hf
  | some s =>
    rw [el] at hf
    rcases List.mem_cons.mp hf with rfl | hf
    · exact List.mem_cons_self ..
    · refine List.mem_cons_of_mem _ ?_
      by_cases hd : dropE s.ents m = []
      · have hf : f ∈ (if dropE s.ents m = [] then delS (setE st x (dropE s.ents m)) x else setE st x (dropE s.ents m)).map (fun y => y.at_) := hf
        rw [if_pos hd] at hf
        have z := (List.Sublist.map (fun y : Shelf => y.at_) (List.filter_sublist (p := fun s : Shelf => decide (s.ware ≠ x)) (l := setE st x (dropE s.ents m)))).subset hf
        rw [setE_ats] at z
        exact z
      · have hf : f ∈ (if dropE s.ents m = [] then delS (setE st x (dropE s.ents m)) x else setE st x (dropE s.ents m)).map (fun y => y.at_) := hf
        rw [if_neg hd, setE_ats] at hf
        exact hf
/-! ### defs that may raise, the errors bearing no other one -/
theorem Fun.okN {P : Program} {w : World} {K : PySem.W.Frag} {mg : Str → Option Value} {base : Heap} {x qual : Str} {st : Stmt} {f : Addr} {fd : FuncData} {N ps : List Str} {k : Nat} {sp : Sp} (F : Fun K x qual st f fd) (S : FnScope N ps (defScope st)) (len : ∀ vs H Q E, sp vs H Q E → vs.length = ps.length)
    (body : ∀ (cdv : Value) (A : Around) (outer : List Env) (s : Shared) (H : Hp) (vs : List V) (Q : VK) (E : XK), Room k (A.deeper (envOfC qual (defScope st) s.heap.objs.size f cdv)) → sp vs H Q E →
      ∃ t, PSs (cxOf (L2N.CX P w) P w K mg base N qual (defScope st) f cdv A outer s H E) (defBody st) t ∧ t { nx := fun _ H' => Q .non H', rt := Q } (start N vs) H) : FnOk P w K mg base (L2N.CX P w) (k + 1) f fd ps sp := by
  obtain ⟨oc, od, kV, doc, pm, an, cdv, ct, osl, rfl, lk, hcd⟩ := F.ex
  exact fn_of lk hcd S len fun A outer s H vs Q E hr h => body cdv A outer s H vs Q E hr h
/-! ### errors of the document -/
structure ExT (K : PySem.W.Frag) (mg : Str → Option Value) (x : Str) (C : Addr) : Prop where
  gC : mg x = some (.ref C)
  xP : PySem.W.excIn K C [.type "ValueError", .type "Exception", .type "BaseException", .type "object"] "ValueError.__new__" = true
  kP : PySem.W.keepIn K (.ref C) = true
  bP : PySem.W.subIn K (.ref C) (.type "BaseException") = some true
  tP : PySem.W.typeIn K (.ref C) = some (.type "type")
section
variable {P : Program} {w : World} {K : PySem.W.Frag} {mg : Str → Option Value} {base : Heap}
/-! ### take -/
theorem scTake : FnScope ["self", "ware", "make", "shelf"] ["self", "ware", "make"] (defScope sTake) := ⟨rfl, rfl, rfl, by decide +kernel, rfl, by decide +kernel, by decide +kernel⟩
def spTake (K : PySem.W.Frag) (C Tb N : Addr) : Sp := fun vs H Q E => ∃ (A : List Addr) (p D : Addr) (st : List Shelf) (wv mv : V) (wd md : PyData), vs = [.ref p, wv, mv] ∧ ShopAt K C A H p D st ∧ Dq K H wv wd ∧ okS wd = true ∧ Dq K H mv md ∧ GxR.TabG H Tb ∧
  (hasB st wd md = false → ∀ H', Kp Tb H H' → E (.ref N) none H') ∧
  ∀ x m, wd = .str x → md = .int m → hasB st wd md = true → ∀ H', ShopAt K C A H' p D (takeS st x m) → Kx Tb (foot D st) H H' → Q .non H'
theorem hasB_kinds {st : List Shelf} {wd md : PyData} (h : hasB st wd md = true) : ∃ x m, wd = .str x ∧ md = .int m := by
  have z : (wareB wd && makeB md && inB st wd md) = true := h
  simp only [Bool.and_eq_true] at z
  obtain ⟨m, rfl⟩ := makeB_ex z.1.2
  cases es : isStrD wd with
  | false => rw [wareB_no es] at z; exact absurd z.1.1 Bool.false_ne_true
  | true =>
    obtain ⟨x, rfl⟩ := isStrD_ex es
    exact ⟨x, m, rfl, rfl⟩
theorem hasB_ex {st : List Shelf} {x : Str} {m : Int} (h : hasB st (.str x) (.int m) = true) : ∃ s e, look st x = some s ∧ lookE s.ents m = some e := by
  have z : (wareB (.str x) && makeB (.int m) && ((look st x).bind fun s => lookE s.ents m).isSome) = true := h
  rw [Bool.and_eq_true] at z
  cases el : look st x with
  | none => rw [el] at z; cases z.2
  | some s =>
    rw [el] at z
    cases ee : lookE s.ents m with
    | none => have z2 : (lookE s.ents m).isSome = true := z.2; rw [ee] at z2; cases z2
    | some e => exact ⟨s, e, rfl, ee⟩
theorem ok_take {f C Tb fH N : Addr} {fd fdH : FuncData} (F : Fun K "take" "Shop.take" sTake f fd) (T : ShopT K mg C) (XN : ExT K mg "NoMake" N)
    (GH : FnOk P w K mg base CX0 3 fH fdH ["self", "ware", "make"] (spHas K C Tb)) (bH : Binds K fdH ["self", "ware", "make"] []) (mH : Meth K C "_has" fH) :
    FnOk P w K mg base (L2N.CX P w) 4 f fd ["self", "ware", "make"] (spTake K C Tb N) := by
  refine Fun.okN F scTake (fun vs H Q E h => ?_) (fun cdv A outer s H vs Q E hr h => ?_)
  · obtain ⟨A, p, D, st, wv, mv, wd, md, rfl, _⟩ := h
    rfl
  · obtain ⟨A, p, D, st, wv, mv, wd, md, rfl, S, hw, ho, hm, ht, qe, q⟩ := h
    have hu := hu_of hr
    refine ⟨_, pss_cons (ps_if (pt_not (pt_val (pe_meth (pv 0) T.cl mH GH hr bH .nil pass0 (pa_cons (pv 1) (pa_cons (pv 2) pa_nil))))) (pss_one (L2N.ps_raise rfl (L2N.takes_of rfl rfl rfl rfl) (L2N.pmk_own PySem.F.excBase_ValueError XN.xP XN.gC XN.kP (raises_own XN.bP XN.tP) rfl))) pss_nil)
      (PSs.nox (pss_cons (ps_set (i := 3) scTake.nd rfl (.inl rfl) (pe_dget hu (pe_fld (pv 0) rfl) (pv 1) (fun _ _ => rfl)))
      (pss_cons (ps_ddel (pv 3) (pv 2))
      (pss_one (ps_if (pt_not (pt_truth (pv 3) (by intro _; rfl))) (pss_one (ps_ddel (pe_fld (pv 0) rfl) (pv 1))) pss_nil))))), ?_⟩
    obtain ⟨dx, e1⟩ := S.ob
    refine ⟨_, rfl, p, dx, _, rfl, e1, flS_no D (by decide +kernel), _, rfl, _, rfl, A, p, D, st, _, _, _, _, rfl, S, hw, ho, hm, ht, fun H1 k1 => ⟨_, rfl, ?_⟩⟩
    cases hh : hasB st wd md with
    | false => exact iteT (qe hh H1 k1)
    | true =>
    obtain ⟨x, m, rfl, rfl⟩ := hasB_kinds hh
    have q := q x m rfl rfl hh
    cases hw
    cases hm
    refine iteF ?_
    obtain ⟨sh, e, el, ee⟩ := hasB_ex hh
    have S1 := S.keptP k1
    obtain ⟨dx1, e2⟩ := S1.ob
    have shm := (look_mem el).1
    have hs := (S1.bx.sh sh shm).dc
    have gD : DGet H1 D (.str x) (some (.ref sh.at_)) := by
      have z := DGet.k (k := (Sum.inr x : Key)) S1.bx.dc
      rw [look_val, el] at z
      exact z
    refine ⟨_, rfl, p, C, dx1, _, _, rfl, e2, T.cl, T.nS, flS_look D, _, rfl, D, _, rfl, gD, ?_⟩
    refine ⟨_, rfl, _, rfl, sh.at_, _, Sum.inl m, rfl, hs, rfl, (by rw [lookE_val, ee]; rfl), ?_⟩
    -- the shelf without the make
    have SH := S1.bx.sh sh shm
    obtain ⟨B2, k2⟩ := S1.bx.set (es := dropE sh.ents m) k1.tab el (fun e he => SH.dp e (List.mem_filter.mp he).1) (drop_nd SH.nd)
    rw [ent_drop]
    have d2 : upd H1 sh.at_ (.dK ((dropE sh.ents m).map entK)) sh.at_ = some (.dK ((dropE sh.ents m).map entK)) := upd_same
    have o2 : upd H1 sh.at_ (.dK ((dropE sh.ents m).map entK)) p = some (.ins C dx1 (flS D)) := by
      rw [upd_ne (fun z => ?_)]
      · exact e2
      · rw [← z, e2] at hs
        cases hs
    have t2 := k2.tab
    generalize upd H1 sh.at_ (.dK ((dropE sh.ents m).map entK)) = H2 at B2 k2 d2 o2 t2 ⊢
    refine ⟨_, rfl, _, .inr (.inr ⟨_, d2, rfl⟩), ?_⟩
    by_cases hd : dropE sh.ents m = []
    · rw [hd] at B2 ⊢
      refine iteT ?_
      refine ⟨_, rfl, p, C, dx1, _, _, rfl, o2, T.cl, T.nS, flS_look D, _, rfl, D, _, Sum.inr x, rfl, B2.dc, rfl, ?_, ?_⟩
      · rw [setE_keys, look_val, el]
        rfl
      · obtain ⟨B3, k3⟩ := B2.del (w := x) t2
        have ef : takeS st x m = delS (setE st x []) x := by
          unfold takeS
          rw [el]
          show (if dropE sh.ents m = [] then _ else _) = _
          rw [if_pos hd, hd]
        have efoot : foot D (setE st x []) = foot D st := by unfold foot; rw [setE_ats]
        rw [efoot] at k3
        refine q _ ⟨⟨dx1, ?_⟩, by rw [ef]; exact B3, fun z hz => ?_⟩ ((Kx.of k1).trans (k2.trans k3))
        · rw [upd_ne (fun z => ?_)]
          · exact o2
          · have z2 := B2.dc
            rw [← z, o2] at z2
            cases z2
        · rw [ef] at hz
          obtain ⟨h1, h2⟩ := delS_mem hz
          rcases setE_mem h1 with ⟨s', _, hw', rfl⟩ | ⟨h3, _⟩
          · exact absurd hw' h2
          · exact S.ne z h3
    · have hne : (!((dropE sh.ents m).map entK).isEmpty) = true := by
        cases hz : dropE sh.ents m with
        | nil => exact absurd hz hd
        | cons a r => rfl
      rw [hne]
      refine iteF ?_
      have ef : takeS st x m = setE st x (dropE sh.ents m) := by
        unfold takeS
        rw [el]
        show (if dropE sh.ents m = [] then _ else _) = _
        rw [if_neg hd]
      refine q _ ⟨⟨dx1, o2⟩, by rw [ef]; exact B2, fun z hz => ?_⟩ ((Kx.of k1).trans k2)
      rw [ef] at hz
      rcases setE_mem hz with ⟨s', _, hw', rfl⟩ | ⟨h3, _⟩
      · exact hd
      · exact S.ne z h3
end
end Pk

set_option Elab.async false
set_option linter.all false
set_option maxRecDepth 100000
set_option maxHeartbeats 4000000
namespace Pk
open PySem PySem.Spec PyProof.Rows L2
section
variable {P : Program} {w : World} {K : PySem.W.Frag} {mg : Str → Option Value} {base : Heap}
/-! ### put -/
theorem scPut : FnScope ["self", "ware", "make", "needs"] ["self", "ware", "make", "needs"] (defScope sPut) := ⟨rfl, rfl, rfl, by decide +kernel, rfl, by decide +kernel, by decide +kernel⟩
def spPut (K : PySem.W.Frag) (C Tb BW BM BN TW FU : Addr) : Sp := fun vs H Q E => ∃ (A : List Addr) (p D : Addr) (st : List Shelf) (wv mv nv : V) (wd md nd : PyData), vs = [.ref p, wv, mv, nv] ∧ ShopAt K C A H p D st ∧
  Dq K H wv wd ∧ okS wd = true ∧ Dq K H mv md ∧ Dq K H nv nd ∧ okL nd = true ∧ GxR.TabG H Tb ∧ (∀ a ∈ A, H a ≠ none) ∧ st.length ≤ 100 ∧
  (wareB wd = false → ∀ H', Kp Tb H H' → E (.ref BW) none H') ∧
  (wareB wd = true → makeB md = false → ∀ H', Kp Tb H H' → E (.ref BM) none H') ∧
  (∀ x, wd = .str x → wareB wd = true → makeB md = true → mayB x nd = false → ∀ H', Kp Tb H H' → E (.ref BN) none H') ∧
  (∀ x, wd = .str x → wareB wd = true → makeB md = true → mayB x nd = true → hasB st wd md = true → ∀ H', Kp Tb H H' → E (.ref TW) none H') ∧
  (∀ x, wd = .str x → wareB wd = true → makeB md = true → mayB x nd = true → hasB st wd md = false → placeB st x = false → ∀ H', Kp Tb H H' → E (.ref FU) none H') ∧
  (∀ x m, wd = .str x → md = .int m → wareB wd = true → makeB md = true → mayB x nd = true → hasB st wd md = false → placeB st x = true → ∃ (a : Addr) (xs : List V) (ds : List PyData), nv = .ref a ∧ nd = .list ds ∧ SqL K H a xs ∧ DpAll K (hide A H) xs ds ∧
    ∀ H' st', ShopAt K C A H' p D st' → (∀ v, dataOf st' v = if v = x then dataOf st x ++ [(m, ds)] else dataOf st v) → Kx Tb (foot D st) H H' → (∀ f ∈ foot D st', f ∈ foot D st ∨ H f = none) → Q .non H')
theorem hasB_not {st : List Shelf} {x : Str} {m : Int} (h : hasB st (.str x) (.int m) = false) (hw : wareB (.str x) = true) (hm : makeB (.int m) = true) : ((look st x).bind fun s => lookE s.ents m) = none := by
  have z : (wareB (.str x) && makeB (.int m) && ((look st x).bind fun s => lookE s.ents m).isSome) = false := h
  rw [hw, hm, Bool.true_and, Bool.true_and] at z
  cases e : (look st x).bind fun s => lookE s.ents m with
  | none => rfl
  | some q => rw [e] at z; cases z
theorem ok_put {f C Tb fW fM fY fH fP BW BM BN TW FU : Addr} {fd fdW fdM fdY fdH fdP : FuncData} (F : Fun K "put" "Shop.put" sPut f fd) (T : ShopT K mg C) (X1 : ExT K mg "BadWare" BW) (X2 : ExT K mg "BadMake" BM) (X3 : ExT K mg "BadNeed" BN) (X4 : ExT K mg "Twice" TW) (X5 : ExT K mg "Full" FU)
    (GW : FnOk P w K mg base CX0 1 fW fdW ["thing"] (spWare K Tb)) (kW : PySem.W.keepIn K (.ref fW) = true) (bW : Binds K fdW ["thing"] []) (gW : mg "is_ware" = some (.ref fW))
    (GM : FnOk P w K mg base CX0 2 fM fdM ["thing"] (spMake K)) (kM : PySem.W.keepIn K (.ref fM) = true) (bM : Binds K fdM ["thing"] []) (gM : mg "is_make" = some (.ref fM))
    (GY : FnOk P w K mg base CX0 4 fY fdY ["ware", "thing"] (spMay K Tb)) (kY : PySem.W.keepIn K (.ref fY) = true) (bY : Binds K fdY ["ware", "thing"] []) (gY : mg "_may_need" = some (.ref fY))
    (GH : FnOk P w K mg base CX0 3 fH fdH ["self", "ware", "make"] (spHas K C Tb)) (bH : Binds K fdH ["self", "ware", "make"] []) (mH : Meth K C "_has" fH)
    (GP : FnOk P w K mg base CX0 1 fP fdP ["self", "ware"] (spPlace K C)) (bP : Binds K fdP ["self", "ware"] []) (mP : Meth K C "_has_place" fP) :
    FnOk P w K mg base (L2N.CX P w) 5 f fd ["self", "ware", "make", "needs"] (spPut K C Tb BW BM BN TW FU) := by
  refine Fun.okN F scPut (fun vs H Q E h => ?_) (fun cdv A outer s H vs Q E hr h => ?_)
  · obtain ⟨A, p, D, st, wv, mv, nv, wd, md, nd, rfl, _⟩ := h
    rfl
  · obtain ⟨A, p, D, st, wv, mv, nv, wd, md, ndd, rfl, S, dw, ho, dm, dn, hok, ht, hA, hst, q1, q2, q3, q4, q5, q6⟩ := h
    have hu := hu_of hr
    refine ⟨_, pss_cons (ps_if (pt_not (pt_val (pe_call GW (hr.mono (by decide)) (by rfl) gW kW bW .nil pass0 (pa_cons (pv 1) pa_nil)))) (pss_one (L2N.ps_raise rfl (L2N.takes_of rfl rfl rfl rfl) (L2N.pmk_own PySem.F.excBase_ValueError X1.xP X1.gC X1.kP (raises_own X1.bP X1.tP) rfl))) pss_nil)
      (pss_cons (ps_if (pt_not (pt_val (pe_call GM (hr.mono (by decide)) (by rfl) gM kM bM .nil pass0 (pa_cons (pv 2) pa_nil)))) (pss_one (L2N.ps_raise rfl (L2N.takes_of rfl rfl rfl rfl) (L2N.pmk_own PySem.F.excBase_ValueError X2.xP X2.gC X2.kP (raises_own X2.bP X2.tP) rfl))) pss_nil)
      (pss_cons (ps_if (pt_not (pt_val (pe_call GY hr (by rfl) gY kY bY .nil pass0 (pa_cons (pv 1) (pa_cons (pv 3) pa_nil))))) (pss_one (L2N.ps_raise rfl (L2N.takes_of rfl rfl rfl rfl) (L2N.pmk_own PySem.F.excBase_ValueError X3.xP X3.gC X3.kP (raises_own X3.bP X3.tP) rfl))) pss_nil)
      (pss_cons (ps_if (pt_val (pe_meth (pv 0) T.cl mH GH (hr.mono (by decide)) bH .nil pass0 (pa_cons (pv 1) (pa_cons (pv 2) pa_nil)))) (pss_one (L2N.ps_raise rfl (L2N.takes_of rfl rfl rfl rfl) (L2N.pmk_own PySem.F.excBase_ValueError X4.xP X4.gC X4.kP (raises_own X4.bP X4.tP) rfl))) pss_nil)
      (pss_cons (ps_if (pt_not (pt_val (pe_meth (pv 0) T.cl mP GP (hr.mono (by decide)) bP .nil pass0 (pa_cons (pv 1) pa_nil)))) (pss_one (L2N.ps_raise rfl (L2N.takes_of rfl rfl rfl rfl) (L2N.pmk_own PySem.F.excBase_ValueError X5.xP X5.gC X5.kP (raises_own X5.bP X5.tP) rfl))) pss_nil)
      (PSs.nox (pss_one (ps_dput hu (pe_dsetd (pe_fld (pv 0) rfl) (pv 1) pe_dnewK ⟨rfl, rfl, rfl, rfl⟩) (pv 2) (pe_callTy call_list_of (by rfl) T.lst boot_list (pa_cons (pv 3) pa_nil)) rfl))))))), ?_⟩
    refine ⟨_, rfl, wv, wd, rfl, dw, ho, ht, fun H1 k1 => ⟨_, rfl, ?_⟩⟩
    cases hw : wareB wd with
    | false => exact iteT (q1 hw H1 k1)
    | true =>
    refine iteF ⟨_, rfl, mv, md, rfl, k1.dq _ _ dm, _, rfl, ?_⟩
    cases hm : makeB md with
    | false => exact iteT (q2 hw hm H1 k1)
    | true =>
    obtain ⟨m, rfl⟩ := makeB_ex hm
    obtain ⟨x, rfl⟩ : ∃ x, wd = .str x := by
      cases es : isStrD wd with
      | false => rw [wareB_no es] at hw; cases hw
      | true => exact isStrD_ex es
    have dw0 := dw
    have dm0 := dm
    cases dw
    cases dm
    refine iteF ⟨_, rfl, _, rfl, x, nv, ndd, rfl, k1.dq _ _ dn, hok, k1.tab, fun H2 k2 => ⟨_, rfl, ?_⟩⟩
    have k12 := k1.trans k2
    cases hmay : mayB x ndd with
    | false => exact iteT (q3 x rfl hw hm hmay H2 k12)
    | true =>
    have S2 := S.keptP k12
    obtain ⟨dx2, e2⟩ := S2.ob
    refine iteF ⟨_, rfl, p, dx2, _, rfl, e2, flS_no D (by decide +kernel), _, rfl, _, rfl, A, p, D, st, _, _, _, _, rfl, S2, .str x, ho, .int m, k2.tab, fun H3 k3 => ⟨_, rfl, ?_⟩⟩
    have k13 := k12.trans k3
    cases hhas : hasB st (.str x) (.int m) with
    | true => exact iteT (q4 x rfl hw hm hmay hhas H3 k13)
    | false =>
    have S3 := S2.keptP k3
    obtain ⟨dx3, e3⟩ := S3.ob
    refine iteF ⟨_, rfl, p, dx3, _, rfl, e3, flS_no D (by decide +kernel), _, rfl, A, p, D, st, x, rfl, S3, _, rfl, ?_⟩
    cases hpl : placeB st x with
    | false => exact iteT (q5 x rfl hw hm hmay hhas hpl H3 k13)
    | true =>
    obtain ⟨nd, xs, ds, rfl, rfl, hn, hall, q⟩ := q6 x m rfl rfl hw hm hmay hhas hpl
    refine iteF ⟨_, rfl, nd, xs, rfl, .inl (k13.seq hn), fun l nl => ?_⟩
    -- the new list of needs
    have k4 := Kp.new (o := HO.lst xs) k3.tab nl
    have nlH : H l = none := k13.free nl
    have lA : l ∉ A := fun z => hA l z nlH
    have S4 := S3.keptP k4
    have k14 := k13.trans k4
    have dl : Dp K (hide A (upd H3 l (.lst xs))) (.ref l) (.list ds) := by
      refine .lst (.inl (.inl (hide_of upd_same lA))) (dpAll_mono (fun b o hs e => ?_) ds xs hall)
      obtain ⟨a1, a2⟩ := hide_some e
      exact hide_of (k14.keep b o (isSeq_ne_tab k14.t0 hs a1) a1) a2
    have t4 := k4.tab
    have nn : ∀ b, upd H3 l (.lst xs) b = none → H b = none := fun b z => k14.free z
    generalize upd H3 l (.lst xs) = H4 at S4 k14 dl t4 nn ⊢
    obtain ⟨dx4, e4⟩ := S4.ob
    refine ⟨_, rfl, p, C, dx4, _, _, rfl, e4, T.cl, T.nS, flS_look D, D, rfl, .inl ⟨_, .inl S4.bx.dc⟩, _, rfl, fun a na => ?_⟩
    have k5 := Kp.new (o := HO.dK []) t4 na
    have S5 := S4.keptP k5
    have hnh := hasB_not hhas hw hm
    refine ⟨_, Sum.inr x, S5.bx.dc, rfl, small1000 (by rw [List.length_map]; omega), fun v hv => ?_, fun hv => ?_⟩
    · -- the ware has a shelf
      rw [look_val] at hv
      cases el : look st x with
      | none => rw [el] at hv; cases hv
      | some sh =>
        rw [el] at hv hnh
        have ev : v = .ref sh.at_ := (Option.some.inj hv).symm
        subst ev
        have le : lookE sh.ents m = none := hnh
        have SH := S5.bx.sh sh (look_mem el).1
        have hl8 : sh.ents.length < 8 := by
          unfold placeB at hpl
          rw [el] at hpl
          exact of_decide_eq_true hpl
        refine ⟨_, rfl, sh.at_, _, rfl, DPut.k (k := Sum.inl m) SH.dc (small1000 (by rw [List.length_map]; omega)), ?_⟩
        rw [ent_put (ds := ds) le]
        have dl5 := (Kx.of (A := []) k5).dpA (A := A) (fun f hf => by cases hf) dl
        obtain ⟨B6, k6⟩ := S5.bx.set (es := sh.ents ++ [(m, l, ds)]) k5.tab el (fun e he => by
          rcases List.mem_append.mp he with he | he
          · exact SH.dp e he
          · rw [List.mem_singleton.mp he]; exact dl5) (put_nd le SH.nd)
        obtain ⟨dx5, e5⟩ := S5.ob
        refine q _ _ ⟨⟨dx5, ?_⟩, B6, fun z hz => ?_⟩ (fun v => ?_) ((Kx.of (k14.trans k5)).trans k6) (fun f hf => .inl ?_)
        · rw [upd_ne (fun z => ?_)]
          · exact e5
          · have z2 := SH.dc
            rw [← z, e5] at z2
            cases z2
        · rcases setE_mem hz with ⟨s', _, _, rfl⟩ | ⟨h3, _⟩
          · exact List.append_ne_nil_of_right_ne_nil _ (List.cons_ne_nil _ _)
          · exact S.ne z h3
        · rw [setE_data el, List.map_append]
          have e0 : dataOf st x = sh.ents.map entD := by unfold dataOf; rw [el]; rfl
          rw [e0]
          rfl
        · unfold foot at hf
          rw [setE_ats] at hf
          exact hf
    · -- it has none
      rw [look_val] at hv
      cases el : look st x with
      | some sh => rw [el] at hv; cases hv
      | none =>
        obtain ⟨B6, k6⟩ := S4.bx.new (a := a) t4 el na
        have t6 := k6.tab
        have la := look_app (a := a) el x
        rw [if_pos rfl] at la
        have e6 : upd (upd H4 a (.dK [])) D (.dK (putK (st.map keyW) (Sum.inr x) (.ref a))) p = some (.ins C dx4 (flS D)) := by
          rw [upd_ne (fun z => ?_), upd_ne (fun z => ?_)]
          · exact e4
          · rw [z, na] at e4
            cases e4
          · have z2 := S4.bx.dc
            rw [← z, e4] at z2
            cases z2
        have dl6 := k6.dpA (A := A) (fun f hf => .inr (S4.bx.foot_dict f hf)) dl
        have na' : H a = none := nn a na
        generalize upd (upd H4 a (.dK [])) D (.dK (putK (st.map keyW) (Sum.inr x) (.ref a))) = H6 at B6 k6 t6 e6 dl6 ⊢
        have SH := B6.sh _ (look_mem la).1
        refine ⟨_, rfl, a, _, rfl, DPut.k (k := Sum.inl m) SH.dc (by show 0 < sizeLine; decide), ?_⟩
        show Q .non (upd H6 a (.dK (putK (([] : List (Int × Addr × List PyData)).map entK) (Sum.inl m) (.ref l))))
        rw [ent_put (es := []) (ds := ds) rfl]
        obtain ⟨B7, k7⟩ := B6.set (es := [] ++ [(m, l, ds)]) t6 la (fun e he => by
          rw [List.nil_append] at he
          rw [List.mem_singleton.mp he]
          exact dl6) (by rw [List.nil_append]; exact List.nodup_cons.mpr ⟨List.not_mem_nil, List.nodup_nil⟩)
        have ea : ∀ f ∈ foot D (st ++ [⟨x, a, []⟩]), f ∈ foot D st ∨ H f = none := fun f hf => by
          rcases List.mem_cons.mp hf with rfl | hf
          · exact .inl (List.mem_cons_self ..)
          · rw [List.map_append] at hf
            rcases List.mem_append.mp hf with hf | hf
            · exact .inl (List.mem_cons_of_mem _ hf)
            · rw [List.map_singleton] at hf
              rw [List.mem_singleton.mp hf]
              exact .inr na'
        refine q _ _ ⟨⟨dx4, ?_⟩, B7, fun z hz => ?_⟩ (fun v => ?_) ?_ (fun f hf => ?_)
        · rw [upd_ne (fun z => ?_)]
          · exact e6
          · have z2 := SH.dc
            have z3 : H6 a = some (.dK (([] : List (Int × Addr × List PyData)).map entK)) := z2
            rw [← z, e6] at z3
            cases z3
        · rcases setE_mem hz with ⟨s', _, _, rfl⟩ | ⟨h3, hne⟩
          · exact List.cons_ne_nil _ _
          · rcases List.mem_append.mp h3 with h3 | h3
            · exact S.ne z h3
            · exact absurd (by rw [List.mem_singleton.mp h3]) hne
        · rw [setE_data la]
          have e0 : dataOf st x = [] := by unfold dataOf; rw [el]; rfl
          by_cases hv : v = x
          · rw [if_pos hv, if_pos hv, e0]
            rfl
          · rw [if_neg hv, if_neg hv, data_app el]
        · -- what was kept
          refine ⟨ht, k7.tab, fun b o hb hbF e => ?_⟩
          have h4 := k14.keep b o hb e
          have h6 := k6.keep b o hb hbF h4
          refine k7.keep b o hb (fun z => ?_) h6
          rcases ea b z with z | z
          · exact hbF z
          · rw [e] at z; cases z
        · unfold foot at hf
          rw [setE_ats] at hf
          exact ea f hf
end
end Pk

set_option Elab.async false
set_option linter.all false
set_option maxRecDepth 100000
set_option maxHeartbeats 4000000
namespace Pk
open PySem PySem.Spec PyProof.Rows L2
def findD (l : List (Int × List PyData)) (m : Int) : Option (Int × List PyData) := l.find? fun e => decide (e.1 = m)
theorem findD_ents (m : Int) : ∀ es : List (Int × Addr × List PyData), findD (es.map entD) m = (lookE es m).map entD
  | [] => rfl
  | e :: r => by
    have ih := findD_ents m r
    unfold findD lookE at ih ⊢
    rw [List.map_cons, List.find?_cons, List.find?_cons]
    have e2 : decide ((entD e).1 = m) = decide (e.1 = m) := rfl
    rw [e2]
    cases decide (e.1 = m) with
    | true => rfl
    | false => exact ih
theorem hasB_data {st : List Shelf} {x : Str} {m : Int} (hw : wareB (.str x) = true) (hm : makeB (.int m) = true) : hasB st (.str x) (.int m) = (findD (dataOf st x) m).isSome := by
  show (wareB (.str x) && makeB (.int m) && ((look st x).bind fun s => lookE s.ents m).isSome) = _
  rw [hw, hm, Bool.true_and, Bool.true_and]
  unfold dataOf
  cases look st x with
  | none => rfl
  | some s =>
    show (lookE s.ents m).isSome = (findD (s.ents.map entD) m).isSome
    rw [findD_ents]
    cases lookE s.ents m <;> rfl
section
variable {P : Program} {w : World} {K : PySem.W.Frag} {mg : Str → Option Value} {base : Heap}
/-! ### makes -/
theorem scMakes : FnScope ["self", "ware"] ["self", "ware"] (defScope sMakes) := ⟨rfl, rfl, rfl, by decide +kernel, rfl, by decide +kernel, by decide +kernel⟩
def spMakes (K : PySem.W.Frag) (C Tb BW : Addr) : Sp := fun vs H Q E => ∃ (A : List Addr) (p D : Addr) (st : List Shelf) (wv : V) (wd : PyData), vs = [.ref p, wv] ∧ ShopAt K C A H p D st ∧ Dq K H wv wd ∧ okS wd = true ∧ GxR.TabG H Tb ∧
  (wareB wd = false → ∀ H', Kp Tb H H' → E (.ref BW) none H') ∧
  ∀ x, wd = .str x → wareB wd = true → (dataOf st x).length < 64 ∧ ∀ (ys : List Int) l H', ys.Perm ((dataOf st x).map (·.1)) → ys.Pairwise (· ≤ ·) → Kp Tb H H' → H l = none → H' l = some (.lst (ys.map V.int)) → Q (.ref l) H'
theorem ok_makes {f C Tb fW BW : Addr} {fd fdW : FuncData} (F : Fun K "makes" "Shop.makes" sMakes f fd) (T : ShopT K mg C) (X1 : ExT K mg "BadWare" BW)
    (GW : FnOk P w K mg base CX0 1 fW fdW ["thing"] (spWare K Tb)) (kW : PySem.W.keepIn K (.ref fW) = true) (bW : Binds K fdW ["thing"] []) (gW : mg "is_ware" = some (.ref fW)) :
    FnOk P w K mg base (L2N.CX P w) 2 f fd ["self", "ware"] (spMakes K C Tb BW) := by
  refine Fun.okN F scMakes (fun vs H Q E h => ?_) (fun cdv A outer s H vs Q E hr h => ?_)
  · obtain ⟨A, p, D, st, wv, wd, rfl, _⟩ := h
    rfl
  · obtain ⟨A, p, D, st, wv, wd, rfl, S, dw, ho, ht, q1, q⟩ := h
    have hu := hu_of hr
    refine ⟨_, pss_cons (ps_if (pt_not (pt_val (pe_call GW hr (by rfl) gW kW bW .nil pass0 (pa_cons (pv 1) pa_nil)))) (pss_one (L2N.ps_raise rfl (L2N.takes_of rfl rfl rfl rfl) (L2N.pmk_own PySem.F.excBase_ValueError X1.xP X1.gC X1.kP (raises_own X1.bP X1.tP) rfl))) pss_nil)
      (PSs.nox (pss_one (ps_ret (pe_callB (call_sortedDI rfl) (by rfl) T.srt (by decide +kernel) (pa_cons (pe_dget2 hu (pe_fld (pv 0) rfl) (pv 1) pe_dnewK ⟨rfl, rfl, rfl, rfl⟩) pa_nil))))), ?_⟩
    refine ⟨_, rfl, wv, wd, rfl, dw, ho, ht, fun H1 k1 => ⟨_, rfl, ?_⟩⟩
    cases hw : wareB wd with
    | false => exact iteT (q1 hw H1 k1)
    | true =>
    obtain ⟨x, rfl⟩ : ∃ x, wd = .str x := by
      cases es : isStrD wd with
      | false => rw [wareB_no es] at hw; cases hw
      | true => exact isStrD_ex es
    cases dw
    obtain ⟨h64, q⟩ := q x rfl hw
    have S1 := S.keptP k1
    obtain ⟨dx, e1⟩ := S1.ob
    refine iteF ⟨_, rfl, p, C, dx, _, _, rfl, e1, T.cl, T.nS, flS_look D, D, rfl, .inl ⟨_, .inl S1.bx.dc⟩, _, rfl, fun d nd => ?_⟩
    have k2 := Kp.new (o := HO.dK []) k1.tab nd
    have S2 := S1.keptP k2
    have k12 := k1.trans k2
    refine ⟨_, DGet.k (k := Sum.inr x) S2.bx.dc, ?_⟩
    rw [look_val]
    cases el : look st x with
    | none =>
      have e0 : dataOf st x = [] := by unfold dataOf; rw [el]; rfl
      refine ⟨d, [], [], rfl, .inl upd_same, rfl, by decide, fun ys l hp hs nl => ?_⟩
      have k3 := Kp.new (o := HO.lst (ys.map V.int)) k2.tab nl
      exact q ys l _ (by rw [e0]; exact hp) hs (k12.trans k3) (k12.free nl) upd_same
    | some sh =>
      have e0 : dataOf st x = sh.ents.map entD := by unfold dataOf; rw [el]; rfl
      have SH := S2.bx.sh sh (look_mem el).1
      have e3 : (dataOf st x).map (·.1) = sh.ents.map (·.1) := by
        rw [e0, List.map_map]
        rfl
      refine ⟨sh.at_, _, sh.ents.map (·.1), rfl, .inl SH.dc, ?_, ?_, fun ys l hp hs nl => ?_⟩
      · rw [List.map_map, List.map_map]
        rfl
      · rw [e0, List.length_map] at h64
        rw [List.length_map]
        exact h64
      · have k3 := Kp.new (o := HO.lst (ys.map V.int)) k2.tab nl
        exact q ys l _ (by rw [e3]; exact hp) hs (k12.trans k3) (k12.free nl) upd_same
/-! ### needs -/
theorem scNeeds : FnScope ["self", "ware", "make"] ["self", "ware", "make"] (defScope sNeeds) := ⟨rfl, rfl, rfl, by decide +kernel, rfl, by decide +kernel, by decide +kernel⟩
def spNeeds (K : PySem.W.Frag) (C Tb N : Addr) : Sp := fun vs H Q E => ∃ (A : List Addr) (p D : Addr) (st : List Shelf) (wv mv : V) (wd md : PyData), vs = [.ref p, wv, mv] ∧ ShopAt K C A H p D st ∧ Dq K H wv wd ∧ okS wd = true ∧ Dq K H mv md ∧ GxR.TabG H Tb ∧
  (hasB st wd md = false → ∀ H', Kp Tb H H' → E (.ref N) none H') ∧
  ∀ x m, wd = .str x → md = .int m → hasB st wd md = true → ∀ (xs : List V) (ds : List PyData) l H', findD (dataOf st x) m = some (m, ds) → Kp Tb H H' → H l = none → H' l = some (.lst xs) → DpAll K (hide A H') xs ds → Q (.ref l) H'
theorem ok_needs {f C Tb fH N : Addr} {fd fdH : FuncData} (F : Fun K "needs" "Shop.needs" sNeeds f fd) (T : ShopT K mg C) (XN : ExT K mg "NoMake" N)
    (GH : FnOk P w K mg base CX0 3 fH fdH ["self", "ware", "make"] (spHas K C Tb)) (bH : Binds K fdH ["self", "ware", "make"] []) (mH : Meth K C "_has" fH) :
    FnOk P w K mg base (L2N.CX P w) 4 f fd ["self", "ware", "make"] (spNeeds K C Tb N) := by
  refine Fun.okN F scNeeds (fun vs H Q E h => ?_) (fun cdv A outer s H vs Q E hr h => ?_)
  · obtain ⟨A, p, D, st, wv, mv, wd, md, rfl, _⟩ := h
    rfl
  · obtain ⟨A, p, D, st, wv, mv, wd, md, rfl, S, dw, ho, dm, ht, q1, q⟩ := h
    have hu := hu_of hr
    refine ⟨_, pss_cons (ps_if (pt_not (pt_val (pe_meth (pv 0) T.cl mH GH hr bH .nil pass0 (pa_cons (pv 1) (pa_cons (pv 2) pa_nil))))) (pss_one (L2N.ps_raise rfl (L2N.takes_of rfl rfl rfl rfl) (L2N.pmk_own PySem.F.excBase_ValueError XN.xP XN.gC XN.kP (raises_own XN.bP XN.tP) rfl))) pss_nil)
      (PSs.nox (pss_one (ps_ret (pe_callTy call_list_of (by rfl) T.lst boot_list (pa_cons (pe_dget hu (pe_dget hu (pe_fld (pv 0) rfl) (pv 1) (fun _ _ => rfl)) (pv 2) (fun _ _ => rfl)) pa_nil))))), ?_⟩
    obtain ⟨dx, e1⟩ := S.ob
    refine ⟨_, rfl, p, dx, _, rfl, e1, flS_no D (by decide +kernel), _, rfl, _, rfl, A, p, D, st, _, _, _, _, rfl, S, dw, ho, dm, ht, fun H1 k1 => ⟨_, rfl, ?_⟩⟩
    cases hh : hasB st wd md with
    | false => exact iteT (q1 hh H1 k1)
    | true =>
    obtain ⟨x, m, rfl, rfl⟩ := hasB_kinds hh
    have q := q x m rfl rfl hh
    cases dw
    cases dm
    obtain ⟨sh, e, el, ee⟩ := hasB_ex hh
    have S1 := S.keptP k1
    obtain ⟨dx1, e2⟩ := S1.ob
    have SH := S1.bx.sh sh (look_mem el).1
    have gD : DGet H1 D (.str x) (some (.ref sh.at_)) := by
      have z := DGet.k (k := (Sum.inr x : Key)) S1.bx.dc
      rw [look_val, el] at z
      exact z
    have gE : DGet H1 sh.at_ (.int m) (some (.ref e.2.1)) := by
      have z := DGet.k (k := (Sum.inl m : Key)) SH.dc
      rw [lookE_val, ee] at z
      exact z
    have de := SH.dp e (lookE_mem ee).1
    have em := (lookE_mem ee).2
    cases de with
    | @lst _ xs _ hxs hall =>
      have hx1 : SqL K H1 e.2.1 xs := by
        rcases hxs with (a | ⟨o, a⟩) | a
        · exact .inl (.inl (hide_some a).1)
        · exact .inl (.inr ⟨o, (hide_some a).1⟩)
        · exact .inr a
      refine iteF ⟨_, rfl, p, C, dx1, _, _, rfl, e2, T.cl, T.nS, flS_look D, _, rfl, D, _, rfl, gD, _, rfl, sh.at_, _, rfl, gE, _, xs, rfl, .inl hx1, fun l nl => ?_⟩
      have k2 := Kp.new (o := HO.lst xs) k1.tab nl
      refine q xs e.2.2 l _ ?_ (k1.trans k2) (k1.free nl) upd_same (dpAll_mono (fun b o hs eb => ?_) _ _ hall)
      · have e0 : dataOf st x = sh.ents.map entD := by unfold dataOf; rw [el]; rfl
        rw [e0, findD_ents, ee, ← em]
        rfl
      · obtain ⟨a1, a2⟩ := hide_some eb
        exact hide_of (k2.keep b o (isSeq_ne_tab k2.t0 hs a1) a1) a2
/-! ### wares -/
theorem scWares : FnScope ["self"] ["self"] (defScope sWares) := ⟨rfl, rfl, rfl, by decide +kernel, rfl, by decide +kernel, by decide +kernel⟩
def spWares (K : PySem.W.Frag) (C Tb : Addr) : Sp := fun vs H Q _ => ∃ (A : List Addr) (p D : Addr) (st : List Shelf), vs = [.ref p] ∧ ShopAt K C A H p D st ∧ GxR.TabG H Tb ∧ st.length < 64 ∧
  ∀ (ys : List Str) l H', ys.Perm (st.map (·.ware)) → sortedS ys = true → Kp Tb H H' → H l = none → H' l = some (.lst (ys.map V.str)) → Q (.ref l) H'
theorem ok_wares {f C Tb : Addr} {fd : FuncData} (F : Fun K "wares" "Shop.wares" sWares f fd) (T : ShopT K mg C) : FnOk P w K mg base CX0 1 f fd ["self"] (spWares K C Tb) := by
  refine F.ok scWares (fun vs H Q E h => ?_) (fun cdv A outer s H vs Q E hr h => ?_)
  · obtain ⟨A, p, D, st, rfl, _⟩ := h
    rfl
  · obtain ⟨A, p, D, st, rfl, S, ht, h64, q⟩ := h
    refine ⟨_, pss_one (ps_ret (pe_callB (call_sortedD rfl) (by rfl) T.srt (by decide +kernel) (pa_cons (pe_fld (pv 0) rfl) pa_nil))), ?_⟩
    obtain ⟨dx, e1⟩ := S.ob
    refine ⟨_, rfl, p, C, dx, _, _, rfl, e1, T.cl, T.nS, flS_look D, D, _, st.map (·.ware), rfl, .inl S.bx.dc, ?_, by rw [List.length_map]; exact h64, fun ys l hp hs nl => ?_⟩
    · rw [List.map_map, List.map_map]
      rfl
    · exact q ys l _ hp hs (Kp.new ht nl) nl upd_same
end
end Pk

set_option Elab.async false
set_option linter.all false
set_option maxRecDepth 100000
set_option maxHeartbeats 4000000
namespace Pk
open PySem PySem.Spec PyProof.Rows L2
/-! ### xs[::k], k one or less one -/
def tStepL (K : PySem.W.Frag) (te ts : TE) : TE := fun σ H Q => te σ H fun x H1 => tPart ts σ H1 fun o H2 => ∃ a xs, x = .ref a ∧ SqL K H2 a xs ∧
  ((o = some 1 ∧ ∀ p, H2 p = none → Q (.ref p) (upd H2 p (.lst xs))) ∨ (o = some (-1) ∧ ∀ p, H2 p = none → Q (.ref p) (upd H2 p (.lst xs.reverse))))
theorem cutV_all (xs : List V) : cutV xs none none = xs := by
  unfold cutV
  rw [HT.sIx_none, HT.sIx_none, List.drop_zero, Nat.sub_zero, List.take_length]
section
variable {X : Cx}
theorem pe_stepL {e f : Expr} {te ts : TE} {p3 pos : Pos} (he : PE X e te) (hf : PE X f ts) : PE X (.Subscript e (.Slice none none (some f) p3) pos) (tStepL X.K te ts) := by
  refine ⟨fun pins s σ H Q I h => ?_⟩
  refine Subscript_ (thn (he.run pins s σ H _ I h) fun v s1 ⟨x, H1, I1, r1, q1⟩ => ?_)
  have hst : PO X (some f) (tPart ts) := po_some hf
  refine wpAny_Slice (thn (po_none.run pins s1 σ H1 (fun o H2 => o = none ∧ H2 = H1) I1 ⟨rfl, rfl⟩) fun vl s2 ⟨l, H2, I2, pl, el, e2⟩ => ?_)
  subst el e2
  refine thn (po_none.run pins s2 σ H2 (fun o H3 => o = none ∧ H3 = H2) I2 ⟨rfl, rfl⟩) fun vu s3 ⟨u, H3, I3, pu, eu, e3⟩ => ?_
  subst eu e3
  refine thn (hst.run pins s3 σ H3 _ I3 q1) fun vs s4 ⟨o, H4, I4, ps, q4⟩ => ?_
  obtain ⟨a, xs, ex, hx, q⟩ := q4
  subst ex
  cases r1
  have I5 : Inv X pins σ H4 { s4 with heap := s4.heap.push { cls := .type "slice", data := .fields #[vl, vu, vs] } } := I4.kept (t' := s4.toks) fun b ob q => Heap.get?_push_of_some _ q
  obtain ⟨its, r, ht, hz⟩ := I5.list hx
  have hlen := r.length
  show wpAny (model X.prog X.w) X.A (subscriptTail e (.Slice none none (some f) p3) (.ref a) (.ref s4.heap.objs.size)) (EP X pins σ Q) X.xe { s4 with heap := s4.heap.push { cls := .type "slice", data := .fields #[vl, vu, vs] } }
  refine tail_any (ops := [.ref a, .ref s4.heap.objs.size]) ht.isList.typeIs (PySem.slot_list_getitem.lookup) ?_ (by with_unfolding_all rfl)
  rcases q with ⟨rfl, q⟩ | ⟨rfl, q⟩
  · refine wpAny_getItem_list_slice ht.isList (Heap.IsSliceOf.new _ vl vu vs) pl pu ps (by decide) ?_ (by rw [List.size_toArray]; omega)
    rw [show slicePick its.toArray none none (some 1) = slicePick its.toArray none none none from rfl, slicePick_cut, HT.sIx_none, HT.sIx_none, List.drop_zero, Nat.sub_zero, List.take_length]
    refine ⟨.ref _, _, I5.laid (t' := s4.toks) (o := .lst xs) (fun b ob q => Heap.get?_push_of_some _ q) (Nat.le_refl _) ?_, rfl, q _ (I5.hok.fresh (Nat.le_refl _))⟩
    exact ⟨hz, _, 0, r, Heap.get?_push_size _ rfl⟩
  · refine wpAny_getItem_list_slice ht.isList (Heap.IsSliceOf.new _ vl vu vs) pl pu ps (by decide) ?_ (by rw [List.size_toArray]; omega)
    rw [PySem.W.krv_pick]
    refine ⟨.ref _, _, I5.laid (t' := s4.toks) (o := .lst xs.reverse) (fun b ob q => Heap.get?_push_of_some _ q) (Nat.le_refl _) ?_, rfl, q _ (I5.hok.fresh (Nat.le_refl _))⟩
    exact ⟨by rw [List.length_reverse]; exact hz, _, 0, r.reverse, Heap.get?_push_size _ rfl⟩
end
/-! ### wares by their signs -/
theorem all_az {l : List Nat} (h : Az l) : l.all azB = true := by
  rw [List.all_eq_true]
  intro c hc
  have := h c hc
  rw [azB_iff, decide_eq_true this.1, decide_eq_true this.2] <;> rfl
theorem ware_S {l : List Nat} (h : Az l) (h1 : 1 ≤ l.length) (h8 : l.length ≤ 8) : wareB (.str (SX.S l)) = true := by
  show (decide _ && decide _ && _) = true
  rw [SX.S_len, decide_eq_true h1, decide_eq_true h8, show (SX.S l).cps.toList = l by simp, all_az h] <;> rfl
theorem okS_az {l : List Nat} (h : Az l) (h8 : l.length ≤ 1000) : okS (.str (SX.S l)) = true := okS_S h.ok h8
theorem letters_az : Az letters := fun c hc => by
  obtain ⟨i, hi, rfl⟩ := List.mem_map.mp hc
  have := List.mem_range.mp hi
  omega
theorem cutS_to {l : List Nat} {a : Int} (h0 : 0 ≤ a) : cutS (SX.S l) none (some a) = SX.S (l.take a.toNat) := by
  have e : a = ((a.toNat : Nat) : Int) := by omega
  unfold cutS
  rw [HT.sIx_none, e, HT.sIx_nat, List.drop_zero, Nat.sub_zero, SX.S_len, show (SX.S l).cps.toList = l by simp]
  congr 2
  rw [show ((a.toNat : Nat) : Int).toNat = a.toNat by omega]
  by_cases h : a.toNat ≤ l.length
  · rw [Nat.min_eq_left h]
  · rw [Nat.min_eq_right (by omega), List.take_length, List.take_of_length_le (by omega)]
theorem cutS_from {l : List Nat} {a : Int} (h0 : 0 ≤ a) : cutS (SX.S l) (some a) none = SX.S (l.drop a.toNat) := by
  have e : a = ((a.toNat : Nat) : Int) := by omega
  unfold cutS
  rw [HT.sIx_none, e, HT.sIx_nat, SX.S_len, show (SX.S l).cps.toList = l by simp]
  congr 2
  rw [show ((a.toNat : Nat) : Int).toNat = a.toNat by omega]
  by_cases h : a.toNat ≤ l.length
  · rw [Nat.min_eq_left h, List.take_of_length_le (by rw [List.length_drop]; omega)]
  · rw [Nat.min_eq_right (by omega), List.drop_length, List.drop_eq_nil_of_le (by omega)]
    exact List.take_nil
theorem Az.sub {l m : List Nat} (h : Az l) (hs : ∀ c ∈ m, c ∈ l) : Az m := fun c hc => h c (hs c hc)
theorem Az.app {l m : List Nat} (h : Az l) (h2 : Az m) : Az (l ++ m) := fun c hc => (List.mem_append.mp hc).elim (h c) (h2 c)
section
variable {P : Program} {w : World} {K : PySem.W.Frag} {mg : Str → Option Value} {base : Heap}
/-! ### the law's mixed -/
theorem scMixed : FnScope ["_law_script", "_law_k", "_law_cell", "_law_number"] ["_law_script", "_law_k"] (defScope sMixed) := ⟨rfl, rfl, rfl, by decide +kernel, rfl, by decide +kernel, by decide +kernel⟩
def spMixed (K : PySem.W.Frag) : Sp := fun vs H Q _ => ∃ (a : Addr) (ns : List Int) (k : Nat), vs = [.ref a, .int k] ∧ SqL K H a (ns.map V.int) ∧ k ≤ 1000 ∧ ∀ n : Int, 0 ≤ n → n < 2147483629 → Q (.int n) H
theorem ok_mixed {f : Addr} {fd : FuncData} (F : Fun K "_law_mixed" "_law_mixed" sMixed f fd) (mL : mg "len" = none) : FnOk P w K mg base CX0 1 f fd ["_law_script", "_law_k"] (spMixed K) := by
  refine F.ok scMixed (fun vs H Q E h => ?_) (fun cdv A outer s H vs Q E hr h => ?_)
  · obtain ⟨a, ns, k, rfl, _⟩ := h
    rfl
  · obtain ⟨a, ns, k, rfl, hS, hk, q⟩ := h
    refine ⟨_, pss_cons (ps_set (i := 2) scMixed.nd rfl (.inl rfl) pe_int)
      (C8.pss_cut (ps_if (pt_cmpR op_gt (pe_callB call_len_seq (by rfl) mL PySem.boot_len (pa_cons (pv 0) pa_nil)) pe_int (nomark _)) (pss_one (ps_set (i := 2) scMixed.nd rfl (.inl rfl) (pe_ix ix_list (pv 0) (pe_op op_mod (pv 1) (pe_callB call_len_seq (by rfl) mL PySem.boot_len (pa_cons (pv 0) pa_nil))) (fun _ _ => rfl)))) pss_nil)
      (pss_cons (ps_set (i := 3) scMixed.nd rfl (.inl rfl) (pe_op op_mod (pe_op op_mul (pe_op op_add (pv 2) (pe_op op_mul pe_int (pv 1))) pe_int) pe_int))
      (pss_one (ps_ret (pe_op op_mod (pe_op op_mul (pv 3) (pe_op op_add pe_int (pe_op op_mul (pv 1) (pv 1)))) pe_int))))), ?_⟩
    refine ⟨fun σ' H' => ∃ c : Int, σ' = [some (.ref a), some (.int k), some (.int c), none] ∧ H' = H, ?_, fun σ' H' hm => ?_⟩
    · refine ⟨_, rfl, a, _, rfl, .inl hS, _, _, rfl, rfl, _, rfl, iteD (fun h => ?_) (fun h => ?_)⟩
      · rw [List.length_map] at h
        refine ⟨_, rfl, _, rfl, _, rfl, a, _, rfl, .inl hS, _, _, rfl, rfl, (by rw [List.length_map]; exact h), ?_⟩
        have hm0 : 0 ≤ (k : Int) % (ns.length : Int) := Int.emod_nonneg _ (by omega)
        have hm1 : (k : Int) % (ns.length : Int) < (ns.length : Int) := Int.emod_lt_of_pos _ (by omega)
        obtain ⟨v, hv, c, rfl⟩ := at_pick (xs := ns.map V.int) (i := (k : Int) % ((ns.map V.int).length : Int)) (p := fun v => ∃ c : Int, v = .int c) (by rw [List.length_map]; exact hm0) (by rw [List.length_map]; exact hm1) (fun x hx => by
          obtain ⟨c, _, rfl⟩ := List.mem_map.mp hx
          exact ⟨c, rfl⟩)
        exact ⟨a, _, _, _, rfl, rfl, hS, hv, c, rfl, rfl⟩
      · exact ⟨0, rfl, rfl⟩
    · obtain ⟨c, rfl, rfl⟩ := hm
      refine ⟨_, rfl, _, rfl, 7919, k, rfl, rfl, .inl ⟨by decide, by decide⟩, c, _, rfl, rfl, _, 48271, rfl, rfl, .inr ⟨by decide, by decide⟩, _, 2147483647, rfl, rfl, (by show (0 : Int) < 2147483647; decide), ?_⟩
      have h0 : 0 ≤ (c + 7919 * (k : Int)) * 48271 % 2147483647 := Int.emod_nonneg _ (by decide)
      have h1 : (c + 7919 * (k : Int)) * 48271 % 2147483647 < 2147483647 := Int.emod_lt_of_pos _ (by decide)
      refine ⟨_, rfl, _, rfl, _, rfl, k, k, rfl, rfl, .inl ⟨by omega, by omega⟩, 16807, _, rfl, rfl, _, _, rfl, rfl, .inl ⟨by omega, by omega⟩, _, 2147483629, rfl, rfl, (by show (0 : Int) < 2147483629; decide), ?_⟩
      exact q _ (Int.emod_nonneg _ (by decide)) (Int.emod_lt_of_pos _ (by decide))
end
end Pk

set_option Elab.async false
set_option linter.all false
set_option maxRecDepth 100000
set_option maxHeartbeats 4000000
namespace Pk
open PySem PySem.Spec PyProof.Rows L2
/-- the texts of a comprehension that joins one sign each -/
theorem join_ones2 (l : List Nat) : Txt.join ("" : Str) (l.map fun c => (⟨#[c]⟩ : Str)) = SX.S l := by
  have e1 : ("" : Str) = SX.S [] := by decide +kernel
  have e2 : (l.map fun c => (⟨#[c]⟩ : Str)) = (l.map fun c => [c]).map SX.S := by
    rw [List.map_map]
    rfl
  have e3 : ∀ ls : List (List Nat), TL.joinL [] ls = ls.flatten := by
    intro ls
    induction ls with
    | nil => rfl
    | cons p r ih =>
      cases r with
      | nil => simp [TL.joinL]
      | cons q r =>
        show p ++ ([] ++ TL.joinL [] (q :: r)) = _
        rw [ih, List.nil_append]
        rfl
  rw [e1, e2, SX.join_S, e3]
  congr 1
  induction l with
  | nil => rfl
  | cons x r ih =>
    rw [List.map_cons, List.flatten_cons, ih]
    · rfl
    · rw [List.map_map]
      rfl
theorem sum_ones : ∀ l : List Nat, ((l.map fun c => (⟨#[c]⟩ : Str)).map (·.length)).sum = l.length
  | [] => rfl
  | x :: r => by
    rw [List.map_cons, List.map_cons, List.sum_cons, sum_ones r, List.length_cons]
    show 1 + r.length = r.length + 1
    omega
def frameL (n : Int) : List Nat := (List.range (n / 2 % 8).toNat).map fun (j : Nat) => 97 + ((n / 7 + 5 * (j : Int)) % 26).toNat
theorem frameL_len (n : Int) : (frameL n).length ≤ 7 := by
  unfold frameL
  rw [List.length_map, List.length_range]
  omega
theorem frameL_az (n : Int) : Az (frameL n) := fun x hx => by
  obtain ⟨j, _, rfl⟩ := List.mem_map.mp hx
  omega
def GoodN (x : Str) : Prop := wareB (.str x) = true ∧ okS (.str x) = true
theorem goodN {l : List Nat} (h : Az l) (h1 : 1 ≤ l.length) (h8 : l.length ≤ 8) : GoodN (SX.S l) := ⟨ware_S h h1 h8, okS_az h (by omega)⟩
def nameL (fr : List Nat) (k : Nat) (c : Nat) : List Nat := fr.take k ++ [c] ++ fr.drop k
def nameS (fr : List Nat) (k : Nat) (b st : Int) (j : Nat) : Str := SX.S (nameL fr k (97 + ((b + st * (0 + (j : Int))) % 26).toNat))
theorem S_inj {l m : List Nat} (h : SX.S l = SX.S m) : l = m := by
  have z : (SX.S l).cps.toList = (SX.S m).cps.toList := by rw [h]
  simpa using z
theorem names_nodup {fr : List Nat} {k : Nat} {b st : Int} (hs : st = 3 ∨ st = 23) {m : Nat} (hm : m ≤ 26) : ((List.range m).map (nameS fr k b st)).Nodup := by
  refine (List.pairwise_map).mpr ((List.pairwise_lt_range (n := m)).imp_of_mem ?_)
  intro i j hi hj hlt e
  have hi := List.mem_range.mp hi
  have hj := List.mem_range.mp hj
  have e1 := S_inj e
  unfold nameL at e1
  have e2 := List.append_cancel_left (List.append_cancel_right e1)
  have e3 : 97 + ((b + st * (0 + (i : Int))) % 26).toNat = 97 + ((b + st * (0 + (j : Int))) % 26).toNat := (List.cons.inj e2).1
  rcases hs with rfl | rfl <;> omega
def preS (b : List Nat) (j : Nat) : Str := SX.S (b.take (1 + j))
theorem pre_nodup {b : List Nat} {m : Nat} (h : m ≤ b.length) : ((List.range m).map (preS b)).Nodup := by
  refine (List.pairwise_map).mpr ((List.pairwise_lt_range (n := m)).imp_of_mem ?_)
  intro i j hi hj hlt e
  have hi := List.mem_range.mp hi
  have hj := List.mem_range.mp hj
  have e1 := congrArg List.length (S_inj e)
  rw [List.length_take, List.length_take] at e1
  omega
section
variable {P : Program} {w : World} {K : PySem.W.Frag} {mg : Str → Option Value} {base : Heap}
def namesN : List Str := ["_law_script", "_law_many", "_law_letters", "_law_number", "_law_step", "_law_frame", "_law_at", "_law_names_here", "_law_k", "_law_sign", "_law_j"]
theorem scNames : FnScope namesN ["_law_script", "_law_many"] (defScope sNames) := ⟨rfl, rfl, rfl, by decide +kernel, rfl, by decide +kernel, by decide +kernel⟩
def spNames (K : PySem.W.Frag) (T : Addr) : Sp := fun vs H Q _ => ∃ (a : Addr) (ns : List Int) (k : Nat), vs = [.ref a, .int k] ∧ SqL K H a (ns.map V.int) ∧ (1 ≤ k ∧ k ≤ 26) ∧ GxR.TabG H T ∧ ∀ (names : List Str) l H', names.length = k → (∀ y ∈ names, GoodN y) → names.Nodup → Kp T H H' → H l = none → H' l = some (.lst (names.map V.str)) → Q (.ref l) H'
theorem ok_names {f fX T : Addr} {fd fdX : FuncData} (F : Fun K "_law_names" "_law_names" sNames f fd) (FX : Fun K "_law_mixed" "_law_mixed" sMixed fX fdX) (bX : Binds K fdX ["_law_script", "_law_k"] []) (gX : mg "_law_mixed" = some (.ref fX))
    (mL : mg "len" = none) (mR : mg "range" = none) : FnOk P w K mg base CX0 2 f fd ["_law_script", "_law_many"] (spNames K T) := by
  have GX : FnOk P w K mg base CX0 1 fX fdX ["_law_script", "_law_k"] (spMixed K) := ok_mixed FX mL
  refine F.ok scNames (fun vs H Q E h => ?_) (fun cdv A outer s H vs Q E hr h => ?_)
  · obtain ⟨a, ns, k, rfl, _⟩ := h
    rfl
  · obtain ⟨a, ns, k, rfl, hS, ⟨hk9, hk26⟩, ht, q⟩ := h
    refine ⟨_, pss_cons (ps_set (i := 2) scNames.nd rfl (.inr rfl) pe_str)
      (pss_cons (ps_set (i := 3) scNames.nd rfl (.inr rfl) (pe_call GX hr (by rfl) gX FX.kp bX .nil pass0 (pa_cons (pv 0) (pa_cons pe_int pa_nil))))
      (pss_cons (ps_set (i := 4) scNames.nd rfl (.inl rfl) (pe_ix ix_list (pe_lst (pa_cons pe_int (pa_cons pe_int pa_nil))) (pe_op op_mod (pv 3) pe_int) (fun _ _ => rfl)))
      (pss_cons (ps_set (i := 5) scNames.nd rfl (.inr rfl) (pe_join pe_str (pe_lc (own := [("_law_j", 10)]) (g := gName 10) (tt := tYes) rfl scNames.nd (pi_range1 (by rfl) mR (pa_cons (pe_op op_mod (pe_op op_fdiv (pv 3) pe_int) pe_int) pa_nil))
          (blkOk_by (own := [("_law_j", 10)]) (N := namesN) (sc := defScope sNames) (by decide +kernel)) (fun _ _ _ _ _ => pg_name (i := 10) scNames.nd rfl (Or.inl rfl)) (fun _ _ _ _ _ => pts_nil)
          (fun _ _ _ _ _ => pe_ix ix_str (pv 2) (pe_op op_mod (pe_op op_add (pe_op op_fdiv (pv 3) pe_int) (pe_op op_mul pe_int (pv 10))) pe_int) (fun _ _ => rfl)))))
      (pss_cons (ps_set (i := 6) scNames.nd rfl (.inl rfl) (pe_op op_mod (pe_op op_fdiv (pv 3) pe_int) (pe_op op_add (pe_callB call_len_str (by rfl) mL PySem.boot_len (pa_cons (pv 5) pa_nil)) pe_int)))
      (pss_cons (ps_set (i := 7) scNames.nd rfl (.inl rfl) (pe_lst pa_nil))
      (pss_cons (ps_for PassesOwn.never rfl (pi_range1 (by rfl) mR (pa_cons (pv 1) pa_nil)) (pg_name (i := 8) scNames.nd rfl (.inl rfl))
        (pss_cons (ps_set (i := 9) scNames.nd rfl (.inl rfl) (pe_ix ix_str (pv 2) (pe_op op_mod (pe_op op_add (pe_op op_fdiv (pv 3) pe_int) (pe_op op_mul (pv 4) (pv 8))) pe_int) (fun _ _ => rfl)))
        (pss_one (ps_expr (pe_bm PySem.F.plainAttrs_list PySem.F.slot_list_append PySem.F.type_list_append mt_append (pv 7) (pa_cons (pe_op op_add_str (pe_op op_add_str (pe_slice sl_str (pv 5) po_none (po_some (pv 6))) (pv 9)) (pe_slice sl_str (pv 5) (po_some (pv 6)) po_none)) pa_nil))))))
      (C8.pss_cut (ps_if (PW.pt (pw_and (pt_cmpR op_eq (pe_op op_mod (pe_op op_fdiv (pv 3) pe_int) pe_int) pe_int (nomark _)) (pw_and1 (pt_cmpR op_lt (pv 1) pe_int (nomark _)))))
        (pss_one (ps_setLc (i := 7) (own := [("_law_k", 8)]) (g := gName 8) (tt := tYes) rfl scNames.nd rfl rfl (sw_true rfl rfl rfl (by decide +kernel)) (pi_range1 (by rfl) mR (pa_cons (pv 1) pa_nil))
          (blkOk_by (own := [("_law_k", 8)]) (N := namesN) (sc := defScope sNames) (by decide +kernel)) (fun _ _ _ _ _ => pg_name (i := 8) scNames.nd rfl (Or.inl rfl)) (fun _ _ _ _ _ => pts_nil)
          (fun _ _ _ _ _ => pe_slice sl_str (pe_op op_add_str (pe_op op_add_str (pv 5) (pe_slice sl_str (pv 2) (po_some (pe_op op_mod (pe_op op_fdiv (pv 3) pe_int) pe_int)) po_none)) (pv 2)) po_none (po_some (pe_op op_add pe_int (pv 8)))))) pss_nil)
      (pss_one (ps_ret (pe_stepL (pv 7) (pe_ix ix_list (pe_lst (pa_cons pe_int (pa_cons (pe_un un_neg pe_int) pa_nil))) (pe_op op_mod (pe_op op_fdiv (pv 3) pe_int) pe_int) (fun _ _ => rfl)))))))))))), ?_⟩
    refine ⟨_, rfl, a, ns, 1, rfl, hS, (by decide), fun n h0 hmax => ?_⟩
    -- step
    refine ⟨(by show (2 : Nat) ≤ sizeLine; decide), fun p1 np1 => ?_⟩
    have k1 := Kp.new (o := HO.lst [.int 3, .int 23]) ht np1
    obtain ⟨v, hv, st, rfl, hst⟩ := at_pick (xs := [V.int 3, .int 23]) (i := n % 2) (p := fun v => ∃ s : Int, v = .int s ∧ (s = 3 ∨ s = 23)) (by omega) (by show n % 2 < ((2 : Nat) : Int); omega) (fun x hx => by
      simp only [List.mem_cons, List.not_mem_nil, or_false] at hx
      rcases hx with rfl | rfl
      · exact ⟨_, rfl, .inl rfl⟩
      · exact ⟨_, rfl, .inr rfl⟩)
    refine ⟨_, rfl, n, 2, rfl, rfl, (by show (0 : Int) < 2; decide), p1, _, _, _, rfl, rfl, .inl (.of upd_same), hv, ?_⟩
    have t1 := k1.tab
    generalize upd H p1 (.lst [.int 3, .int 23]) = H1 at k1 t1 ⊢
    -- frame
    refine ⟨⟨_, rfl⟩, _, rfl, n, 2, rfl, rfl, ⟨by decide, by decide⟩, _, 8, rfl, rfl, (by show (0 : Int) < 8; decide), n / 2 % 8, rfl, (by omega), (by omega), fun D nD => ?_⟩
    refine lc_range (lo := 0) (n := (n / 2 % 8).toNat) (fun i H' => H' = upd H1 D (.lst (((frameL n).take i).map fun x => V.str ⟨#[x]⟩))) rfl (fun i H' hi e => ?_) (fun H' e => ?_)
    · subst e
      refine ⟨rfl, ?_⟩
      refine ⟨_, rfl, _, rfl, n, 7, rfl, rfl, ⟨by decide, by decide⟩, _, rfl, 5, 0 + (i : Int), rfl, rfl, .inl ⟨by decide, by decide⟩, _, _, rfl, rfl, _, _, rfl, rfl, (by show (0 : Int) < 26; decide), ?_⟩
      refine ⟨_, _, 97 + ((n / 7 + 5 * (0 + (i : Int))) % 26).toNat, rfl, rfl, (by rw [letters_eq, SX.S_len]; exact line1000 (by decide)), ?_, _, upd_same, ?_, ?_⟩
      · rw [letters_eq]
        exact letters_at (by omega) (by omega)
      · rw [List.length_map, List.length_take]
        exact small1000 (by have := frameL_len n; omega)
      · rw [upd_upd]
        have e1 : (frameL n)[i]? = some (97 + ((n / 7 + 5 * (0 + (i : Int))) % 26).toNat) := by
          unfold frameL
          rw [List.getElem?_map, List.getElem?_range hi, Int.zero_add]
          rfl
        rw [List.take_add_one, e1, List.map_append]
        rfl
    subst e
    have el : (frameL n).length = (n / 2 % 8).toNat := by
      unfold frameL
      rw [List.length_map, List.length_range]
    have hfl := frameL_len n
    have hfa := frameL_az n
    have k2 := Kp.new (o := HO.lst (((frameL n).take (n / 2 % 8).toNat).map fun x => V.str ⟨#[x]⟩)) t1 nD
    refine ⟨_, D, (frameL n).map fun x => ⟨#[x]⟩, rfl, rfl, .inl (.of (by
      rw [upd_same, List.take_of_length_le (by omega), List.map_map]
      rfl)), ?_, ?_⟩
    · rw [sum_ones]
      have e5 : (("" : Str)).length = 0 := by decide +kernel
      rw [e5]
      omega
    rw [join_ones2]
    have k12 := k1.trans k2
    have t2 := k2.tab
    generalize upd H1 D (.lst (((frameL n).take (n / 2 % 8).toNat).map fun x => V.str ⟨#[x]⟩)) = H2 at k12 t2 ⊢
    clear k2 nD k1 t1
    generalize hF : frameL n = fr at hfl hfa ⊢
    have hfS : (SX.S fr).length = fr.length := SX.S_len _
    -- at
    refine ⟨_, rfl, n, 56, rfl, rfl, ⟨by decide, by decide⟩, _, rfl, _, rfl, line1000 (by omega), _, 1, rfl, rfl, n / 56, _, rfl, rfl, (by show (0 : Int) < ((SX.S fr).length : Int) + 1; omega), ?_⟩
    have hat0 : 0 ≤ n / 56 % (((SX.S fr).length : Int) + 1) := Int.emod_nonneg _ (by omega)
    -- the names
    refine ⟨(by show (0 : Nat) ≤ sizeLine; decide), fun L nL => ?_⟩
    have k3 := Kp.new (o := HO.lst []) t2 nL
    have nLH := k12.free nL
    have LT := tab_nn t2 nL
    refine ⟨_, rfl, k, rfl, (by omega), (by omega), for_range (lo := 0) (n := (k : Int).toNat) (fun i σ' H' => ∃ (x8 x9 : Option V) (names : List Str), σ' = [some (.ref a), some (.int k), some (.str "abcdefghijklmnopqrstuvwxyz"), some (.int n), some (.int st), some (.str (SX.S fr)), some (.int (n / 56 % (((SX.S fr).length : Int) + 1))), some (.ref L), x8, x9, none] ∧
        Kp T H H' ∧ H' L = some (.lst (names.map V.str)) ∧ names = (List.range i).map (nameS fr (n / 56 % (((SX.S fr).length : Int) + 1)).toNat (n / 504) st) ∧ ∀ y ∈ names, GoodN y)
      ⟨none, none, [], rfl, k12.trans k3, upd_same, rfl, fun y hy => by cases hy⟩ (fun i σ' H' hi hm => ?_) (fun σ' H' hm => ?_)⟩
    · obtain ⟨x8, x9, names, rfl, kk, hL, hnm, hgd⟩ := hm
      have hln : names.length = i := by rw [hnm, List.length_map, List.length_range]
      have hik : i < k := by omega
      have hstb : 0 ≤ st ∧ st ≤ 23 := by rcases hst with rfl | rfl <;> omega
      refine ⟨_, rfl, _, rfl, n, 504, rfl, rfl, ⟨by decide, by decide⟩, _, rfl, _, rfl, st, 0 + (i : Int), rfl, rfl, .inl ⟨by omega, by omega⟩, _, _, rfl, rfl, _, 26, rfl, rfl, (by show (0 : Int) < 26; decide), ?_⟩
      refine ⟨_, _, 97 + ((n / 504 + st * (0 + (i : Int))) % 26).toNat, rfl, rfl, (by rw [letters_eq, SX.S_len]; exact line1000 (by decide)), (by rw [letters_eq]; exact letters_at (by omega) (by omega)), ?_⟩
      have e1 := cutS_to (l := fr) hat0
      have e2 := cutS_from (l := fr) hat0
      have ha1 : (fr.take (n / 56 % (((SX.S fr).length : Int) + 1)).toNat).length + (fr.drop (n / 56 % (((SX.S fr).length : Int) + 1)).toNat).length = fr.length := by
        rw [← List.length_append, List.take_append_drop]
      have l1 : (cutS (SX.S fr) none (some (n / 56 % (((SX.S fr).length : Int) + 1)))).length ≤ 7 := by rw [e1, SX.S_len]; omega
      have l2 : (cutS (SX.S fr) (some (n / 56 % (((SX.S fr).length : Int) + 1))) none).length ≤ 7 := by rw [e2, SX.S_len]; omega
      have ec : (⟨#[97 + ((n / 504 + st * (0 + (i : Int))) % 26).toNat]⟩ : Str) = SX.S [97 + ((n / 504 + st * (0 + (i : Int))) % 26).toNat] := rfl
      have l3 : (cutS (SX.S fr) none (some (n / 56 % (((SX.S fr).length : Int) + 1))) ++ (⟨#[97 + ((n / 504 + st * (0 + (i : Int))) % 26).toNat]⟩ : Str)).length ≤ 8 := by
        rw [e1, ec, SX.S_cat, SX.S_len, List.length_append, List.length_singleton]; omega
      have l4 : ((⟨#[97 + ((n / 504 + st * (0 + (i : Int))) % 26).toNat]⟩ : Str)).length = 1 := rfl
      refine ⟨_, rfl, .inl ⟨rfl, _, .inl (.inl hL)⟩, _, rfl, _, rfl, _, rfl, _, rfl, line1000 (by omega), _, rfl, _, _, rfl, rfl, line1000 (by omega), _, rfl, _, rfl, _, rfl, _, rfl, line1000 (by omega), _, _, rfl, rfl, line1000 (by omega), ?_⟩
      refine ⟨L, _, _, rfl, rfl, hL, small1000 (by rw [List.length_map]; omega), ?_⟩
      refine ⟨_, _, names ++ [SX.S (fr.take (n / 56 % (((SX.S fr).length : Int) + 1)).toNat ++ [97 + ((n / 504 + st * (0 + (i : Int))) % 26).toNat] ++ fr.drop (n / 56 % (((SX.S fr).length : Int) + 1)).toNat)], rfl, kk.set nLH LT, ?_, ?_, ?_⟩
      · rw [upd_same, List.map_append, List.map_singleton, e1, e2, ec, SX.S_cat, SX.S_cat]
      · rw [List.range_succ, List.map_append, ← hnm]
        rfl
      · intro y hy
        rcases List.mem_append.mp hy with hy | hy
        · exact hgd y hy
        · rw [List.mem_singleton.mp hy]
          refine goodN ((Az.app (hfa.sub fun c hc => List.mem_of_mem_take hc) (fun c hc => ?_)).app (hfa.sub fun c hc => List.mem_of_mem_drop hc)) ?_ ?_
          · rw [List.mem_singleton.mp hc]; omega
          · rw [List.length_append, List.length_append, List.length_singleton]; omega
          · rw [List.length_append, List.length_append, List.length_singleton]; omega
    -- perhaps other names
    obtain ⟨x8, x9, names, rfl, kk, hL, hnm, hgd⟩ := hm
    have hln' : names.length = k := by rw [hnm, List.length_map, List.length_range]; omega
    have hnd : names.Nodup := by rw [hnm]; exact names_nodup hst (by omega)
    clear hnm
    refine ⟨fun σ2 H3 => ∃ (x8 x9 : Option V) (M : Addr) (names : List Str), σ2 = [some (.ref a), some (.int k), some (.str "abcdefghijklmnopqrstuvwxyz"), some (.int n), some (.int st), some (.str (SX.S fr)), some (.int (n / 56 % (((SX.S fr).length : Int) + 1))), some (.ref M), x8, x9, none] ∧
        Kp T H H3 ∧ H3 M = some (.lst (names.map V.str)) ∧ names.length = k ∧ (∀ y ∈ names, GoodN y) ∧ names.Nodup, ?_, fun σ2 H3 hm => ?_⟩
    · refine ⟨_, rfl, n, 16, rfl, rfl, ⟨by decide, by decide⟩, _, 3, rfl, rfl, (by show (0 : Int) < 3; decide), rfl, _, rfl, iteD (fun hz => ?_) (fun hz => ⟨x8, x9, L, names, rfl, kk, hL, hln', hgd, hnd⟩)⟩
      refine ⟨_, rfl, k, 9, rfl, rfl, _, rfl, iteD (fun hz2 => ?_) (fun hz2 => ⟨x8, x9, L, names, rfl, kk, hL, hln', hgd, hnd⟩)⟩
      refine ⟨_, rfl, k, rfl, (by omega), (by omega), fun M nM => ?_⟩
      have kM := fun o => Kp.new (o := o) kk.tab nM
      refine lc_range (lo := 0) (n := (k : Int).toNat) (fun i H3 => ∃ ys : List Str, H3 = upd H' M (.lst (ys.map V.str)) ∧ ys.length = i ∧ (∀ y ∈ ys, GoodN y) ∧ ys = (List.range i).map (preS (fr ++ letters.drop (n / 504 % 26).toNat ++ letters))) ⟨[], rfl, rfl, (fun y hy => by cases hy), rfl⟩ (fun i H3 hi hm3 => ?_) (fun H3 hm3 => ?_)
      · obtain ⟨ys, rfl, hly, hgy, hyy⟩ := hm3
        refine ⟨rfl, ?_⟩
        have hb0 : 0 ≤ n / 504 % 26 := Int.emod_nonneg _ (by decide)
        have e2 := cutS_from (l := letters) hb0
        have e3 : cutS ("abcdefghijklmnopqrstuvwxyz" : Str) (some (n / 504 % 26)) none = SX.S (letters.drop (n / 504 % 26).toNat) := by rw [letters_eq]; exact e2
        have ll : letters.length = 26 := by decide
        have l1 : (cutS ("abcdefghijklmnopqrstuvwxyz" : Str) (some (n / 504 % 26)) none).length ≤ 26 := by rw [e3, SX.S_len, List.length_drop]; omega
        have l2 : (("abcdefghijklmnopqrstuvwxyz" : Str)).length = 26 := by rw [letters_eq, SX.S_len, ll]
        have e4 : SX.S fr ++ cutS ("abcdefghijklmnopqrstuvwxyz" : Str) (some (n / 504 % 26)) none = SX.S (fr ++ letters.drop (n / 504 % 26).toNat) := by rw [e3, SX.S_cat]
        have l4 : (SX.S fr ++ cutS ("abcdefghijklmnopqrstuvwxyz" : Str) (some (n / 504 % 26)) none).length ≤ 40 := by rw [e4, SX.S_len, List.length_append, List.length_drop]; omega
        have e5 : SX.S fr ++ cutS ("abcdefghijklmnopqrstuvwxyz" : Str) (some (n / 504 % 26)) none ++ ("abcdefghijklmnopqrstuvwxyz" : Str) = SX.S (fr ++ letters.drop (n / 504 % 26).toNat ++ letters) := by rw [e4, letters_eq, SX.S_cat]
        have l5 : (SX.S fr ++ cutS ("abcdefghijklmnopqrstuvwxyz" : Str) (some (n / 504 % 26)) none ++ ("abcdefghijklmnopqrstuvwxyz" : Str)).length ≤ 100 := by rw [e5, SX.S_len, List.length_append, List.length_append, List.length_drop]; omega
        refine ⟨_, rfl, _, rfl, _, rfl, n, 504, rfl, rfl, ⟨by decide, by decide⟩, _, 26, rfl, rfl, (by show (0 : Int) < 26; decide), _, rfl, _, rfl, line1000 (by omega), _, _, rfl, rfl, line1000 (by omega), _, rfl, _, _, rfl, rfl, line1000 (by omega), ?_⟩
        refine ⟨_, rfl, 1, _, rfl, rfl, _, rfl, _, rfl, line1000 (by omega), _, upd_same, small1000 (by rw [List.length_map]; omega), ?_⟩
        have e6 := cutS_to (l := fr ++ letters.drop (n / 504 % 26).toNat ++ letters) (a := 1 + (0 + (i : Int))) (by omega)
        refine ⟨ys ++ [SX.S ((fr ++ letters.drop (n / 504 % 26).toNat ++ letters).take (1 + (0 + (i : Int))).toNat)], ?_, ?_, ?_, ?_⟩
        · rw [upd_upd, List.map_append, List.map_singleton, e5, e6]
        · rw [List.length_append, List.length_singleton, hly]
        · intro y hy
          rcases List.mem_append.mp hy with hy | hy
          · exact hgy y hy
          · rw [List.mem_singleton.mp hy]
            have lt : ((fr ++ letters.drop (n / 504 % 26).toNat ++ letters).take (1 + (0 + (i : Int))).toNat).length = (1 + (0 + (i : Int))).toNat := by
              rw [List.length_take, List.length_append, ll]
              omega
            refine goodN (Az.sub (l := fr ++ letters.drop (n / 504 % 26).toNat ++ letters) ((hfa.app (letters_az.sub fun c hc => List.mem_of_mem_drop hc)).app letters_az) fun c hc => List.mem_of_mem_take hc) ?_ ?_
            · rw [lt]; omega
            · rw [lt]; omega
        · rw [List.range_succ, List.map_append, ← hyy]
          have ei : (1 + (0 + (i : Int))).toNat = 1 + i := by omega
          rw [ei]
          rfl
      · obtain ⟨ys, rfl, hly, hgy, hyy⟩ := hm3
        exact ⟨x8, x9, M, ys, rfl, kk.trans (kM _), upd_same, by omega, hgy, by rw [hyy]; exact pre_nodup (by rw [List.length_append, show letters.length = 26 from by decide]; omega)⟩
    · obtain ⟨x8, x9, M, names, rfl, kk, hL, hln, hgd, hnd⟩ := hm
      refine ⟨_, rfl, 1, rfl, (by show (2 : Nat) ≤ sizeLine; decide), fun p2 np2 => ?_⟩
      have k4 := Kp.new (o := HO.lst [.int 1, .int (-1)]) kk.tab np2
      have pk : ∃ v, atI [V.int 1, .int (-1)] (n / 48 % 2) = some v ∧ (v = .int 1 ∨ v = .int (-1)) := at_pick (by omega) (by show n / 48 % 2 < ((2 : Nat) : Int); omega) (fun x hx => by
        simp only [List.mem_cons, List.not_mem_nil, or_false] at hx
        exact hx)
      obtain ⟨v, hv, hv2⟩ := pk
      have hM := k4.lst hL
      rcases hv2 with rfl | rfl
      · refine ⟨_, rfl, n, 48, rfl, rfl, ⟨by decide, by decide⟩, _, 2, rfl, rfl, (by show (0 : Int) < 2; decide), p2, _, _, _, rfl, rfl, .inl (.of upd_same), hv, 1, rfl, M, _, rfl, .inl (.of hM), .inl ⟨rfl, fun r nr => ?_⟩⟩
        have k5 := Kp.new (o := HO.lst (names.map V.str)) k4.tab nr
        have k6 := kk.trans k4
        exact q names r _ hln hgd hnd (k6.trans k5) (k6.free nr) upd_same
      · refine ⟨_, rfl, n, 48, rfl, rfl, ⟨by decide, by decide⟩, _, 2, rfl, rfl, (by show (0 : Int) < 2; decide), p2, _, _, _, rfl, rfl, .inl (.of upd_same), hv, -1, rfl, M, _, rfl, .inl (.of hM), .inr ⟨rfl, fun r nr => ?_⟩⟩
        have k5 := Kp.new (o := HO.lst (names.map V.str).reverse) k4.tab nr
        have k6 := kk.trans k4
        exact q names.reverse r _ (by rw [List.length_reverse]; exact hln) (fun y hy => hgd y (List.mem_reverse.mp hy)) ((List.reverse_perm names).nodup_iff.mpr hnd) (k6.trans k5) (k6.free nr) (by rw [upd_same, List.map_reverse])
end
end Pk

set_option Elab.async false
set_option linter.all false
set_option maxRecDepth 100000
set_option maxHeartbeats 4000000
namespace Pk
open PySem PySem.Spec PyProof.Rows L2
def ND (d : PyData) : Prop := ∃ y i j, d = .tuple [.str y, .int i, .int j] ∧ GoodN y ∧ makeB (.int i) = true ∧ makeB (.int j) = true ∧ i ≤ j
theorem ND.need {d : PyData} (h : ND d) : needB d = true := by
  obtain ⟨y, i, j, rfl, g, hi, hj, hij⟩ := h
  show (wareB (.str y) && makeB (.int i) && makeB (.int j) && decide (i ≤ j)) = true
  rw [g.1, hi, hj, decide_eq_true hij] <;> rfl
theorem ND.okT {d : PyData} (h : ND d) : okT d = true := by
  obtain ⟨y, i, j, rfl, g, _⟩ := h
  exact okT_tup (fun d hd => by
    simp only [List.mem_cons, List.not_mem_nil, or_false] at hd
    rcases hd with rfl | rfl | rfl
    · exact g.2
    · rfl
    · rfl) (by simp)
theorem ND.lay {d : PyData} (h : ND d) : d.canLay0 = true ∧ d.depth = 1 := by
  obtain ⟨y, i, j, rfl, g, _⟩ := h
  have e := okS_ok g.2
  constructor
  · show (PyData.strOk y && (true && (true && true))) = true
    rw [e] <;> rfl
  · rfl
theorem shaped_nd {ds : List PyData} (h : ∀ d ∈ ds, ND d) : SeqAt.shaped (.list ds) = true := by
  have h1 : PyData.canLayAll0 ds = true ∧ PyData.depthAll ds ≤ 1 := by
    induction ds with
    | nil => exact ⟨rfl, Nat.zero_le _⟩
    | cons d r ih =>
      obtain ⟨i1, i2⟩ := ih fun x hx => h x (List.mem_cons_of_mem _ hx)
      obtain ⟨j1, j2⟩ := (h d (List.mem_cons_self ..)).lay
      constructor
      · show (d.canLay0 && PyData.canLayAll0 r) = true
        rw [i1, j1] <;> rfl
      · show max d.depth (PyData.depthAll r) ≤ 1
        rw [j2]
        omega
  show (PyData.canLayAll0 ds && decide (PyData.depthAll ds + 1 ≤ 64)) = true
  rw [h1.1, decide_eq_true (by omega)] <;> rfl
theorem nx_in {a b : TS} {D D' : Ends} {σ : L2.St} {H : Hp} (h : tSeq a b D' σ H) : ({ D with nx := tSeq a b D' } : Ends).nx σ H := h
theorem tRet_in {te : TE} {D : Ends} {σ : L2.St} {H : Hp} (h : te σ H D.rt) : tRet te D σ H := h
theorem gName_in {i : Nat} {v : V} {σ : L2.St} {H : Hp} {Q : L2.St → Hp → Prop} (h : Q (σ.set i (some v)) H) : gName i v σ H Q := h
theorem tYes_if {σ : L2.St} {H : Hp} {a b : Hp → Prop} (h : a H) : tYes σ H (fun c H3 => if c = true then a H3 else b H3) := by
  show (if true = true then a H else b H)
  rw [if_pos rfl]
  exact h
theorem new_shop {K : PySem.W.Frag} {C T x dx D : Addr} {H : Hp} (t : GxR.TabG H T) (nx : H x = none) (ndx : H dx = none) (ne : dx ≠ x) (nD : (upd (upd H dx (.own x)) x (.ins C dx [])) D = none) :
    Kp T H (upd (upd (upd (upd H dx (.own x)) x (.ins C dx [])) D (.dK [])) x (.ins C dx (flS D))) ∧ (∀ A, ShopAt K C A (upd (upd (upd (upd H dx (.own x)) x (.ins C dx [])) D (.dK [])) x (.ins C dx (flS D))) x D []) ∧ H D = none := by
  have k1 := Kp.new (o := HO.own x) t ndx
  have nx1 : upd H dx (.own x) x = none := by rw [upd_ne ne.symm]; exact nx
  have k2 := Kp.new (o := HO.ins C dx []) k1.tab nx1
  have k3 := Kp.new (o := HO.dK []) k2.tab nD
  have xT := tab_nn t nx
  have Dx : D ≠ x := fun z => by rw [z, upd_same] at nD; cases nD
  refine ⟨((k1.trans k2).trans k3).set nx xT, fun A => ⟨⟨dx, upd_same⟩, ⟨?_, fun s hs => (by cases hs), List.nodup_nil, List.nodup_cons.mpr ⟨List.not_mem_nil, List.nodup_nil⟩⟩, fun s hs => (by cases hs)⟩, (k1.trans k2).free nD⟩
  rw [upd_ne Dx, upd_same]
  rfl
theorem data_ne {st : List Shelf} {s : Shelf} (nd : (st.map (·.ware)).Nodup) (hs : s ∈ st) (ne : s.ents ≠ []) : dataOf st s.ware ≠ [] := by
  unfold dataOf
  rw [look_of nd hs rfl]
  show s.ents.map entD ≠ []
  exact fun z => ne (List.map_eq_nil_iff.mp z)
theorem data_look {cl : List Shelf} {v : Str} (h : dataOf cl v ≠ []) : ∃ s, look cl v = some s ∧ s.ents ≠ [] := by
  unfold dataOf at h
  cases el : look cl v with
  | none => rw [el] at h; exact absurd rfl h
  | some s =>
    rw [el] at h
    exact ⟨s, rfl, fun z => h (by show s.ents.map entD = []; rw [z]; rfl)⟩
theorem passN {X : Cx} : Passes (L2N.CX X.prog X.w) X E0 := fun _ _ _ _ _ _ _ h => by
  obtain ⟨_, _, _, _, _, _, _, _, _, _, _, _, z⟩ := h
  exact z.elim
theorem nodup_len {l m : List Str} (nd : l.Nodup) (nm : m.Nodup) (h : ∀ x ∈ l, x ∈ m) : l.length ≤ m.length := by
  have p : l.Perm (m.filter fun x => decide (x ∈ l)) := (List.perm_ext_iff_of_nodup nd (List.Sublist.nodup List.filter_sublist nm)).mpr fun x =>
    ⟨fun hx => List.mem_filter.mpr ⟨h x hx, decide_eq_true hx⟩, fun hx => of_decide_eq_true (List.mem_filter.mp hx).2⟩
  rw [p.length_eq]
  exact List.length_filter_le _ _
theorem dpAll_kx {K : PySem.W.Frag} {T : Addr} {A F : List Addr} {H H' : Hp} (k : Kx T F H H') (hF : ∀ f ∈ F, f ∈ A ∨ ∃ kvs, H f = some (.dK kvs)) {xs : List V} {ds : List PyData} (h : DpAll K (hide A H) xs ds) : DpAll K (hide A H') xs ds :=
  dpAll_mono (fun b o hs e => by
    obtain ⟨e1, e2⟩ := hide_some e
    refine hide_of (k.keep b o (isSeq_ne_tab k.t0 hs e1) (fun z => ?_) e1) e2
    rcases hF b z with z | ⟨kvs, z⟩
    · exact e2 z
    · rw [z] at e1
      cases e1
      cases hs) ds xs h
theorem dp_strs {K : PySem.W.Frag} {H : Hp} : ∀ l : List Str, DpAll K H (l.map V.str) (l.map PyData.str)
  | [] => .nil
  | x :: r => .cons (.str x) (dp_strs r)
theorem dpAll_app {K : PySem.W.Frag} {H : Hp} : ∀ {ds es : List PyData} {vs us : List V}, DpAll K H vs ds → DpAll K H us es → DpAll K H (vs ++ us) (ds ++ es)
  | [], _, _, _, h, h2 => by cases h; exact h2
  | x :: r, _, _, _, h, h2 => by
    cases h with
    | cons a b => exact .cons a (dpAll_app b h2)
def Lay (n : Nat) (d : PyData) : Prop := d.canLay0 = true ∧ d.depth ≤ n
theorem lay_all {n : Nat} : ∀ {ds : List PyData}, (∀ d ∈ ds, Lay n d) → PyData.canLayAll0 ds = true ∧ PyData.depthAll ds ≤ n
  | [], _ => ⟨rfl, Nat.zero_le _⟩
  | d :: r, h => by
    obtain ⟨i1, i2⟩ := lay_all fun x hx => h x (List.mem_cons_of_mem _ hx)
    obtain ⟨j1, j2⟩ := h d (List.mem_cons_self ..)
    constructor
    · show (d.canLay0 && PyData.canLayAll0 r) = true
      rw [i1, j1] <;> rfl
    · show max d.depth (PyData.depthAll r) ≤ n
      omega
theorem lay_list {n : Nat} {ds : List PyData} (h : ∀ d ∈ ds, Lay n d) : Lay (n + 1) (.list ds) := by
  obtain ⟨a, b⟩ := lay_all h
  exact ⟨a, by show PyData.depthAll ds + 1 ≤ n + 1; omega⟩
theorem lay_tup {n : Nat} {ds : List PyData} (h : ∀ d ∈ ds, Lay n d) : Lay (n + 1) (.tuple ds) := by
  obtain ⟨a, b⟩ := lay_all h
  exact ⟨a, by show PyData.depthAll ds + 1 ≤ n + 1; omega⟩
theorem lay_shaped {n : Nat} {ds : List PyData} (h : Lay n (.list ds)) (hn : n ≤ 64) : SeqAt.shaped (.list ds) = true := by
  have h1 : PyData.canLayAll0 ds = true := h.1
  have h2 : PyData.depthAll ds + 1 ≤ n := h.2
  show (PyData.canLayAll0 ds && decide (PyData.depthAll ds + 1 ≤ 64)) = true
  rw [h1, decide_eq_true (by omega)] <;> rfl
theorem Lay.mono {n m : Nat} {d : PyData} (h : Lay n d) (hm : n ≤ m) : Lay m d := ⟨h.1, Nat.le_trans h.2 hm⟩
theorem lay_str {x : Str} (h : GoodN x) : Lay 0 (.str x) := ⟨okS_ok h.2, Nat.le_refl _⟩
theorem lay_int (i : Int) : Lay 0 (.int i) := ⟨rfl, Nat.le_refl _⟩
theorem ShopAt.more {K : PySem.W.Frag} {C : Addr} {A : List Addr} {H : Hp} {p D n : Addr} {st : List Shelf} (S : ShopAt K C A H p D st) (nn : H n = none) : ShopAt K C (n :: A) H p D st :=
  ⟨S.ob, S.bx.hideMore fun _ _ _ _ _ h => dp_more nn h, S.ne⟩
theorem findD_mem {l : List (Int × List PyData)} {m : Int} (h : m ∈ l.map (·.1)) : ∃ e, findD l m = some e ∧ e ∈ l ∧ e.1 = m := by
  unfold findD
  cases hf : l.find? fun e => decide (e.1 = m) with
  | none =>
    obtain ⟨e, he, rfl⟩ := List.mem_map.mp h
    rw [List.find?_eq_none] at hf
    exact absurd (decide_eq_true rfl) (hf e he)
  | some e => exact ⟨e, rfl, List.mem_of_find?_eq_some hf, of_decide_eq_true (List.find?_some (p := fun e : Int × List PyData => decide (e.1 = m)) hf)⟩
theorem keyE_iff {es : List (Int × Addr × List PyData)} {m : Int} : (lookE es m).isSome = decide (m ∈ (es.map entD).map (·.1)) := by
  cases h : lookE es m with
  | none =>
    rw [decide_eq_false]
    · rfl
    · intro z
      rw [List.map_map] at z
      obtain ⟨e, he, e2⟩ := List.mem_map.mp z
      exact lookE_none h e he e2
  | some e =>
    rw [decide_eq_true]
    · rfl
    · obtain ⟨h1, h2⟩ := lookE_mem h
      rw [List.map_map]
      exact List.mem_map.mpr ⟨e, h1, h2⟩
theorem inB_data (st : List Shelf) (x : Str) (m : Int) : inB st (.str x) (.int m) = decide (m ∈ (dataOf st x).map (·.1)) := by
  show ((look st x).bind fun s => lookE s.ents m).isSome = _
  unfold dataOf
  cases h : look st x with
  | none => rfl
  | some s => exact keyE_iff
theorem hasB_keys (st : List Shelf) (x : Str) (m : Int) : hasB st (.str x) (.int m) = (wareB (.str x) && makeB (.int m) && decide (m ∈ (dataOf st x).map (·.1))) := by
  unfold hasB
  rw [inB_data]
theorem look_data {st : List Shelf} {x : Str} {s : Shelf} (h : look st x = some s) : dataOf st x = s.ents.map entD := by
  unfold dataOf
  rw [h]
  rfl
theorem look_nil {st : List Shelf} (ne : ∀ s ∈ st, s.ents ≠ []) {x : Str} (h : dataOf st x = []) : look st x = none := by
  cases el : look st x with
  | none => rfl
  | some s =>
    rw [look_data el] at h
    exact absurd (List.map_eq_nil_iff.mp h) (ne s (look_mem el).1)
theorem look_cons {st : List Shelf} {x : Str} (h : dataOf st x ≠ []) : ∃ s, look st x = some s := by
  cases el : look st x with
  | none => exact absurd (by unfold dataOf; rw [el]; rfl) h
  | some s => exact ⟨s, rfl⟩
theorem len_gone {st st' : List Shelf} {x : Str} (nd : (st.map (·.ware)).Nodup) (nd' : (st'.map (·.ware)).Nodup) (ne' : ∀ s ∈ st', s.ents ≠ []) (hx : dataOf st x ≠ []) (hd : ∀ v, dataOf st' v = if v = x then [] else dataOf st v) : st'.length < st.length := by
  obtain ⟨s, hs⟩ := look_cons hx
  obtain ⟨h1, h2⟩ := look_mem hs
  have sub : ∀ y ∈ x :: st'.map (·.ware), y ∈ st.map (·.ware) := fun y hy => by
    rcases List.mem_cons.mp hy with rfl | hy
    · exact List.mem_map.mpr ⟨s, h1, h2⟩
    · obtain ⟨t, ht, rfl⟩ := List.mem_map.mp hy
      have z := data_ne nd' ht (ne' t ht)
      rw [hd] at z
      by_cases e : t.ware = x
      · rw [if_pos e] at z; exact absurd rfl z
      · rw [if_neg e] at z
        obtain ⟨s2, hs2⟩ := look_cons z
        obtain ⟨g1, g2⟩ := look_mem hs2
        exact List.mem_map.mpr ⟨s2, g1, g2⟩
  have nn : (x :: st'.map (·.ware)).Nodup := List.nodup_cons.mpr ⟨fun z => by
    obtain ⟨t, ht, e⟩ := List.mem_map.mp z
    have z2 := data_ne nd' ht (ne' t ht)
    rw [hd, if_pos e] at z2
    exact z2 rfl, nd'⟩
  have z := nodup_len nn nd sub
  rw [List.length_cons, List.length_map, List.length_map] at z
  omega
theorem place_after {st st' : List Shelf} {W y : Str} {D' : List (Int × List PyData)} (nd : (st.map (·.ware)).Nodup) (nd' : (st'.map (·.ware)).Nodup) (ne' : ∀ s ∈ st', s.ents ≠ []) (hW : dataOf st W ≠ []) (h12 : st.length ≤ 12)
    (hd : ∀ v, dataOf st' v = if v = W then D' else dataOf st v) (hl : (dataOf st' y).length < 8) (hn : dataOf st' y = [] → D' = []) : placeB st' y = true := by
  unfold placeB
  cases el : look st' y with
  | none =>
    have e0 : D' = [] := hn (by unfold dataOf; rw [el]; rfl)
    subst e0
    exact decide_eq_true (Nat.lt_of_lt_of_le (len_gone nd nd' ne' hW hd) h12)
  | some s =>
    have e1 := look_data el
    rw [e1, List.length_map] at hl
    exact decide_eq_true hl
theorem Kx.step {T : Addr} {F F2 : List Addr} {H H1 H2 : Hp} (a : Kx T F H H1) (h : ∀ f ∈ F2, f ∈ F ∨ H1 f = none) (b : Kx T F2 H1 H2) : Kx T F H H2 := ⟨a.t0, b.tab, fun c o n m e => by
  have e1 := a.keep c o n m e
  exact b.keep c o n (fun z => by
    rcases h c z with z | z
    · exact m z
    · rw [e1] at z; cases z) e1⟩
theorem okL_nil : okL (.list []) = true := by decide +kernel
theorem mayB_nil (x : Str) : mayB x (.list []) = true := rfl
theorem okL_list {ds : List PyData} (h : ∀ d ∈ ds, okT d = true) (hl : ds.length ≤ 1000) : okL (.list ds) = true := by
  show (ds.all okT && decide (ds.length ≤ 1000)) = true
  rw [decide_eq_true hl, Bool.and_true, List.all_eq_true]
  exact h
section
variable {K : PySem.W.Frag} {mg : Str → Option Value}
theorem put_nil {C T BW BM BN TW FU p D e : Addr} {H : Hp} {st : List Shelf} {x : Str} {m : Int} {Q : VK} {E : XK} (S : ShopAt K C [] H p D st) (hx : GoodN x) (hm : makeB (.int m) = true) (he : H e = some (.lst [])) (ht : GxR.TabG H T) (h100 : st.length ≤ 100)
    (hh : hasB st (.str x) (.int m) = false) (hp : placeB st x = true)
    (q : ∀ H' st', ShopAt K C [] H' p D st' → (∀ v, dataOf st' v = if v = x then dataOf st x ++ [(m, [])] else dataOf st v) → Kx T (foot D st) H H' → (∀ f ∈ foot D st', f ∈ foot D st ∨ H f = none) → Q .non H') :
    spPut K C T BW BM BN TW FU [.ref p, .str x, .int m, .ref e] H Q E := by
  refine ⟨[], p, D, st, _, _, _, .str x, .int m, .list [], rfl, S, .str x, hx.2, .int m, .lst (.inl (.inl he)) .nil, okL_nil, ht, fun a ha => (by cases ha), h100, fun z => ?_, fun _ z => ?_, fun _ _ _ _ z => ?_, fun _ _ _ _ _ z => ?_, fun _ e _ _ _ _ z => ?_, fun x' m' e1 e2 _ _ _ _ _ => ?_⟩
  · rw [hx.1] at z; cases z
  · rw [hm] at z; cases z
  · cases z
  · rw [hh] at z; cases z
  · cases e; rw [hp] at z; cases z
  · cases e1; cases e2
    exact ⟨e, [], [], rfl, rfl, .inl (.inl he), .nil, q⟩
theorem flat_ints (ks : List Int) : ∀ d ∈ ks.map PyData.int, d.canLay0 = true ∧ d.depth = 0 := fun d hd => by
  obtain ⟨i, _, rfl⟩ := List.mem_map.mp hd
  exact ⟨rfl, rfl⟩
theorem shaped_ints (ks : List Int) : SeqAt.shaped (.list (ks.map .int)) = true := (shaped_flat (flat_ints ks)).1
theorem eqv_ints : ∀ ks ls : List Int, PyData.eqv (.list (ks.map .int)) (.list (ls.map .int)) = decide (ks = ls)
  | [], [] => rfl
  | [], _ :: _ => rfl
  | _ :: _, [] => rfl
  | a :: r, b :: t => by
    have ih := eqv_ints r t
    have e1 : PyData.eqv (.list ((a :: r).map .int)) (.list ((b :: t).map .int)) = (PyData.eqv (.int a) (.int b) && PyData.eqv (.list (r.map .int)) (.list (t.map .int))) := rfl
    have e2 : PyData.eqv (.int a) (.int b) = decide (a = b) := rfl
    rw [e1, e2, ih]
    by_cases h1 : a = b
    · by_cases h2 : r = t
      · rw [decide_eq_true h1, decide_eq_true h2, h1, h2, decide_eq_true rfl] <;> rfl
      · rw [decide_eq_true h1, decide_eq_false h2, decide_eq_false (fun z => h2 (List.cons.inj z).2)] <;> rfl
    · rw [decide_eq_false h1, decide_eq_false (fun z => h1 (List.cons.inj z).1)] <;> rfl
theorem dp_ints {K : PySem.W.Frag} {H : Hp} : ∀ ks : List Int, DpAll K H (ks.map V.int) (ks.map .int)
  | [] => .nil
  | k :: r => .cons (.int k) (dp_ints r)
theorem dp_lst {K : PySem.W.Frag} {H : Hp} {a : Addr} {xs : List V} {ds : List PyData} (h : H a = some (.lst xs)) (h2 : DpAll K H xs ds) : Dp K H (.ref a) (.list ds) := .lst (.inl (.inl h)) h2
theorem eq_lit {T u : Addr} {i : Nat} {σ : L2.St} {H : Hp} {ks ls : List Int} {tl : TA} {Q : V → Hp → Prop} (hi : σ[i]? = some (some (.ref u))) (hu : H u = some (.lst (ks.map V.int))) (ht : GxR.TabG H T)
    (hl : ls.length ≤ 100) (hlit : ∀ H Q, Q (ls.map V.int) H → tl σ H Q) (q : ∀ H', Kp T H H' → Q (.bl (decide (ks = ls))) H') : tOp (rEqD K) (tVar i) (tLst tl) σ H Q := by
  refine ⟨_, hi, hlit _ _ ⟨by rw [List.length_map]; exact Nat.le_trans hl (by decide), fun l nl => ?_⟩⟩
  have k := Kp.new (o := HO.lst (ls.map V.int)) ht nl
  refine ⟨.list (ks.map .int), .list (ls.map .int), dp_lst (k.lst hu) (dp_ints ks), dp_lst upd_same (dp_ints ls), shaped_ints ks, shaped_ints ls, ?_⟩
  rw [eqv_ints]
  exact q _ k
theorem ne_lit {T u : Addr} {i : Nat} {σ : L2.St} {H : Hp} {ks ls : List Int} {tl : TA} {Q : V → Hp → Prop} (hi : σ[i]? = some (some (.ref u))) (hu : H u = some (.lst (ks.map V.int))) (ht : GxR.TabG H T)
    (hl : ls.length ≤ 100) (hlit : ∀ H Q, Q (ls.map V.int) H → tl σ H Q) (q : ∀ H', Kp T H H' → Q (.bl (!decide (ks = ls))) H') : tOp (rNeD K) (tVar i) (tLst tl) σ H Q := by
  refine ⟨_, hi, hlit _ _ ⟨by rw [List.length_map]; exact Nat.le_trans hl (by decide), fun l nl => ?_⟩⟩
  have k := Kp.new (o := HO.lst (ls.map V.int)) ht nl
  refine ⟨.list (ks.map .int), .list (ls.map .int), dp_lst (k.lst hu) (dp_ints ks), dp_lst upd_same (dp_ints ls), shaped_ints ks, shaped_ints ls, ?_⟩
  rw [eqv_ints]
  exact q _ k
theorem eq_litT {T u : Addr} {i : Nat} {σ : L2.St} {H : Hp} {ks ls : List Int} {tl : TA} {Q : Bool → Hp → Prop} (hi : σ[i]? = some (some (.ref u))) (hu : H u = some (.lst (ks.map V.int))) (ht : GxR.TabG H T)
    (hl : ls.length ≤ 100) (hlit : ∀ H Q, Q (ls.map V.int) H → tl σ H Q) (q : ∀ H', Kp T H H' → Q (decide (ks = ls)) H') : tB (tOp (rEqD K) (tVar i) (tLst tl)) σ H Q :=
  eq_lit hi hu ht hl hlit fun H' k => ⟨_, rfl, q H' k⟩
theorem ne_litT {T u : Addr} {i : Nat} {σ : L2.St} {H : Hp} {ks ls : List Int} {tl : TA} {Q : Bool → Hp → Prop} (hi : σ[i]? = some (some (.ref u))) (hu : H u = some (.lst (ks.map V.int))) (ht : GxR.TabG H T)
    (hl : ls.length ≤ 100) (hlit : ∀ H Q, Q (ls.map V.int) H → tl σ H Q) (q : ∀ H', Kp T H H' → Q (!decide (ks = ls)) H') : tB (tOp (rNeD K) (tVar i) (tLst tl)) σ H Q :=
  ne_lit hi hu ht hl hlit fun H' k => ⟨_, rfl, q H' k⟩
theorem Kx.at0 {T : Addr} {F : List Addr} {H H' : Hp} {a : Addr} {o : HO} (k : Kx T F H H') (hF : ∀ f ∈ F, ∃ kvs, H f = some (.dK kvs)) (h : H a = some o) (nd : ∀ kvs, o ≠ .dK kvs) (nt : ∀ ps, o ≠ .tbl ps) : H' a = some o :=
  k.keep a o (tab_ne k.t0 h nt) (fun z => by
    obtain ⟨kvs, e⟩ := hF a z
    rw [h] at e
    exact nd kvs (Option.some.inj e)) h
theorem Kx.lst0 {T : Addr} {F : List Addr} {H H' : Hp} {a : Addr} {xs : List V} (k : Kx T F H H') (hF : ∀ f ∈ F, ∃ kvs, H f = some (.dK kvs)) (h : H a = some (.lst xs)) : H' a = some (.lst xs) := k.at0 hF h (fun _ z => by cases z) (fun _ z => by cases z)
theorem Kx.seq0 {T : Addr} {F : List Addr} {H H' : Hp} {a : Addr} {xs : List V} (k : Kx T F H H') (hF : ∀ f ∈ F, ∃ kvs, H f = some (.dK kvs)) (h : SqL K H a xs) : SqL K H' a xs := by
  rcases h with (h | ⟨o, h⟩) | h
  · exact .inl (.inl (k.lst0 hF h))
  · exact .inl (.inr ⟨o, k.at0 hF h (fun _ z => by cases z) (fun _ z => by cases z)⟩)
  · exact .inr h
theorem Kx.sqt0 {T : Addr} {F : List Addr} {H H' : Hp} {a : Addr} {xs : List V} (k : Kx T F H H') (hF : ∀ f ∈ F, ∃ kvs, H f = some (.dK kvs)) (h : SqT K H a xs) : SqT K H' a xs := by
  rcases h with (h | ⟨o, h⟩) | h
  · exact .inl (.inl (k.at0 hF h (fun _ z => by cases z) (fun _ z => by cases z)))
  · exact .inl (.inr ⟨o, k.at0 hF h (fun _ z => by cases z) (fun _ z => by cases z)⟩)
  · exact .inr h
theorem Kx.dp0 {T : Addr} {F : List Addr} {H H' : Hp} (k : Kx T F H H') (hF : ∀ f ∈ F, ∃ kvs, H f = some (.dK kvs)) {v : V} {d : PyData} (h : Dp K H v d) : Dp K H' v d :=
  dp_mono (fun b o hs e => k.keep b o (isSeq_ne_tab k.t0 hs e) (fun z => by
    obtain ⟨kvs, e2⟩ := hF b z
    rw [e] at e2
    cases e2
    cases hs) e) d v h
theorem Kx.step0 {T : Addr} {F F2 : List Addr} {H H1 H2 : Hp} (a : Kx T F H H1) (h : ∀ f ∈ F2, f ∈ F ∨ H f = none) (b : Kx T F2 H1 H2) : Kx T F H H2 := ⟨a.t0, b.tab, fun c o n m e => b.keep c o n (fun z => by
    rcases h c z with z | z
    · exact m z
    · rw [e] at z; cases z) (a.keep c o n m e)⟩
theorem findD_last {l : List (Int × List PyData)} {m : Int} {ds es : List PyData} (h : m ∉ l.map (·.1)) (e : findD (l ++ [(m, es)]) m = some (m, ds)) : ds = es := by
  unfold findD at e
  rw [List.find?_append] at e
  have e0 : l.find? (fun e => decide (e.1 = m)) = none := by
    rw [List.find?_eq_none]
    intro x hx z
    exact h (List.mem_map.mpr ⟨x, hx, of_decide_eq_true z⟩)
  rw [e0, Option.none_or, List.find?_cons_of_pos (by exact decide_eq_true rfl)] at e
  exact (Prod.mk.inj (Option.some.inj e)).2.symm
theorem data_nd {C p D : Addr} {A : List Addr} {H : Hp} {st : List Shelf} (S : ShopAt K C A H p D st) (x : Str) : ((dataOf st x).map (·.1)).Nodup := by
  unfold dataOf
  cases el : look st x with
  | none => exact List.nodup_nil
  | some s =>
    have z := (S.bx.sh s (look_mem el).1).nd
    show ((s.ents.map entD).map (·.1)).Nodup
    rw [List.map_map]
    exact z
theorem makes_read {C T BW p D : Addr} {A : List Addr} {H : Hp} {st : List Shelf} {x : Str} {σ : L2.St} {Q : VK} {targ : TE} (S : ShopAt K C A H p D st) (h64 : (dataOf st x).length < 64) (hx : GoodN x) (t : GxR.TabG H T) (h0 : σ[0]? = some (some (.ref p)))
    (harg : ∀ Q : VK, Q (.str x) H → targ σ H Q) (q : ∀ (ys : List Int) l H', ys.Perm ((dataOf st x).map (·.1)) → ys.Pairwise (· ≤ ·) → Kp T H H' → H l = none → H' l = some (.lst (ys.map V.int)) → Q (.ref l) H') :
    tMeth C "makes" (spMakes K C T BW) [] E0 (tVar 0) (tCons targ tNil) σ H Q := by
  obtain ⟨dx, o⟩ := S.ob
  exact ⟨_, h0, p, dx, _, rfl, o, flS_no D (by decide +kernel), harg _ ⟨A, p, D, st, _, _, rfl, S, .str x, hx.2, t, fun z => absurd (hx.1.symm.trans z) (by decide), fun y e _ => by cases e; exact ⟨h64, q⟩⟩⟩
theorem wares_read {C T p D : Addr} {A : List Addr} {H : Hp} {st : List Shelf} {σ : L2.St} {Q : VK} (S : ShopAt K C A H p D st) (h64 : st.length < 64) (t : GxR.TabG H T) (h0 : σ[0]? = some (some (.ref p)))
    (q : ∀ (ys : List Str) l H', ys.Perm (st.map (·.ware)) → sortedS ys = true → Kp T H H' → H l = none → H' l = some (.lst (ys.map V.str)) → Q (.ref l) H') :
    tMeth C "wares" (spWares K C T) [] E0 (tVar 0) tNil σ H Q := by
  obtain ⟨dx, o⟩ := S.ob
  exact ⟨_, h0, p, dx, _, rfl, o, flS_no D (by decide +kernel), A, p, D, st, rfl, S, t, h64, q⟩
theorem ixt_read {H : Hp} {dd : Addr} {xs : List V} {i : Nat} {n : Int} {j : Nat} {v : V} {σ : L2.St} {Q : VK} (hd : SqT K H dd xs) (hi : σ[i]? = some (some (.ref dd))) (en : n = (j : Int)) (ev : xs[j]? = some v) (q : Q v H) : tOp (rIxT K) (tVar i) (tC (.int n)) σ H Q :=
  ⟨_, hi, dd, xs, n, v, rfl, rfl, hd, at_gen en ev, q⟩
theorem or_litT {T u : Addr} {i : Nat} {σ : L2.St} {H : Hp} {ks l1 l2 : List Int} {t1 t2 : TA} {Q : Bool → Hp → Prop} (hi : σ[i]? = some (some (.ref u))) (hu : H u = some (.lst (ks.map V.int))) (ht : GxR.TabG H T)
    (hl1 : l1.length ≤ 100) (hl2 : l2.length ≤ 100) (h1 : ∀ H Q, Q (l1.map V.int) H → t1 σ H Q) (h2 : ∀ H Q, Q (l2.map V.int) H → t2 σ H Q) (q : ∀ H', Kp T H H' → Q (decide (ks = l1) || decide (ks = l2)) H') :
    tOr (tB (tOp (rEqD K) (tVar i) (tLst t1))) (tB (tOp (rEqD K) (tVar i) (tLst t2))) σ H Q := by
  refine eq_litT hi hu ht hl1 h1 fun H1 k1 => ?_
  by_cases h : ks = l1
  · rw [decide_eq_true h]
    refine iteT ?_
    have z := q H1 k1
    rw [decide_eq_true h, Bool.true_or] at z
    exact z
  · rw [decide_eq_false h]
    refine iteF (eq_litT hi (k1.lst hu) k1.tab hl2 h2 fun H2 k2 => ?_)
    have z := q H2 (k1.trans k2)
    rw [decide_eq_false h, Bool.false_or] at z
    exact z
theorem needs_read {C T NM p D : Addr} {H : Hp} {st : List Shelf} {x : Str} {m : Int} {σ : L2.St} {Q : VK} {ta tb : TE} (S : ShopAt K C [] H p D st) (hx : GoodN x) (hh : hasB st (.str x) (.int m) = true) (ht : GxR.TabG H T) (h0 : σ[0]? = some (some (.ref p))) (ha : ∀ Q : VK, Q (.str x) H → ta σ H Q) (hb : ∀ Q : VK, Q (.int m) H → tb σ H Q)
    (q : ∀ (xs : List V) (ds : List PyData) l H', findD (dataOf st x) m = some (m, ds) → Kp T H H' → H l = none → H' l = some (.lst xs) → DpAll K (hide [] H') xs ds → Q (.ref l) H') :
    tMeth C "needs" (spNeeds K C T NM) [] E0 (tVar 0) (tCons ta (tCons tb tNil)) σ H Q := by
  obtain ⟨dx, o⟩ := S.ob
  exact ⟨_, h0, p, dx, _, rfl, o, flS_no D (by decide +kernel), ha _ (hb _ ⟨[], p, D, st, _, _, .str x, .int m, rfl, S, .str x, hx.2, .int m, ht, fun z => (by rw [hh] at z; cases z), fun x' m' ex em _ => by cases ex; cases em; exact q⟩)⟩
end
end Pk

set_option Elab.async false
set_option linter.all false
set_option maxRecDepth 100000
set_option maxHeartbeats 4000000
namespace Pk
open PySem PySem.Spec PyProof.Rows L2
/-! ### agendas -/
/-- the names put behind, each unless it stands there -/
def addW (ws : List Str) : List Str → List Str
  | [] => ws
  | x :: r => addW (if x ∈ ws then ws else ws ++ [x]) r
theorem addW_app (ws xs ys : List Str) : addW ws (xs ++ ys) = addW (addW ws xs) ys := by
  induction xs generalizing ws with
  | nil => rfl
  | cons x r ih => exact ih _
theorem addW_nodup {ws : List Str} (h : ws.Nodup) (xs : List Str) : (addW ws xs).Nodup := by
  induction xs generalizing ws with
  | nil => exact h
  | cons x r ih =>
    refine ih ?_
    by_cases hx : x ∈ ws
    · rw [if_pos hx]; exact h
    · rw [if_neg hx]
      exact List.nodup_append.mpr ⟨h, List.nodup_cons.mpr ⟨List.not_mem_nil, List.nodup_nil⟩, fun a ha b hb e => hx (by rw [List.mem_singleton.mp hb] at e; exact e ▸ ha)⟩
theorem addW_mem {ws : List Str} {xs : List Str} {y : Str} : y ∈ addW ws xs ↔ y ∈ ws ∨ y ∈ xs := by
  induction xs generalizing ws with
  | nil => exact ⟨.inl, fun h => h.elim id fun z => absurd z List.not_mem_nil⟩
  | cons x r ih =>
    show y ∈ addW (if x ∈ ws then ws else ws ++ [x]) r ↔ _
    rw [ih, List.mem_cons]
    by_cases hx : x ∈ ws
    · rw [if_pos hx]
      exact ⟨fun h => h.elim .inl fun z => .inr (.inr z), fun h => h.elim .inl fun z => z.elim (fun e => .inl (by rw [e]; exact hx)) .inr⟩
    · rw [if_neg hx, List.mem_append, List.mem_singleton]
      exact ⟨fun h => h.elim (fun z => z.elim .inl fun e => .inr (.inl e)) fun z => .inr (.inr z), fun h => h.elim (fun z => .inl (.inl z)) fun z => z.elim (fun e => .inl (.inr e)) .inr⟩
theorem addW_pre (ws xs : List Str) : ∃ r, addW ws xs = ws ++ r := by
  induction xs generalizing ws with
  | nil => exact ⟨[], (List.append_nil _).symm⟩
  | cons x r ih =>
    show ∃ q, addW (if x ∈ ws then ws else ws ++ [x]) r = ws ++ q
    by_cases hx : x ∈ ws
    · rw [if_pos hx]; exact ih ws
    · rw [if_neg hx]
      obtain ⟨q, e⟩ := ih (ws ++ [x])
      exact ⟨[x] ++ q, by rw [e, List.append_assoc]⟩
theorem addW_skip {ws : List Str} {x : Str} (h : x ∈ ws) (xs : List Str) : addW ws (x :: xs) = addW ws xs := by
  show addW (if x ∈ ws then ws else ws ++ [x]) xs = _
  rw [if_pos h]
theorem addW_new {ws : List Str} {x : Str} (h : x ∉ ws) (xs : List Str) : addW ws (x :: xs) = addW (ws ++ [x]) xs := by
  show addW (if x ∈ ws then ws else ws ++ [x]) xs = _
  rw [if_neg h]
/-- the agenda told, from a place on: f gives the wares that a ware's picked make needs -/
inductive AgOf (f : Str → List Str) : List Str → Nat → List Str → Prop
  | done {ws : List Str} {at_ : Nat} (h : ws[at_]? = none) : AgOf f ws at_ ws
  | step {ws out : List Str} {at_ : Nat} {w : Str} (h : ws[at_]? = some w) (r : AgOf f (addW ws (f w)) (at_ + 1) out) : AgOf f ws at_ out
theorem AgOf.det {f : Str → List Str} {ws : List Str} {n : Nat} {a b : List Str} (h1 : AgOf f ws n a) (h2 : AgOf f ws n b) : a = b := by
  induction h1 with
  | done h =>
    cases h2 with
    | done => rfl
    | step g => rw [h] at g; cases g
  | step h _ ih =>
    cases h2 with
    | done g => rw [h] at g; cases g
    | step g r =>
      rw [h] at g
      cases g
      exact ih r
theorem AgOf.congr {f g : Str → List Str} {ws : List Str} {n : Nat} {a : List Str} (h : AgOf f ws n a) (e : ∀ w, f w = g w) : AgOf g ws n a := by
  induction h with
  | done h => exact .done h
  | step h _ ih => exact .step h (by rw [← e]; exact ih)
theorem AgOf.nodup {f : Str → List Str} {ws : List Str} {n : Nat} {a : List Str} (h : AgOf f ws n a) (nd : ws.Nodup) : a.Nodup := by
  induction h with
  | done _ => exact nd
  | step _ _ ih => exact ih (addW_nodup nd _)
/-! ### picks -/
def pkD (pk : List (Str × Int)) : List (Key × V) := pk.map fun e => (Sum.inr e.1, V.int e.2)
def lkP (pk : List (Str × Int)) (w : Str) : Option Int := (pk.find? fun e => decide (e.1 = w)).map (·.2)
theorem pkD_val (w : Str) : ∀ pk : List (Str × Int), valV (pkD pk) (Sum.inr w : Key) = (lkP pk w).map V.int
  | [] => rfl
  | e :: r => by
    have ih := pkD_val w r
    unfold valV lkP pkD at ih ⊢
    rw [List.map_cons, List.find?_cons, List.find?_cons]
    by_cases h : e.1 = w
    · rw [show decide ((Sum.inr e.1 : Key) = Sum.inr w) = true by rw [h]; exact decide_eq_true rfl, show decide (e.1 = w) = true from decide_eq_true h]
      rfl
    · rw [show decide ((Sum.inr e.1 : Key) = Sum.inr w) = false from decide_eq_false (fun z => h (Sum.inr.inj z)), show decide (e.1 = w) = false from decide_eq_false h]
      exact ih
def needsD (D : Str → List (Int × List PyData)) (w : Str) (m : Int) : List PyData := ((findD (D w) m).map (·.2)).getD []
/-- the wares that the picked make of w needs -/
def needW (D : Str → List (Int × List PyData)) (pk : List (Str × Int)) (w : Str) : List Str := match lkP pk w with
  | some m => (needsD D w m).map wOf
  | none => []
theorem lkP_mem {pk : List (Str × Int)} {w : Str} {m : Int} (h : lkP pk w = some m) : (w, m) ∈ pk := by
  unfold lkP at h
  obtain ⟨e, he, rfl⟩ := Option.map_eq_some_iff.mp h
  have h1 := List.mem_of_find?_eq_some he
  have h2 := of_decide_eq_true (List.find?_some (p := fun e : Str × Int => decide (e.1 = w)) he)
  rw [← h2]
  exact h1
theorem lkP_none {pk : List (Str × Int)} {w : Str} (h : lkP pk w = none) : w ∉ pk.map (·.1) := fun z => by
  unfold lkP at h
  rw [Option.map_eq_none_iff, List.find?_eq_none] at h
  obtain ⟨e, he, rfl⟩ := List.mem_map.mp z
  exact h e he (decide_eq_true rfl)
theorem lkP_of {pk : List (Str × Int)} (nd : (pk.map (·.1)).Nodup) {w : Str} {m : Int} (h : (w, m) ∈ pk) : lkP pk w = some m := by
  cases e : lkP pk w with
  | none => exact absurd (List.mem_map.mpr ⟨_, h, rfl⟩) (lkP_none e)
  | some k =>
    have h2 := lkP_mem e
    congr 1
    induction pk with
    | nil => cases h
    | cons a r ih =>
      rw [List.map_cons, List.nodup_cons] at nd
      rcases List.mem_cons.mp h with h | h
      · rcases List.mem_cons.mp h2 with h2 | h2
        · rw [← h] at h2
          exact (Prod.mk.inj h2).2
        · exact absurd (List.mem_map.mpr ⟨_, h2, by rw [← h]⟩) nd.1
      · rcases List.mem_cons.mp h2 with h2 | h2
        · exact absurd (List.mem_map.mpr ⟨_, h, by rw [← h2]⟩) nd.1
        · refine ih nd.2 h ?_ h2
          unfold lkP at e ⊢
          rw [List.find?_cons] at e
          by_cases hw : a.1 = w
          · exact absurd (List.mem_map.mpr ⟨_, h, rfl⟩) (by rw [← hw]; exact nd.1)
          · rw [show decide (a.1 = w) = false from decide_eq_false hw] at e
            exact e
/-! ### locked dicts -/
theorem lockX {T d : Addr} {H : Hp} {od : Obj} {u : HO} (t : GxR.TabG H T) (h : H d = some u) (n : d ≠ T) : Kx T [d] H (upd H d (.frz od u)) := Kx.upd t n (List.mem_singleton.mpr rfl)
theorem unlockP {T d : Addr} {H H' : Hp} {od : Obj} {u : HO} (t : GxR.TabG H T) (h : H d = some u) (n : d ≠ T) (k : Kp T (upd H d (.frz od u)) H') : Kp T H (upd H' d u) := by
  refine ⟨t, tab_upd k.tab n, fun b o hb e => ?_⟩
  by_cases hd : b = d
  · rw [hd] at e ⊢
    rw [h] at e
    rw [upd_same]
    exact e
  · rw [upd_ne hd]
    exact k.keep b o hb (by rw [upd_ne hd]; exact e)
theorem unlockX {T d : Addr} {F : List Addr} {H H' : Hp} {od : Obj} {u : HO} (t : GxR.TabG H T) (h : H d = some u) (n : d ≠ T) (k : Kx T F (upd H d (.frz od u)) H') : Kx T F H (upd H' d u) := by
  refine ⟨t, tab_upd k.tab n, fun b o hb hF e => ?_⟩
  by_cases hd : b = d
  · rw [hd] at e ⊢
    rw [h] at e
    rw [upd_same]
    exact e
  · rw [upd_ne hd]
    exact k.keep b o hb hF (by rw [upd_ne hd]; exact e)
end Pk

set_option Elab.async false
set_option linter.all false
set_option maxRecDepth 100000
set_option maxHeartbeats 4000000
namespace Pk
open PySem PySem.Spec PyProof.Rows L2
theorem nd_read {K : PySem.W.Frag} {H : Hp} {v : V} {d : PyData} (h : Dp K H v d) (n : ND d) : ∃ a y i j, v = .ref a ∧ SqT K H a [.str y, .int i, .int j] ∧ d = .tuple [.str y, .int i, .int j] ∧ GoodN y ∧ makeB (.int i) = true ∧ makeB (.int j) = true ∧ i ≤ j := by
  obtain ⟨y, i, j, rfl, g, hi, hj, hl⟩ := n
  cases h with
  | @tup a xs _ hT hA =>
    cases hA with
    | cons h1 hA =>
      cases hA with
      | cons h2 hA =>
        cases hA with
        | cons h3 hA =>
          cases hA
          cases h1
          cases h2
          cases h3
          exact ⟨a, y, i, j, rfl, hT, rfl, g, hi, hj, hl⟩
theorem nd_needB {d : PyData} (n : ND d) : needB d = true := ND.need n
def wishB : PyData → Bool
  | .list ds => decide (ds.length ≤ 8) && ds.all needB
  | _ => false
theorem Kx.seqH {K : PySem.W.Frag} {T a : Addr} {A F : List Addr} {H H' : Hp} {xs : List V} (k : Kx T F H H') (hF : ∀ f ∈ F, f ∈ A ∨ ∃ kvs, H f = some (.dK kvs)) (h : SqL K (hide A H) a xs) : SqL K (hide A H') a xs := by
  have key : ∀ o, isSeqO o = true → hide A H a = some o → hide A H' a = some o := fun o hs e => by
    obtain ⟨e1, e2⟩ := hide_some e
    refine hide_of (k.keep a o (isSeq_ne_tab k.t0 hs e1) (fun z => ?_) e1) e2
    rcases hF a z with z | ⟨kvs, z⟩
    · exact e2 z
    · rw [z] at e1; cases e1; cases hs
  rcases h with (h | ⟨o, h⟩) | h
  · exact .inl (.inl (key _ rfl h))
  · exact .inl (.inr ⟨o, key _ rfl h⟩)
  · exact .inr h
theorem seq_show {K : PySem.W.Frag} {A : List Addr} {H : Hp} {a : Addr} {xs : List V} (h : SqL K (hide A H) a xs) : SqL K H a xs := by
  rcases h with (h | ⟨o, h⟩) | h
  · exact .inl (.inl (hide_some h).1)
  · exact .inl (.inr ⟨o, (hide_some h).1⟩)
  · exact .inr h
theorem dpAll_show {K : PySem.W.Frag} {A : List Addr} {H : Hp} {xs : List V} {ds : List PyData} (h : DpAll K (hide A H) xs ds) : DpAll K H xs ds := dpAll_mono (fun _ _ _ e => (hide_some e).1) ds xs h
section
variable {P : Program} {w : World} {K : PySem.W.Frag} {mg : Str → Option Value} {base : Heap}
/-! ### check_wish -/
theorem scChkW : FnScope ["thing", "need"] ["thing"] (defScope sChkW) := ⟨rfl, rfl, rfl, by decide +kernel, rfl, by decide +kernel, by decide +kernel⟩
def spChkW (K : PySem.W.Frag) (T BI : Addr) : Sp := fun vs H Q E => ∃ (v : V) (d : PyData), vs = [v] ∧ Dq K H v d ∧ okL d = true ∧ GxR.TabG H T ∧ (wishB d = false → ∀ H', Kp T H H' → E (.ref BI) none H') ∧ (wishB d = true → ∀ H', Kp T H H' → Q .non H')
theorem ok_chkw {f fN T BI : Addr} {fd fdN : FuncData} {t8 : Tok} (F : Fun K "check_wish" "check_wish" sChkW f fd) (XI : ExT K mg "BadWish" BI)
    (GN : FnOk P w K mg base CX0 3 fN fdN ["thing"] (spNeed K T)) (kN : PySem.W.keepIn K (.ref fN) = true) (bN : Binds K fdN ["thing"] []) (gN : mg "is_need" = some (.ref fN))
    (mI : mg "type" = none) (mLi : mg "list" = none) (mL : mg "len" = none) (m8 : mg "MOST_WISHES" = some (.int 8 t8)) : FnOk P w K mg base (L2N.CX P w) 4 f fd ["thing"] (spChkW K T BI) := by
  refine Fun.okN F scChkW (fun vs H Q E h => ?_) (fun cdv A outer s H vs Q E hr h => ?_)
  · obtain ⟨v, d, rfl, _⟩ := h
    rfl
  · obtain ⟨v, d, rfl, hd, ho, ht, qe, q⟩ := h
    refine ⟨_, pss_cons (ps_if (PW.pt (pw_or (pt_cmpR op_notTyB (pe_callTy call_type1 (by rfl) mI boot_type (pa_cons (pv 0) pa_nil)) (pe_bltn (v := .ty "list") (by rfl) mLi boot_list rfl) (nomark _))
        (pw_or1 (pt_cmpR op_gt (pe_callB call_len_seq (by rfl) mL PySem.boot_len (pa_cons (pv 0) pa_nil)) (pe_glob (v := .int 8) rfl m8 ⟨_, rfl⟩) (nomark _)))))
        (pss_one (L2N.ps_raise rfl (L2N.takes_of rfl rfl rfl rfl) (L2N.pmk_own PySem.F.excBase_ValueError XI.xP XI.gC XI.kP (raises_own XI.bP XI.tP) rfl))) pss_nil)
      (pss_one (ps_for (passes_of rfl) rfl (pi_list (pv 0)) (pg_name (i := 1) scChkW.nd rfl (.inl rfl))
        (pss_one (ps_if (pt_not (pt_val (pe_call GN hr (by rfl) gN kN bN .nil pass0 (pa_cons (pv 1) pa_nil)))) (pss_one (L2N.ps_raise rfl (L2N.takes_of rfl rfl rfl rfl) (L2N.pmk_own PySem.F.excBase_ValueError XI.xP XI.gC XI.kP (raises_own XI.bP XI.tP) rfl))) pss_nil)))), ?_⟩
    cases e : isLstD d with
    | false =>
      refine ⟨v, rfl, v, _, rfl, tyb_ofq hd, _, "list", rfl, rfl, _, rfl, tyN_no (tyN_lst d) e ?_⟩
      exact qe (by cases d <;> first | rfl | (cases e; done)) H (.refl ht)
    | true =>
      obtain ⟨ds, rfl⟩ := isLstD_ex e
      cases hd with
      | @lst a xs _ hA hall =>
        have hl := dqAll_len hall
        refine ⟨_, rfl, _, _, rfl, tyb_ofq (.lst hA hall), _, "list", rfl, rfl, _, rfl, tyN_yes (tyN_lst (.list ds)) rfl ?_⟩
        refine ⟨_, rfl, a, xs, rfl, .inl hA, _, _, rfl, rfl, _, rfl, iteD (fun h8 => ?_) (fun h8 => ?_)⟩
        · refine qe ?_ H (.refl ht)
          show (decide (ds.length ≤ 8) && _) = false
          rw [decide_eq_false (by omega), Bool.false_and]
        · have hoT : ∀ x ∈ ds, okT x = true := by
            have z : (ds.all okT && _) = true := ho
            rw [Bool.and_eq_true, List.all_eq_true] at z
            exact z.1
          have ew : wishB (.list ds) = ds.all needB := by
            show (decide (ds.length ≤ 8) && _) = _
            rw [decide_eq_true (by omega), Bool.true_and]
          refine ⟨_, rfl, a, rfl, ⟨_, hA⟩, for_list (K := K) (a := a) (xs := xs) (fun i σ' H' => ∃ x1, σ' = [some (.ref a), x1] ∧ Kp T H H' ∧ (ds.take i).all needB = true) ⟨none, rfl, .refl ht, rfl⟩ (fun i σ' H' _ ⟨_, _, kk, _⟩ => kk.seq hA) ?_ ?_⟩
          · rintro i x σ' H' hi ⟨x1, rfl, kk, ha⟩
            have hil : i < ds.length := by
              have := (List.getElem?_eq_some_iff.mp hi).1
              omega
            obtain ⟨x', hx', hdx⟩ := dqAll_get (Kp.dqAll kk _ _ hall) (List.getElem?_eq_getElem hil)
            have exx : x' = x := Option.some.inj (hx'.symm.trans hi)
            subst exx
            refine ⟨_, rfl, x', ds[i], rfl, hdx, hoT _ (List.getElem_mem hil), kk.tab, fun H2 k2 => ⟨_, rfl, ?_⟩⟩
            cases en : needB ds[i] with
            | false =>
              refine iteT (qe ?_ H2 (kk.trans k2))
              rw [ew]
              cases z : ds.all needB with
              | false => rfl
              | true =>
                rw [List.all_eq_true] at z
                rw [z _ (List.getElem_mem hil)] at en
                cases en
            | true =>
              refine iteF ⟨_, rfl, kk.trans k2, ?_⟩
              rw [List.take_succ, List.getElem?_eq_getElem hil, List.all_append, ha]
              show (true && (needB ds[i] && true)) = true
              rw [en] <;> rfl
          · rintro σ' H' ⟨x1, rfl, kk, ha⟩
            rw [hl, List.take_length] at ha
            exact q (by rw [ew, ha]) H' kk
/-! ### has_make -/
theorem scHasM : FnScope ["shop", "ware", "make"] ["shop", "ware", "make"] (defScope sHasM) := ⟨rfl, rfl, rfl, by decide +kernel, rfl, by decide +kernel, by decide +kernel⟩
def spHasM (K : PySem.W.Frag) (C T : Addr) : Sp := fun vs H Q _ => ∃ (A : List Addr) (p D : Addr) (st : List Shelf) (wv mv : V) (wd md : PyData), vs = [.ref p, wv, mv] ∧ ShopAt K C A H p D st ∧ (∀ v, (dataOf st v).length < 64) ∧ Dq K H wv wd ∧ okS wd = true ∧ Dq K H mv md ∧ GxR.TabG H T ∧
  ∀ H', Kp T H H' → Q (.bl (hasB st wd md)) H'
theorem inV_int (a : Int) : ∀ l : List Int, inV (.int a) (l.map V.int) = decide (a ∈ l)
  | [] => rfl
  | b :: r => by
    have ih := inV_int a r
    unfold inV at ih ⊢
    rw [List.map_cons, List.any_cons, ih]
    have e : eqV (.int b) (.int a) = decide (b = a) := rfl
    rw [e]
    by_cases h : b = a
    · rw [decide_eq_true h, decide_eq_true (show a ∈ b :: r by rw [h]; exact List.mem_cons_self ..)] <;> rfl
    · rw [decide_eq_false h, Bool.false_or]
      by_cases h2 : a ∈ r
      · rw [decide_eq_true h2, decide_eq_true (List.mem_cons_of_mem _ h2)]
      · rw [decide_eq_false h2, decide_eq_false (fun z => (List.mem_cons.mp z).elim (fun e => h e.symm) h2)]
theorem flat_int (l : List Int) : (l.map V.int).all flatV = true := by
  rw [List.all_eq_true]
  intro v hv
  obtain ⟨i, _, rfl⟩ := List.mem_map.mp hv
  rfl
theorem ok_hasm {f fW fM fS C T BW : Addr} {fd fdW fdM fdS : FuncData} (F : Fun K "has_make" "has_make" sHasM f fd) (X : ShopT K mg C)
    (GW : FnOk P w K mg base CX0 1 fW fdW ["thing"] (spWare K T)) (kW : PySem.W.keepIn K (.ref fW) = true) (bW : Binds K fdW ["thing"] []) (gW : mg "is_ware" = some (.ref fW))
    (GM : FnOk P w K mg base CX0 2 fM fdM ["thing"] (spMake K)) (kM : PySem.W.keepIn K (.ref fM) = true) (bM : Binds K fdM ["thing"] []) (gM : mg "is_make" = some (.ref fM))
    (GS : FnOk P w K mg base (L2N.CX P w) 2 fS fdS ["self", "ware"] (spMakes K C T BW)) (bS : Binds K fdS ["self", "ware"] []) (mS : Meth K C "makes" fS) :
    FnOk P w K mg base CX0 3 f fd ["shop", "ware", "make"] (spHasM K C T) := by
  refine F.ok scHasM (fun vs H Q E h => ?_) (fun cdv A outer s H vs Q E hr h => ?_)
  · obtain ⟨A, p, D, st, wv, mv, wd, md, rfl, _⟩ := h
    rfl
  · obtain ⟨A, p, D, st, wv, mv, wd, md, rfl, S, h64, hw, ho, hm, ht, q⟩ := h
    have r1 : Room 1 _ := hr.mono (by decide)
    refine ⟨_, pss_one (ps_ret (pe_and (pe_call GW r1 (by rfl) gW kW bW .nil pass0 (pa_cons (pv 1) pa_nil))
      (pe_and (pe_call GM hr (by rfl) gM kM bM .nil pass0 (pa_cons (pv 2) pa_nil))
      (pe_one (pe_cmpR op_in_seq (pv 2) (pe_meth (E := E0) (pv 0) X.cl mS GS hr bS .nil passN (pa_cons (pv 1) pa_nil)) (by rfl)))))), ?_⟩
    refine ⟨_, rfl, wv, wd, rfl, hw, ho, ht, fun H1 k1 => ⟨_, rfl, ?_⟩⟩
    have fin : ∀ H', Kp T H H' → ∀ b, hasB st wd md = b → Q (.bl b) H' := fun H' k b eb => by
      have z := q H' k
      rw [eb] at z
      exact z
    cases ea : wareB wd with
    | false => exact iteF (fin H1 k1 false (by show (wareB wd && _ && _) = false; rw [ea] <;> rfl))
    | true =>
      refine iteT ⟨_, rfl, mv, md, rfl, k1.dq _ _ hm, _, rfl, ?_⟩
      cases eb : makeB md with
      | false => exact iteF (fin H1 k1 false (by show (wareB wd && makeB md && _) = false; rw [ea, eb] <;> rfl))
      | true =>
        obtain ⟨m, rfl⟩ := makeB_ex eb
        obtain ⟨x, rfl⟩ : ∃ x, wd = .str x := by
          cases es : isStrD wd with
          | false => rw [wareB_no es] at ea; cases ea
          | true => exact isStrD_ex es
        cases hw
        cases hm
        refine iteT ⟨_, rfl, makes_read (S.keptP k1) (h64 x) ⟨ea, ho⟩ k1.tab rfl (fun Q z => ⟨_, rfl, z⟩) fun ys l H2 hp _ k2 _ hl => ⟨l, _, rfl, .inl (.inl (.inl hl)), rfl, flat_int ys, ?_⟩⟩
        rw [inV_int]
        refine fin H2 (k1.trans k2) _ ?_
        rw [hasB_keys, ea, eb, Bool.true_and, Bool.true_and]
        by_cases h : m ∈ ys
        · rw [decide_eq_true h, decide_eq_true (hp.mem_iff.mp h)] <;> rfl
        · rw [decide_eq_false h, decide_eq_false (fun z => h (hp.mem_iff.mpr z))] <;> rfl
/-! ### add_wares -/
theorem scAddW : FnScope ["wares", "needs", "need"] ["wares", "needs"] (defScope sAddW) := ⟨rfl, rfl, rfl, by decide +kernel, rfl, by decide +kernel, by decide +kernel⟩
def spAddW (K : PySem.W.Frag) (T : Addr) : Sp := fun vs H Q _ => ∃ (l q : Addr) (ws : List Str) (xs : List V) (ds : List PyData), vs = [.ref l, .ref q] ∧ H l = some (.lst (ws.map V.str)) ∧ SqL K (hide [l] H) q xs ∧ DpAll K (hide [l] H) xs ds ∧ (∀ d ∈ ds, ND d) ∧ ws.length + ds.length ≤ 900 ∧ GxR.TabG H T ∧
  ∀ H', Kx T [l] H H' → H' l = some (.lst ((addW ws (ds.map wOf)).map V.str)) → Q .non H'
theorem addW_len (ws xs : List Str) : (addW ws xs).length ≤ ws.length + xs.length := by
  induction xs generalizing ws with
  | nil => exact Nat.le_refl _
  | cons x r ih =>
    show (addW (if x ∈ ws then ws else ws ++ [x]) r).length ≤ _
    refine Nat.le_trans (ih _) ?_
    rw [List.length_cons]
    by_cases hx : x ∈ ws
    · rw [if_pos hx]; omega
    · rw [if_neg hx, List.length_append, List.length_singleton]; omega
theorem ok_addw {f T : Addr} {fd : FuncData} (F : Fun K "add_wares" "add_wares" sAddW f fd) : FnOk P w K mg base CX0 1 f fd ["wares", "needs"] (spAddW K T) := by
  refine F.ok scAddW (fun vs H Q E h => ?_) (fun cdv A outer s H vs Q E hr h => ?_)
  · obtain ⟨l, q, ws, xs, ds, rfl, _⟩ := h
    rfl
  · obtain ⟨l, q, ws, xs, ds, rfl, hl, hq, hds, hnd, hlen, ht, fin⟩ := h
    refine ⟨_, pss_one (ps_for PassesOwn.never rfl (pi_list (pv 1)) (pg_name (i := 2) scAddW.nd rfl (.inl rfl))
      (pss_one (ps_if (pt_cmpR op_notIn_seq (pe_ix ix_tup (pv 2) pe_int (fun _ _ => rfl)) (pv 0) (by rfl))
        (pss_one (ps_expr (pe_bm PySem.F.plainAttrs_list PySem.F.slot_list_append PySem.F.type_list_append mt_append (pv 0) (pa_cons (pe_ix ix_tup (pv 2) pe_int (fun _ _ => rfl)) pa_nil)))) pss_nil))), ?_⟩
    have lT := tab_ne ht hl (fun _ z => by cases z)
    have hF : ∀ f ∈ [l], f ∈ [l] ∨ ∃ kvs, H f = some (.dK kvs) := fun f hf => .inl hf
    have dl := dpAll_len hds
    refine ⟨_, rfl, q, rfl, ⟨_, seq_show hq⟩, for_list (K := K) (a := q) (xs := xs) (fun i σ' H' => ∃ x2, σ' = [some (.ref l), some (.ref q), x2] ∧ Kx T [l] H H' ∧ H' l = some (.lst ((addW ws ((ds.take i).map wOf)).map V.str)))
      ⟨none, rfl, .refl ht, hl⟩ (fun i σ' H' _ ⟨_, _, kk, _⟩ => seq_show (kk.seqH hF hq)) ?_ ?_⟩
    · rintro i x σ' H' hi ⟨x2, rfl, kk, hl'⟩
      have hil : i < ds.length := by
        have := (List.getElem?_eq_some_iff.mp hi).1
        omega
      obtain ⟨x', hx', hdx⟩ := dpAll_get (dpAll_show (dpAll_kx kk hF hds)) (List.getElem?_eq_getElem hil)
      have exx : x' = x := Option.some.inj (hx'.symm.trans hi)
      subst exx
      obtain ⟨a, y, lo, hi2, rfl, hT, ed, _⟩ := nd_read hdx (hnd _ (List.getElem_mem hil))
      have ew : wOf ds[i] = y := by rw [ed]; rfl
      have i0 : atI [V.str y, .int lo, .int hi2] 0 = some (.str y) := atI_nat (j := 0) rfl
      have et : (ds.take (i + 1)).map wOf = (ds.take i).map wOf ++ [y] := by
        rw [List.take_succ, List.getElem?_eq_getElem hil, List.map_append]
        show _ ++ [wOf ds[i]] = _
        rw [ew]
      have eS : addW ws ((ds.take (i + 1)).map wOf) = if y ∈ addW ws ((ds.take i).map wOf) then addW ws ((ds.take i).map wOf) else addW ws ((ds.take i).map wOf) ++ [y] := by
        rw [et, addW_app]
        rfl
      refine ⟨_, rfl, a, _, 0, _, rfl, rfl, hT, i0, _, rfl, l, _, rfl, .inl (.inl (.inl hl')), rfl, flat_strs _, _, rfl, ?_⟩
      show if (!inV (.str y) ((addW ws ((ds.take i).map wOf)).map V.str)) = true then _ else _
      rw [inV_str]
      refine iteN (fun hn => ?_) (fun hn => ?_)
      · refine ⟨_, rfl, .inl ⟨rfl, _, .inl (.inl hl')⟩, _, rfl, a, _, 0, _, rfl, rfl, hT, i0, l, _, _, rfl, rfl, hl', small1000 (by have := addW_len ws ((ds.take i).map wOf); rw [List.length_map, List.length_take] at this; rw [List.length_map]; omega), ?_⟩
        refine ⟨_, rfl, kk.trans (Kx.upd kk.tab lT (List.mem_singleton.mpr rfl)), ?_⟩
        rw [upd_same, eS, if_neg hn, List.map_append]
        rfl
      · refine ⟨_, rfl, kk, ?_⟩
        rw [eS, if_pos hn]
        exact hl'
    · rintro σ' H' ⟨x2, rfl, kk, hl'⟩
      rw [dl, List.take_length] at hl'
      exact fin H' kk hl'
end
end Pk

set_option Elab.async false
set_option linter.all false
set_option maxRecDepth 100000
set_option maxHeartbeats 4000000
namespace Pk
open PySem PySem.Spec PyProof.Rows L2
/-- what all shelves hold -/
structure GoodSh (D : Str → List (Int × List PyData)) : Prop where
  len : ∀ v, (D v).length ≤ 8
  gd : ∀ v, ∀ e ∈ D v, makeB (.int e.1) = true ∧ e.2.length ≤ 6 ∧ ∀ d ∈ e.2, ND d
/-- a pick of makes that are there -/
structure PickOk (D : Str → List (Int × List PyData)) (pk : List (Str × Int)) : Prop where
  nd : (pk.map (·.1)).Nodup
  len : pk.length ≤ 100
  gd : ∀ e ∈ pk, GoodN e.1
  in_ : ∀ e ∈ pk, e.2 ∈ (D e.1).map (·.1)
theorem GoodSh.make {D : Str → List (Int × List PyData)} (G : GoodSh D) {v : Str} {m : Int} (h : m ∈ (D v).map (·.1)) : makeB (.int m) = true := by
  obtain ⟨e, he, rfl⟩ := List.mem_map.mp h
  exact (G.gd v e he).1
theorem pick_has {st : List Shelf} {w : Str} {m : Int} (G : GoodSh (dataOf st)) (hw : GoodN w) (h : m ∈ (dataOf st w).map (·.1)) : hasB st (.str w) (.int m) = true := by
  rw [hasB_keys, hw.1, G.make h, decide_eq_true h] <;> rfl
theorem needsD_of {D : Str → List (Int × List PyData)} {w : Str} {m : Int} {ds : List PyData} (h : findD (D w) m = some (m, ds)) : needsD D w m = ds := by
  unfold needsD
  rw [h]
  rfl
theorem needsD_good {D : Str → List (Int × List PyData)} (G : GoodSh D) (w : Str) (m : Int) : (needsD D w m).length ≤ 6 ∧ ∀ d ∈ needsD D w m, ND d := by
  unfold needsD
  cases h : findD (D w) m with
  | none => exact ⟨Nat.zero_le _, fun d hd => by cases hd⟩
  | some e =>
    have he : e ∈ D w := List.mem_of_find?_eq_some h
    exact (G.gd w e he).2
theorem sub_len : ∀ {ws U : List Str}, ws.Nodup → (∀ y ∈ ws, y ∈ U) → ws.length ≤ U.length
  | [], _, _, _ => Nat.zero_le _
  | x :: r, U, nd, h => by
    rw [List.nodup_cons] at nd
    have hx := h x (List.mem_cons_self ..)
    have ih := sub_len (U := U.erase x) nd.2 fun y hy => (List.mem_erase_of_ne (fun e => nd.1 (by rw [← e]; exact hy))).mpr (h y (List.mem_cons_of_mem _ hy))
    rw [List.length_erase_of_mem hx] at ih
    have := List.length_pos_of_mem hx
    rw [List.length_cons]
    omega
theorem newHide {T n : Addr} {H H1 : Hp} (nn : H n = none) (k : Kp T H H1) : ∀ b o, isSeqO o = true → H b = some o → hide [n] H1 b = some o := fun b o hs e =>
  hide_of (k.keep b o (isSeq_ne_tab k.t0 hs e) e) (fun z => by rw [List.mem_singleton.mp z, nn] at e; cases e)
theorem seq_mono {K : PySem.W.Frag} {H H' : Hp} (k : ∀ b o, isSeqO o = true → H b = some o → H' b = some o) {a : Addr} {xs : List V} (h : SqL K H a xs) : SqL K H' a xs := by
  rcases h with (h | ⟨o, h⟩) | h
  · exact .inl (.inl (k _ _ rfl h))
  · exact .inl (.inr ⟨o, k _ _ rfl h⟩)
  · exact .inr h
theorem hide_sub {A B : List Addr} (h : ∀ x ∈ B, x ∈ A) {H : Hp} : ∀ b o, isSeqO o = true → hide A H b = some o → hide B H b = some o := fun b o _ e => by
  obtain ⟨e1, e2⟩ := hide_some e
  exact hide_of e1 fun z => e2 (h b z)
theorem Kx.list1 {K : PySem.W.Frag} {C T p D l : Addr} {A : List Addr} {H H' : Hp} {st : List Shelf} (S : ShopAt K C A H p D st) (k : Kx T [l] H H') (hl : ∃ xs, H l = some (.lst xs)) (hA : l ∈ A) : ShopAt K C A H' p D st :=
  S.kept k (fun f hf => by rw [List.mem_singleton.mp hf]; exact .inl hA) (fun f hf _ => by rw [List.mem_singleton.mp hf]; exact hl) (fun f hf z => by
    obtain ⟨kvs, e⟩ := S.bx.foot_dict f hf
    rw [List.mem_singleton.mp z] at e
    obtain ⟨xs, e2⟩ := hl
    rw [e] at e2
    cases e2)
section
variable {P : Program} {w : World} {K : PySem.W.Frag} {mg : Str → Option Value} {base : Heap}
/-! ### _check_pick, of a good one -/
theorem scChkP : FnScope ["shop", "thing", "ware", "make"] ["shop", "thing"] (defScope sChkP) := ⟨rfl, rfl, rfl, by decide +kernel, rfl, by decide +kernel, by decide +kernel⟩
def spChkP (K : PySem.W.Frag) (C T : Addr) : Sp := fun vs H Q _ => ∃ (A : List Addr) (p D a : Addr) (st : List Shelf) (pk : List (Str × Int)), vs = [.ref p, .ref a] ∧ ShopAt K C A H p D st ∧ GoodSh (dataOf st) ∧ (∀ x ∈ A, ∃ ys, H x = some (.lst ys)) ∧ H a = some (.dK (pkD pk)) ∧ a ∉ foot D st ∧ PickOk (dataOf st) pk ∧ GxR.TabG H T ∧
  ∀ H', Kp T H H' → Q .non H'
theorem ok_chkp {f fM C T BP : Addr} {fd fdM : FuncData} (F : Fun K "_check_pick" "_check_pick" sChkP f fd) (XP : ExT K mg "BadPick" BP)
    (GM : FnOk P w K mg base CX0 3 fM fdM ["shop", "ware", "make"] (spHasM K C T)) (kM : PySem.W.keepIn K (.ref fM) = true) (bM : Binds K fdM ["shop", "ware", "make"] []) (gM : mg "has_make" = some (.ref fM))
    (mI : mg "type" = none) (mD : mg "dict" = none) : FnOk P w K mg base (L2N.CX P w) 4 f fd ["shop", "thing"] (spChkP K C T) := by
  refine Fun.okN F scChkP (fun vs H Q E h => ?_) (fun cdv A outer s H vs Q E hr h => ?_)
  · obtain ⟨A, p, D, a, st, pk, rfl, _⟩ := h
    rfl
  · obtain ⟨A, p, D, a, st, pk, rfl, S, G, hA, ha, haf, O, ht, q⟩ := h
    refine ⟨_, pss_cons (ps_if (pt_cmpR op_notTyB (pe_callTy call_type1 (by rfl) mI boot_type (pa_cons (pv 1) pa_nil)) (pe_bltn (v := .ty "dict") (by rfl) mD boot_dict rfl) (nomark _))
        (pss_one (L2N.ps_raise rfl (L2N.takes_of rfl rfl rfl rfl) (L2N.pmk_own PySem.F.excBase_ValueError XP.xP XP.gC XP.kP (raises_own XP.bP XP.tP) rfl))) pss_nil)
      (pss_one (ps_lock (ps_for (passes_of rfl) rfl (pi_items (pv 1)) (pg_tup (by rfl) (pgs_cons (pg_name (i := 2) scChkP.nd rfl (.inl rfl)) (pgs_cons (pg_name (i := 3) scChkP.nd rfl (.inl rfl)) pgs_nil)))
        (pss_one (ps_if (pt_not (pt_val (pe_call GM hr (by rfl) gM kM bM .nil pass0 (pa_cons (pv 0) (pa_cons (pv 2) (pa_cons (pv 3) pa_nil)))))) (pss_one (L2N.ps_raise rfl (L2N.takes_of rfl rfl rfl rfl) (L2N.pmk_own PySem.F.excBase_ValueError XP.xP XP.gC XP.kP (raises_own XP.bP XP.tP) rfl))) pss_nil))))), ?_⟩
    refine ⟨_, rfl, _, _, rfl, .dK ha, _, "dict", rfl, rfl, _, rfl, iteN (fun z => absurd rfl z) fun _ => ?_⟩
    have aT := tab_ne ht ha (fun _ z => by cases z)
    refine ⟨a, _, ha, True.intro, fun od => ?_⟩
    have kL := lockX (od := od) ht ha aT
    have SL := S.kept kL (fun f hf => .inr ⟨pkD pk, by rw [List.mem_singleton.mp hf]; exact ha⟩) (fun f hf hfA => by
      rw [List.mem_singleton.mp hf] at hfA
      obtain ⟨ys, e⟩ := hA a hfA
      rw [ha] at e; cases e) (fun f hf z => haf (by rw [← List.mem_singleton.mp z]; exact hf))
    have eL : upd H a (.frz od (.dK (pkD pk))) a = some (.frz od (.dK (pkD pk))) := upd_same
    have fin : ∀ H', Kp T (upd H a (.frz od (.dK (pkD pk)))) H' → Kp T H (upd H' a (.dK (pkD pk))) := fun H' k => unlockP ht ha aT k
    have tL := kL.tab
    generalize upd H a (.frz od (.dK (pkD pk))) = HL at kL SL eL fin tL ⊢
    refine ⟨_, rfl, a, od, _, rfl, eL, for_it walk_items (fun i σ' H' => ∃ x2 x3, σ' = [some (.ref p), some (.ref a), x2, x3] ∧ Kp T HL H') ⟨none, none, rfl, .refl tL⟩ (fun i σ' H' _ ⟨_, _, _, kk⟩ => kk.keep _ _ aT eL) ?_ ?_⟩
    · rintro i v σ' H1 H2 hi ⟨x2, x3, rfl, kk⟩ ⟨Tt, x, y, rfl, nT, rfl, ex, ey⟩
      have hil : i < pk.length := by unfold pkD at hi; rw [List.length_map] at hi; exact hi
      have e0 : (pkD pk)[i]? = some (Sum.inr pk[i].1, V.int pk[i].2) := by
        unfold pkD
        rw [List.getElem?_map, List.getElem?_eq_getElem hil]
        rfl
      change Option.map (fun kv : Key × V => kV kv.1) (pkD pk)[i]? = some x at ex
      change Option.map Prod.snd (pkD pk)[i]? = some y at ey
      rw [e0] at ex ey
      have ex' : V.str pk[i].1 = x := Option.some.inj ex
      have ey' : V.int pk[i].2 = y := Option.some.inj ey
      subst ex' ey'
      have k2 := Kp.new (o := HO.tup [.str pk[i].1, .int pk[i].2]) kk.tab nT
      have kk2 := kk.trans k2
      have hm := List.getElem_mem (h := hil)
      refine ⟨Tt, _, rfl, .inl (.inl upd_same), rfl, _, _, rfl, _, _, rfl, rfl, ?_⟩
      refine ⟨_, rfl, _, rfl, _, rfl, A, p, D, st, _, _, .str pk[i].1, .int pk[i].2, rfl, SL.keptP kk2, fun v => by have := G.len v; omega, .str _, (O.gd _ hm).2, .int _, k2.tab, fun H3 k3 => ⟨_, rfl, ?_⟩⟩
      rw [pick_has G (O.gd _ hm) (O.in_ _ hm)]
      exact iteF ⟨_, _, rfl, kk2.trans k3⟩
    · rintro σ' H1 ⟨x2, x3, rfl, kk⟩
      exact ⟨kk.keep _ _ aT eL, q _ (fin H1 kk)⟩
/-! ### _agenda_of -/
theorem scAgOf : FnScope ["shop", "wish", "pick", "wares", "at", "ware"] ["shop", "wish", "pick"] (defScope sAgOf) := ⟨rfl, rfl, rfl, by decide +kernel, rfl, by decide +kernel, by decide +kernel⟩
def spAgOf (K : PySem.W.Frag) (C T : Addr) : Sp := fun vs H Q _ => ∃ (A : List Addr) (p D q a : Addr) (st : List Shelf) (xs : List V) (ds : List PyData) (pk : List (Str × Int)), vs = [.ref p, .ref q, .ref a] ∧ ShopAt K C A H p D st ∧ GoodSh (dataOf st) ∧ SqL K H q xs ∧ DpAll K H xs ds ∧ (∀ d ∈ ds, ND d) ∧ ds.length ≤ 8 ∧
  H a = some (.dK (pkD pk)) ∧ PickOk (dataOf st) pk ∧ GxR.TabG H T ∧ ∀ out l H', AgOf (needW (dataOf st) pk) (addW [] (ds.map wOf)) 0 out → (∀ y ∈ out, GoodN y) → out.Nodup → out.length ≤ 700 → Kp T H H' → H l = none → H' l = some (.lst (out.map V.str)) → Q (.ref l) H'
theorem ok_agof {f fA fN C T NM : Addr} {fd fdA fdN : FuncData} (F : Fun K "_agenda_of" "_agenda_of" sAgOf f fd) (X : ShopT K mg C)
    (GA : FnOk P w K mg base CX0 1 fA fdA ["wares", "needs"] (spAddW K T)) (kA : PySem.W.keepIn K (.ref fA) = true) (bA : Binds K fdA ["wares", "needs"] []) (gA : mg "add_wares" = some (.ref fA))
    (GN : FnOk P w K mg base (L2N.CX P w) 4 fN fdN ["self", "ware", "make"] (spNeeds K C T NM)) (bN : Binds K fdN ["self", "ware", "make"] []) (mN : Meth K C "needs" fN) :
    FnOk P w K mg base CX0 5 f fd ["shop", "wish", "pick"] (spAgOf K C T) := by
  refine F.ok scAgOf (fun vs H Q E h => ?_) (fun cdv A0 outer s H vs Q E hr h => ?_)
  · obtain ⟨A, p, D, q, a, st, xs, ds, pk, rfl, _⟩ := h
    rfl
  · obtain ⟨A, p, D, q, a, st, xs, ds, pk, rfl, S, G, hq, hds, hnd, h8, ha, O, ht, fin⟩ := h
    have r1 : Room 1 _ := hr.mono (by decide)
    have r4 : Room 4 _ := hr.mono (by decide)
    have hu := hu_of hr
    refine ⟨_, pss_cons (ps_set (i := 3) scAgOf.nd rfl (.inl rfl) (pe_lst pa_nil))
      (pss_cons (ps_expr (pe_call GA r1 (by rfl) gA kA bA .nil pass0 (pa_cons (pv 3) (pa_cons (pv 1) pa_nil))))
      (pss_cons (ps_set (i := 4) scAgOf.nd rfl (.inl rfl) pe_int)
      (pss_cons (ps_while PassesOwn.never (pt_cmpR op_lt (pv 4) (pe_callB call_len_seq (by rfl) X.len PySem.boot_len (pa_cons (pv 3) pa_nil)) (nomark _))
        (pss_cons (ps_set (i := 5) scAgOf.nd rfl (.inl rfl) (pe_ix ix_list (pv 3) (pv 4) (fun _ _ => rfl)))
        (C8.pss_cut (ps_if (pt_cmp (pc_din hu (pv 5) (pv 2))) (pss_one (ps_expr (pe_call GA r1 (by rfl) gA kA bA .nil pass0 (pa_cons (pv 3) (pa_cons (pe_meth (E := E0) (pv 0) X.cl mN GN r4 bN .nil passN (pa_cons (pv 5) (pa_cons (pe_dget hu (pv 2) (pv 5) (fun _ _ => rfl)) pa_nil))) pa_nil))))) pss_nil)
        (pss_one (ps_aug (i := 4) scAgOf.nd rfl (.inl rfl) pe_int ip_add)))))
      (pss_one (ps_ret (pv 3)))))), ?_⟩
    refine ⟨(by show (0 : Nat) ≤ sizeLine; decide), fun l nl => ?_⟩
    have k1 := Kp.new (o := HO.lst []) ht nl
    have lT := tab_nn ht nl
    have e1 : upd H l (.lst []) l = some (.lst ([] : List V)) := upd_same
    have nh := newHide nl k1
    have S1 := (S.more nl).keptP k1
    have ha1 : upd H l (.lst []) a = some (.dK (pkD pk)) := k1.keep _ _ (tab_ne ht ha fun _ z => by cases z) ha
    have al : a ≠ l := fun z => by rw [z, nl] at ha; cases ha
    have hq1 := seq_mono nh hq
    have hds1 := dpAll_mono nh _ _ hds
    have t1 := k1.tab
    generalize upd H l (.lst []) = H1 at k1 e1 S1 ha1 hq1 hds1 t1 ⊢
    clear nh
    -- all wares that may come
    obtain ⟨U, eU⟩ : ∃ U : List Str, U = ds.map wOf ++ pk.flatMap (fun e => (needsD (dataOf st) e.1 e.2).map wOf) := ⟨_, rfl⟩
    have lU : U.length ≤ 700 := by
      have h1 : ∀ r : List (Str × Int), (r.flatMap (fun e => (needsD (dataOf st) e.1 e.2).map wOf)).length ≤ 6 * r.length := fun r => by
        induction r with
        | nil => exact Nat.le_refl _
        | cons e r ih =>
          rw [List.flatMap_cons, List.length_append, List.length_map, List.length_cons]
          have := (needsD_good G e.1 e.2).1
          omega
      have h2 := h1 pk
      have h3 := O.len
      rw [eU, List.length_append, List.length_map]
      omega
    have gU : ∀ y ∈ U, GoodN y := fun y hy => by
      have key : ∀ es : List PyData, (∀ d ∈ es, ND d) → ∀ y ∈ es.map wOf, GoodN y := fun es he y hy => by
        obtain ⟨d, hd, rfl⟩ := List.mem_map.mp hy
        obtain ⟨y, i, j, rfl, g, _⟩ := he d hd
        exact g
      rw [eU] at hy
      rcases List.mem_append.mp hy with hy | hy
      · exact key ds hnd y hy
      · obtain ⟨e, _, hy⟩ := List.mem_flatMap.mp hy
        exact key _ (needsD_good G e.1 e.2).2 y hy
    have nU : ∀ w, ∀ y ∈ needW (dataOf st) pk w, y ∈ U := fun w y hy => by
      unfold needW at hy
      cases h : lkP pk w with
      | none => rw [h] at hy; cases hy
      | some m =>
        rw [h] at hy
        rw [eU]
        exact List.mem_append_right _ (List.mem_flatMap.mpr ⟨(w, m), lkP_mem h, hy⟩)
    have lenU : ∀ ws : List Str, ws.Nodup → (∀ y ∈ ws, y ∈ U) → ws.length ≤ U.length := fun ws nd h => sub_len nd h
    refine ⟨_, rfl, _, rfl, l, q, [], xs, ds, rfl, e1, hq1, hds1, hnd, (by show 0 + ds.length ≤ 900; omega), t1, fun H2 k2 e2 => ?_⟩
    have kk2 := Kx.dropNew nl k1 k2
    have S2 := Kx.list1 S1 k2 ⟨_, e1⟩ (List.mem_cons_self ..)
    refine while_by (fun σ' H' => ∃ (x5 : Option V) (ws : List Str) (n : Nat), σ' = [some (.ref p), some (.ref q), some (.ref a), some (.ref l), some (.int n), x5] ∧ Kp T H H' ∧ H' l = some (.lst (ws.map V.str)) ∧ ShopAt K C (l :: A) H' p D st ∧ n ≤ ws.length ∧ ws.Nodup ∧ (∀ y ∈ ws, y ∈ U) ∧
        ∀ out, AgOf (needW (dataOf st) pk) ws n out → AgOf (needW (dataOf st) pk) (addW [] (ds.map wOf)) 0 out)
      (fun (σ' : L2.St) (_ : Hp) => match σ'[4]? with | some (some (V.int n)) => U.length - n.toNat | _ => 0) ⟨none, addW [] (ds.map wOf), 0, rfl, kk2, e2, S2, Nat.zero_le _, addW_nodup List.nodup_nil _, fun y hy => ?_, fun out h => h⟩ ?_ ?_
    · rcases addW_mem.mp hy with hy | hy
      · cases hy
      · rw [eU]; exact List.mem_append_left _ hy
    · rintro σ' H3 ⟨x5, ws, n, rfl, k3, e3, S3, hn, nd, wU, ag⟩
      have t3 := k3.tab
      refine ⟨_, rfl, _, rfl, l, _, rfl, .inl (.inl (.inl e3)), _, _, rfl, rfl, _, rfl, ?_⟩
      rw [List.length_map]
      refine iteD (fun hlt => ?_) (fun hge => ?_)
      · have hlt' : n < ws.length := by omega
        have hy : ws[n]? = some ws[n] := List.getElem?_eq_getElem hlt'
        have ey : atI (ws.map V.str) (n : Int) = some (.str ws[n]) := atI_nat (by rw [List.getElem?_map, hy]; rfl)
        refine ⟨_, rfl, _, rfl, l, _, (n : Int), _, rfl, rfl, .inl (.inl e3), ey, ?_⟩
        have hyU := wU _ (List.getElem_mem hlt')
        generalize ws[n] = y at hy hyU ⊢
        have gy := gU y hyU
        have lws := lenU ws nd wU
        refine ⟨fun σ' H' => σ' = [some (.ref p), some (.ref q), some (.ref a), some (.ref l), some (.int n), some (.str y)] ∧ Kp T H H' ∧ H' l = some (.lst ((addW ws (needW (dataOf st) pk y)).map V.str)) ∧ ShopAt K C (l :: A) H' p D st, ?_, ?_⟩
        · have a3 : H3 a = some (.dK (pkD pk)) := k3.keep _ _ (tab_ne ht ha fun _ z => by cases z) ha
          refine ⟨_, rfl, _, rfl, a, _, rfl, DGet.k (k := Sum.inr y) a3, _, rfl, ?_⟩
          rw [pkD_val]
          cases hm : lkP pk y with
          | none =>
            refine iteF ⟨rfl, k3, ?_, S3⟩
            have e0 : needW (dataOf st) pk y = [] := by unfold needW; rw [hm]
            rw [e0]
            exact e3
          | some m =>
            have hin := lkP_mem hm
            have ew : needW (dataOf st) pk y = (needsD (dataOf st) y m).map wOf := by unfold needW; rw [hm]
            have gn := needsD_good G y m
            obtain ⟨dx, o⟩ := S3.ob
            have gD : DGet H3 a (.str y) (some (.int m)) := by
              have z := DGet.k (k := (Sum.inr y : Key)) a3
              rw [pkD_val, hm] at z
              exact z
            refine iteT ⟨_, rfl, _, rfl, p, dx, _, rfl, o, flS_no D (by decide +kernel), _, rfl, _, rfl, _, rfl, a, _, rfl, gD, l :: A, p, D, st, _, _, .str y, .int m, rfl, S3, .str y, gy.2, .int m, t3, fun z => ?_, fun x' m' ex em hh xs4 ds4 l4 H4 hf k4 nl4 hl4 hd4 => ?_⟩
            · rw [pick_has G gy (O.in_ _ hin)] at z; cases z
            · cases ex; cases em
              have e4 := needsD_of hf
              have hll : l4 ≠ l := fun z => by rw [z, e3] at nl4; cases nl4
              have e34 := k4.lst e3
              have S4 := S3.keptP k4
              refine ⟨l, l4, ws, xs4, ds4, rfl, e34, .inl (.inl (hide_of hl4 (fun z => hll (List.mem_singleton.mp z)))), dpAll_mono (hide_sub fun x hx => by rw [List.mem_singleton.mp hx]; exact List.mem_cons_self ..) _ _ hd4, by rw [← e4]; exact gn.2, by have := gn.1; rw [e4] at this; omega, k4.tab, fun H5 k5 e5 => ⟨rfl, Kx.dropNew nl (k3.trans k4) k5, ?_, Kx.list1 S4 k5 ⟨_, e34⟩ (List.mem_cons_self ..)⟩⟩
              rw [ew, e4]
              exact e5
        · rintro σ' H5 ⟨rfl, k5, e5, S5⟩
          refine ⟨_, rfl, (n : Int), 1, rfl, rfl, ⟨_, _, n + 1, rfl, k5, e5, S5, ?_, addW_nodup nd _, fun z hz => ?_, fun out h => ag out (.step hy h)⟩, ?_⟩
          · obtain ⟨r, er⟩ := addW_pre ws (needW (dataOf st) pk y)
            rw [er, List.length_append]
            omega
          · rcases addW_mem.mp hz with hz | hz
            · exact wU z hz
            · exact nU y z hz
          · show U.length - ((n : Int) + 1).toNat < U.length - ((n : Int)).toNat
            omega
      · have e0 : ws[n]? = none := List.getElem?_eq_none (by omega)
        exact ⟨_, rfl, fin ws l H3 (ag ws (.done e0)) (fun y hy => gU y (wU y hy)) nd (Nat.le_trans (lenU ws nd wU) lU) k3 nl e3⟩
    · intro σ' H' Q1 Q2 hm h
      obtain ⟨v4, e4, v3, e3, a', xs', h1, h2, i, j, h3, h4, c, h5, h6⟩ := h
      exact ⟨v4, e4, v3, e3, a', xs', h1, h2, i, j, h3, h4, c, h5, hm _ _ h6⟩
/-! ### agenda -/
theorem wish_good {ds : List PyData} (h : ∀ d ∈ ds, ND d) (h8 : ds.length ≤ 8) : wishB (.list ds) = true := by
  show (decide (ds.length ≤ 8) && ds.all needB) = true
  rw [decide_eq_true h8, Bool.true_and, List.all_eq_true]
  exact fun d hd => nd_needB (h d hd)
theorem wish_okL {ds : List PyData} (h : ∀ d ∈ ds, ND d) (h8 : ds.length ≤ 8) : okL (.list ds) = true := okL_list (fun d hd => ND.okT (h d hd)) (by omega)
def spAgenda (K : PySem.W.Frag) (C T : Addr) : Sp := fun vs H Q _ => ∃ (A : List Addr) (p D q a : Addr) (st : List Shelf) (xs : List V) (ds : List PyData) (pk : List (Str × Int)), vs = [.ref p, .ref q, .ref a] ∧ ShopAt K C A H p D st ∧ GoodSh (dataOf st) ∧ (∀ x ∈ A, ∃ ys, H x = some (.lst ys)) ∧ SqL K H q xs ∧ DpAll K H xs ds ∧ (∀ d ∈ ds, ND d) ∧ ds.length ≤ 8 ∧
  H a = some (.dK (pkD pk)) ∧ a ∉ foot D st ∧ PickOk (dataOf st) pk ∧ GxR.TabG H T ∧ ∀ out l H', AgOf (needW (dataOf st) pk) (addW [] (ds.map wOf)) 0 out → (∀ y ∈ out, GoodN y) → out.Nodup → out.length ≤ 700 → Kp T H H' → H l = none → H' l = some (.lst (out.map V.str)) → Q (.ref l) H'
end
end Pk

set_option Elab.async false
set_option linter.all false
set_option maxRecDepth 100000
set_option maxHeartbeats 4000000
namespace Pk
open PySem PySem.Spec PyProof.Rows L2
def MakeI (m : Int) : Prop := 1 ≤ m ∧ m ≤ 999
theorem MakeI.b {m : Int} (h : MakeI m) : makeB (.int m) = true := by
  show (decide (1 ≤ m) && decide (m ≤ 999)) = true
  rw [decide_eq_true h.1, decide_eq_true h.2] <;> rfl
theorem makeI {m : Int} (h : makeB (.int m) = true) : MakeI m := by
  have z : (decide (1 ≤ m) && decide (m ≤ 999)) = true := h
  rw [Bool.and_eq_true] at z
  exact ⟨of_decide_eq_true z.1, of_decide_eq_true z.2⟩
theorem at_make {ms : List Int} {i : Int} (h0 : 0 ≤ i) (h1 : i < (ms.length : Int)) (hg : ∀ m ∈ ms, MakeI m) : ∃ m, atI (ms.map V.int) i = some (.int m) ∧ MakeI m := by
  obtain ⟨v, hv, m, rfl, hm⟩ := at_pick (xs := ms.map V.int) (p := fun v => ∃ m, v = V.int m ∧ MakeI m) h0 (by rw [List.length_map]; exact h1) (fun x hx => by
    obtain ⟨m, hm, rfl⟩ := List.mem_map.mp hx
    exact ⟨m, rfl, hg m hm⟩)
  exact ⟨m, hv, hm⟩
section
variable {P : Program} {w : World} {K : PySem.W.Frag} {mg : Str → Option Value} {base : Heap}
def stretchN : List Str := ["_law_number", "_law_makes", "_law_one", nOther, "_law_way"]
theorem scStretch : FnScope stretchN ["_law_number", "_law_makes"] (defScope sStretch) := ⟨rfl, rfl, rfl, by decide +kernel, rfl, by decide +kernel, by decide +kernel⟩
def spStretch (K : PySem.W.Frag) (T : Addr) : Sp := fun vs H Q _ => ∃ (n : Int) (q : Addr) (ms : List Int), vs = [.int n, .ref q] ∧ SqL K H q (ms.map V.int) ∧ ms ≠ [] ∧ ms.length ≤ 1000 ∧ (∀ m ∈ ms, MakeI m) ∧ GxR.TabG H T ∧
  ∀ lo hi r H', MakeI lo → MakeI hi → lo ≤ hi → Kp T H H' → H r = none → H' r = some (.tup [.int lo, .int hi]) → Q (.ref r) H'
theorem ok_stretch {f T : Addr} {fd : FuncData} (F : Fun K "_law_stretch" "_law_stretch" sStretch f fd) (y_len : mg "len" = none) (y_max : mg "max" = none) (y_min : mg "min" = none) : FnOk P w K mg base CX0 1 f fd ["_law_number", "_law_makes"] (spStretch K T) := by
  refine F.ok scStretch (fun vs H Q E h => ?_) (fun cdv A outer s H vs Q E hr h => ?_)
  · obtain ⟨n, q, ms, rfl, _⟩ := h
    rfl
  · obtain ⟨n, q, ms, rfl, hS, hne, h1000, hg, ht, fin⟩ := h
    refine ⟨_, (pss_cons (ps_set (i := 2) scStretch.nd rfl (by first | exact .inl rfl | exact .inr rfl) (pe_ix ix_list (pv 1) (pe_op op_mod (pe_op op_fdiv (pv 0) pe_int) (pe_callB call_len_seq (by rfl) y_len PySem.boot_len (pa_cons (pv 1) pa_nil))) (fun _ _ => rfl)))
      (pss_cons (ps_set (i := 3) scStretch.nd rfl (by first | exact .inl rfl | exact .inr rfl) (pe_ix ix_list (pv 1) (pe_op op_mod (pe_op op_fdiv (pv 0) pe_int) (pe_callB call_len_seq (by rfl) y_len PySem.boot_len (pa_cons (pv 1) pa_nil))) (fun _ _ => rfl)))
      (pss_cons (ps_set (i := 4) scStretch.nd rfl (by first | exact .inl rfl | exact .inr rfl) (pe_ix ix_list (pe_lst (pa_cons pe_int (pa_cons pe_int (pa_cons pe_int (pa_cons pe_int (pa_cons pe_int (pa_cons pe_int (pa_cons pe_int (pa_cons pe_int (pa_cons pe_int (pa_cons pe_int pa_nil))))))))))) (pe_op op_mod (pv 0) pe_int) (fun _ _ => rfl)))
      (pss_cons (ps_if (pt_cmpR op_eq (pv 4) pe_int (nomark _)) (pss_one (ps_ret (pe_tup (pa_cons (pv 2) (pa_cons (pv 2) pa_nil))))) pss_nil)
      (pss_cons (ps_if (pt_cmpR op_eq (pv 4) pe_int (nomark _)) (pss_one (ps_ret (pe_tup (pa_cons (pe_callB (call_min2 rfl) (by rfl) y_min (by decide +kernel) (pa_cons (pv 2) (pa_cons (pv 3) pa_nil))) (pa_cons (pe_callB (call_max2 rfl) (by rfl) y_max boot_max (pa_cons (pv 2) (pa_cons (pv 3) pa_nil))) pa_nil))))) pss_nil)
      (pss_cons (ps_if (pt_cmpR op_eq (pv 4) pe_int (nomark _)) (pss_one (ps_ret (pe_tup (pa_cons (pv 2) (pa_cons pe_int pa_nil))))) pss_nil)
      (pss_cons (ps_if (pt_cmpR op_eq (pv 4) pe_int (nomark _)) (pss_one (ps_ret (pe_tup (pa_cons pe_int (pa_cons (pv 2) pa_nil))))) pss_nil)
      (pss_cons (ps_if (pt_cmpR op_eq (pv 4) pe_int (nomark _)) (pss_one (ps_ret (pe_tup (pa_cons pe_int (pa_cons pe_int pa_nil))))) pss_nil)
      (pss_one (ps_ret (pe_tup (pa_cons (pe_callB (call_min2 rfl) (by rfl) y_min (by decide +kernel) (pa_cons pe_int (pa_cons (pe_op op_add (pv 2) pe_int) pa_nil))) (pa_cons (pe_callB (call_min2 rfl) (by rfl) y_min (by decide +kernel) (pa_cons pe_int (pa_cons (pe_op op_add (pv 2) pe_int) pa_nil))) pa_nil))))))))))))), ?_⟩
    have hpos : (0 : Int) < ((ms.map V.int).length : Int) := by
      rw [List.length_map]
      have := List.length_pos_iff.mpr hne
      omega
    have lt : ∀ z : Int, z % ((ms.map V.int).length : Int) < (ms.length : Int) := fun z => by
      have := Int.emod_lt_of_pos z hpos
      rw [List.length_map] at this ⊢
      exact this
    obtain ⟨a, ea, ga⟩ := at_make (ms := ms) (Int.emod_nonneg (n / 10) (by omega)) (lt (n / 10)) hg
    obtain ⟨b, eb, gb⟩ := at_make (ms := ms) (Int.emod_nonneg (n / 60) (by omega)) (lt (n / 60)) hg
    refine ⟨_, rfl, _, rfl, n, 10, rfl, rfl, ⟨by decide, by decide⟩, _, rfl, q, _, rfl, .inl hS, _, _, rfl, rfl, hpos, q, _, _, _, rfl, rfl, hS, ea, ?_⟩
    refine ⟨_, rfl, _, rfl, n, 60, rfl, rfl, ⟨by decide, by decide⟩, _, rfl, q, _, rfl, .inl hS, _, _, rfl, rfl, hpos, q, _, _, _, rfl, rfl, hS, eb, ?_⟩
    refine ⟨(by show (10 : Nat) ≤ sizeLine; decide), fun l nl => ?_⟩
    have k1 := Kp.new (o := HO.lst [.int 0, .int 1, .int 2, .int 3, .int 4, .int 4, .int 2, .int 1, .int 4, .int 5]) ht nl
    obtain ⟨v, ev, wy, rfl⟩ := at_pick (xs := [V.int 0, .int 1, .int 2, .int 3, .int 4, .int 4, .int 2, .int 1, .int 4, .int 5]) (i := n % 10) (p := fun v => ∃ w : Int, v = .int w) (by omega) (by show n % 10 < ((10 : Nat) : Int); omega) (fun x hx => by
      simp only [List.mem_cons, List.not_mem_nil, or_false] at hx
      rcases hx with rfl | rfl | rfl | rfl | rfl | rfl | rfl | rfl | rfl | rfl <;> exact ⟨_, rfl⟩)
    refine ⟨_, rfl, n, 10, rfl, rfl, (by show (0 : Int) < 10; decide), l, _, _, _, rfl, rfl, .inl (.inl upd_same), ev, ?_⟩
    have t1 := k1.tab
    have nr1 := fun r => k1.free (p := r)
    generalize upd H l (.lst [.int 0, .int 1, .int 2, .int 3, .int 4, .int 4, .int 2, .int 1, .int 4, .int 5]) = H1 at k1 t1 nr1 ⊢
    have out : ∀ lo hi r, MakeI lo → MakeI hi → lo ≤ hi → H1 r = none → Q (.ref r) (upd H1 r (.tup [.int lo, .int hi])) := fun lo hi r g1 g2 g3 nr => fin lo hi r _ g1 g2 g3 (k1.trans (Kp.new t1 nr)) (nr1 r nr) upd_same
    have sz : (2 : Nat) ≤ sizeLine := by decide
    have m1 : MakeI 1 := ⟨by decide, by decide⟩
    have m9 : MakeI 999 := ⟨by decide, by decide⟩
    refine ⟨_, rfl, rfl, _, rfl, iteD (fun _ => ⟨_, rfl, _, rfl, sz, fun r nr => out a a r ga ga (Int.le_refl _) nr⟩) (fun _ => ?_)⟩
    refine ⟨_, rfl, rfl, _, rfl, iteD (fun _ => ⟨_, rfl, _, rfl, a, b, rfl, _, rfl, _, rfl, a, b, rfl, sz, fun r nr => ?_⟩) (fun _ => ?_)⟩
    · obtain ⟨h1, h2⟩ := ga
      obtain ⟨h3, h4⟩ := gb
      refine out _ _ r ?_ ?_ ?_ nr
      · by_cases h : b < a
        · rw [if_pos h]; exact ⟨h3, h4⟩
        · rw [if_neg h]; exact ⟨h1, h2⟩
      · by_cases h : b > a
        · rw [if_pos h]; exact ⟨h3, h4⟩
        · rw [if_neg h]; exact ⟨h1, h2⟩
      · by_cases h : b < a
        · rw [if_pos h, if_neg (by omega)]; omega
        · rw [if_neg h]
          by_cases h' : b > a
          · rw [if_pos h']; omega
          · rw [if_neg h']; omega
    refine ⟨_, rfl, rfl, _, rfl, iteD (fun _ => ⟨_, rfl, sz, fun r nr => out a 999 r ga m9 ga.2 nr⟩) (fun _ => ?_)⟩
    refine ⟨_, rfl, rfl, _, rfl, iteD (fun _ => ⟨_, rfl, sz, fun r nr => out 1 a r m1 ga ga.1 nr⟩) (fun _ => ?_)⟩
    refine ⟨_, rfl, rfl, _, rfl, iteD (fun _ => ⟨sz, fun r nr => out 1 999 r m1 m9 (by decide) nr⟩) (fun _ => ?_)⟩
    refine ⟨_, rfl, a, 1, rfl, rfl, 999, a + 1, rfl, _, rfl, a, 1, rfl, rfl, 999, a + 1, rfl, sz, fun r nr => ?_⟩
    have hz : MakeI (if a + 1 < 999 then a + 1 else 999) := by
      obtain ⟨h1, h2⟩ := ga
      by_cases h : a + 1 < 999
      · rw [if_pos h]; exact ⟨by omega, by omega⟩
      · rw [if_neg h]; exact m9
    exact out _ _ r hz hz (Int.le_refl _) nr
end
end Pk

set_option Elab.async false
set_option linter.all false
set_option maxRecDepth 100000
set_option maxHeartbeats 4000000
namespace Pk
open PySem PySem.Spec PyProof.Rows L2
theorem mayL_of : ∀ {ds : List PyData} {bar : List Str}, (∀ d ∈ ds, needB d = true) → (bar ++ ds.map wOf).Nodup → mayL bar ds = true
  | [], _, _, _ => rfl
  | d :: r, bar, hn, nd => by
    have e : bar ++ (d :: r).map wOf = (bar ++ [wOf d]) ++ r.map wOf := by rw [List.map_cons, List.append_assoc]; rfl
    rw [e] at nd
    have h1 : wOf d ∉ bar := fun z => (List.nodup_append.mp (List.nodup_append.mp nd).1).2.2 _ z _ (List.mem_singleton.mpr rfl) rfl
    show (needB d && !decide (wOf d ∈ bar) && mayL (bar ++ [wOf d]) r) = true
    rw [hn d (List.mem_cons_self ..), decide_eq_false h1, mayL_of (fun x hx => hn x (List.mem_cons_of_mem _ hx)) nd] <;> rfl
theorem mayB_of {w : Str} {ds : List PyData} (hl : ds.length ≤ 6) (hn : ∀ d ∈ ds, needB d = true) (nd : (ds.map wOf).Nodup) (hw : w ∉ ds.map wOf) : mayB w (.list ds) = true := by
  show (decide (ds.length ≤ 6) && mayL [w] ds) = true
  rw [decide_eq_true hl, mayL_of hn (by rw [List.singleton_append, List.nodup_cons]; exact ⟨hw, nd⟩)] <;> rfl
/-- a list of lists of makes -/
def MkL (K : PySem.W.Frag) (H : Hp) : V → List Int → Prop := fun v ms => ∃ q, v = .ref q ∧ SqL K H q (ms.map V.int) ∧ ms ≠ [] ∧ ms.length ≤ 100 ∧ ∀ m ∈ ms, MakeI m
theorem MkL.kept {K : PySem.W.Frag} {T : Addr} {H H' : Hp} (k : Kp T H H') {v : V} {ms : List Int} (h : MkL K H v ms) : MkL K H' v ms := by
  obtain ⟨q, e, hq, h⟩ := h
  exact ⟨q, e, k.seq hq, h⟩
theorem paired_get {α β : Type} {R : α → β → Prop} : ∀ {a : List α} {b : List β}, Paired R a b → ∀ {i : Nat} {y : β}, b[i]? = some y → ∃ x, a[i]? = some x ∧ R x y
  | _, _, .nil, i, y, e => by simp at e
  | _, _, .cons h t, i, y, e => by
    cases i with
    | zero => exact ⟨_, rfl, by have e' := Option.some.inj e; subst e'; exact h⟩
    | succ i => exact paired_get t (i := i) (by simpa using e)
theorem paired_len {α β : Type} {R : α → β → Prop} : ∀ {a : List α} {b : List β}, Paired R a b → a.length = b.length
  | _, _, .nil => rfl
  | _, _, .cons _ t => by rw [List.length_cons, List.length_cons, paired_len t]
theorem paired_mono {α β : Type} {R S : α → β → Prop} (h : ∀ x y, R x y → S x y) : ∀ {a : List α} {b : List β}, Paired R a b → Paired S a b
  | _, _, .nil => .nil
  | _, _, .cons p t => .cons (h _ _ p) (paired_mono h t)
theorem nd_idx {α : Type} : ∀ {l : List α}, l.Nodup → ∀ {i j : Nat} {y : α}, l[i]? = some y → l[j]? = some y → i = j
  | [], _, i, j, y, h, _ => by simp at h
  | a :: r, nd, i, j, y, h1, h2 => by
    rw [List.nodup_cons] at nd
    cases i with
    | zero =>
      cases j with
      | zero => rfl
      | succ j =>
        have e : a = y := Option.some.inj h1
        rw [e] at nd
        exact absurd (List.mem_of_getElem? (show r[j]? = some y by simpa using h2)) nd.1
    | succ i =>
      cases j with
      | zero =>
        have e : a = y := Option.some.inj h2
        rw [e] at nd
        exact absurd (List.mem_of_getElem? (show r[i]? = some y by simpa using h1)) nd.1
      | succ j => rw [nd_idx nd.2 (i := i) (j := j) (by simpa using h1) (by simpa using h2)]
theorem paired_app2 {α β : Type} {R : α → β → Prop} {a c : List α} {b d : List β} (h : Paired R a b) (h2 : Paired R c d) : Paired R (a ++ c) (b ++ d) := by
  induction h with
  | nil => exact h2
  | cons h1 _ ih => exact .cons h1 ih
section
variable {P : Program} {w : World} {K : PySem.W.Frag} {mg : Str → Option Value} {base : Heap}
def lNeedsN : List Str := ["_law_script", "_law_names_here", "_law_makes", "_law_k", "_law_at", "_law_found", "_law_first", "_law_turn", "_law_number", nOther, "_law_low", "_law_high", "_law_need"]
theorem scLNeeds : FnScope lNeedsN ["_law_script", "_law_names_here", "_law_makes", "_law_k", "_law_at"] (defScope sLNeeds) := ⟨rfl, rfl, rfl, by decide +kernel, rfl, by decide +kernel, by decide +kernel⟩
def spLNeeds (K : PySem.W.Frag) (T : Addr) : Sp := fun vs H Q _ => ∃ (A : List Addr) (a pn qm : Addr) (ns : List Int) (names : List Str) (mv : List V) (mks : List (List Int)) (k at_ : Nat) (x : Str), vs = [.ref a, .ref pn, .ref qm, .int k, .int at_] ∧ SqL K H a (ns.map V.int) ∧ SqL K H pn (names.map V.str) ∧ names.Nodup ∧ (∀ y ∈ names, GoodN y) ∧
  H qm = some (.lst mv) ∧ Paired (MkL K H) mv mks ∧ names.length = mks.length + 1 ∧ names[k]? = some x ∧ k < mks.length ∧ mks.length ≤ 12 ∧ at_ ≤ 900 ∧ (∀ y ∈ A, H y ≠ none) ∧ GxR.TabG H T ∧
  ∀ (xs : List V) (ds : List PyData) l H', Kp T H H' → H l = none → H' l = some (.lst xs) → DpAll K (hide (l :: A) H') xs ds → (∀ d ∈ ds, ND d) → mayB x (.list ds) = true → ds.length ≤ 6 → Q (.ref l) H'
theorem ok_lneeds {f fX fS T : Addr} {fd fdX fdS : FuncData} (F : Fun K "_law_needs" "_law_needs" sLNeeds f fd)
    (GX : FnOk P w K mg base CX0 1 fX fdX ["_law_script", "_law_k"] (spMixed K)) (kX : PySem.W.keepIn K (.ref fX) = true) (bX : Binds K fdX ["_law_script", "_law_k"] []) (gX : mg "_law_mixed" = some (.ref fX))
    (GS : FnOk P w K mg base CX0 1 fS fdS ["_law_number", "_law_makes"] (spStretch K T)) (kS : PySem.W.keepIn K (.ref fS) = true) (bS : Binds K fdS ["_law_number", "_law_makes"] []) (gS : mg "_law_stretch" = some (.ref fS))
    (y_len : mg "len" = none) (y_max : mg "max" = none) (y_range : mg "range" = none) : FnOk P w K mg base CX0 2 f fd ["_law_script", "_law_names_here", "_law_makes", "_law_k", "_law_at"] (spLNeeds K T) := by
  refine F.ok scLNeeds (fun vs H Q E h => ?_) (fun cdv A0 outer s H vs Q E hr h => ?_)
  · obtain ⟨A, a, pn, qm, ns, names, mv, mks, k, at_, x, rfl, _⟩ := h
    rfl
  · obtain ⟨A, a, pn, qm, ns, names, mv, mks, k, at_, x, rfl, hS, hN, nn, hgd, hM, hP, hl, hx, hk, h12, h900, hA, ht, fin⟩ := h
    refine ⟨_, (pss_cons (ps_set (i := 5) scLNeeds.nd rfl (by first | exact .inl rfl | exact .inr rfl) (pe_lst pa_nil))
      (pss_cons (ps_set (i := 6) scLNeeds.nd rfl (by first | exact .inl rfl | exact .inr rfl) (pe_call GX (hr.mono (by decide)) (by rfl) gX kX bX .nil pass0 (pa_cons (pv 0) (pa_cons (pv 4) pa_nil))))
      (pss_cons (ps_for PassesOwn.never rfl (pi_range1 (by rfl) y_range (pa_cons (pe_ix ix_list (pe_lst (pa_cons pe_int (pa_cons pe_int (pa_cons pe_int (pa_cons pe_int (pa_cons pe_int (pa_cons pe_int pa_nil))))))) (pe_op op_mod (pv 6) pe_int) (fun _ _ => rfl)) pa_nil)) (pg_name (i := 7) scLNeeds.nd rfl (by first | exact .inl rfl | exact .inr rfl)) (pss_cons (ps_set (i := 8) scLNeeds.nd rfl (by first | exact .inl rfl | exact .inr rfl) (pe_call GX (hr.mono (by decide)) (by rfl) gX kX bX .nil pass0 (pa_cons (pv 0) (pa_cons (pe_op op_add (pe_op op_add (pv 4) pe_int) (pv 7)) pa_nil))))
      (pss_cons (ps_set (i := 9) scLNeeds.nd rfl (by first | exact .inl rfl | exact .inr rfl) (pe_op op_mod (pe_op op_add (pe_op op_add (pv 3) pe_int) (pe_op op_mod (pe_op op_add (pe_op op_fdiv (pv 6) pe_int) (pv 7)) (pe_callB (call_max2 rfl) (by rfl) y_max boot_max (pa_cons pe_int (pa_cons (pe_op op_sub (pe_callB call_len_seq (by rfl) y_len PySem.boot_len (pa_cons (pv 2) pa_nil)) pe_int) pa_nil))))) (pe_callB call_len_seq (by rfl) y_len PySem.boot_len (pa_cons (pv 2) pa_nil))))
      (C8.pss_cut (ps_if (pt_cmpR op_eq (pe_op op_mod (pv 8) pe_int) pe_int (nomark _)) (pss_one (ps_set (i := 9) scLNeeds.nd rfl (by first | exact .inl rfl | exact .inr rfl) (pe_callB call_len_seq (by rfl) y_len PySem.boot_len (pa_cons (pv 2) pa_nil)))) pss_nil)
      (pss_one (ps_if (PW.pt (pw_and (pt_cmpR op_ne (pv 9) (pv 3) (nomark _)) (pw_and1 (pt_cmpR op_notIn_seq (pe_ix ix_list (pv 1) (pv 9) (fun _ _ => rfl)) (pe_lc (own := [("_law_need", 12)]) (g := (gName 12)) (tt := tYes) rfl scLNeeds.nd (pi_list (pv 5)) (blkOk_by (own := [("_law_need", 12)]) (N := lNeedsN) (sc := defScope sLNeeds) (by decide +kernel)) (fun _ _ _ _ _ => (pg_name (i := 12) scLNeeds.nd rfl (by first | exact Or.inl rfl | exact Or.inr rfl))) (fun _ _ _ _ _ => pts_nil) (fun _ _ _ _ _ => (pe_ix (r := rIxT K) ix_tup (pv 12) pe_int (fun _ _ => rfl)))) (by rfl))))) (pss_cons (ps_asg (pe_call GS (hr.mono (by decide)) (by rfl) gS kS bS .nil pass0 (pa_cons (pe_op op_fdiv (pv 8) pe_int) (pa_cons (pe_ix ix_list (pe_op op_cat (pv 2) (pe_lst (pa_cons (pe_lst (pa_cons pe_int pa_nil)) pa_nil))) (pv 9) (fun _ _ => rfl)) pa_nil))) (pg_tup (by rfl) (pgs_cons (pg_name (i := 10) scLNeeds.nd rfl (by first | exact .inl rfl | exact .inr rfl)) (pgs_cons (pg_name (i := 11) scLNeeds.nd rfl (by first | exact .inl rfl | exact .inr rfl)) pgs_nil))))
      (pss_one (ps_expr (pe_bm PySem.F.plainAttrs_list PySem.F.slot_list_append PySem.F.type_list_append mt_append (pv 5) (pa_cons (pe_tup (pa_cons (pe_ix ix_list (pv 1) (pv 9) (fun _ _ => rfl)) (pa_cons (pv 10) (pa_cons (pv 11) pa_nil)))) pa_nil))))) pss_nil))))))
      (pss_one (ps_ret (pv 5)))))), ?_⟩
    have lmv := paired_len hP
    refine ⟨(by show (0 : Nat) ≤ sizeLine; decide), fun L nL => ?_⟩
    have k0 := Kp.new (o := HO.lst []) ht nL
    have LT := tab_nn ht nL
    have eL0 : upd H L (.lst []) L = some (.lst ([] : List V)) := upd_same
    have t0 := k0.tab
    have hS0 := k0.seq hS
    generalize upd H L (.lst []) = H0 at k0 eL0 t0 hS0 ⊢
    refine ⟨_, rfl, _, rfl, a, ns, at_, rfl, hS0, by omega, fun n0 hn0 _ => ?_⟩
    refine ⟨(by show (6 : Nat) ≤ sizeLine; decide), fun l1 nl1 => ?_⟩
    have k1 := Kp.new (o := HO.lst [.int 0, .int 1, .int 1, .int 2, .int 2, .int 6]) t0 nl1
    obtain ⟨v, ev, m, rfl, hm6⟩ := at_pick (xs := [V.int 0, .int 1, .int 1, .int 2, .int 2, .int 6]) (i := n0 % 6) (p := fun v => ∃ m : Nat, v = .int (m : Int) ∧ m ≤ 6) (by omega) (by show n0 % 6 < ((6 : Nat) : Int); omega) (fun v hv => by
      simp only [List.mem_cons, List.not_mem_nil, or_false] at hv
      rcases hv with rfl | rfl | rfl | rfl | rfl | rfl
      · exact ⟨0, rfl, by decide⟩
      · exact ⟨1, rfl, by decide⟩
      · exact ⟨1, rfl, by decide⟩
      · exact ⟨2, rfl, by decide⟩
      · exact ⟨2, rfl, by decide⟩
      · exact ⟨6, rfl, by decide⟩)
    have eL1 := k1.lst eL0
    have kk1 := k0.trans k1
    refine ⟨_, rfl, n0, 6, rfl, rfl, (by show (0 : Int) < 6; decide), l1, _, _, _, rfl, rfl, .inl (.inl upd_same), ev, ?_⟩
    generalize upd H0 l1 (.lst [.int 0, .int 1, .int 1, .int 2, .int 2, .int 6]) = H1 at k1 eL1 kk1 ⊢
    refine ⟨m, rfl, (by omega), (by omega), for_range (lo := 0) (n := ((m : Nat) : Int).toNat) (fun i σ' H' => ∃ (x7 x8 x9 x10 x11 : Option V) (acc : List V) (ds : List PyData), σ' = [some (.ref a), some (.ref pn), some (.ref qm), some (.int k), some (.int at_), some (.ref L), some (.int n0), x7, x8, x9, x10, x11, none] ∧
        Kp T H H' ∧ H' L = some (.lst acc) ∧ DpAll K (hide (L :: A) H') acc ds ∧ (∀ d ∈ ds, ND d) ∧ (ds.map wOf).Nodup ∧ x ∉ ds.map wOf ∧ ds.length ≤ i)
      ⟨none, none, none, none, none, [], [], rfl, kk1, eL1, .nil, (fun d hd => by cases hd), List.nodup_nil, List.not_mem_nil, Nat.le_refl _⟩ ?_ ?_⟩
    · rintro i σ' H2 hi ⟨x7, x8, x9, x10, x11, acc, ds, rfl, k2, eL, hd, hnd, dn, dx, dl⟩
      have i6 : i < 6 := by omega
      have e4 : (at_ : Int) + 1 + (0 + (i : Int)) = ((at_ + 1 + i : Nat) : Int) := by omega
      have hS2 := k2.seq hS
      have hN2 := k2.seq hN
      have hM2r := k2.lst hM
      have hM2 : SqL K H2 qm mv := .inl (.inl hM2r)
      have hP2 : Paired (MkL K H2) mv mks := paired_mono (fun _ _ => MkL.kept k2) hP
      have t2 := k2.tab
      have la : acc.length = ds.length := dpAll_len hd
      refine ⟨_, rfl, _, rfl, _, _, rfl, rfl, _, rfl, _, _, rfl, rfl, a, ns, at_ + 1 + i, by rw [← e4] <;> rfl, hS2, by omega, fun n1 hn1 _ => ?_⟩
      have mpos : (0 : Int) < (if ((mv.length : Int) - 1) > 1 then ((mv.length : Int) - 1) else 1) := by
        by_cases h : ((mv.length : Int) - 1) > 1
        · rw [if_pos h]; omega
        · rw [if_neg h]; decide
      refine ⟨_, rfl, _, _, rfl, rfl, _, rfl, n0, 6, rfl, rfl, ⟨by decide, by decide⟩, _, rfl, _, _, rfl, rfl, _, rfl, qm, mv, rfl, .inl hM2, _, _, rfl, rfl, 1, _, rfl, _, _, rfl, rfl, mpos, _, _, rfl, rfl, _, rfl, qm, mv, rfl, .inl hM2, _, _, rfl, rfl, (by show (0 : Int) < (mv.length : Int); omega), ?_⟩
      obtain ⟨o, eo, ho⟩ : ∃ o : Nat, ((k : Int) + 1 + (n0 / 6 + (0 + (i : Int))) % (if ((mv.length : Int) - 1) > 1 then ((mv.length : Int) - 1) else 1)) % (mv.length : Int) = (o : Int) ∧ o ≤ mv.length := by
        have z1 := Int.emod_nonneg ((k : Int) + 1 + (n0 / 6 + (0 + (i : Int))) % (if ((mv.length : Int) - 1) > 1 then ((mv.length : Int) - 1) else 1)) (show (mv.length : Int) ≠ 0 by omega)
        have z2 := Int.emod_lt_of_pos ((k : Int) + 1 + (n0 / 6 + (0 + (i : Int))) % (if ((mv.length : Int) - 1) > 1 then ((mv.length : Int) - 1) else 1)) (show (0 : Int) < (mv.length : Int) by omega)
        exact ⟨_, (Int.toNat_of_nonneg z1).symm, by omega⟩
      refine ⟨fun σ' H' => ∃ o : Nat, o ≤ mv.length ∧ H' = H2 ∧ σ' = [some (.ref a), some (.ref pn), some (.ref qm), some (.int k), some (.int at_), some (.ref L), some (.int n0), some (.int (0 + (i : Int))), some (.int n1), some (.int o), x10, x11, none], ?_, ?_⟩
      · refine ⟨_, rfl, n1, 12, rfl, rfl, (by show (0 : Int) < 12; decide), rfl, _, rfl, iteD (fun _ => ?_) (fun _ => ⟨o, ho, rfl, by rw [← eo] <;> rfl⟩)⟩
        exact ⟨_, rfl, qm, mv, rfl, .inl hM2, mv.length, Nat.le_refl _, rfl, rfl⟩
      · rintro σ' H2' ⟨o, ho, rfl, rfl⟩
        have same : ∀ x7 x8 x9 x10 x11, ∀ H3, Kp T H2' H3 → (∃ (x7' x8' x9' x10' x11' : Option V) (acc : List V) (ds : List PyData), [some (V.ref a), some (.ref pn), some (.ref qm), some (.int k), some (.int at_), some (.ref L), some (.int n0), x7, x8, x9, x10, x11, none] = [some (V.ref a), some (.ref pn), some (.ref qm), some (.int k), some (.int at_), some (.ref L), some (.int n0), x7', x8', x9', x10', x11', none] ∧
            Kp T H H3 ∧ H3 L = some (.lst acc) ∧ DpAll K (hide (L :: A) H3) acc ds ∧ (∀ d ∈ ds, ND d) ∧ (ds.map wOf).Nodup ∧ x ∉ ds.map wOf ∧ ds.length ≤ i + 1) := fun x7 x8 x9 x10 x11 H3 k3 =>
          ⟨_, _, _, _, _, acc, ds, rfl, k2.trans k3, k3.lst eL, dpAll_kx (F := []) (.of k3) (fun f hf => by cases hf) hd, hnd, dn, dx, by omega⟩
        refine ⟨_, rfl, _, rfl, rfl, _, rfl, iteN (fun hok => ?_) (fun _ => same _ _ _ _ _ H2' (.refl t2))⟩
        have ok : o ≠ k := fun z => hok (by rw [z])
        have hol : o < names.length := by omega
        have eo1 : atI (names.map V.str) (o : Int) = some (.str names[o]) := atI_nat (by rw [List.getElem?_map, List.getElem?_eq_getElem hol]; rfl)
        have gy := hgd _ (List.getElem_mem hol)
        have xy : names[o] ≠ x := fun z => by
          exact ok (nd_idx nn (List.getElem?_eq_getElem hol) (by rw [hx, z]))
        generalize names[o] = y at eo1 gy xy ⊢
        refine ⟨_, rfl, _, rfl, pn, _, _, _, rfl, rfl, hN2, eo1, _, rfl, L, rfl, ⟨_, .inl (.inl eL)⟩, fun D nD => ?_⟩
        refine lc_list (K := K) (a := L) (xs := acc) (fun j H' => Kp T H2' H' ∧ H' D = some (.lst (((ds.take j).map wOf).map V.str))) ⟨Kp.new t2 nD, upd_same⟩ (fun j H' _ ⟨kk, _⟩ => .inl (.inl (kk.lst eL))) (fun j v H' hj hv => ?_) (fun H3 hv => ?_)
        · obtain ⟨kk, eD⟩ := hv
          have hjl : j < ds.length := by
            have := (List.getElem?_eq_some_iff.mp hj).1
            omega
          obtain ⟨v', hv', hdv⟩ := dpAll_get (kk.dpAll _ _ (dpAll_show hd)) (List.getElem?_eq_getElem hjl)
          have evv : v' = v := Option.some.inj (hv'.symm.trans hj)
          subst evv
          obtain ⟨b, y', lo, hi', rfl, hT, ed, _⟩ := nd_read hdv (hnd _ (List.getElem_mem hjl))
          refine ⟨rfl, tYes_if ?_⟩
          refine ⟨_, rfl, b, _, 0, _, rfl, rfl, hT, atI_nat (j := 0) rfl, _, eD, small1000 (by rw [List.length_map, List.length_map, List.length_take]; omega), kk.set nD (tab_nn t2 nD), ?_⟩
          rw [upd_same, List.take_succ, List.getElem?_eq_getElem hjl, List.map_append, List.map_append, ed]
          rfl
        · obtain ⟨k3, eD⟩ := hv
          rw [la, List.take_length] at eD
          refine ⟨D, _, rfl, .inl (.inl (.inl eD)), rfl, flat_strs _, _, rfl, ?_⟩
          show if (!inV (.str y) ((ds.map wOf).map V.str)) = true then _ else _
          rw [inV_str]
          refine iteN (fun hny => ?_) (fun _ => same _ _ _ _ _ H3 k3)
          -- the stretch
          have k23 := k2.trans k3
          refine ⟨_, rfl, n1, 12, rfl, rfl, ⟨by decide, by decide⟩, _, rfl, (by show (1 : Nat) ≤ sizeLine; decide), fun l5 nl5 => ⟨(by show (1 : Nat) ≤ sizeLine; decide), fun l6 nl6 => ?_⟩⟩
          have k4 := Kp.new (o := HO.lst [.int 5]) k3.tab nl5
          have k5 := Kp.new (o := HO.lst [.ref l5]) k4.tab nl6
          have e5 := k5.lst (a := l5) (xs := [.int 5]) upd_same
          have k25 := (k2.trans k3).trans (k4.trans k5)
          have k35 := k3.trans (k4.trans k5)
          have hM5 := k25.lst hM
          have e6 : upd (upd H3 l5 (.lst [.int 5])) l6 (.lst [.ref l5]) l6 = some (.lst [.ref l5]) := upd_same
          generalize upd (upd H3 l5 (.lst [.int 5])) l6 (.lst [.ref l5]) = H5 at k5 e5 k25 k35 hM5 e6 ⊢
          refine ⟨qm, l6, mv, _, rfl, rfl, hM5, e6, (by show mv.length + 1 ≤ sizeLine; exact Nat.le_of_lt (small1000 (by omega))), fun l7 nl7 => ?_⟩
          have k6 := Kp.new (o := HO.lst (mv ++ [.ref l5])) k25.tab nl7
          have k26 := k25.trans k6
          have k36 := k35.trans k6
          have e7 : upd H5 l7 (.lst (mv ++ [.ref l5])) l7 = some (.lst (mv ++ [.ref l5])) := upd_same
          have e56 := k6.lst e5
          have hP6 : Paired (MkL K (upd H5 l7 (.lst (mv ++ [.ref l5])))) (mv ++ [.ref l5]) (mks ++ [[5]]) := paired_app2 (paired_mono (fun _ _ => MkL.kept k26) hP) (.cons ⟨l5, rfl, .inl (.inl e56), List.cons_ne_nil _ _, by decide, fun m hm => by rw [List.mem_singleton.mp hm]; exact ⟨by decide, by decide⟩⟩ .nil)
          generalize upd H5 l7 (.lst (mv ++ [.ref l5])) = H6 at k6 k26 k36 e7 e56 hP6 ⊢
          have hoq : o < (mks ++ [[5]]).length := by rw [List.length_append, List.length_singleton]; omega
          obtain ⟨v, hv, q, rfl, hq, hne, h100, hmg⟩ := paired_get hP6 (List.getElem?_eq_getElem hoq)
          refine ⟨_, rfl, l7, _, _, _, rfl, rfl, .inl (.inl e7), atI_nat hv, _, q, _, rfl, hq, hne, by omega, hmg, k26.tab, fun lo hi' r H7 glo ghi hle k7 nr er => ?_⟩
          have k27 := k26.trans k7
          have k37 := k36.trans k7
          refine ⟨r, _, rfl, .inl (.inl er), rfl, _, _, rfl, _, _, rfl, rfl, ?_⟩
          have eL7 := k37.lst eL
          have hN7 := k27.seq hN
          refine ⟨_, rfl, .inl ⟨rfl, _, .inl (.inl eL7)⟩, _, rfl, _, rfl, pn, _, _, _, rfl, rfl, hN7, eo1, _, rfl, _, rfl, (by show (3 : Nat) ≤ sizeLine; decide), fun tp ntp => ?_⟩
          have k8 := Kp.new (o := HO.tup [.str y, .int lo, .int hi']) k27.tab ntp
          have eL8 := k8.lst eL7
          have kk8 := k27.trans k8
          have tpL : tp ≠ L := fun z => by rw [z, eL7] at ntp; cases ntp
          have tpA : tp ∉ A := fun z => hA tp z (k27.free ntp)
          refine ⟨L, _, _, rfl, rfl, eL8, small1000 (by omega), ?_⟩
          refine ⟨_, _, _, _, _, acc ++ [.ref tp], ds ++ [.tuple [.str y, .int lo, .int hi']], rfl, kk8.set nL LT, upd_same, ?_, ?_, ?_, ?_, ?_⟩
          · have hz : hide (L :: A) (upd (upd H7 tp (.tup [.str y, .int lo, .int hi'])) L (.lst (acc ++ [.ref tp]))) = hide (L :: A) (upd H7 tp (.tup [.str y, .int lo, .int hi'])) := hide_upd (List.mem_cons_self ..)
            rw [hz]
            refine dpAll_app (dpAll_kx (F := []) (.of (k37.trans k8)) (fun f hf => by cases hf) hd) (.cons (.tup (.inl (.inl (hide_of upd_same (fun z => (List.mem_cons.mp z).elim tpL tpA)))) (.cons (.str y) (.cons (.int lo) (.cons (.int hi') .nil)))) .nil)
          · intro d hd'
            rcases List.mem_append.mp hd' with hd' | hd'
            · exact hnd d hd'
            · rw [List.mem_singleton.mp hd']
              exact ⟨y, lo, hi', rfl, gy, glo.b, ghi.b, hle⟩
          · rw [List.map_append]
            refine List.nodup_append.mpr ⟨dn, List.nodup_cons.mpr ⟨List.not_mem_nil, List.nodup_nil⟩, fun a ha b hb e => hny ?_⟩
            have : b = y := List.mem_singleton.mp hb
            rw [← this, ← e]
            exact ha
          · rw [List.map_append]
            intro z
            rcases List.mem_append.mp z with z | z
            · exact dx z
            · exact xy (List.mem_singleton.mp z).symm
          · rw [List.length_append, List.length_singleton]
            omega
    · rintro σ' H2 ⟨x7, x8, x9, x10, x11, acc, ds, rfl, k2, eL, hd, hnd, dn, dx, dl⟩
      have hl6 : ds.length ≤ 6 := by omega
      exact ⟨_, rfl, fin acc ds L H2 k2 nL eL hd hnd (mayB_of hl6 (fun d hd => nd_needB (hnd d hd)) dn dx) hl6⟩
end
end Pk

set_option Elab.async false
set_option linter.all false
set_option maxRecDepth 100000
set_option maxHeartbeats 4000000
namespace Pk
open PySem PySem.Spec PyProof.Rows L2
/-- what a row of the law's holds -/
structure RowG (mm : Nat) (s : Shelf) : Prop where
  w : GoodN s.ware
  ne : s.ents ≠ []
  len : s.ents.length ≤ mm
  mki : ∀ e ∈ s.ents, MakeI e.1
  may : ∀ e ∈ s.ents, mayB s.ware (.list e.2.2) = true
  nd : ∀ e ∈ s.ents, ∀ d ∈ e.2.2, ND d
/-- the needs of each make stand in a list of their own -/
def RawC (K : PySem.W.Frag) (H : Hp) (es : List (Int × Addr × List PyData)) : Prop := ∀ e ∈ es, ∃ xs, H e.2.1 = some (.lst xs) ∧ DpAll K H xs e.2.2
def RawB (K : PySem.W.Frag) (H : Hp) (cl : List Shelf) : Prop := ∀ s ∈ cl, RawC K H s.ents
theorem dpAll_kx0 {K : PySem.W.Frag} {T : Addr} {F : List Addr} {H H' : Hp} (k : Kx T F H H') (hF : ∀ f ∈ F, ∃ kvs, H f = some (.dK kvs)) {xs : List V} {ds : List PyData} (h : DpAll K H xs ds) : DpAll K H' xs ds :=
  dpAll_mono (fun b o hs e => k.keep b o (isSeq_ne_tab k.t0 hs e) (fun z => by obtain ⟨kvs, q⟩ := hF b z; rw [q] at e; cases e; cases hs) e) _ _ h
theorem RawB.kx {K : PySem.W.Frag} {T : Addr} {F : List Addr} {H H' : Hp} {cl : List Shelf} (h : RawB K H cl) (k : Kx T F H H') (hF : ∀ f ∈ F, ∃ kvs, H f = some (.dK kvs)) : RawB K H' cl := fun s hs e he => (h s hs e he).imp fun _ q => ⟨k.lst0 hF q.1, dpAll_kx0 k hF q.2⟩
theorem RawB.kp {K : PySem.W.Frag} {T : Addr} {H H' : Hp} {cl : List Shelf} (h : RawB K H cl) (k : Kp T H H') : RawB K H' cl := fun s hs e he => (h s hs e he).imp fun _ q => ⟨k.lst q.1, k.dpAll _ _ q.2⟩
theorem RawB.app {K : PySem.W.Frag} {H : Hp} {cl : List Shelf} {s : Shelf} (h : RawB K H cl) (h2 : RawC K H s.ents) : RawB K H (cl ++ [s]) := fun t ht => by
  rcases List.mem_append.mp ht with ht | ht
  · exact h t ht
  · rw [List.mem_singleton.mp ht]; exact h2
theorem Kx.dropNews {T : Addr} {F : List Addr} {H H1 H2 : Hp} (nn : ∀ f ∈ F, H f = none) (k1 : Kp T H H1) (k : Kx T F H1 H2) : Kp T H H2 := ⟨k1.t0, k.tab, fun b o hb e => k.keep b o hb (fun z => by rw [nn b z] at e; cases e) (k1.keep b o hb e)⟩
theorem Kp.dom {T y : Addr} {H H' : Hp} (k : Kp T H H') (h : H y ≠ none) : H' y ≠ none := by
  cases e : H y with
  | none => exact absurd e h
  | some o =>
    by_cases ht : y = T
    · obtain ⟨ps, h2, _⟩ := k.tab
      rw [ht, h2]
      exact fun z => by cases z
    · rw [k.keep y o ht e]
      exact fun z => by cases z
theorem foot_app {D : Addr} {st : List Shelf} {s : Shelf} {f : Addr} (h : f ∈ foot D (st ++ [s])) : f ∈ foot D st ∨ f = s.at_ := by
  rcases List.mem_cons.mp h with h | h
  · exact .inl (by rw [h]; exact List.mem_cons_self ..)
  · obtain ⟨s', hs, rfl⟩ := List.mem_map.mp h
    rcases List.mem_append.mp hs with hs | hs
    · exact .inl (List.mem_cons_of_mem _ (List.mem_map.mpr ⟨s', hs, rfl⟩))
    · rw [List.mem_singleton.mp hs]; exact .inr rfl
theorem foot_set {D : Addr} {st : List Shelf} {w : Str} {es : List (Int × Addr × List PyData)} : foot D (setE st w es) = foot D st := by
  unfold foot
  rw [setE_ats]
theorem setE_last {st : List Shelf} {w : Str} {a : Addr} {es fs : List (Int × Addr × List PyData)} (h : ∀ s ∈ st, s.ware ≠ w) : setE (st ++ [⟨w, a, es⟩]) w fs = st ++ [⟨w, a, fs⟩] := by
  unfold setE
  rw [List.map_append]
  congr 1
  · have e : st.map (fun s => if s.ware = w then { s with ents := fs } else s) = st.map id := List.map_congr_left fun s hs => by
      rw [if_neg (h s hs)]
      rfl
    rw [e, List.map_id]
  · show [if w = w then _ else _] = _
    rw [if_pos rfl]
theorem look_last {st : List Shelf} {w : Str} {a : Addr} {es : List (Int × Addr × List PyData)} (h : ∀ s ∈ st, s.ware ≠ w) : look (st ++ [⟨w, a, es⟩]) w = some ⟨w, a, es⟩ := by
  unfold look
  rw [List.find?_append]
  have e0 : st.find? (fun s => decide (s.ware = w)) = none := by
    rw [List.find?_eq_none]
    intro s hs z
    exact h s hs (of_decide_eq_true z)
  rw [e0, Option.none_or, List.find?_cons_of_pos (by exact decide_eq_true rfl)]
theorem cell_get {K : PySem.W.Frag} {A : List Addr} {H : Hp} {D : Addr} {st : List Shelf} {w : Str} {s : Shelf} (B : BoxOk K A H D st) (h : look st w = some s) : DGet H D (.str w) (some (.ref s.at_)) := by
  have z := DGet.k (k := (Sum.inr w : Key)) B.dc
  rw [look_val, h] at z
  exact z
section
variable {P : Program} {w : World} {K : PySem.W.Frag} {mg : Str → Option Value} {base : Heap}
def rowsN : List Str := ["_law_script", "_law_most", "_law_many_makes", "_law_many", "_law_names_here", "_law_makes", "_law_k", "_law_number", "_law_first", "_law_rows_here", "_law_j"]
theorem scRows : FnScope rowsN ["_law_script", "_law_most", "_law_many_makes"] (defScope sRows) := ⟨rfl, rfl, rfl, by decide +kernel, rfl, by decide +kernel, by decide +kernel⟩
def MkR (K : PySem.W.Frag) (mm : Nat) (H : Hp) : V → List Int → Prop := fun v ms => MkL K H v ms ∧ ms.Nodup ∧ ms.length ≤ mm
theorem MkR.kept {T : Addr} {mm : Nat} {H H' : Hp} (k : Kp T H H') {v : V} {ms : List Int} (h : MkR K mm H v ms) : MkR K mm H' v ms := ⟨MkL.kept k h.1, h.2⟩
theorem MkR.mono {mm : Nat} {H H' : Hp} (k : ∀ b o, isSeqO o = true → H b = some o → H' b = some o) {v : V} {ms : List Int} (h : MkR K mm H v ms) : MkR K mm H' v ms := by
  obtain ⟨⟨q, e, hq, h2⟩, h3⟩ := h
  exact ⟨⟨q, e, seq_mono k hq, h2⟩, h3⟩
def spRows (K : PySem.W.Frag) (T : Addr) : Sp := fun vs H Q _ => ∃ (A : List Addr) (a : Addr) (ns : List Int) (most mm : Nat), vs = [.ref a, .int most, .int mm] ∧ SqL K H a (ns.map V.int) ∧ 1 ≤ most ∧ most ≤ 12 ∧ 1 ≤ mm ∧ mm ≤ 8 ∧ (∀ y ∈ A, H y ≠ none) ∧ GxR.TabG H T ∧
  ∀ r cl H', Kp T H H' → BoxOk K A H' r cl → cl ≠ [] → cl.length ≤ most → (∀ s ∈ cl, RowG mm s) → (∀ f ∈ foot r cl, H f = none) → RawB K H' cl → Q (.ref r) H'
theorem ok_rows {f fX fA fN T : Addr} {fd fdX fdA fdN : FuncData} (F : Fun K "_law_rows" "_law_rows" sRows f fd)
    (GX : FnOk P w K mg base CX0 1 fX fdX ["_law_script", "_law_k"] (spMixed K)) (kX : PySem.W.keepIn K (.ref fX) = true) (bX : Binds K fdX ["_law_script", "_law_k"] []) (gX : mg "_law_mixed" = some (.ref fX))
    (GA : FnOk P w K mg base CX0 2 fA fdA ["_law_script", "_law_many"] (spNames K T)) (kA : PySem.W.keepIn K (.ref fA) = true) (bA : Binds K fdA ["_law_script", "_law_many"] []) (gA : mg "_law_names" = some (.ref fA))
    (GN : FnOk P w K mg base CX0 2 fN fdN ["_law_script", "_law_names_here", "_law_makes", "_law_k", "_law_at"] (spLNeeds K T)) (kN : PySem.W.keepIn K (.ref fN) = true) (bN : Binds K fdN ["_law_script", "_law_names_here", "_law_makes", "_law_k", "_law_at"] []) (gN : mg "_law_needs" = some (.ref fN))
    (y_len : mg "len" = none) (y_range : mg "range" = none) : FnOk P w K mg base CX0 3 f fd ["_law_script", "_law_most", "_law_many_makes"] (spRows K T) := by
  refine F.ok scRows (fun vs H Q E h => ?_) (fun cdv A0 outer s H vs Q E hr h => ?_)
  · obtain ⟨A, a, ns, most, mm, rfl, _⟩ := h
    rfl
  · obtain ⟨A, a, ns, most, mm, rfl, hS, hm1, hm12, hmm1, hmm8, hA, ht, fin⟩ := h
    have hu := hu_of hr
    refine ⟨_, (pss_cons (ps_set (i := 3) scRows.nd rfl (by first | exact .inl rfl | exact .inr rfl) (pe_op op_add pe_int (pe_op op_mod (pe_call GX (hr.mono (by decide)) (by rfl) gX kX bX .nil pass0 (pa_cons (pv 0) (pa_cons pe_int pa_nil))) (pv 1))))
      (pss_cons (ps_set (i := 4) scRows.nd rfl (by first | exact .inl rfl | exact .inr rfl) (pe_call GA (hr.mono (by decide)) (by rfl) gA kA bA .nil pass0 (pa_cons (pv 0) (pa_cons (pe_op op_add (pv 3) pe_int) pa_nil))))
      (pss_cons (ps_set (i := 5) scRows.nd rfl (by first | exact .inl rfl | exact .inr rfl) (pe_lst pa_nil))
      (pss_cons (ps_for PassesOwn.never rfl (pi_range1 (by rfl) y_range (pa_cons (pv 3) pa_nil)) (pg_name (i := 6) scRows.nd rfl (by first | exact .inl rfl | exact .inr rfl)) (pss_cons (ps_set (i := 7) scRows.nd rfl (by first | exact .inl rfl | exact .inr rfl) (pe_call GX (hr.mono (by decide)) (by rfl) gX kX bX .nil pass0 (pa_cons (pv 0) (pa_cons (pe_op op_add pe_int (pv 6)) pa_nil))))
      (pss_cons (ps_set (i := 8) scRows.nd rfl (by first | exact .inl rfl | exact .inr rfl) (pe_ix ix_list (pe_lst (pa_cons pe_int (pa_cons (pe_op op_sub pe_int (pe_op op_mul pe_int (pv 2))) (pa_cons (pe_op op_add pe_int (pe_op op_mod (pe_op op_fdiv (pv 7) pe_int) pe_int)) (pa_cons (pe_op op_add pe_int (pe_op op_mod (pe_op op_fdiv (pv 7) pe_int) pe_int)) pa_nil))))) (pe_op op_mod (pv 7) pe_int) (fun _ _ => rfl)))
      (pss_one (ps_expr (pe_bm PySem.F.plainAttrs_list PySem.F.slot_list_append PySem.F.type_list_append mt_append (pv 5) (pa_cons (pe_lc (own := [("_law_j", 10)]) (g := (gName 10)) (tt := tYes) rfl scRows.nd (pi_range1 (by rfl) y_range (pa_cons (pe_op op_add pe_int (pe_op op_mod (pe_op op_fdiv (pv 7) pe_int) (pv 2))) pa_nil)) (blkOk_by (own := [("_law_j", 10)]) (N := rowsN) (sc := defScope sRows) (by decide +kernel)) (fun _ _ _ _ _ => (pg_name (i := 10) scRows.nd rfl (by first | exact Or.inl rfl | exact Or.inr rfl))) (fun _ _ _ _ _ => pts_nil) (fun _ _ _ _ _ => (pe_op op_add (pv 8) (pe_op op_mul (pv 10) (pe_op op_add pe_int (pe_op op_mod (pe_op op_fdiv (pv 7) pe_int) pe_int)))))) pa_nil)))))))
      (pss_cons (ps_set (i := 9) scRows.nd rfl (by first | exact .inl rfl | exact .inr rfl) pe_dnewK)
      (pss_cons (ps_for PassesOwn.never rfl (pi_range1 (by rfl) y_range (pa_cons (pv 3) pa_nil)) (pg_name (i := 6) scRows.nd rfl (by first | exact .inl rfl | exact .inr rfl)) (pss_cons (ps_dput hu (pv 9) (pe_ix ix_list (pv 4) (pv 6) (fun _ _ => rfl)) pe_dnewK rfl)
      (pss_one (ps_for PassesOwn.never rfl (pi_range1 (by rfl) y_range (pa_cons (pe_callB call_len_seq (by rfl) y_len PySem.boot_len (pa_cons (pe_ix ix_list (pv 5) (pv 6) (fun _ _ => rfl)) pa_nil)) pa_nil)) (pg_name (i := 10) scRows.nd rfl (by first | exact .inl rfl | exact .inr rfl)) (pss_one (ps_dput hu (pe_dget hu (pv 9) (pe_ix ix_list (pv 4) (pv 6) (fun _ _ => rfl)) (fun _ _ => rfl)) (pe_ix ix_list (pe_ix ix_list (pv 5) (pv 6) (fun _ _ => rfl)) (pv 10) (fun _ _ => rfl)) (pe_call GN (hr.mono (by decide)) (by rfl) gN kN bN .nil pass0 (pa_cons (pv 0) (pa_cons (pv 4) (pa_cons (pv 5) (pa_cons (pv 6) (pa_cons (pe_op op_add (pe_op op_add pe_int (pe_op op_mul pe_int (pv 6))) (pe_op op_mul pe_int (pv 10))) pa_nil)))))) rfl))))))
      (pss_one (ps_ret (pv 9))))))))), ?_⟩
    refine ⟨_, rfl, a, ns, 0, rfl, hS, by decide, fun n0 hn0 _ => ⟨_, rfl, n0, most, rfl, rfl, (by show (0 : Int) < (most : Int); omega), 1, _, rfl, rfl, ?_⟩⟩
    obtain ⟨mn, emn, hmn1, hmn⟩ : ∃ m : Nat, 1 + n0 % (most : Int) = (m : Int) ∧ 1 ≤ m ∧ m ≤ most := by
      have z1 := Int.emod_nonneg n0 (show (most : Int) ≠ 0 by omega)
      have z2 := Int.emod_lt_of_pos n0 (show (0 : Int) < (most : Int) by omega)
      exact ⟨(1 + n0 % (most : Int)).toNat, by omega, by omega, by omega⟩
    refine ⟨_, rfl, _, rfl, _, _, rfl, rfl, a, ns, mn + 1, (by show [V.ref a, V.int (1 + n0 % (most : Int) + 1)] = [V.ref a, V.int ((mn + 1 : Nat) : Int)]; rw [emn]; rfl), hS, ⟨by omega, by omega⟩, ht, fun names pn H1 hln hgd nn k1 _ hpn => ?_⟩
    -- the makes
    refine ⟨(by show (0 : Nat) ≤ sizeLine; decide), fun qm nqm => ?_⟩
    have k2 := Kp.new (o := HO.lst []) k1.tab nqm
    have qT := tab_nn k1.tab nqm
    have nqH := k1.free nqm
    have k12 := k1.trans k2
    refine ⟨_, rfl, 1 + n0 % (most : Int), rfl, (by omega), (by omega), for_range (lo := 0) (n := (1 + n0 % (most : Int)).toNat) (fun i σ' H' => ∃ (x6 x7 x8 : Option V) (mv : List V) (mks : List (List Int)), σ' = [some (.ref a), some (.int most), some (.int mm), some (.int (1 + n0 % (most : Int))), some (.ref pn), some (.ref qm), x6, x7, x8, none, none] ∧
        Kp T H1 H' ∧ H' qm = some (.lst mv) ∧ Paired (MkR K mm (hide [qm] H')) mv mks ∧ mks.length = i)
      ⟨none, none, none, [], [], rfl, k2, upd_same, .nil, rfl⟩ ?_ ?_⟩
    · rintro i σ' H2 hi ⟨x6, x7, x8, mv, mks, rfl, k3, eq, hP, hml⟩
      have e10 : (10 : Int) + (0 + (i : Int)) = ((10 + i : Nat) : Int) := by omega
      have kk := k1.trans k3
      refine ⟨_, rfl, _, rfl, _, _, rfl, rfl, a, ns, 10 + i, (by show [V.ref a, V.int (10 + (0 + (i : Int)))] = _; rw [e10] <;> rfl), kk.seq hS, by omega, fun n1 _ _ => ?_⟩
      refine ⟨_, rfl, 3, (mm : Int), rfl, rfl, .inl ⟨by decide, by decide⟩, 999, _, rfl, rfl, _, rfl, n1, 12, rfl, rfl, ⟨by decide, by decide⟩, n1 / 12, 900, rfl, rfl, (by show (0 : Int) < 900; decide), 1, _, rfl, rfl, _, rfl, n1, 12, rfl, rfl, ⟨by decide, by decide⟩, n1 / 12, 20, rfl, rfl, (by show (0 : Int) < 20; decide), 1, _, rfl, rfl, (by show (4 : Nat) ≤ sizeLine; decide), fun l1 nl1 => ?_⟩
      have k4 := Kp.new (o := HO.lst [.int 1, .int (999 - 3 * (mm : Int)), .int (1 + n1 / 12 % 900), .int (1 + n1 / 12 % 20)]) kk.tab nl1
      obtain ⟨v, ev, fs, rfl, hf1, hf2⟩ := at_pick (xs := [V.int 1, .int (999 - 3 * (mm : Int)), .int (1 + n1 / 12 % 900), .int (1 + n1 / 12 % 20)]) (i := n1 % 4) (p := fun v => ∃ m : Int, v = .int m ∧ 1 ≤ m ∧ m ≤ 999 - 3 * (mm : Int)) (by omega) (by show n1 % 4 < ((4 : Nat) : Int); omega) (fun v hv => by
        simp only [List.mem_cons, List.not_mem_nil, or_false] at hv
        rcases hv with rfl | rfl | rfl | rfl
        · exact ⟨_, rfl, by omega, by omega⟩
        · exact ⟨_, rfl, by omega, by omega⟩
        · exact ⟨_, rfl, by omega, by omega⟩
        · exact ⟨_, rfl, by omega, by omega⟩)
      have eq4 := k4.lst eq
      have k14 := k3.trans k4
      refine ⟨_, rfl, n1, 4, rfl, rfl, (by show (0 : Int) < 4; decide), l1, _, _, _, rfl, rfl, .inl (.inl upd_same), ev, ?_⟩
      generalize upd H2 l1 (.lst [.int 1, .int (999 - 3 * (mm : Int)), .int (1 + n1 / 12 % 900), .int (1 + n1 / 12 % 20)]) = H3 at k4 eq4 k14 ⊢
      obtain ⟨c, ec, hc⟩ : ∃ c : Int, 1 + n1 / 24 % 3 = c ∧ 1 ≤ c ∧ c ≤ 3 := ⟨_, rfl, by omega, by omega⟩
      have cnt : 1 ≤ 1 + n1 / 72 % (mm : Int) ∧ 1 + n1 / 72 % (mm : Int) ≤ mm := by
        have z1 := Int.emod_nonneg (n1 / 72) (show (mm : Int) ≠ 0 by omega)
        have z2 := Int.emod_lt_of_pos (n1 / 72) (show (0 : Int) < (mm : Int) by omega)
        omega
      refine ⟨_, rfl, .inl ⟨rfl, _, .inl (.inl eq4)⟩, _, rfl, n1, 72, rfl, rfl, ⟨by decide, by decide⟩, _, rfl, n1 / 72, (mm : Int), rfl, rfl, (by show (0 : Int) < (mm : Int); omega), 1, _, rfl, rfl, 1 + n1 / 72 % (mm : Int), rfl, (by omega), (by omega), fun D nD => ?_⟩
      have k4t := k14.tab
      refine lc_range (lo := 0) (n := (1 + n1 / 72 % (mm : Int)).toNat) (fun j H' => Kp T H3 H' ∧ H' D = some (.lst (((List.range j).map fun t : Nat => fs + (0 + (t : Int)) * c).map V.int))) ⟨Kp.new k4t nD, upd_same⟩ (fun j H' hj hv => ?_) (fun H4 hv => ?_)
      · obtain ⟨k5, eD⟩ := hv
        refine ⟨rfl, tYes_if ?_⟩
        refine ⟨_, rfl, _, rfl, _, rfl, n1, 24, rfl, rfl, ⟨by decide, by decide⟩, n1 / 24, 3, rfl, rfl, (by show (0 : Int) < 3; decide), 1, _, rfl, rfl, 0 + (j : Int), _, rfl, rfl, .inl ⟨by omega, by omega⟩, fs, _, rfl, rfl, _, eD, small1000 (by rw [List.length_map, List.length_map, List.length_range]; omega), k5.set nD (tab_nn k4t nD), ?_⟩
        rw [upd_same, List.range_succ, List.map_append, List.map_append, ← ec]
        rfl
      · obtain ⟨k5, eD⟩ := hv
        have eq5 := k5.lst eq4
        have k15 := k14.trans k5
        refine ⟨qm, _, _, rfl, rfl, eq5, small1000 (by rw [paired_len hP]; omega), ?_⟩
        have nqH1 := nqm
        obtain ⟨row, erow⟩ : ∃ row : List Int, row = (List.range (1 + n1 / 72 % (mm : Int)).toNat).map fun t : Nat => fs + (0 + (t : Int)) * c := ⟨_, rfl⟩
        rw [← erow] at eD
        have gr : ∀ m ∈ row, MakeI m := fun m hm => by
          rw [erow] at hm
          obtain ⟨t, ht', rfl⟩ := List.mem_map.mp hm
          have ht2 := List.mem_range.mp ht'
          have h1 : (0 + (t : Int)) * c ≤ 3 * (t : Int) := by
            rw [Int.zero_add, Int.mul_comm]
            exact Int.mul_le_mul_of_nonneg_right hc.2 (by omega)
          have h2 : 0 ≤ (0 + (t : Int)) * c := Int.mul_nonneg (by omega) (by omega)
          exact ⟨by omega, by omega⟩
        have rl : row.length = (1 + n1 / 72 % (mm : Int)).toNat := by rw [erow, List.length_map, List.length_range]
        have rn : row.Nodup := by
          rw [erow]
          refine (List.pairwise_map).mpr ((List.pairwise_lt_range (n := _)).imp_of_mem ?_)
          intro i j _ _ hlt e
          have h3 : (i : Int) * c < (j : Int) * c := Int.mul_lt_mul_of_pos_right (by omega) (by omega)
          rw [Int.zero_add, Int.zero_add] at e
          omega
        have kq := k15.set nqm qT (o := HO.lst (mv ++ [.ref D]))
        have Dq : D ≠ qm := fun z => by rw [z, eq4] at nD; cases nD
        refine ⟨_, _, _, mv ++ [.ref D], mks ++ [row], rfl, kq, upd_same, ?_, ?_⟩
        · rw [hide_upd (List.mem_singleton.mpr rfl)]
          have mono : ∀ b o, isSeqO o = true → hide [qm] H2 b = some o → hide [qm] H4 b = some o := fun b o hs e => by
            obtain ⟨e1, e2⟩ := hide_some e
            exact hide_of ((k4.trans k5).keep b o (isSeq_ne_tab k4.t0 hs e1) e1) e2
          refine paired_app2 (paired_mono (fun _ _ h => MkR.mono mono h) hP) (.cons ⟨⟨D, rfl, .inl (.inl (hide_of eD (fun z => Dq (List.mem_singleton.mp z)))), fun z => ?_, by omega, gr⟩, rn, by omega⟩ .nil)
          rw [z] at rl
          simp at rl
          omega
        · rw [List.length_append, List.length_singleton, hml]
    · rintro σ' H2 ⟨x6, x7, x8, mv, mks, rfl, k3, eq, hP0, hml⟩
      have hP : Paired (MkR K mm H2) mv mks := paired_mono (fun _ _ h => MkR.mono (fun _ _ _ e => (hide_some e).1) h) hP0
      clear hP0
      have hmm : mks.length = mn := by omega
      have lmv := paired_len hP
      have k02 := k1.trans k3
      have hS2 := k02.seq hS
      have hN2 : SqL K H2 pn (names.map V.str) := .inl (.inl (k3.lst hpn))
      have t2 := k3.tab
      have hA2 : ∀ y ∈ A, H2 y ≠ none := fun y hy => k02.dom (hA y hy)
      clear hpn k3 nqm nqH k2 k12 qT
      -- the rows
      intro r nr
      have kr := Kp.new (o := HO.dK []) t2 nr
      have rT := tab_nn t2 nr
      have er : upd H2 r (.dK []) r = some (.dK []) := upd_same
      have B0 : BoxOk K A (upd H2 r (.dK [])) r [] := ⟨er, fun s hs => (by cases hs), List.nodup_nil, List.nodup_cons.mpr ⟨List.not_mem_nil, List.nodup_nil⟩⟩
      have f0 : ∀ f ∈ foot r [], H2 f = none := fun f hf => by
        rcases List.mem_cons.mp hf with rfl | hf
        · exact nr
        · cases hf
      generalize upd H2 r (.dK []) = H3 at kr er B0 ⊢
      clear er
      refine ⟨_, rfl, 1 + n0 % (most : Int), rfl, (by omega), (by omega), for_range (lo := 0) (n := (1 + n0 % (most : Int)).toNat) (fun i σ' H' => ∃ (x6 x10 : Option V) (cl : List Shelf), σ' = [some (.ref a), some (.int most), some (.int mm), some (.int (1 + n0 % (most : Int))), some (.ref pn), some (.ref qm), x6, x7, x8, some (.ref r), x10] ∧
          Kp T H2 H' ∧ BoxOk K A H' r cl ∧ (∀ f ∈ foot r cl, H2 f = none) ∧ cl.map (·.ware) = names.take i ∧ (∀ s ∈ cl, RowG mm s) ∧ RawB K H' cl)
        ⟨x6, none, [], rfl, kr, B0, f0, rfl, (fun s hs => by cases hs), fun s hs => by cases hs⟩ ?_ ?_⟩
      · rintro i σ' H4 hi ⟨x6, x10, cl, rfl, k4, B, fn, ew, hG, hR⟩
        have hil : i < mks.length := by omega
        have hin : i < names.length := by omega
        have en : atI (names.map V.str) (0 + (i : Int)) = some (.str names[i]) := by rw [Int.zero_add]; exact atI_nat (by rw [List.getElem?_map, List.getElem?_eq_getElem hin]; rfl)
        have gy := hgd _ (List.getElem_mem hin)
        have enx : names[i]? = some names[i] := List.getElem?_eq_getElem hin
        have fresh : ∀ s ∈ cl, s.ware ≠ names[i] := fun s hs e => by
          have h1 : s.ware ∈ names.take i := by rw [← ew]; exact List.mem_map.mpr ⟨s, hs, rfl⟩
          obtain ⟨j, hj⟩ := List.mem_iff_getElem?.mp h1
          have hjl : j < i := by
            have := (List.getElem?_eq_some_iff.mp hj).1
            rw [List.length_take] at this
            omega
          rw [List.getElem?_take, if_pos hjl, e] at hj
          exact absurd (nd_idx nn hj enx) (by omega)
        have etk : names.take (i + 1) = names.take i ++ [names[i]] := by rw [List.take_succ, enx]; rfl
        generalize names[i] = y at en gy enx fresh etk
        have ln : look cl y = none := by
          cases e : look cl y with
          | none => rfl
          | some s => exact absurd (look_mem e).2 (fresh s (look_mem e).1)
        obtain ⟨vq, evq, ⟨q, rfl, hq, hne, h100, hmg⟩, hmn2, hml2⟩ := paired_get hP (List.getElem?_eq_getElem hil)
        have evq' : atI mv (0 + (i : Int)) = some (.ref q) := by rw [Int.zero_add]; exact atI_nat evq
        generalize mks[i] = ms at hq hne h100 hmg hmn2 hml2
        -- rows[names[k]] = {}
        intro na nna
        have k5 := Kp.new (o := HO.dK []) k4.tab nna
        have nar : r ≠ na := fun z => by have := B.dc; rw [z, nna] at this; cases this
        have B5 := B.new (w := y) k4.tab ln nna
        have dr5 : upd H4 na (.dK []) r = some (.dK (cl.map keyW)) := by rw [upd_ne nar]; exact B.dc
        refine ⟨_, rfl, _, rfl, _, rfl, pn, _, _, _, rfl, rfl, (k4.trans k5).seq hN2, en, r, _, rfl, DPut.k (k := Sum.inr y) dr5 (small1000 (by rw [List.length_map]; have := congrArg List.length ew; rw [List.length_map, List.length_take] at this; omega)), ?_⟩
        obtain ⟨B5, kx5⟩ := B5
        have nna2 : H2 na = none := k4.free nna
        have hR5 := (hR.kx kx5 (fun f hf => B.foot_dict f hf)).app (s := ⟨y, na, []⟩) fun e he => by cases he
        have f5 : ∀ f ∈ foot r (cl ++ [⟨y, na, []⟩]), H2 f = none := fun f hf => by
          rcases foot_app hf with hf | rfl
          · exact fn f hf
          · exact nna2
        have k25 := Kx.dropNews fn k4 kx5
        generalize upd (upd H4 na (.dK [])) r (.dK (putK (cl.map keyW) (Sum.inr y) (.ref na))) = H5 at B5 kx5 k25 hR5 ⊢
        clear k5 dr5
        have eqm5 : H5 qm = some (.lst mv) := k25.lst eq
        refine ⟨_, rfl, _, rfl, qm, _, _, _, rfl, rfl, .inl (.inl eqm5), evq', q, _, rfl, .inl (k25.seq hq), (ms.map V.int).length, rfl, (by rw [List.length_map]; omega), (by rw [List.length_map]; omega), ?_⟩
        rw [List.length_map]
        refine for_range (lo := 0) (n := ((ms.length : Nat) : Int).toNat) (fun j σ' H' => ∃ (x10 : Option V) (es : List (Int × Addr × List PyData)), σ' = [some (.ref a), some (.int most), some (.int mm), some (.int (1 + n0 % (most : Int))), some (.ref pn), some (.ref qm), some (.int (0 + (i : Int))), x7, x8, some (.ref r), x10] ∧
            Kp T H2 H' ∧ BoxOk K A H' r (cl ++ [⟨y, na, es⟩]) ∧ es.map (·.1) = ms.take j ∧ (∀ e ∈ es, mayB y (.list e.2.2) = true) ∧ (∀ e ∈ es, ∀ d ∈ e.2.2, ND d) ∧ RawB K H' (cl ++ [⟨y, na, es⟩]))
          ⟨x10, [], rfl, k25, B5, rfl, (fun e he => by cases he), (fun e he => by cases he), hR5⟩ ?_ ?_
        · rintro j σ' H6 hj ⟨x10, es, rfl, k6, B6, ems, hmay, hnd, hR6⟩
          have hjl : j < ms.length := by omega
          have h12 : mks.length ≤ 12 := by omega
          have e9 : (20 : Int) + 9 * (0 + (i : Int)) + 3 * (0 + (j : Int)) = ((20 + 9 * i + 3 * j : Nat) : Int) := by omega
          have j8 : j < 8 := by omega
          have emj : atI (ms.map V.int) (0 + (j : Int)) = some (.int ms[j]) := by rw [Int.zero_add]; exact atI_nat (by rw [List.getElem?_map, List.getElem?_eq_getElem hjl]; rfl)
          have etj : ms.take (j + 1) = ms.take j ++ [ms[j]] := by rw [List.take_succ, List.getElem?_eq_getElem hjl]; rfl
          have gm := hmg _ (List.getElem_mem hjl)
          have mnew : ms[j] ∉ ms.take j := fun z => by
            obtain ⟨t, ht'⟩ := List.mem_iff_getElem?.mp z
            have htl : t < j := by
              have := (List.getElem?_eq_some_iff.mp ht').1
              rw [List.length_take] at this
              omega
            rw [List.getElem?_take, if_pos htl] at ht'
            exact absurd (nd_idx hmn2 ht' (List.getElem?_eq_getElem hjl)) (by omega)
          generalize ms[j] = m at emj etj gm mnew
          refine ⟨_, rfl, _, rfl, _, rfl, _, rfl, _, rfl, 9, _, rfl, rfl, .inl ⟨by decide, by decide⟩, 20, _, rfl, rfl, _, rfl, 3, _, rfl, rfl, .inl ⟨by decide, by decide⟩, _, _, rfl, rfl, ?_⟩
          have hP6 : Paired (MkL K H6) mv mks := paired_mono (fun _ _ h => MkL.kept k6 h.1) hP
          have d9 : DGet H6 r (.str y) (some (.ref na)) := cell_get B6 (look_last fresh)
          refine ⟨A, a, pn, qm, ns, names, mv, mks, i, 20 + 9 * i + 3 * j, y, (by show [V.ref a, V.ref pn, V.ref qm, V.int (0 + (i : Int)), V.int (20 + 9 * (0 + (i : Int)) + 3 * (0 + (j : Int)))] = _; rw [e9, Int.zero_add] <;> rfl), k6.seq hS2, k6.seq hN2, nn, hgd, k6.lst eq, hP6, by omega, enx, hil, h12, by omega, fun z hz => k6.dom (hA2 z hz), k6.tab, fun xs ds l H7 k7 nl el hds hdn hmy h6 => ?_⟩
          have eqm7 : H7 qm = some (.lst mv) := (k6.trans k7).lst eq
          have B7 := B6.keptP k7
          have LS : look (cl ++ [⟨y, na, es⟩]) y = some ⟨y, na, es⟩ := look_last fresh
          have SH := (B7.sh _ (look_mem LS).1).dc
          have lA : l ∉ A := fun z => k6.dom (hA2 l z) nl
          have me : lookE es m = none := by
            cases e : lookE es m with
            | none => rfl
            | some x =>
              obtain ⟨h1, h2⟩ := lookE_mem e
              exact absurd (by rw [← ems, ← h2]; exact List.mem_map.mpr ⟨x, h1, rfl⟩) mnew
          refine ⟨_, rfl, _, rfl, _, rfl, pn, _, _, _, rfl, rfl, (k6.trans k7).seq hN2, en, r, _, rfl, cell_get B7 LS, _, rfl, _, rfl, qm, _, _, _, rfl, rfl, .inl (.inl eqm7), evq', _, rfl, q, _, _, _, rfl, rfl, (k6.trans k7).seq hq, emj, na, _, rfl, DPut.k (k := Sum.inl m) SH (small1000 (by rw [List.length_map]; show es.length ≤ 1000; have := congrArg List.length ems; rw [List.length_map, List.length_take] at this; omega)), ?_⟩
          have dpl : Dp K (hide A H7) (.ref l) (.list ds) := .lst (.inl (.inl (hide_of el lA))) (dpAll_mono (hide_sub fun x hx => List.mem_cons_of_mem _ hx) _ _ hds)
          have nd2 := put_nd (l := l) (ds := ds) me (B7.sh _ (look_mem LS).1).nd
          have BS := B7.set (es := es ++ [(m, l, ds)]) k7.tab LS (fun e he => by
            rcases List.mem_append.mp he with he | he
            · exact (B7.sh _ (look_mem LS).1).dp e he
            · rw [List.mem_singleton.mp he]; exact dpl) nd2
          rw [setE_last fresh] at BS
          have ep : putK (es.map entK) (Sum.inl m : Key) (.ref l) = (es ++ [(m, l, ds)]).map entK := ent_put me
          rw [ep]
          refine ⟨_, es ++ [(m, l, ds)], rfl, Kx.dropNews (fun f hf => ?_) (k6.trans k7) BS.2, BS.1, ?_, ?_, ?_, ?_⟩
          · rcases foot_app hf with hf | rfl
            · exact fn f hf
            · exact nna2
          · rw [List.map_append, ems, etj]
            rfl
          · intro e he
            rcases List.mem_append.mp he with he | he
            · exact hmay e he
            · rw [List.mem_singleton.mp he]; exact hmy
          · intro e he
            rcases List.mem_append.mp he with he | he
            · exact hnd e he
            · rw [List.mem_singleton.mp he]; exact hdn
          · have hR7 := (hR6.kp k7).kx BS.2 (fun f hf => B7.foot_dict f hf)
            have el8 := BS.2.lst0 (fun f hf => B7.foot_dict f hf) el
            refine RawB.app (fun s hs => hR7 s (List.mem_append_left _ hs)) fun e he => ?_
            rcases List.mem_append.mp he with he | he
            · exact hR7 _ (List.mem_append_right _ (List.mem_singleton.mpr rfl)) e he
            · rw [List.mem_singleton.mp he]; exact ⟨_, el8, dpAll_kx0 BS.2 (fun f hf => B7.foot_dict f hf) (dpAll_show hds)⟩
        · rintro σ' H6 ⟨x10, es, rfl, k6, B6, ems, hmay, hnd, hR6⟩
          have ems2 : es.map (·.1) = ms := by
            rw [ems, List.take_of_length_le (by omega)]
          refine ⟨_, x10, cl ++ [⟨y, na, es⟩], rfl, k6, B6, ?_, ?_, ?_, hR6⟩
          · intro f hf
            rcases foot_app hf with hf | rfl
            · exact fn f hf
            · exact nna2
          · rw [List.map_append, ew, etk]
            rfl
          · intro s hs
            rcases List.mem_append.mp hs with hs | hs
            · exact hG s hs
            · rw [List.mem_singleton.mp hs]
              refine ⟨gy, fun z => hne ?_, ?_, fun e he => hmg _ (by rw [← ems2]; exact List.mem_map.mpr ⟨e, he, rfl⟩), hmay, hnd⟩
              · have z : es = [] := z
                rw [← ems2, z]
                rfl
              · have := congrArg List.length ems2
                rw [List.length_map] at this
                show es.length ≤ mm
                omega
      · rintro σ' H4 ⟨x6, x10, cl, rfl, k4, B, fn, ew, hG, hR⟩
        have lcl : cl.length = mn := by
          have := congrArg List.length ew
          rw [List.length_map, List.length_take] at this
          omega
        refine ⟨_, rfl, fin r cl H4 (k02.trans k4) B (fun z => ?_) (by omega) hG (fun f hf => k02.free (fn f hf)) hR⟩
        rw [z] at lcl
        simp at lcl
        omega
end
end Pk

set_option Elab.async false
set_option linter.all false
set_option maxRecDepth 100000
set_option maxHeartbeats 4000000
namespace Pk
open PySem PySem.Spec PyProof.Rows L2
theorem strs_of {names : List Str} : ∀ {xs : List V}, (∀ v ∈ xs, v ∈ names.map V.str) → ∃ zs : List Str, xs = zs.map V.str ∧ ∀ z ∈ zs, z ∈ names
  | [], _ => ⟨[], rfl, fun z hz => by cases hz⟩
  | v :: r, h => by
    obtain ⟨z, hz, rfl⟩ := List.mem_map.mp (h v (List.mem_cons_self ..))
    obtain ⟨zs, e, hzs⟩ := strs_of fun u hu => h u (List.mem_cons_of_mem _ hu)
    refine ⟨z :: zs, by rw [e]; rfl, fun y hy => ?_⟩
    rcases List.mem_cons.mp hy with rfl | hy
    · exact hz
    · exact hzs y hy
theorem keys_strs (cl : List Shelf) : (cl.map keyW).map (fun kv : Key × V => kV kv.1) = (cl.map (·.ware)).map V.str := by
  rw [List.map_map, List.map_map]
  rfl
theorem keys_ints (es : List (Int × Addr × List PyData)) : (es.map entK).map (fun kv : Key × V => kV kv.1) = (es.map (·.1)).map V.int := by
  rw [List.map_map, List.map_map]
  rfl
theorem at_str {hs : List Str} {i : Int} (h0 : 0 ≤ i) (h1 : i < (hs.length : Int)) (hg : ∀ y ∈ hs, GoodN y) : ∃ y, atI (hs.map V.str) i = some (.str y) ∧ GoodN y ∧ y ∈ hs := by
  obtain ⟨v, hv, y, rfl, hy⟩ := at_pick (xs := hs.map V.str) (p := fun v => ∃ y, v = V.str y ∧ GoodN y ∧ y ∈ hs) h0 (by rw [List.length_map]; exact h1) (fun x hx => by
    obtain ⟨y, hy, rfl⟩ := List.mem_map.mp hx
    exact ⟨y, rfl, hg y hy, hy⟩)
  exact ⟨y, hv, hy⟩
theorem at_lastS {hs : List Str} (h : hs ≠ []) (hg : ∀ y ∈ hs, GoodN y) : ∃ y, atI (hs.map V.str) (-1) = some (.str y) ∧ GoodN y ∧ y ∈ hs := by
  have e : hs.map V.str = hs.dropLast.map V.str ++ [.str (hs.getLast h)] := by
    conv => lhs; rw [← List.dropLast_concat_getLast h]
    rw [List.map_append]
    rfl
  exact ⟨_, by rw [e]; exact atI_last _ _, hg _ (List.getLast_mem h), List.getLast_mem h⟩
/-- what is asked of the law's rows -/
structure RowsG (mm : Nat) (cl : List Shelf) : Prop where
  len : cl.length ≤ 12
  w : ∀ s ∈ cl, GoodN s.ware
  el : ∀ s ∈ cl, s.ents.length ≤ mm
  mki : ∀ s ∈ cl, ∀ e ∈ s.ents, MakeI e.1
  may : ∀ s ∈ cl, ∀ e ∈ s.ents, mayB s.ware (.list e.2.2) = true
  nd : ∀ s ∈ cl, ∀ e ∈ s.ents, ∀ d ∈ e.2.2, ND d
theorem RowsG.of {mm : Nat} {cl : List Shelf} (hl : cl.length ≤ 12) (h : ∀ s ∈ cl, RowG mm s) : RowsG mm cl := ⟨hl, fun s hs => (h s hs).w, fun s hs => (h s hs).len, fun s hs => (h s hs).mki, fun s hs => (h s hs).may, fun s hs => (h s hs).nd⟩
theorem mayB_len {w : Str} {ds : List PyData} (h : mayB w (.list ds) = true) : ds.length ≤ 6 := by
  have z : (decide (ds.length ≤ 6) && mayL [w] ds) = true := h
  rw [Bool.and_eq_true] at z
  exact of_decide_eq_true z.1
section
variable {P : Program} {w : World} {K : PySem.W.Frag} {mg : Str → Option Value} {base : Heap}
def wishN : List Str := ["_law_script", "_law_rows_here", "_law_most", "_law_names_here", "_law_found", "_law_number", "_law_turn", "_law_name", "_law_low", "_law_high"]
theorem scWish : FnScope wishN ["_law_script", "_law_rows_here", "_law_most"] (defScope sWish) := ⟨rfl, rfl, rfl, by decide +kernel, rfl, by decide +kernel, by decide +kernel⟩
def spWish (K : PySem.W.Frag) (T : Addr) : Sp := fun vs H Q _ => ∃ (A : List Addr) (a r : Addr) (ns : List Int) (cl : List Shelf) (most mm : Nat), vs = [.ref a, .ref r, .int most] ∧ SqL K H a (ns.map V.int) ∧ BoxOk K A H r cl ∧ RowsG mm cl ∧ mm ≤ 8 ∧ cl ≠ [] ∧ (∀ s ∈ cl, s.ents ≠ []) ∧ 1 ≤ most ∧ most ≤ 8 ∧ (∀ y ∈ A, H y ≠ none) ∧ GxR.TabG H T ∧
  ∀ (xs : List V) (ds : List PyData) l H', Kp T H H' → H l = none → H' l = some (.lst xs) → DpAll K (hide (l :: A) H') xs ds → (∀ d ∈ ds, ND d) → ds.length ≤ 8 → Q (.ref l) H'
theorem ok_wish {f fX fA fS T : Addr} {fd fdX fdA fdS : FuncData} (F : Fun K "_law_wish" "_law_wish" sWish f fd)
    (GX : FnOk P w K mg base CX0 1 fX fdX ["_law_script", "_law_k"] (spMixed K)) (kX : PySem.W.keepIn K (.ref fX) = true) (bX : Binds K fdX ["_law_script", "_law_k"] []) (gX : mg "_law_mixed" = some (.ref fX))
    (GA : FnOk P w K mg base CX0 2 fA fdA ["_law_script", "_law_many"] (spNames K T)) (kA : PySem.W.keepIn K (.ref fA) = true) (bA : Binds K fdA ["_law_script", "_law_many"] []) (gA : mg "_law_names" = some (.ref fA))
    (GS : FnOk P w K mg base CX0 1 fS fdS ["_law_number", "_law_makes"] (spStretch K T)) (kS : PySem.W.keepIn K (.ref fS) = true) (bS : Binds K fdS ["_law_number", "_law_makes"] []) (gS : mg "_law_stretch" = some (.ref fS))
    (y_len : mg "len" = none) (y_range : mg "range" = none) (y_list : mg "list" = none) (y_sorted : mg "sorted" = none) : FnOk P w K mg base CX0 3 f fd ["_law_script", "_law_rows_here", "_law_most"] (spWish K T) := by
  refine F.ok scWish (fun vs H Q E h => ?_) (fun cdv A0 outer s H vs Q E hr h => ?_)
  · obtain ⟨A, a, r, ns, cl, most, mm, rfl, _⟩ := h
    rfl
  · obtain ⟨A, a, r, ns, cl, most, mm, rfl, hS, B, G, hmm, hcl, hne, hm1, hm8, hA, ht, fin⟩ := h
    have hu := hu_of hr
    refine ⟨_, (pss_cons (ps_set (i := 3) scWish.nd rfl (by first | exact .inl rfl | exact .inr rfl) (pe_op op_cat (pe_callTy (call_listD rfl) (by rfl) y_list boot_list (pa_cons (pv 1) pa_nil)) (pe_slice sl_list (pe_call GA (hr.mono (by decide)) (by rfl) gA kA bA .nil pass0 (pa_cons (pv 0) (pa_cons (pe_op op_add (pe_callB call_lenD (by rfl) y_len PySem.boot_len (pa_cons (pv 1) pa_nil)) pe_int) pa_nil))) (po_some (pe_un un_neg pe_int)) po_none)))
      (pss_cons (ps_set (i := 4) scWish.nd rfl (by first | exact .inl rfl | exact .inr rfl) (pe_lst pa_nil))
      (pss_cons (ps_set (i := 5) scWish.nd rfl (by first | exact .inl rfl | exact .inr rfl) (pe_call GX (hr.mono (by decide)) (by rfl) gX kX bX .nil pass0 (pa_cons (pv 0) (pa_cons pe_int pa_nil))))
      (pss_cons (ps_for PassesOwn.never rfl (pi_range1 (by rfl) y_range (pa_cons (pe_ix ix_list (pe_lst (pa_cons (pe_op op_add pe_int (pe_op op_mod (pe_op op_fdiv (pv 5) pe_int) (pv 2))) (pa_cons pe_int (pa_cons pe_int pa_nil)))) (pe_ix ix_list (pe_lst (pa_cons pe_int (pa_cons pe_int (pa_cons pe_int (pa_cons pe_int (pa_cons pe_int (pa_cons pe_int (pa_cons pe_int (pa_cons pe_int (pa_cons pe_int pa_nil)))))))))) (pe_op op_mod (pv 5) pe_int) (fun _ _ => rfl)) (fun _ _ => rfl)) pa_nil)) (pg_name (i := 6) scWish.nd rfl (by first | exact .inl rfl | exact .inr rfl)) (pss_cons (ps_set (i := 5) scWish.nd rfl (by first | exact .inl rfl | exact .inr rfl) (pe_call GX (hr.mono (by decide)) (by rfl) gX kX bX .nil pass0 (pa_cons (pv 0) (pa_cons (pe_op op_add pe_int (pv 6)) pa_nil))))
      (pss_cons (ps_set (i := 7) scWish.nd rfl (by first | exact .inl rfl | exact .inr rfl) (pe_ix ix_list (pv 3) (pe_op op_mod (pv 5) (pe_callB call_lenD (by rfl) y_len PySem.boot_len (pa_cons (pv 1) pa_nil))) (fun _ _ => rfl)))
      (C8.pss_cut (ps_if (pt_cmpR op_eq (pe_op op_mod (pe_op op_fdiv (pv 5) pe_int) pe_int) pe_int (nomark _)) (pss_one (ps_set (i := 7) scWish.nd rfl (by first | exact .inl rfl | exact .inr rfl) (pe_ix ix_list (pv 3) (pe_un un_neg pe_int) (fun _ _ => rfl)))) pss_nil)
      (pss_cons (ps_asg (pe_call GS (hr.mono (by decide)) (by rfl) gS kS bS .nil pass0 (pa_cons (pe_op op_fdiv (pv 5) pe_int) (pa_cons (pe_callB (call_sortedDI rfl) (by rfl) y_sorted (by decide +kernel) (pa_cons (pe_dget2 hu (pv 1) (pv 7) (pe_disp (pps_cons pe_int (pe_lst pa_nil) pps_nil) (by rfl) (by rfl) (fun z => by cases z) (by decide)) ⟨rfl, rfl, rfl, rfl⟩) pa_nil)) pa_nil))) (pg_tup (by rfl) (pgs_cons (pg_name (i := 8) scWish.nd rfl (by first | exact .inl rfl | exact .inr rfl)) (pgs_cons (pg_name (i := 9) scWish.nd rfl (by first | exact .inl rfl | exact .inr rfl)) pgs_nil))))
      (pss_one (ps_expr (pe_bm PySem.F.plainAttrs_list PySem.F.slot_list_append PySem.F.type_list_append mt_append (pv 4) (pa_cons (pe_tup (pa_cons (pv 7) (pa_cons (pv 8) (pa_cons (pv 9) pa_nil)))) pa_nil)))))))))
      (pss_one (ps_ret (pv 4))))))), ?_⟩
    have h12 := G.len
    have hcl1 := List.length_pos_iff.mpr hcl
    -- the names
    refine ⟨_, rfl, r, _, rfl, .inl B.dc, fun l1 nl1 => ?_⟩
    rw [keys_strs]
    have k1 := Kp.new (o := HO.lst ((cl.map (·.ware)).map V.str)) ht nl1
    have e1 : upd H l1 (.lst ((cl.map (·.ware)).map V.str)) l1 = some (.lst ((cl.map (·.ware)).map V.str)) := upd_same
    have B1 := B.keptP k1
    generalize upd H l1 (.lst ((cl.map (·.ware)).map V.str)) = H1 at k1 e1 B1 ⊢
    refine ⟨_, rfl, _, rfl, r, _, rfl, B1.dc, _, _, rfl, rfl, a, ns, cl.length + 1, (by rw [List.length_map] <;> rfl), k1.seq hS, ⟨by omega, by omega⟩, k1.tab, fun names pn H2 hln hgd nn k2 _ hpn => ⟨1, rfl, -1, rfl, pn, _, rfl, .inl (.inl hpn), fun l2 nl2 => ?_⟩⟩
    obtain ⟨zs, ezs, hzs⟩ := strs_of (names := names) (xs := cutV (names.map V.str) (some (-1)) none) (fun v hv => cutV_mem hv)
    have lzs : zs.length ≤ 26 := by
      have h1 : (cutV (names.map V.str) (some (-1)) none).length ≤ (names.map V.str).length := by
        show (List.take _ (List.drop _ _)).length ≤ _
        rw [List.length_take, List.length_drop]
        omega
      rw [ezs, List.length_map, List.length_map] at h1
      omega
    have k3 := Kp.new (o := HO.lst (cutV (names.map V.str) (some (-1)) none)) k2.tab nl2
    have e3 : upd H2 l2 (.lst (cutV (names.map V.str) (some (-1)) none)) l2 = some (.lst (zs.map V.str)) := by rw [upd_same, ezs]
    have k23 := k2.trans k3
    have e1' := k23.lst e1
    generalize upd H2 l2 (.lst (cutV (names.map V.str) (some (-1)) none)) = H3 at k3 e3 k23 e1' ⊢
    refine ⟨l1, l2, _, _, rfl, rfl, e1', e3, Nat.le_of_lt (small1000 (by rw [List.length_map, List.length_map, List.length_map]; omega)), fun l3 nl3 => ?_⟩
    obtain ⟨hs, ehs⟩ : ∃ hs : List Str, hs = cl.map (·.ware) ++ zs := ⟨_, rfl⟩
    have ghs : ∀ y ∈ hs, GoodN y := fun y hy => by
      rw [ehs] at hy
      rcases List.mem_append.mp hy with hy | hy
      · obtain ⟨s, hs', rfl⟩ := List.mem_map.mp hy
        exact G.w s hs'
      · exact hgd y (hzs y hy)
    have lhs : cl.length ≤ hs.length := by rw [ehs, List.length_append, List.length_map]; omega
    have k4 := Kp.new (o := HO.lst ((cl.map (·.ware)).map V.str ++ zs.map V.str)) k23.tab nl3
    have e4 : upd H3 l3 (.lst ((cl.map (·.ware)).map V.str ++ zs.map V.str)) l3 = some (.lst (hs.map V.str)) := by rw [upd_same, ehs, List.map_append]
    have kk4 := (k1.trans k23).trans k4
    generalize upd H3 l3 (.lst ((cl.map (·.ware)).map V.str ++ zs.map V.str)) = H4 at k4 e4 kk4 ⊢
    clear k1 k2 k3 k23 k4 e1 e3 e1' B1 ehs hzs ezs
    have t4 := kk4.tab
    -- found
    refine ⟨(by show (0 : Nat) ≤ sizeLine; decide), fun L nL => ?_⟩
    have k5 := Kp.new (o := HO.lst []) t4 nL
    have LT := tab_nn t4 nL
    have eL5 : upd H4 L (.lst []) L = some (.lst ([] : List V)) := upd_same
    have nLH := kk4.free nL
    have LTH := LT
    have L3 : l3 ≠ L := fun z => by rw [← z, e4] at nL; cases nL
    have kk5 := kk4.trans k5
    have e45 := k5.lst e4
    generalize upd H4 L (.lst []) = H5 at k5 eL5 kk5 e45 ⊢
    refine ⟨_, rfl, a, ns, 170, rfl, kk5.seq hS, by decide, fun n0 hn0 _ => ?_⟩
    refine ⟨_, rfl, n0, 9, rfl, rfl, ⟨by decide, by decide⟩, _, rfl, n0 / 9, (most : Int), rfl, rfl, (by show (0 : Int) < (most : Int); omega), 1, _, rfl, rfl, (by show (3 : Nat) ≤ sizeLine; decide), fun l6 nl6 => ?_⟩
    have k6 := Kp.new (o := HO.lst [.int (1 + n0 / 9 % (most : Int)), .int 8, .int 0]) kk5.tab nl6
    refine ⟨(by show (9 : Nat) ≤ sizeLine; decide), fun l7 nl7 => ?_⟩
    have k7 := Kp.new (o := HO.lst [.int 0, .int 0, .int 0, .int 0, .int 2, .int 0, .int 1, .int 0, .int 0]) k6.tab nl7
    obtain ⟨v, ev, w7, rfl, hw7⟩ := at_pick (xs := [V.int 0, .int 0, .int 0, .int 0, .int 2, .int 0, .int 1, .int 0, .int 0]) (i := n0 % 9) (p := fun v => ∃ m : Int, v = .int m ∧ (m = 0 ∨ m = 1 ∨ m = 2)) (by omega) (by show n0 % 9 < ((9 : Nat) : Int); omega) (fun v hv => by
      simp only [List.mem_cons, List.not_mem_nil, or_false] at hv
      rcases hv with rfl | rfl | rfl | rfl | rfl | rfl | rfl | rfl | rfl
      · exact ⟨_, rfl, .inl rfl⟩
      · exact ⟨_, rfl, .inl rfl⟩
      · exact ⟨_, rfl, .inl rfl⟩
      · exact ⟨_, rfl, .inl rfl⟩
      · exact ⟨_, rfl, .inr (.inr rfl)⟩
      · exact ⟨_, rfl, .inl rfl⟩
      · exact ⟨_, rfl, .inr (.inl rfl)⟩
      · exact ⟨_, rfl, .inl rfl⟩
      · exact ⟨_, rfl, .inl rfl⟩)
    have hmo : 0 ≤ n0 / 9 % (most : Int) ∧ n0 / 9 % (most : Int) < (most : Int) := ⟨Int.emod_nonneg _ (by omega), Int.emod_lt_of_pos _ (by omega)⟩
    obtain ⟨v2, ev2, m, rfl, hm88⟩ := at_pick (xs := [V.int (1 + n0 / 9 % (most : Int)), .int 8, .int 0]) (i := w7) (p := fun v => ∃ m : Nat, v = .int (m : Int) ∧ m ≤ 8) (by omega) (by show w7 < ((3 : Nat) : Int); omega) (fun v hv => by
      simp only [List.mem_cons, List.not_mem_nil, or_false] at hv
      rcases hv with rfl | rfl | rfl
      · exact ⟨(1 + n0 / 9 % (most : Int)).toNat, by congr 1; omega, by omega⟩
      · exact ⟨8, rfl, by decide⟩
      · exact ⟨0, rfl, by decide⟩)
    have e67 := k7.lst (a := l6) (xs := [.int (1 + n0 / 9 % (most : Int)), .int 8, .int 0]) upd_same
    refine ⟨_, rfl, n0, 9, rfl, rfl, (by show (0 : Int) < 9; decide), l7, _, _, _, rfl, rfl, .inl (.inl upd_same), ev, l6, _, _, _, rfl, rfl, .inl (.inl e67), ev2, ?_⟩
    have k57 := k6.trans k7
    have eL7 := k57.lst eL5
    have e47 := k57.lst e45
    have kk7 := kk5.trans k57
    generalize upd (upd H5 l6 _) l7 _ = H7 at k7 k57 eL7 e47 kk7 ⊢
    clear k5 k6 k7 k57 eL5 e45 e67
    refine ⟨m, rfl, (by omega), (by omega), for_range (lo := 0) (n := ((m : Nat) : Int).toNat) (fun i σ' H' => ∃ (x5 x7 x8 x9 x10 : Option V) (acc : List V) (ds : List PyData), σ' = [some (.ref a), some (.ref r), some (.int most), some (.ref l3), some (.ref L), x5, x7, x8, x9, x10] ∧
        Kp T H H' ∧ H' l3 = some (.lst (hs.map V.str)) ∧ H' L = some (.lst acc) ∧ DpAll K (hide (L :: A) H') acc ds ∧ (∀ d ∈ ds, ND d) ∧ ds.length = i)
      ⟨_, _, _, _, _, [], [], rfl, kk7, e47, eL7, .nil, (fun d hd => by cases hd), rfl⟩ ?_ ?_⟩
    · rintro i σ' H8 hi ⟨x5, x7, x8, x9, x10, acc, ds, rfl, k8, el3, eL, hd, hnd, dl⟩
      have la : acc.length = ds.length := dpAll_len hd
      have e171 : (171 : Int) + (0 + (i : Int)) = ((171 + i : Nat) : Int) := by omega
      have B8 := B.keptP k8
      refine ⟨_, rfl, _, rfl, _, _, rfl, rfl, a, ns, 171 + i, (by show [V.ref a, V.int (171 + (0 + (i : Int)))] = _; rw [e171] <;> rfl), k8.seq hS, (by show 171 + i ≤ 1000; omega), fun n1 _ _ => ?_⟩
      have lkw : (cl.map keyW).length = cl.length := List.length_map _
      have hcp : (0 : Int) < (((cl.map keyW).length : Nat) : Int) := by omega
      obtain ⟨y, ey, gy, _⟩ := at_str (hs := hs) (i := n1 % (((cl.map keyW).length : Nat) : Int)) (Int.emod_nonneg n1 (Int.ne_of_gt hcp)) (by have z := Int.emod_lt_of_pos n1 hcp; have z2 : (cl.map keyW).length = cl.length := List.length_map _; omega) ghs
      refine ⟨_, rfl, _, rfl, _, rfl, r, _, rfl, B8.dc, n1, _, rfl, rfl, hcp, l3, _, _, _, rfl, rfl, .inl (.inl el3), ey, ?_⟩
      refine ⟨fun σ' H' => ∃ y, GoodN y ∧ H' = H8 ∧ σ' = [some (.ref a), some (.ref r), some (.int most), some (.ref l3), some (.ref L), some (.int n1), some (.int (0 + (i : Int))), some (.str y), x9, x10], ?_, ?_⟩
      · refine ⟨_, rfl, n1, 7, rfl, rfl, ⟨by decide, by decide⟩, _, 24, rfl, rfl, (by show (0 : Int) < 24; decide), rfl, _, rfl, iteD (fun _ => ?_) (fun _ => ⟨y, gy, rfl, rfl⟩)⟩
        obtain ⟨z, ez, gz, _⟩ := at_lastS (hs := hs) (fun z => by have z2 := congrArg List.length z; rw [List.length_nil] at z2; omega) ghs
        exact ⟨_, rfl, 1, rfl, l3, _, _, _, rfl, rfl, .inl (.inl el3), ez, z, gz, rfl, rfl⟩
      · rintro σ' H8' ⟨y, gy, rfl, rfl⟩
        -- the makes of that name, or 7
        refine ⟨_, rfl, n1, 168, rfl, rfl, ⟨by decide, by decide⟩, _, rfl, r, rfl, .inl ⟨_, .inl B8.dc⟩, _, rfl, fun d nd => ?_⟩
        have k9 := Kp.new (o := HO.dK []) k8.tab nd
        refine ⟨(by show (0 : Nat) ≤ sizeLine; decide), fun l9 nl9 => ?_⟩
        have k10 := Kp.new (o := HO.lst []) k9.tab nl9
        have ed10 : upd (upd H8' d (.dK [])) l9 (.lst []) d = some (.dK []) := k10.keep _ _ (tab_nn k8.tab nd) upd_same
        have k810 := k9.trans k10
        generalize upd (upd H8' d (.dK [])) l9 (.lst []) = H10 at k10 ed10 k810 ⊢
        refine ⟨ed10, [(Sum.inl 7, V.ref l9)], rfl, (by show (1 : Nat) ≤ 15; decide), ?_⟩
        have em : mergeK [] [((Sum.inl 7 : Key), V.ref l9)] = [((Sum.inl 7 : Key), V.ref l9)] := rfl
        rw [em]
        have k11 : Kp T H8' (upd H10 d (.dK [((Sum.inl 7 : Key), V.ref l9)])) := k810.set nd (tab_nn k8.tab nd)
        have ed11 : upd H10 d (.dK [((Sum.inl 7 : Key), V.ref l9)]) d = some (.dK [((Sum.inl 7 : Key), V.ref l9)]) := upd_same
        generalize upd H10 d (.dK [((Sum.inl 7 : Key), V.ref l9)]) = H11 at k11 ed11 ⊢
        clear k9 k10 k810 ed10
        have k8b := k8.trans k11
        have B11 := B.keptP k8b
        refine ⟨_, DGet.k (k := Sum.inr y) B11.dc, ?_⟩
        rw [look_val]
        -- what is sorted
        obtain ⟨da, kvs, ms, eda, hda, ekv, hlt, hne2, hmg⟩ : ∃ (da : Addr) (kvs : List (Key × V)) (ms : List Int), (((look cl y).map fun s => V.ref s.at_).getD (V.ref d)) = V.ref da ∧ H11 da = some (.dK kvs) ∧ kvs.map (·.1) = ms.map (Sum.inl : Int → Key) ∧ ms.length < 64 ∧ ms ≠ [] ∧ ∀ m ∈ ms, MakeI m := by
          cases el : look cl y with
          | none => exact ⟨d, _, [7], rfl, ed11, rfl, by decide, List.cons_ne_nil _ _, fun m hm => by rw [List.mem_singleton.mp hm]; exact ⟨by decide, by decide⟩⟩
          | some s =>
            have hs := (look_mem el).1
            refine ⟨s.at_, _, s.ents.map (·.1), rfl, (B11.sh s hs).dc, by rw [List.map_map, List.map_map]; rfl, by rw [List.length_map]; have := G.el s hs; omega, fun z => hne s hs (List.map_eq_nil_iff.mp z), fun m hm => ?_⟩
            obtain ⟨e, he, rfl⟩ := List.mem_map.mp hm
            exact G.mki s hs e he
        refine ⟨da, kvs, ms, by rw [← eda] <;> rfl, .inl hda, ekv, hlt, fun ys l hp _ nl => ?_⟩
        have k12 := Kp.new (o := HO.lst (ys.map V.int)) k8b.tab nl
        have el12 : upd H11 l (.lst (ys.map V.int)) l = some (.lst (ys.map V.int)) := upd_same
        generalize upd H11 l (.lst (ys.map V.int)) = H12 at k12 el12 ⊢
        refine ⟨n1 / 168, l, ys, rfl, .inl (.inl el12), fun z => hne2 ?_, by rw [hp.length_eq]; omega, fun m hm => hmg m (hp.mem_iff.mp hm), k12.tab, fun lo hi' tr H13 glo ghi hle k13 nr er => ?_⟩
        · rw [z] at hp
          exact List.nil_perm.mp hp
        · have kk := (k11.trans k12).trans k13
          have k813 := k8.trans kk
          refine ⟨tr, _, rfl, .inl (.inl er), rfl, _, _, rfl, _, _, rfl, rfl, ?_⟩
          have eL13 := kk.lst eL
          refine ⟨_, rfl, .inl ⟨rfl, _, .inl (.inl eL13)⟩, _, rfl, _, rfl, _, rfl, (by show (3 : Nat) ≤ sizeLine; decide), fun tp ntp => ?_⟩
          have k14 := Kp.new (o := HO.tup [.str y, .int lo, .int hi']) k813.tab ntp
          have eL14 := k14.lst eL13
          have k814 := k813.trans k14
          have el3' := (kk.trans k14).lst el3
          have tpL : tp ≠ L := fun z => by rw [z, eL13] at ntp; cases ntp
          have tpA : tp ∉ A := fun z => hA tp z (k813.free ntp)
          refine ⟨L, _, _, rfl, rfl, eL14, small1000 (by omega), ?_⟩
          refine ⟨_, _, _, _, _, acc ++ [.ref tp], ds ++ [.tuple [.str y, .int lo, .int hi']], rfl, k814.set nLH LTH, ?_, upd_same, ?_, ?_, ?_⟩
          · rw [upd_ne L3]; exact el3'
          · have hz : hide (L :: A) (upd (upd H13 tp (.tup [.str y, .int lo, .int hi'])) L (.lst (acc ++ [.ref tp]))) = hide (L :: A) (upd H13 tp (.tup [.str y, .int lo, .int hi'])) := hide_upd (List.mem_cons_self ..)
            rw [hz]
            refine dpAll_app (dpAll_kx (F := []) (.of (kk.trans k14)) (fun f hf => by cases hf) hd) (.cons (.tup (.inl (.inl (hide_of upd_same (fun z => (List.mem_cons.mp z).elim tpL tpA)))) (.cons (.str y) (.cons (.int lo) (.cons (.int hi') .nil)))) .nil)
          · intro d hd'
            rcases List.mem_append.mp hd' with hd' | hd'
            · exact hnd d hd'
            · rw [List.mem_singleton.mp hd']
              exact ⟨y, lo, hi', rfl, gy, glo.b, ghi.b, hle⟩
          · rw [List.length_append, List.length_singleton, dl]
    · rintro σ' H8 ⟨x5, x7, x8, x9, x10, acc, ds, rfl, k8, el3, eL, hd, hnd, dl⟩
      exact ⟨_, rfl, fin acc ds L H8 k8 nLH eL hd hnd (by omega)⟩
end
end Pk

set_option Elab.async false
set_option linter.all false
set_option maxRecDepth 100000
set_option maxHeartbeats 4000000
namespace Pk
open PySem PySem.Spec PyProof.Rows L2
/-! ### boxes that may be locked -/
structure BoxR (K : PySem.W.Frag) (A : List Addr) (H : Hp) (D : Addr) (st : List Shelf) : Prop where
  dc : Rd H D (.dK (st.map keyW))
  sc : ∀ s ∈ st, Rd H s.at_ (.dK (s.ents.map entK))
  dp : ∀ s ∈ st, ∀ e ∈ s.ents, Dp K (hide A H) (.ref e.2.1) (.list e.2.2)
  sn : ∀ s ∈ st, (s.ents.map (·.1)).Nodup
  nd : (st.map (·.ware)).Nodup
  na : (D :: st.map (·.at_)).Nodup
theorem BoxR.of {K : PySem.W.Frag} {A : List Addr} {H : Hp} {D : Addr} {st : List Shelf} (B : BoxOk K A H D st) : BoxR K A H D st := ⟨.inl B.dc, fun s hs => .inl (B.sh s hs).dc, fun s hs => (B.sh s hs).dp, fun s hs => (B.sh s hs).nd, B.nd, B.na⟩
theorem rd_kept {T a : Addr} {H H' : Hp} {u : HO} (k : Kp T H H') (h : Rd H a u) (n : ∀ ps, u ≠ .tbl ps) : Rd H' a u := by
  rcases h with h | ⟨o, h⟩
  · exact .inl (k.keep _ _ (tab_ne k.t0 h n) h)
  · exact .inr ⟨o, k.keep _ _ (tab_ne k.t0 h fun _ z => by cases z) h⟩
theorem BoxR.keptP {K : PySem.W.Frag} {T : Addr} {A : List Addr} {H H' : Hp} {D : Addr} {st : List Shelf} (B : BoxR K A H D st) (k : Kp T H H') : BoxR K A H' D st :=
  ⟨rd_kept k B.dc (fun _ z => by cases z), fun s hs => rd_kept k (B.sc s hs) (fun _ z => by cases z), fun s hs e he => (Kx.of (A := []) k).dpA (fun f hf => by cases hf) (B.dp s hs e he), B.sn, B.nd, B.na⟩
theorem rd_lock {a d : Addr} {H : Hp} {u v : HO} {od : Obj} (h : Rd H a u) (hd : H d = some v) (nf : ∀ o x, v ≠ .frz o x) : Rd (upd H d (.frz od v)) a u := by
  by_cases e : a = d
  · subst e
    rcases h with h | ⟨o, h⟩
    · rw [hd] at h
      cases h
      exact .inr ⟨od, upd_same⟩
    · rw [hd] at h
      exact absurd (Option.some.inj h) (nf o u)
  · rcases h with h | ⟨o, h⟩
    · exact .inl (by rw [upd_ne e]; exact h)
    · exact .inr ⟨o, by rw [upd_ne e]; exact h⟩
theorem dp_swap {K : PySem.W.Frag} {A : List Addr} {H : Hp} {d : Addr} {o' : HO} (hd : ∀ o, H d = some o → isSeqO o = false) {v : V} {x : PyData} (h : Dp K (hide A H) v x) : Dp K (hide A (upd H d o')) v x :=
  dp_mono (fun b o hs e => by
    obtain ⟨e1, e2⟩ := hide_some e
    refine hide_of ?_ e2
    rw [upd_ne (fun z => by rw [z] at e1; rw [hd o e1] at hs; cases hs)]
    exact e1) x v h
theorem BoxR.lock {K : PySem.W.Frag} {A : List Addr} {H : Hp} {D d : Addr} {kvs : List (Key × V)} {st : List Shelf} {od : Obj} (B : BoxR K A H D st) (hd : H d = some (.dK kvs)) : BoxR K A (upd H d (.frz od (.dK kvs))) D st :=
  ⟨rd_lock B.dc hd (fun _ _ z => by cases z), fun s hs => rd_lock (B.sc s hs) hd (fun _ _ z => by cases z), fun s hs e he => dp_swap (fun o z => by rw [hd] at z; cases z; rfl) (B.dp s hs e he), B.sn, B.nd, B.na⟩
theorem BoxOk.swap {K : PySem.W.Frag} {A : List Addr} {H : Hp} {D d : Addr} {o' : HO} {st : List Shelf} (B : BoxOk K A H D st) (hd : ∀ o, H d = some o → isSeqO o = false) (hf : d ∉ foot D st) : BoxOk K A (upd H d o') D st := by
  refine ⟨?_, fun s hs => ⟨?_, fun e he => dp_swap hd ((B.sh s hs).dp e he), (B.sh s hs).nd⟩, B.nd, B.na⟩
  · rw [upd_ne (fun z => hf (by rw [← z]; exact List.mem_cons_self ..))]
    exact B.dc
  · rw [upd_ne (fun z => hf (by rw [← z]; exact List.mem_cons_of_mem _ (List.mem_map.mpr ⟨s, hs, rfl⟩)))]
    exact (B.sh s hs).dc
theorem ShopAt.swap {K : PySem.W.Frag} {C : Addr} {A : List Addr} {H : Hp} {p D d : Addr} {o' : HO} {st : List Shelf} (S : ShopAt K C A H p D st) (hd : ∀ o, H d = some o → isSeqO o = false) (hp : d ≠ p) (hf : d ∉ foot D st) : ShopAt K C A (upd H d o') p D st := by
  obtain ⟨dx, e⟩ := S.ob
  exact ⟨⟨dx, by rw [upd_ne hp.symm]; exact e⟩, S.bx.swap hd hf, S.ne⟩
theorem Kp.both {T d : Addr} {H H' : Hp} {o : HO} (k : Kp T H H') (n : d ≠ T) : Kp T (L2.upd H d o) (L2.upd H' d o) := by
  refine ⟨tab_upd k.t0 n, tab_upd k.tab n, fun b u hb e => ?_⟩
  by_cases h : b = d
  · rw [h, upd_same] at e
    rw [h, upd_same]
    exact e
  · rw [upd_ne h] at e
    rw [upd_ne h]
    exact k.keep b u hb e
theorem cell_rd {K : PySem.W.Frag} {A : List Addr} {H : Hp} {D : Addr} {st : List Shelf} (B : BoxR K A H D st) (w : Str) : DGet H D (.str w) ((look st w).map fun s => V.ref s.at_) := .inl ⟨_, Sum.inr w, B.dc, rfl, (look_val w st).symm⟩
theorem ent_rd {K : PySem.W.Frag} {A : List Addr} {H : Hp} {D : Addr} {st : List Shelf} {s : Shelf} (B : BoxR K A H D st) (hs : s ∈ st) (m : Int) : DGet H s.at_ (.int m) ((lookE s.ents m).map fun e => V.ref e.2.1) := .inl ⟨_, Sum.inl m, B.sc s hs, rfl, (lookE_val m s.ents).symm⟩
theorem new_foot {H : Hp} {x dx D : Addr} {C : Addr} (nD : (upd (upd H dx (.own x)) x (.ins C dx [])) D = none) : H D = none := by
  have z := nD
  have z2 : D ≠ x := fun e => by rw [e, upd_same] at z; cases z
  rw [upd_ne z2] at z
  have z3 : D ≠ dx := fun e => by rw [e, upd_same] at z; cases z
  rw [upd_ne z3] at z
  exact z
section
variable {K : PySem.W.Frag} {mg : Str → Option Value}
/-! ### a put that is not refused -/
theorem put_ok {C T BW BM BN TW FU p D a : Addr} {A : List Addr} {H : Hp} {st : List Shelf} {x : Str} {m : Int} {xs : List V} {ds : List PyData} {Q : VK} {E : XK} (S : ShopAt K C A H p D st) (hx : GoodN x) (hm : makeB (.int m) = true) (hl : SqL K H a xs) (hds : DpAll K (hide A H) xs ds) (hnd : ∀ d ∈ ds, ND d)
    (may : mayB x (.list ds) = true) (ht : GxR.TabG H T) (h100 : st.length ≤ 100) (hA : ∀ y ∈ A, H y ≠ none) (hh : hasB st (.str x) (.int m) = false) (hp : placeB st x = true)
    (q : ∀ H' st', ShopAt K C A H' p D st' → (∀ v, dataOf st' v = if v = x then dataOf st x ++ [(m, ds)] else dataOf st v) → Kx T (foot D st) H H' → (∀ f ∈ foot D st', f ∈ foot D st ∨ H f = none) → Q .non H') :
    spPut K C T BW BM BN TW FU [.ref p, .str x, .int m, .ref a] H Q E := by
  have h6 := mayB_len may
  refine ⟨A, p, D, st, _, _, _, .str x, .int m, .list ds, rfl, S, .str x, hx.2, .int m, .lst hl (DqAll.of (dpAll_show hds)), okL_list (fun d hd => ND.okT (hnd d hd)) (by omega), ht, hA, h100, fun z => ?_, fun _ z => ?_, fun y e _ _ z => ?_, fun _ _ _ _ _ z => ?_, fun _ e _ _ _ _ z => ?_, fun x' m' e1 e2 _ _ _ _ _ => ?_⟩
  · rw [hx.1] at z; cases z
  · rw [hm] at z; cases z
  · cases e; rw [may] at z; cases z
  · rw [hh] at z; cases z
  · cases e; rw [hp] at z; cases z
  · cases e1; cases e2
    exact ⟨a, xs, ds, rfl, rfl, hl, hds, q⟩
theorem put_readN {C T BW BM BN TW FU p D : Addr} {A : List Addr} {H : Hp} {st : List Shelf} {x : Str} {m : Int} {ds : List PyData} {σ : L2.St} {Q : VK} {ta tb tc : TE} (S : ShopAt K C A H p D st) (hx : GoodN x) (hm : makeB (.int m) = true) (hnd : ∀ d ∈ ds, ND d) (may : mayB x (.list ds) = true) (ht : GxR.TabG H T) (h100 : st.length ≤ 100)
    (hA : ∀ y ∈ A, H y ≠ none) (hh : hasB st (.str x) (.int m) = false) (hp : placeB st x = true) {i : Nat} (hi : σ[i]? = some (some (.ref p))) (ha : ∀ Q : VK, Q (.str x) H → ta σ H Q) (hb : ∀ Q : VK, Q (.int m) H → tb σ H Q)
    (hc : ∀ Q : VK, (∀ a xs H1, Kp T H H1 → SqL K H1 a xs → DpAll K (hide A H1) xs ds → Q (.ref a) H1) → tc σ H Q)
    (q : ∀ H' st', ShopAt K C A H' p D st' → (∀ v, dataOf st' v = if v = x then dataOf st x ++ [(m, ds)] else dataOf st v) → Kx T (foot D st) H H' → (∀ f ∈ foot D st', f ∈ foot D st ∨ H f = none) → Q .non H') :
    tMeth C "put" (spPut K C T BW BM BN TW FU) [] E0 (tVar i) (tCons ta (tCons tb (tCons tc tNil))) σ H Q := by
  obtain ⟨dx, o⟩ := S.ob
  refine ⟨_, hi, p, dx, _, rfl, o, flS_no D (by decide +kernel), ha _ (hb _ (hc _ fun a xs H1 k1 hl hds => ?_))⟩
  exact put_ok (S.keptP k1) hx hm hl hds hnd may k1.tab h100 (fun y hy => k1.dom (hA y hy)) hh hp fun H' st' S' d' k' f' => q H' st' S' d' ((Kx.of k1).trans k') fun f hf => by
    rcases f' f hf with z | z
    · exact .inl z
    · exact .inr (k1.free z)
end
end Pk

set_option Elab.async false
set_option linter.all false
set_option maxRecDepth 100000
set_option maxHeartbeats 4000000
namespace Pk
open PySem PySem.Spec PyProof.Rows L2
section
variable {P : Program} {w : World} {K : PySem.W.Frag} {mg : Str → Option Value} {base : Heap}
def lShopN : List Str := ["_law_rows_here", "_law_shop_here", "_law_ware", "_law_make"]
theorem scLShop : FnScope lShopN ["_law_rows_here"] (defScope sLShop) := ⟨rfl, rfl, rfl, by decide +kernel, rfl, by decide +kernel, by decide +kernel⟩
def spLShop (K : PySem.W.Frag) (C T : Addr) : Sp := fun vs H Q _ => ∃ (A : List Addr) (r : Addr) (cl : List Shelf) (mm : Nat), vs = [.ref r] ∧ BoxOk K A H r cl ∧ RowsG mm cl ∧ mm ≤ 8 ∧ (∀ y ∈ A, H y ≠ none) ∧ GxR.TabG H T ∧
  ∀ p D st H', Kp T H H' → ShopAt K C A H' p D st → (∀ v, dataOf st v = dataOf cl v) → (∀ f ∈ foot D st, H f = none) → H p = none → Q (.ref p) H'
/-- what of the rows is in the shop yet: n rows, and of the next one k makes -/
def PartD (cl : List Shelf) (n k : Nat) (v : Str) : List (Int × List PyData) := dataOf (cl.take n) v ++ ((cl[n]?.map fun s => if s.ware = v then (s.ents.map entD).take k else []).getD [])
theorem data_take {cl : List Shelf} (nd : (cl.map (·.ware)).Nodup) {n : Nat} {s : Shelf} (h : cl[n]? = some s) (v : Str) : dataOf (cl.take (n + 1)) v = dataOf (cl.take n) v ++ (if s.ware = v then s.ents.map entD else []) := by
  have e : cl.take (n + 1) = cl.take n ++ [s] := by rw [List.take_succ, h]; rfl
  have fresh : ∀ t ∈ cl.take n, t.ware ≠ s.ware := fun t ht z => by
    have h2 : ((cl.take n ++ [s]).map (·.ware)).Nodup := by rw [← e]; exact List.Sublist.nodup (List.Sublist.map _ (List.take_sublist _ _)) nd
    rw [List.map_append, List.nodup_append] at h2
    exact h2.2.2 _ (List.mem_map.mpr ⟨t, ht, rfl⟩) _ (List.mem_singleton.mpr rfl) z
  rw [e]
  unfold dataOf look
  rw [List.find?_append]
  by_cases hv : s.ware = v
  · have e0 : (cl.take n).find? (fun t => decide (t.ware = v)) = none := by
      rw [List.find?_eq_none]
      intro t ht z
      exact fresh t ht (by rw [hv]; exact of_decide_eq_true z)
    rw [e0, if_pos hv, Option.none_or, List.find?_cons_of_pos (by exact decide_eq_true hv)]
    rfl
  · rw [if_neg hv, List.append_nil, List.find?_cons_of_neg (by rw [decide_eq_true_iff]; exact hv), List.find?_nil, Option.or_none]
theorem PartD_zero (cl : List Shelf) (n : Nat) (v : Str) : PartD cl n 0 v = dataOf (cl.take n) v := by
  unfold PartD
  cases cl[n]? with
  | none => exact List.append_nil _
  | some s =>
    show _ ++ (if s.ware = v then [] else []) = _
    by_cases h : s.ware = v
    · rw [if_pos h, List.append_nil]
    · rw [if_neg h, List.append_nil]
theorem PartD_full {cl : List Shelf} (nd : (cl.map (·.ware)).Nodup) {n : Nat} {s : Shelf} (h : cl[n]? = some s) (v : Str) : PartD cl n s.ents.length v = PartD cl (n + 1) 0 v := by
  rw [PartD_zero, data_take nd h]
  unfold PartD
  rw [h]
  show _ ++ (if s.ware = v then (s.ents.map entD).take s.ents.length else []) = _
  have e : (s.ents.map entD).take s.ents.length = s.ents.map entD := List.take_of_length_le (by rw [List.length_map]; exact Nat.le_refl _)
  rw [e]
theorem PartD_step {cl : List Shelf} {n k : Nat} {s : Shelf} (h : cl[n]? = some s) {e : Int × Addr × List PyData} (he : s.ents[k]? = some e) (v : Str) : PartD cl n (k + 1) v = if v = s.ware then PartD cl n k s.ware ++ [(e.1, e.2.2)] else PartD cl n k v := by
  unfold PartD
  rw [h]
  show _ ++ (if s.ware = v then (s.ents.map entD).take (k + 1) else []) = if v = s.ware then (_ ++ (if s.ware = s.ware then (s.ents.map entD).take k else [])) ++ _ else _ ++ (if s.ware = v then (s.ents.map entD).take k else [])
  by_cases hv : v = s.ware
  · rw [if_pos hv, if_pos hv.symm, if_pos rfl, hv, List.append_assoc]
    congr 1
    rw [List.take_succ, List.getElem?_map, he]
    rfl
  · rw [if_neg hv, if_neg (fun z => hv z.symm), if_neg (fun z => hv z.symm)]
theorem data_fresh {cl : List Shelf} (nd : (cl.map (·.ware)).Nodup) {n : Nat} {s : Shelf} (h : cl[n]? = some s) : dataOf (cl.take n) s.ware = [] := by
  unfold dataOf
  cases e : look (cl.take n) s.ware with
  | none => rfl
  | some t =>
    obtain ⟨h1, h2⟩ := look_mem e
    obtain ⟨j, hj⟩ := List.mem_iff_getElem?.mp h1
    have hjn : j < n := by
      have := (List.getElem?_eq_some_iff.mp hj).1
      rw [List.length_take] at this
      omega
    rw [List.getElem?_take, if_pos hjn] at hj
    have e1 : (cl.map (·.ware))[j]? = some s.ware := by rw [List.getElem?_map, hj, ← h2]; rfl
    have e2 : (cl.map (·.ware))[n]? = some s.ware := by rw [List.getElem?_map, h]; rfl
    exact absurd (nd_idx nd e1 e2) (by omega)
/-- wares with makes are wares of the rows -/
theorem part_len {st cl : List Shelf} {n k : Nat} (nd : (st.map (·.ware)).Nodup) (ne : ∀ s ∈ st, s.ents ≠ []) (h : ∀ v, dataOf st v = PartD cl n k v) : ∀ s ∈ st, s.ware ∈ (cl.take (n + 1)).map (·.ware) := fun s hs => by
  have z := data_ne nd hs (ne s hs)
  rw [h] at z
  unfold PartD at z
  by_cases h1 : dataOf (cl.take n) s.ware = []
  · rw [h1, List.nil_append] at z
    cases e : cl[n]? with
    | none => rw [e] at z; exact absurd rfl z
    | some t =>
      rw [e] at z
      have z : (if t.ware = s.ware then (t.ents.map entD).take k else []) ≠ [] := z
      by_cases h2 : t.ware = s.ware
      · rw [List.take_succ, e, List.map_append]
        exact List.mem_append_right _ (List.mem_singleton.mpr h2.symm)
      · rw [if_neg h2] at z; exact absurd rfl z
  · obtain ⟨t, ht⟩ := look_cons h1
    obtain ⟨g1, g2⟩ := look_mem ht
    exact List.mem_map.mpr ⟨t, (List.take_sublist_take_left (Nat.le_succ n)).subset g1, g2⟩
theorem ok_lshop {f C T fI fP BW BM BN TW FU : Addr} {fd fdI fdP : FuncData} (F : Fun K "_law_shop" "_law_shop" sLShop f fd) (X : ShopT K mg C) (gC_Shop : mg "Shop" = some (.ref C)) (M_Shop : Mk K C fI)
    (GI : FnOk P w K mg base CX0 1 fI fdI ["self"] (spInit C)) (bI : Binds K fdI ["self"] [])
    (GP : FnOk P w K mg base (L2N.CX P w) 5 fP fdP ["self", "ware", "make", "needs"] (spPut K C T BW BM BN TW FU)) (bP : Binds K fdP ["self", "ware", "make", "needs"] []) (mP : Meth K C "put" fP)
    (y_list : mg "list" = none) : FnOk P w K mg base CX0 6 f fd ["_law_rows_here"] (spLShop K C T) := by
  refine F.ok scLShop (fun vs H Q E h => ?_) (fun cdv A0 outer s H vs Q E hr h => ?_)
  · obtain ⟨A, r, cl, mm, rfl, _⟩ := h
    rfl
  · obtain ⟨A, r, cl, mm, rfl, B, G, hmm, hA, ht, fin⟩ := h
    have hu := hu_of hr
    refine ⟨_, (pss_cons (ps_set (i := 1) scLShop.nd rfl (by first | exact .inl rfl | exact .inr rfl) (pe_make0 M_Shop GI (hr.mono (by decide)) (by rfl) gC_Shop bI .nil pass0))
      (pss_cons (ps_lock (ps_for PassesOwn.never rfl (pi_keys (pv 0)) (pg_name (i := 2) scLShop.nd rfl (by first | exact .inl rfl | exact .inr rfl)) (pss_one (ps_lock (ps_for PassesOwn.never rfl (pi_keys (pe_dget hu (pv 0) (pv 2) (fun _ _ => rfl))) (pg_name (i := 3) scLShop.nd rfl (by first | exact .inl rfl | exact .inr rfl)) (pss_one (ps_expr (pe_meth (E := E0) (pv 1) X.cl mP GP (hr.mono (by decide)) bP .nil passN (pa_cons (pv 2) (pa_cons (pv 3) (pa_cons (pe_callTy call_list_of (by rfl) y_list boot_list (pa_cons (pe_dget hu (pe_dget hu (pv 0) (pv 2) (fun _ _ => rfl)) (pv 3) (fun _ _ => rfl)) pa_nil)) pa_nil)))))))))))
      (pss_one (ps_ret (pv 1))))), ?_⟩
    have h12 := G.len
    refine fun x0 dx0 nx0 ndx0 ne0 => ⟨x0, dx0, rfl, upd_same, fun D nD => ⟨rfl, ?_⟩⟩
    obtain ⟨k1, S0, _⟩ := new_shop (K := K) ht nx0 ndx0 ne0 nD
    have nDH := new_foot nD
    have S1 := S0 A
    generalize upd (upd (upd (upd H dx0 (.own x0)) x0 (.ins C dx0 [])) D (.dK [])) x0 (.ins C dx0 (flS D)) = H1 at k1 S1 ⊢
    clear S0 nD
    have B1 := B.keptP k1
    have rT := B.foot_ne ht r (List.mem_cons_self ..)
    have rx : r ≠ x0 := fun z => by have := B.dc; rw [z, nx0] at this; cases this
    have rD : r ≠ D := fun z => by have := B.dc; rw [z, nDH] at this; cases this
    refine ⟨r, _, B1.dc, True.intro, fun od => ?_⟩
    have kb : Kp T (upd H r (.frz od (.dK (cl.map keyW)))) (upd H1 r (.frz od (.dK (cl.map keyW)))) := Kp.both k1 rT
    have S2 := S1.swap (o' := .frz od (.dK (cl.map keyW))) (fun o z => by rw [B1.dc] at z; cases z; rfl) rx (fun z => by rw [List.mem_singleton.mp z] at rD; exact rD rfl)
    have eb : upd H r (.frz od (.dK (cl.map keyW))) r = some (.frz od (.dK (cl.map keyW))) := upd_same
    have BR := (BoxR.of B).lock (od := od) B.dc
    have un : ∀ H', Kp T (upd H r (.frz od (.dK (cl.map keyW)))) H' → Kp T H (upd H' r (.dK (cl.map keyW))) := fun H' k => unlockP ht B.dc rT k
    have fr0 : ∀ f, H f = none → upd H r (.frz od (.dK (cl.map keyW))) f = none := fun f hf => by
      rw [upd_ne (fun z => by rw [z, B.dc] at hf; cases hf)]
      exact hf
    have frb : ∀ f, upd H r (.frz od (.dK (cl.map keyW))) f = none → H f = none := fun f hf => by
      rw [upd_ne (fun z => by rw [z, upd_same] at hf; cases hf)] at hf
      exact hf
    have dcb : ∀ s ∈ cl, upd H r (.frz od (.dK (cl.map keyW))) s.at_ = some (.dK (s.ents.map entK)) := fun s hs => by
      have na := B.na
      rw [List.nodup_cons] at na
      rw [upd_ne (fun z => na.1 (by rw [← z]; exact List.mem_map.mpr ⟨s, hs, rfl⟩))]
      exact (B.sh s hs).dc
    have hAb : ∀ y ∈ A, upd H r (.frz od (.dK (cl.map keyW))) y ≠ none := fun y hy => by
      by_cases z : y = r
      · rw [z, upd_same]; exact fun z => by cases z
      · rw [upd_ne z]; exact hA y hy
    generalize upd H r (.frz od (.dK (cl.map keyW))) = HB at kb eb BR un fr0 frb dcb hAb ⊢
    generalize upd H1 r (.frz od (.dK (cl.map keyW))) = H2 at kb S2 ⊢
    have d0 : ∀ v, dataOf [] v = PartD cl 0 0 v := fun v => by rw [PartD_zero] <;> rfl
    refine ⟨_, rfl, r, od, rfl, .inl ⟨_, kb.keep _ _ rT eb, for_it walk_keys (fun i σ' H' => ∃ (x2 x3 : Option V) (st : List Shelf), σ' = [some (.ref r), some (.ref x0), x2, x3] ∧ Kp T HB H' ∧ ShopAt K C A H' x0 D st ∧ (∀ v, dataOf st v = PartD cl i 0 v) ∧ ∀ f ∈ foot D st, H f = none)
      ⟨none, none, [], rfl, kb, S2, d0, fun f hf => by rw [List.mem_singleton.mp hf]; exact nDH⟩ (fun i σ' H' _ ⟨_, _, _, _, kk, _⟩ => kk.keep _ _ rT eb) ?_ ?_⟩⟩
    · rintro i v σ' H3 H3' hi ⟨x2, x3, st, rfl, k3, S3, d3, f3⟩ ⟨rfl, kk0, vv, hk, rfl⟩
      have hil : i < cl.length := by rw [List.length_map] at hi; exact hi
      rw [List.getElem?_map, List.getElem?_eq_getElem hil] at hk
      have hk := Option.some.inj hk
      have ek : kk0 = Sum.inr cl[i].ware := (congrArg Prod.fst hk).symm
      subst ek
      have hs := List.getElem_mem hil
      have es : cl[i]? = some cl[i] := List.getElem?_eq_getElem hil
      generalize cl[i] = s at hk hs es ⊢
      show tLock _ _ _ _
      have sT := B.foot_ne ht s.at_ (List.mem_cons_of_mem _ (List.mem_map.mpr ⟨s, hs, rfl⟩))
      have lk : look cl s.ware = some s := look_of B.nd hs rfl
      have ed := k3.keep _ _ sT (dcb s hs)
      refine ⟨s.at_, _, ed, True.intro, fun od2 => ?_⟩
      have sH : H s.at_ ≠ none := by rw [(B.sh s hs).dc]; exact fun z => by cases z
      have sx : s.at_ ≠ x0 := fun z => sH (by rw [z]; exact nx0)
      have S4 := S3.swap (o' := .frz od2 (.dK (s.ents.map entK))) (fun o z => by rw [ed] at z; cases z; rfl) sx (fun z => sH (f3 _ z))
      have kb2 : Kp T (upd HB s.at_ (.frz od2 (.dK (s.ents.map entK)))) (upd H3' s.at_ (.frz od2 (.dK (s.ents.map entK)))) := Kp.both k3 sT
      have eb2 : upd HB s.at_ (.frz od2 (.dK (s.ents.map entK))) s.at_ = some (.frz od2 (.dK (s.ents.map entK))) := upd_same
      have BR2 := BR.lock (od := od2) (dcb s hs)
      have un2 : ∀ H', Kp T (upd HB s.at_ (.frz od2 (.dK (s.ents.map entK)))) H' → Kp T HB (upd H' s.at_ (.dK (s.ents.map entK))) := fun H' k => unlockP k3.t0 (dcb s hs) sT k
      have fr2 : ∀ f, H f = none → upd HB s.at_ (.frz od2 (.dK (s.ents.map entK))) f = none := fun f hf => by
        rw [upd_ne (fun z => sH (by rw [← z]; exact hf))]
        exact fr0 f hf
      have frb2 : ∀ f, upd HB s.at_ (.frz od2 (.dK (s.ents.map entK))) f = none → H f = none := fun f hf => by
        rw [upd_ne (fun z => by rw [z, upd_same] at hf; cases hf)] at hf
        exact frb f hf
      have hA2 : ∀ y ∈ A, upd HB s.at_ (.frz od2 (.dK (s.ents.map entK))) y ≠ none := fun y hy => by
        by_cases z : y = s.at_
        · rw [z, upd_same]; exact fun z => by cases z
        · rw [upd_ne z]; exact hAb y hy
      generalize upd HB s.at_ (.frz od2 (.dK (s.ents.map entK))) = HB2 at kb2 eb2 BR2 un2 fr2 frb2 hA2 ⊢
      generalize upd H3' s.at_ (.frz od2 (.dK (s.ents.map entK))) = H4 at kb2 S4 ⊢
      have gw := G.w s hs
      have c1 := cell_rd (BR2.keptP kb2) s.ware
      rw [lk] at c1
      refine ⟨_, rfl, _, rfl, r, _, rfl, c1, s.at_, od2, rfl, .inl ⟨_, kb2.keep _ _ sT eb2, for_it walk_keys (fun j σ' H' => ∃ (x3 : Option V) (st : List Shelf), σ' = [some (.ref r), some (.ref x0), some (.str s.ware), x3] ∧ Kp T HB2 H' ∧ ShopAt K C A H' x0 D st ∧ (∀ v, dataOf st v = PartD cl i j v) ∧ ∀ f ∈ foot D st, H f = none)
        ⟨x3, st, rfl, kb2, S4, d3, f3⟩ (fun j σ' H' _ ⟨_, _, _, kk, _⟩ => kk.keep _ _ sT eb2) ?_ ?_⟩⟩
      · rintro j v σ' H5 H5' hj ⟨x3, st, rfl, k5, S5, d5, f5⟩ ⟨rfl, kk1, vv, hk2, rfl⟩
        have hjl : j < s.ents.length := by rw [List.length_map] at hj; exact hj
        rw [List.getElem?_map, List.getElem?_eq_getElem hjl] at hk2
        have hk2 := Option.some.inj hk2
        have ek2 : kk1 = Sum.inl s.ents[j].1 := (congrArg Prod.fst hk2).symm
        subst ek2
        have he := List.getElem_mem hjl
        have ee : s.ents[j]? = some s.ents[j] := List.getElem?_eq_getElem hjl
        generalize s.ents[j] = e at hk2 he ee ⊢
        have gm := G.mki s hs e he
        have B5 := BR2.keptP k5
        have c2 := cell_rd B5 s.ware
        rw [lk] at c2
        have c3 := ent_rd B5 hs e.1
        rw [lookE_of (B.sh s hs).nd he] at c3
        have hd := B5.dp s hs e he
        -- not there yet
        have dcur : dataOf st s.ware = (s.ents.map entD).take j := by
          rw [d5]
          unfold PartD
          rw [es, data_fresh B.nd es]
          show (if s.ware = s.ware then _ else []) = _
          rw [if_pos rfl]
        have hnot : e.1 ∉ (dataOf st s.ware).map (·.1) := by
          rw [dcur, ← List.map_take, List.map_map]
          intro z
          obtain ⟨x, hx, ex⟩ := List.mem_map.mp z
          obtain ⟨t, ht2⟩ := List.mem_iff_getElem?.mp hx
          have htj : t < j := by
            have := (List.getElem?_eq_some_iff.mp ht2).1
            rw [List.length_take] at this
            omega
          rw [List.getElem?_take, if_pos htj] at ht2
          have e1 : (s.ents.map (·.1))[t]? = some e.1 := by rw [List.getElem?_map, ht2, ← ex]; rfl
          have e2 : (s.ents.map (·.1))[j]? = some e.1 := by rw [List.getElem?_map, ee]; rfl
          exact absurd (nd_idx (B.sh s hs).nd e1 e2) (by omega)
        have hwin := part_len S5.bx.nd S5.ne d5
        have hsl : st.length ≤ i + 1 := by
          have z := sub_len S5.bx.nd (fun y hy => by obtain ⟨t, ht2, rfl⟩ := List.mem_map.mp hy; exact hwin t ht2)
          rw [List.length_map, List.length_map, List.length_take] at z
          omega
        have hplace : placeB st s.ware = true := by
          unfold placeB
          cases el : look st s.ware with
          | some s' =>
            have z := look_data el
            rw [dcur] at z
            have z2 := congrArg List.length z
            rw [List.length_map, List.length_take, List.length_map] at z2
            have := G.el s hs
            exact decide_eq_true (by omega)
          | none =>
            refine decide_eq_true ?_
            have sub : ∀ y ∈ s.ware :: st.map (·.ware), y ∈ (cl.take (i + 1)).map (·.ware) := fun y hy => by
              rcases List.mem_cons.mp hy with rfl | hy
              · rw [List.take_succ, es, List.map_append]
                exact List.mem_append_right _ (List.mem_singleton.mpr rfl)
              · obtain ⟨t, ht2, rfl⟩ := List.mem_map.mp hy
                exact hwin t ht2
            have nn : (s.ware :: st.map (·.ware)).Nodup := List.nodup_cons.mpr ⟨fun z => by
              obtain ⟨t, ht2, e2⟩ := List.mem_map.mp z
              exact look_none el t ht2 e2, S5.bx.nd⟩
            have z := sub_len nn sub
            rw [List.length_cons, List.length_map, List.length_map, List.length_take] at z
            omega
        refine put_readN (A := A) (st := st) (x := s.ware) (m := e.1) (ds := e.2.2) (i := 1) S5 gw gm.b (G.nd s hs e he) (G.may s hs e he) k5.tab (by omega) (fun y hy => k5.dom (hA2 y hy)) (by rw [hasB_keys, decide_eq_false hnot, Bool.and_false]) hplace rfl (fun Q z => ⟨_, rfl, z⟩) (fun Q z => ⟨_, rfl, z⟩) (fun Q z => ?_) fun H6 st6 S6 d6 k6 f6 => ?_
        · cases hd with
          | @lst _ xs _ hA1 hA2 =>
            refine ⟨_, rfl, _, rfl, r, _, rfl, c2, _, rfl, s.at_, _, rfl, c3, _, xs, rfl, .inl (seq_show hA1), fun l nl => ?_⟩
            have kl := Kp.new (o := HO.lst xs) k5.tab nl
            refine z l xs _ kl (.inl (.inl upd_same)) (dpAll_kx (F := []) (.of kl) (fun f hf => by cases hf) hA2)
        · have f6H : ∀ f ∈ foot D st6, H f = none := fun f hf => by
            rcases f6 f hf with z | z
            · exact f5 f z
            · exact frb2 f (k5.free z)
          refine ⟨_, st6, rfl, Kx.dropNews (fun f hf => fr2 f (f5 f hf)) k5 k6, S6, fun v => ?_, f6H⟩
          rw [d6, PartD_step es ee, d5, d5]
      · rintro σ' H5 ⟨x3, st, rfl, k5, S5, d5, f5⟩
        have e5 := k5.keep _ _ sT eb2
        refine ⟨e5, _, _, st, rfl, un2 H5 k5, S5.swap (fun o z => by rw [e5] at z; cases z; rfl) sx (fun z => sH (f5 _ z)), fun v => ?_, f5⟩
        rw [d5, List.length_map]
        exact PartD_full B.nd es v
    · rintro σ' H3 ⟨x2, x3, st, rfl, k3, S3, d3, f3⟩
      have e3 := k3.keep _ _ rT eb
      refine ⟨e3, _, rfl, fin x0 D st _ (un H3 k3) (S3.swap (fun o z => by rw [e3] at z; cases z; rfl) rx (fun z => by have := f3 _ z; rw [B.dc] at this; cases this)) (fun v => ?_) f3 nx0⟩
      rw [d3, List.length_map, PartD_zero, List.take_of_length_le (Nat.le_refl _)]
end
end Pk

set_option Elab.async false
set_option linter.all false
set_option maxRecDepth 100000
set_option maxHeartbeats 4000000
namespace Pk
open PySem PySem.Spec PyProof.Rows L2
theorem seq0_ix {n : Nat} (h : 0 < n) : seqIndex? 0 n = some 0 := by
  unfold seqIndex?
  simp [h]
def lenAt (σ : L2.St) (i : Nat) (H : Hp) : Nat := match σ[i]? with
  | some (some (V.ref b)) => (match H b with | some (.lst xs) => xs.length | _ => 0)
  | _ => 0
theorem lenAt_of {σ : L2.St} {i : Nat} {H : Hp} {b : Addr} {xs : List V} (h : σ[i]? = some (some (.ref b))) (e : H b = some (.lst xs)) : lenAt σ i H = xs.length := by
  unfold lenAt
  rw [h]
  show (match H b with | some (.lst xs) => xs.length | _ => 0) = _
  rw [e]
theorem shaped_strs {l : List Str} (h : ∀ y ∈ l, GoodN y) : SeqAt.shaped (.list (l.map PyData.str)) = true := (shaped_flat fun d hd => by
  obtain ⟨y, hy, rfl⟩ := List.mem_map.mp hd
  exact ⟨okS_ok (h y hy).2, rfl⟩).1
theorem eqv_strs : ∀ a b : List Str, PyData.eqv (.list (a.map .str)) (.list (b.map .str)) = decide (a = b)
  | [], [] => rfl
  | [], _ :: _ => rfl
  | _ :: _, [] => rfl
  | x :: r, y :: t => by
    have ih := eqv_strs r t
    have e1 : PyData.eqv (.list ((x :: r).map .str)) (.list ((y :: t).map .str)) = (PyData.eqv (.str x) (.str y) && PyData.eqv (.list (r.map .str)) (.list (t.map .str))) := rfl
    have e2 : PyData.eqv (.str x) (.str y) = (x == y) := rfl
    rw [e1, e2, ih]
    by_cases h1 : x = y
    · by_cases h2 : r = t
      · rw [h1, h2, beq_self_eq_true, decide_eq_true rfl, decide_eq_true rfl] <;> rfl
      · rw [h1, decide_eq_false h2, decide_eq_false (fun z => h2 (List.cons.inj z).2), Bool.and_false]
    · rw [beq_false_of_ne h1, decide_eq_false (fun z => h1 (List.cons.inj z).1)] <;> rfl
/-- the needs of a make that the rows have -/
theorem row_need {cl : List Shelf} {y : Str} {m : Int} (h : m ∈ (dataOf cl y).map (·.1)) : ∃ s e, look cl y = some s ∧ lookE s.ents m = some e ∧ needsD (dataOf cl) y m = e.2.2 := by
  obtain ⟨x, hx, rfl⟩ := List.mem_map.mp h
  obtain ⟨s, hs⟩ := look_cons (fun z => by rw [z] at hx; cases hx)
  have e0 := look_data hs
  rw [e0] at hx
  obtain ⟨e, he, rfl⟩ := List.mem_map.mp hx
  cases el : lookE s.ents e.1 with
  | none => exact absurd rfl (lookE_none el e he)
  | some e' =>
    refine ⟨s, e', hs, el, ?_⟩
    unfold needsD
    rw [e0]
    show ((findD (s.ents.map entD) e.1).map (·.2)).getD [] = _
    rw [findD_ents, el]
    rfl
section
variable {P : Program} {w : World} {K : PySem.W.Frag} {mg : Str → Option Value} {base : Heap}
def lAgN : List Str := ["_law_rows_here", "_law_wish_here", nPick, "_law_found", "_law_waiting", "_law_ware", "_law_need"]
theorem scLAg : FnScope lAgN ["_law_rows_here", "_law_wish_here", nPick] (defScope sLAg) := ⟨rfl, rfl, rfl, by decide +kernel, rfl, by decide +kernel, by decide +kernel⟩
def spLAg (K : PySem.W.Frag) (T : Addr) : Sp := fun vs H Q _ => ∃ (A : List Addr) (r q a : Addr) (cl : List Shelf) (xs : List V) (ds : List PyData) (pk : List (Str × Int)), vs = [.ref r, .ref q, .ref a] ∧ BoxR K A H r cl ∧ GoodSh (dataOf cl) ∧ SqL K H q xs ∧ DpAll K H xs ds ∧ (∀ d ∈ ds, ND d) ∧ ds.length ≤ 8 ∧
  Rd H a (.dK (pkD pk)) ∧ PickOk (dataOf cl) pk ∧ GxR.TabG H T ∧ ∀ out l H', AgOf (needW (dataOf cl) pk) (addW [] (ds.map wOf)) 0 out → (∀ y ∈ out, GoodN y) → out.Nodup → out.length ≤ 700 → Kp T H H' → H l = none → H' l = some (.lst (out.map V.str)) → Q (.ref l) H'
theorem ok_lag {f T : Addr} {fd : FuncData} (F : Fun K "_law_agenda" "_law_agenda" sLAg f fd) : FnOk P w K mg base CX0 1 f fd ["_law_rows_here", "_law_wish_here", nPick] (spLAg K T) := by
  refine F.ok scLAg (fun vs H Q E h => ?_) (fun cdv A0 outer s H vs Q E hr h => ?_)
  · obtain ⟨A, r, q, a, cl, xs, ds, pk, rfl, _⟩ := h
    rfl
  · obtain ⟨A, r, q, a, cl, xs, ds, pk, rfl, B, G, hq, hds, hnd, h8, ha, O, ht, fin⟩ := h
    have hu := hu_of hr
    refine ⟨_, (pss_cons (ps_set (i := 3) scLAg.nd rfl (by first | exact .inl rfl | exact .inr rfl) (pe_lst pa_nil))
      (pss_cons (ps_setLc (i := 4) (own := [("_law_need", 6)]) (g := (gName 6)) (tt := tYes) rfl scLAg.nd rfl rfl (sw_true rfl rfl rfl (by decide +kernel)) (pi_list (pv 1)) (blkOk_by (own := [("_law_need", 6)]) (N := lAgN) (sc := defScope sLAg) (by decide +kernel)) (fun _ _ _ _ _ => (pg_name (i := 6) scLAg.nd rfl (by first | exact Or.inl rfl | exact Or.inr rfl))) (fun _ _ _ _ _ => pts_nil) (fun _ _ _ _ _ => (pe_ix (r := rIxT K) ix_tup (pv 6) pe_int (fun _ _ => rfl))))
      (pss_cons (ps_while PassesOwn.never (pt_cmpR (op_neD hr.units) (pv 4) (pe_lst pa_nil) (nomark _)) (pss_cons (ps_set (i := 5) scLAg.nd rfl (by first | exact .inl rfl | exact .inr rfl) (pe_bm PySem.F.plainAttrs_list PySem.F.slot_list_pop PySem.F.type_list_pop mt_popAt (pv 4) (pa_cons pe_int pa_nil)))
      (pss_one (ps_if (pt_cmpR op_notIn_seq (pv 5) (pv 3) (by rfl)) (pss_cons (ps_expr (pe_bm PySem.F.plainAttrs_list PySem.F.slot_list_append PySem.F.type_list_append mt_append (pv 3) (pa_cons (pv 5) pa_nil)))
      (pss_one (ps_if (pt_cmp (pc_din hu (pv 5) (pv 2))) (pss_one (ps_set (i := 4) scLAg.nd rfl (by first | exact .inl rfl | exact .inr rfl) (pe_op op_cat (pv 4) (pe_lc (own := [("_law_need", 6)]) (g := (gName 6)) (tt := tYes) rfl scLAg.nd (pi_list (pe_dget hu (pe_dget hu (pv 0) (pv 5) (fun _ _ => rfl)) (pe_dget hu (pv 2) (pv 5) (fun _ _ => rfl)) (fun _ _ => rfl))) (blkOk_by (own := [("_law_need", 6)]) (N := lAgN) (sc := defScope sLAg) (by decide +kernel)) (fun _ _ _ _ _ => (pg_name (i := 6) scLAg.nd rfl (by first | exact Or.inl rfl | exact Or.inr rfl))) (fun _ _ _ _ _ => pts_nil) (fun _ _ _ _ _ => (pe_ix (r := rIxT K) ix_tup (pv 6) pe_int (fun _ _ => rfl))))))) pss_nil))) pss_nil))))
      (pss_one (ps_ret (pv 3)))))), ?_⟩
    refine ⟨(by show (0 : Nat) ≤ sizeLine; decide), fun L nL => ?_⟩
    have k1 := Kp.new (o := HO.lst []) ht nL
    have LT := tab_nn ht nL
    have eL1 : upd H L (.lst []) L = some (.lst ([] : List V)) := upd_same
    have t1 := k1.tab
    generalize upd H L (.lst []) = H1 at k1 eL1 t1 ⊢
    have dl := dpAll_len hds
    -- the wares of the wish
    refine ⟨_, rfl, q, rfl, ⟨_, k1.seq hq⟩, fun W nW => ?_⟩
    have WT := tab_nn t1 nW
    have nWH := k1.free nW
    have WL : W ≠ L := fun z => by rw [z, eL1] at nW; cases nW
    refine lc_list (K := K) (a := q) (xs := xs) (fun i H' => Kp T H1 H' ∧ H' W = some (.lst (((ds.take i).map wOf).map V.str))) ⟨Kp.new t1 nW, upd_same⟩ (fun i H' _ ⟨kk, _⟩ => (k1.trans kk).seq hq) (fun i v H' hi hv => ?_) (fun H2 hv => ?_)
    · obtain ⟨kk, eW⟩ := hv
      have hil : i < ds.length := by
        have := (List.getElem?_eq_some_iff.mp hi).1
        omega
      obtain ⟨v', hv', hdv⟩ := dpAll_get ((k1.trans kk).dpAll _ _ hds) (List.getElem?_eq_getElem hil)
      have evv : v' = v := Option.some.inj (hv'.symm.trans hi)
      subst evv
      obtain ⟨b, y', lo, hi', rfl, hT, ed, _⟩ := nd_read hdv (hnd _ (List.getElem_mem hil))
      refine ⟨rfl, tYes_if ?_⟩
      refine ⟨_, rfl, b, _, 0, _, rfl, rfl, hT, atI_nat (j := 0) rfl, _, eW, small1000 (by rw [List.length_map, List.length_map, List.length_take]; omega), kk.set nW WT, ?_⟩
      rw [upd_same, List.take_succ, List.getElem?_eq_getElem hil, List.map_append, List.map_append, ed]
      rfl
    · obtain ⟨kk, eW⟩ := hv
      rw [dl, List.take_length] at eW
      have k2 := k1.trans kk
      have eL2 := kk.lst eL1
      obtain ⟨U, eU⟩ : ∃ U : List Str, U = ds.map wOf ++ pk.flatMap (fun e => (needsD (dataOf cl) e.1 e.2).map wOf) := ⟨_, rfl⟩
      have lU : U.length ≤ 700 := by
        have h1 : ∀ r : List (Str × Int), (r.flatMap (fun e => (needsD (dataOf cl) e.1 e.2).map wOf)).length ≤ 6 * r.length := fun r => by
          induction r with
          | nil => exact Nat.le_refl _
          | cons e r ih =>
            rw [List.flatMap_cons, List.length_append, List.length_map, List.length_cons]
            have := (needsD_good G e.1 e.2).1
            omega
        have h2 := h1 pk
        have h3 := O.len
        rw [eU, List.length_append, List.length_map]
        omega
      have gU : ∀ y ∈ U, GoodN y := fun y hy => by
        have key : ∀ es : List PyData, (∀ d ∈ es, ND d) → ∀ y ∈ es.map wOf, GoodN y := fun es he y hy => by
          obtain ⟨d, hd, rfl⟩ := List.mem_map.mp hy
          obtain ⟨y, i, j, rfl, g, _⟩ := he d hd
          exact g
        rw [eU] at hy
        rcases List.mem_append.mp hy with hy | hy
        · exact key ds hnd y hy
        · obtain ⟨e, _, hy⟩ := List.mem_flatMap.mp hy
          exact key _ (needsD_good G e.1 e.2).2 y hy
      have nU : ∀ w, ∀ y ∈ needW (dataOf cl) pk w, y ∈ U := fun w y hy => by
        unfold needW at hy
        cases h : lkP pk w with
        | none => rw [h] at hy; cases hy
        | some m =>
          rw [h] at hy
          rw [eU]
          exact List.mem_append_right _ (List.mem_flatMap.mpr ⟨(w, m), lkP_mem h, hy⟩)
      have lW : ∀ w, (needW (dataOf cl) pk w).length ≤ 6 := fun w => by
        unfold needW
        cases h : lkP pk w with
        | none => exact Nat.zero_le _
        | some m =>
          show ((needsD (dataOf cl) w m).map wOf).length ≤ 6
          rw [List.length_map]
          exact (needsD_good G w m).1
      refine while_by (fun σ' H' => ∃ (x5 : Option V) (Wt : Addr) (fnd wt : List Str), σ' = [some (.ref r), some (.ref q), some (.ref a), some (.ref L), some (.ref Wt), x5, none] ∧ Kp T H H' ∧ H' L = some (.lst (fnd.map V.str)) ∧ H' Wt = some (.lst (wt.map V.str)) ∧ H Wt = none ∧ Wt ≠ T ∧ Wt ≠ L ∧ fnd.Nodup ∧ (∀ y ∈ fnd, y ∈ U) ∧ (∀ y ∈ wt, y ∈ U) ∧ wt.length ≤ 8 + 6 * fnd.length ∧
          ∀ out, AgOf (needW (dataOf cl) pk) (addW fnd wt) fnd.length out → AgOf (needW (dataOf cl) pk) (addW [] (ds.map wOf)) 0 out)
        (fun σ' H' => (U.length - lenAt σ' 3 H') * 8 + lenAt σ' 4 H') ⟨none, W, [], ds.map wOf, rfl, k2, eL2, eW, nWH, WT, WL, List.nodup_nil, (fun y hy => by cases hy), fun y hy => ?_, by rw [List.length_map]; show ds.length ≤ 8; exact h8, fun out h => h⟩ ?_ ?_
      · rw [eU]; exact List.mem_append_left _ hy
      · rintro σ' H3 ⟨x5, Wt, fnd, wt, rfl, k3, e3, eW3, nWt, WtT, WtL, fn, fU, wU, wl, ag⟩
        have t3 := k3.tab
        have lf : fnd.length ≤ U.length := sub_len fn fU
        have m3 : lenAt [some (V.ref r), some (.ref q), some (.ref a), some (.ref L), some (.ref Wt), x5, none] 3 H3 = fnd.length := (lenAt_of rfl e3).trans (List.length_map _)
        have m4 : lenAt [some (V.ref r), some (.ref q), some (.ref a), some (.ref L), some (.ref Wt), x5, none] 4 H3 = wt.length := (lenAt_of rfl eW3).trans (List.length_map _)
        show tB _ _ _ _
        refine ⟨_, rfl, (by show (0 : Nat) ≤ sizeLine; decide), fun l4 nl4 => ?_⟩
        have k4 := Kp.new (o := HO.lst []) t3 nl4
        have k34 := k3.trans k4
        refine ⟨.list (wt.map .str), .list [], dp_lst (k4.lst eW3) (dp_strs wt), dp_lst upd_same .nil, shaped_strs (fun y hy => gU y (wU y hy)), rfl, _, rfl, ?_⟩
        rw [eqv_nil]
        have e34 := k4.lst e3
        have eW34 := k4.lst eW3
        generalize upd H3 l4 (.lst []) = H4 at k4 k34 e34 eW34 ⊢
        cases wt with
        | nil =>
          refine iteF ?_
          exact ⟨_, rfl, fin fnd L H4 (ag fnd (.done (List.getElem?_eq_none (Nat.le_refl _)))) (fun y hy => gU y (fU y hy)) fn (Nat.le_trans lf lU) k34 nL e34⟩
        | cons y rest =>
          refine iteT ?_
          have t4 := k34.tab
          have yU := wU y (List.mem_cons_self ..)
          have gy := gU y yU
          rw [List.length_cons] at wl m4
          refine ⟨_, rfl, .inl ⟨rfl, _, .inl (.inl eW34)⟩, Wt, _, 0, 0, _, rfl, rfl, eW34, by decide, by decide, seq0_ix (by simp), rfl, ?_⟩
          have k5 := k34.set nWt WtT (o := HO.lst (((y :: rest).map V.str).eraseIdx 0))
          have eW5 : upd H4 Wt (.lst (((y :: rest).map V.str).eraseIdx 0)) Wt = some (.lst (rest.map V.str)) := upd_same
          have e5 : upd H4 Wt (.lst (((y :: rest).map V.str).eraseIdx 0)) L = some (.lst (fnd.map V.str)) := by rw [upd_ne WtL.symm]; exact e34
          generalize upd H4 Wt (.lst (((y :: rest).map V.str).eraseIdx 0)) = H5 at k5 eW5 e5 ⊢
          refine ⟨_, rfl, _, rfl, L, _, rfl, .inl (.inl (.inl e5)), rfl, flat_strs fnd, _, rfl, ?_⟩
          show if (!inV (.str y) (fnd.map V.str)) = true then _ else _
          rw [inV_str]
          have rU : ∀ z ∈ rest, z ∈ U := fun z hz => wU z (List.mem_cons_of_mem _ hz)
          refine iteN (fun hn => ?_) (fun hn => ?_)
          · -- a further ware
            have fn' : (fnd ++ [y]).Nodup := List.nodup_append.mpr ⟨fn, List.nodup_cons.mpr ⟨List.not_mem_nil, List.nodup_nil⟩, fun a ha b hb e => hn (by rw [List.mem_singleton.mp hb] at e; exact e ▸ ha)⟩
            have fU' : ∀ z ∈ fnd ++ [y], z ∈ U := fun z hz => (List.mem_append.mp hz).elim (fU z) fun h => by rw [List.mem_singleton.mp h]; exact yU
            have lf' := sub_len fn' fU'
            rw [List.length_append, List.length_singleton] at lf'
            have ag' : ∀ out, AgOf (needW (dataOf cl) pk) (addW (fnd ++ [y]) (rest ++ needW (dataOf cl) pk y)) (fnd.length + 1) out → AgOf (needW (dataOf cl) pk) (addW [] (ds.map wOf)) 0 out := fun out h => by
              refine ag out ?_
              rw [addW_new hn]
              rw [addW_app] at h
              obtain ⟨rr, er⟩ := addW_pre (fnd ++ [y]) rest
              refine .step (w := y) ?_ h
              rw [er, List.append_assoc, List.getElem?_append_right (Nat.le_refl _), Nat.sub_self]
              rfl
            refine ⟨_, rfl, .inl ⟨rfl, _, .inl (.inl e5)⟩, _, rfl, L, _, _, rfl, rfl, e5, small1000 (by rw [List.length_map]; omega), ?_⟩
            have k6 := k5.set nL LT (o := HO.lst (fnd.map V.str ++ [.str y]))
            have e6 : upd H5 L (.lst (fnd.map V.str ++ [.str y])) L = some (.lst ((fnd ++ [y]).map V.str)) := by rw [upd_same, List.map_append]; rfl
            have eW6 : upd H5 L (.lst (fnd.map V.str ++ [.str y])) Wt = some (.lst (rest.map V.str)) := by rw [upd_ne WtL]; exact eW5
            generalize upd H5 L (.lst (fnd.map V.str ++ [.str y])) = H6 at k6 e6 eW6 ⊢
            have a6 := rd_kept k6 ha (fun _ z => by cases z)
            refine ⟨_, rfl, _, rfl, a, _, rfl, .inl ⟨pkD pk, Sum.inr y, a6, rfl, rfl⟩, _, rfl, ?_⟩
            rw [pkD_val]
            cases hm : lkP pk y with
            | none =>
              have e0 : needW (dataOf cl) pk y = [] := by unfold needW; rw [hm]
              rw [e0, List.append_nil] at ag'
              refine iteF ⟨⟨_, Wt, fnd ++ [y], rest, rfl, k6, e6, eW6, nWt, WtT, WtL, fn', fU', rU, by rw [List.length_append, List.length_singleton]; omega, fun out h => ag' out (by rw [List.length_append, List.length_singleton] at h; exact h)⟩, ?_⟩
              have q3 : lenAt [some (V.ref r), some (.ref q), some (.ref a), some (.ref L), some (.ref Wt), some (.str y), none] 3 H6 = fnd.length + 1 := (lenAt_of rfl e6).trans (by rw [List.length_map, List.length_append, List.length_singleton])
              have q4 : lenAt [some (V.ref r), some (.ref q), some (.ref a), some (.ref L), some (.ref Wt), some (.str y), none] 4 H6 = rest.length := (lenAt_of rfl eW6).trans (List.length_map _)
              show (U.length - lenAt [some (V.ref r), some (.ref q), some (.ref a), some (.ref L), some (.ref Wt), some (.str y), none] 3 H6) * 8 + lenAt [some (V.ref r), some (.ref q), some (.ref a), some (.ref L), some (.ref Wt), some (.str y), none] 4 H6 < (U.length - lenAt [some (V.ref r), some (.ref q), some (.ref a), some (.ref L), some (.ref Wt), x5, none] 3 H3) * 8 + lenAt [some (V.ref r), some (.ref q), some (.ref a), some (.ref L), some (.ref Wt), x5, none] 4 H3
              rw [q3, q4, m3, m4]
              omega
            | some m =>
              have hin := O.in_ _ (lkP_mem hm)
              obtain ⟨sh, e, hlk, hle, hne⟩ := row_need hin
              have ew : needW (dataOf cl) pk y = e.2.2.map wOf := by unfold needW; rw [hm]; show (needsD (dataOf cl) y m).map wOf = _; rw [hne]
              have gn := needsD_good G y m
              rw [hne] at gn
              have hs := (look_mem hlk).1
              have B6 := B.keptP k6
              have c1 := cell_rd B6 y
              rw [hlk] at c1
              have c2 := ent_rd B6 hs m
              rw [hle] at c2
              have c3 : DGet H6 a (.str y) (some (.int m)) := .inl ⟨pkD pk, Sum.inr y, a6, rfl, by rw [pkD_val, hm]; rfl⟩
              have hd := dp_show (B6.dp sh hs e (lookE_mem hle).1)
              obtain ⟨z0, z1, z2, z3⟩ : ∃ (xs2 : List V), SqL K H6 e.2.1 xs2 ∧ DpAll K H6 xs2 e.2.2 ∧ xs2.length = e.2.2.length := by
                cases hd with
                | @lst _ xs2 _ h1 h2 => exact ⟨xs2, h1, h2, dpAll_len h2⟩
              refine iteT ⟨_, rfl, _, rfl, _, rfl, r, _, rfl, c1, _, rfl, _, rfl, a, _, rfl, c3, sh.at_, _, rfl, c2, e.2.1, rfl, ⟨_, z1⟩, fun D nD => ?_⟩
              have t6 := k6.tab
              refine lc_list (K := K) (a := e.2.1) (xs := z0) (fun i H' => Kp T H6 H' ∧ H' D = some (.lst (((e.2.2.take i).map wOf).map V.str))) ⟨Kp.new t6 nD, upd_same⟩ (fun i H' _ ⟨kk, _⟩ => kk.seq z1) (fun i v H' hi hv => ?_) (fun H7 hv => ?_)
              · obtain ⟨kk, eD⟩ := hv
                have hil : i < e.2.2.length := by
                  have := (List.getElem?_eq_some_iff.mp hi).1
                  omega
                obtain ⟨v', hv', hdv⟩ := dpAll_get (kk.dpAll _ _ z2) (List.getElem?_eq_getElem hil)
                have evv : v' = v := Option.some.inj (hv'.symm.trans hi)
                subst evv
                obtain ⟨b, y', lo, hi', rfl, hT, ed, _⟩ := nd_read hdv (gn.2 _ (List.getElem_mem hil))
                refine ⟨rfl, tYes_if ?_⟩
                refine ⟨_, rfl, b, _, 0, _, rfl, rfl, hT, atI_nat (j := 0) rfl, _, eD, small1000 (by rw [List.length_map, List.length_map, List.length_take]; omega), kk.set nD (tab_nn t6 nD), ?_⟩
                rw [upd_same, List.take_succ, List.getElem?_eq_getElem hil, List.map_append, List.map_append, ed]
                rfl
              · obtain ⟨kk, eD⟩ := hv
                rw [z3, List.take_length, ← ew] at eD
                have eW7 := kk.lst eW6
                have e7 := kk.lst e6
                have k7 := k6.trans kk
                refine ⟨Wt, D, _, _, rfl, rfl, eW7, eD, Nat.le_of_lt (small5000 (by rw [List.length_map, List.length_map]; have := lW y; omega)), fun V2 nV2 => ?_⟩
                have k8 := Kp.new (o := HO.lst (rest.map V.str ++ (needW (dataOf cl) pk y).map V.str)) k7.tab nV2
                have e8 : upd H7 V2 (.lst (rest.map V.str ++ (needW (dataOf cl) pk y).map V.str)) V2 = some (.lst ((rest ++ needW (dataOf cl) pk y).map V.str)) := by rw [upd_same, List.map_append]
                have eL8 := k8.lst e7
                have V2L : V2 ≠ L := fun z => by rw [z, e7] at nV2; cases nV2
                generalize upd H7 V2 (.lst (rest.map V.str ++ (needW (dataOf cl) pk y).map V.str)) = H8 at k8 e8 eL8 ⊢
                refine ⟨⟨_, V2, fnd ++ [y], rest ++ needW (dataOf cl) pk y, rfl, k7.trans k8, eL8, e8, k7.free nV2, tab_nn k7.tab nV2, V2L, fn', fU', fun z hz => (List.mem_append.mp hz).elim (rU z) (nU y z), by rw [List.length_append, List.length_append, List.length_singleton]; have := lW y; omega, fun out h => ag' out (by rw [List.length_append, List.length_singleton] at h; exact h)⟩, ?_⟩
                have q3 : lenAt [some (V.ref r), some (.ref q), some (.ref a), some (.ref L), some (.ref V2), some (.str y), none] 3 H8 = fnd.length + 1 := (lenAt_of rfl eL8).trans (by rw [List.length_map, List.length_append, List.length_singleton])
                have q4 : lenAt [some (V.ref r), some (.ref q), some (.ref a), some (.ref L), some (.ref V2), some (.str y), none] 4 H8 = rest.length + (needW (dataOf cl) pk y).length := (lenAt_of rfl e8).trans (by rw [List.length_map, List.length_append])
                show (U.length - lenAt [some (V.ref r), some (.ref q), some (.ref a), some (.ref L), some (.ref V2), some (.str y), none] 3 H8) * 8 + lenAt [some (V.ref r), some (.ref q), some (.ref a), some (.ref L), some (.ref V2), some (.str y), none] 4 H8 < (U.length - lenAt [some (V.ref r), some (.ref q), some (.ref a), some (.ref L), some (.ref Wt), x5, none] 3 H3) * 8 + lenAt [some (V.ref r), some (.ref q), some (.ref a), some (.ref L), some (.ref Wt), x5, none] 4 H3
                rw [q3, q4, m3, m4]
                have := lW y
                omega
          · refine ⟨⟨_, Wt, fnd, rest, rfl, k5, e5, eW5, nWt, WtT, WtL, fn, fU, rU, by omega, fun out h => ag out (by rw [addW_skip hn]; exact h)⟩, ?_⟩
            have q3 : lenAt [some (V.ref r), some (.ref q), some (.ref a), some (.ref L), some (.ref Wt), some (.str y), none] 3 H5 = fnd.length := (lenAt_of rfl e5).trans (List.length_map _)
            have q4 : lenAt [some (V.ref r), some (.ref q), some (.ref a), some (.ref L), some (.ref Wt), some (.str y), none] 4 H5 = rest.length := (lenAt_of rfl eW5).trans (List.length_map _)
            show (U.length - lenAt [some (V.ref r), some (.ref q), some (.ref a), some (.ref L), some (.ref Wt), some (.str y), none] 3 H5) * 8 + lenAt [some (V.ref r), some (.ref q), some (.ref a), some (.ref L), some (.ref Wt), some (.str y), none] 4 H5 < (U.length - lenAt [some (V.ref r), some (.ref q), some (.ref a), some (.ref L), some (.ref Wt), x5, none] 3 H3) * 8 + lenAt [some (V.ref r), some (.ref q), some (.ref a), some (.ref L), some (.ref Wt), x5, none] 4 H3
            rw [q3, q4, m3, m4]
            omega
      · intro σ' H' Q1 Q2 hm h
        obtain ⟨v, e, sz, ff⟩ := h
        refine ⟨v, e, sz, fun l nl => ?_⟩
        obtain ⟨d, e2, a1, a2, a3, a4, c, b1, b2⟩ := ff l nl
        exact ⟨d, e2, a1, a2, a3, a4, c, b1, hm _ _ b2⟩
end
end Pk

set_option Elab.async false
set_option linter.all false
set_option maxRecDepth 100000
set_option maxHeartbeats 4000000
namespace Pk
open PySem PySem.Spec PyProof.Rows L2
theorem pkD_put {pk : List (Str × Int)} {w : Str} {m : Int} (h : w ∉ pk.map (·.1)) : putK (pkD pk) (Sum.inr w : Key) (.int m) = pkD (pk ++ [(w, m)]) := by
  have e : lkP pk w = none := by
    cases z : lkP pk w with
    | none => rfl
    | some k => exact absurd (List.mem_map.mpr ⟨_, lkP_mem z, rfl⟩) h
  rw [putK_new _ (by rw [pkD_val, e]; rfl)]
  unfold pkD
  rw [List.map_append]
  rfl
end Pk

set_option Elab.async false
set_option linter.all false
set_option maxRecDepth 100000
set_option maxHeartbeats 4000000
namespace Pk
open PySem PySem.Spec PyProof.Rows L2
theorem mayL_inv : ∀ {ds : List PyData} {bar : List Str}, mayL bar ds = true → bar.Nodup → (bar ++ ds.map wOf).Nodup ∧ ∀ d ∈ ds, needB d = true
  | [], bar, _, hb => ⟨by rw [List.map_nil, List.append_nil]; exact hb, fun d hd => by cases hd⟩
  | d :: r, bar, h, hb => by
    have z : (needB d && !decide (wOf d ∈ bar) && mayL (bar ++ [wOf d]) r) = true := h
    rw [Bool.and_eq_true, Bool.and_eq_true, Bool.not_eq_true'] at z
    obtain ⟨⟨h1, h2⟩, h3⟩ := z
    have h2 := of_decide_eq_false h2
    obtain ⟨i1, i2⟩ := mayL_inv h3 (List.nodup_append.mpr ⟨hb, List.nodup_cons.mpr ⟨List.not_mem_nil, List.nodup_nil⟩, fun a ha b hb2 e => h2 (by rw [List.mem_singleton.mp hb2] at e; rw [← e]; exact ha)⟩)
    refine ⟨by rw [List.append_assoc] at i1; exact i1, fun x hx => ?_⟩
    rcases List.mem_cons.mp hx with rfl | hx
    · exact h1
    · exact i2 x hx
theorem mayB_drop {w : Str} {ds : List PyData} (h : mayB w (.list ds) = true) (k : Nat) : mayB w (.list (ds.drop k)) = true := by
  have z : (decide (ds.length ≤ 6) && mayL [w] ds) = true := h
  rw [Bool.and_eq_true] at z
  obtain ⟨nd, hn⟩ := mayL_inv z.2 (List.nodup_cons.mpr ⟨List.not_mem_nil, List.nodup_nil⟩)
  rw [List.singleton_append, List.nodup_cons] at nd
  have sub : List.Sublist ((ds.drop k).map wOf) (ds.map wOf) := List.Sublist.map _ (List.drop_sublist _ _)
  exact mayB_of (by have := of_decide_eq_true z.1; rw [List.length_drop]; omega) (fun d hd => hn d (List.mem_of_mem_drop hd)) (List.Sublist.nodup sub nd.2) fun z => nd.1 (sub.subset z)
theorem cutV_tail (xs : List V) : cutV xs (some 1) none = xs.drop 1 := by
  unfold cutV
  cases xs with
  | nil => rfl
  | cons x r =>
    have e1 : HT.sIx (x :: r).length 0 (some 1) = 1 := by
      unfold HT.sIx
      simp
    have e2 : HT.sIx (x :: r).length (x :: r).length none = (x :: r).length := rfl
    rw [e1, e2, List.take_of_length_le (by rw [List.length_drop]; exact Nat.le_refl _)]
theorem dpAll_drop {K : PySem.W.Frag} {H : Hp} : ∀ {ds : List PyData} {vs : List V} (k : Nat), DpAll K H vs ds → DpAll K H (vs.drop k) (ds.drop k)
  | _, _, 0, h => h
  | [], _, k + 1, h => by cases h; exact .nil
  | d :: r, _, k + 1, h => by
    cases h with
    | cons a b => exact dpAll_drop k b
/-- a shop and rows that hold the same -/
structure PairD (K : PySem.W.Frag) (C : Addr) (A : List Addr) (H : Hp) (p D : Addr) (st : List Shelf) (r : Addr) (cl : List Shelf) (mm : Nat) : Prop where
  B : BoxOk K A H r cl
  G : RowsG mm cl
  S : ShopAt K C A H p D st
  dt : ∀ v, dataOf st v = dataOf cl v
  dj : ∀ f ∈ foot D st, f ∉ foot r cl
theorem dk_seq {H : Hp} {f : Addr} (h : ∃ kvs, H f = some (.dK kvs)) : ∀ o, H f = some o → isSeqO o = false := fun o e => by
  obtain ⟨kvs, h⟩ := h
  rw [h] at e
  cases e
  rfl
theorem PairD.len {K : PySem.W.Frag} {C : Addr} {A : List Addr} {H : Hp} {p D : Addr} {st : List Shelf} {r : Addr} {cl : List Shelf} {mm : Nat} (X : PairD K C A H p D st r cl mm) : st.length ≤ cl.length := by
  have z := sub_len (U := cl.map (·.ware)) X.S.bx.nd fun y hy => by
    obtain ⟨s, hs, rfl⟩ := List.mem_map.mp hy
    have z := data_ne X.S.bx.nd hs (X.S.ne s hs)
    rw [X.dt] at z
    obtain ⟨t, ht⟩ := look_cons z
    obtain ⟨g1, g2⟩ := look_mem ht
    exact List.mem_map.mpr ⟨t, g1, g2⟩
  rw [List.length_map, List.length_map] at z
  exact z
theorem RowsG.good {mm : Nat} {cl : List Shelf} (G : RowsG mm cl) (h : mm ≤ 8) : GoodSh (dataOf cl) := by
  refine ⟨fun v => ?_, fun v e he => ?_⟩
  · unfold dataOf
    cases el : look cl v with
    | none => exact Nat.zero_le _
    | some s =>
      show (s.ents.map entD).length ≤ 8
      rw [List.length_map]
      exact Nat.le_trans (G.el s (look_mem el).1) h
  · unfold dataOf at he
    cases el : look cl v with
    | none => rw [el] at he; cases he
    | some s =>
      rw [el] at he
      have he : e ∈ s.ents.map entD := he
      obtain ⟨x, hx, rfl⟩ := List.mem_map.mp he
      have hs := (look_mem el).1
      exact ⟨(G.mki s hs x hx).b, mayB_len (G.may s hs x hx), G.nd s hs x hx⟩
theorem RowsG.set {mm : Nat} {cl : List Shelf} {w : Str} {s : Shelf} {es : List (Int × Addr × List PyData)} (G : RowsG mm cl) (h : look cl w = some s) (hl : es.length ≤ mm) (hm : ∀ e ∈ es, MakeI e.1 ∧ mayB w (.list e.2.2) = true ∧ ∀ d ∈ e.2.2, ND d) : RowsG mm (setE cl w es) := by
  refine ⟨by rw [setE_len]; exact G.len, fun x hx => ?_, fun x hx => ?_, fun x hx => ?_, fun x hx => ?_, fun x hx => ?_⟩ <;> rcases setE_mem hx with ⟨t, ht, hw, rfl⟩ | ⟨h3, _⟩
  · exact G.w t ht
  · exact G.w x h3
  · exact hl
  · exact G.el x h3
  · exact fun e he => (hm e he).1
  · exact G.mki x h3
  · exact fun e he => by rw [show ({ t with ents := es } : Shelf).ware = w from hw]; exact (hm e he).2.1
  · exact G.may x h3
  · exact fun e he => (hm e he).2.2
  · exact G.nd x h3
theorem RawB.set {K : PySem.W.Frag} {H : Hp} {cl : List Shelf} {w : Str} {es : List (Int × Addr × List PyData)} (h : RawB K H cl) (h2 : RawC K H es) : RawB K H (setE cl w es) := fun x hx => by
  rcases setE_mem hx with ⟨t, ht, hw, rfl⟩ | ⟨h3, _⟩
  · exact h2
  · exact h x h3
theorem PairD.grow {K : PySem.W.Frag} {C T : Addr} {A : List Addr} {H H' H'' : Hp} {p D : Addr} {st st' : List Shelf} {r a : Addr} {cl : List Shelf} {mm : Nat} {w : Str} {s : Shelf} {m : Int} {ds : List PyData} (X : PairD K C A H p D st r cl mm) (lk : look cl w = some s) (ln : lookE s.ents m = none)
    (gm : MakeI m) (may : mayB w (.list ds) = true) (nd : ∀ d ∈ ds, ND d) (hl : s.ents.length + 1 ≤ mm) (hA : ∀ y ∈ A, ∃ ys, H y = some (.lst ys)) (S' : ShopAt K C A H' p D st') (d' : ∀ v, dataOf st' v = if v = w then dataOf st w ++ [(m, ds)] else dataOf st v)
    (k6 : Kx T (foot D st) H H') (f' : ∀ f ∈ foot D st', f ∈ foot D st ∨ H f = none) (k7 : Kp T H' H'') (hd : Dp K (hide A H'') (.ref a) (.list ds)) :
    PairD K C A (L2.upd H'' s.at_ (.dK ((s.ents ++ [(m, a, ds)]).map entK))) p D st' r (setE cl w (s.ents ++ [(m, a, ds)])) mm ∧ Kx T (foot r cl ++ foot D st) H (L2.upd H'' s.at_ (.dK ((s.ents ++ [(m, a, ds)]).map entK))) := by
  have hs := (look_mem lk).1
  have fdr := X.B.foot_dict
  have fdD := X.S.bx.foot_dict
  have B6 := X.B.kept k6 (fun f hf => .inr (fdD f hf)) (fun f hf z => X.dj f z hf)
  have B7 := B6.keptP k7
  have hf : s.at_ ∈ foot r cl := List.mem_cons_of_mem _ (List.mem_map.mpr ⟨s, hs, rfl⟩)
  obtain ⟨B8, k8⟩ := B7.set (es := s.ents ++ [(m, a, ds)]) k7.tab lk (fun x hx => by
    rcases List.mem_append.mp hx with hx | hx
    · exact (B7.sh s hs).dp x hx
    · rw [List.mem_singleton.mp hx]; exact hd) (put_nd ln (X.B.sh s hs).nd)
  have k67 : Kx T (foot D st) H H'' := k6.trans (Kx.of k7)
  have k68 : Kx T (foot r cl ++ foot D st) H (L2.upd H'' s.at_ (.dK ((s.ents ++ [(m, a, ds)]).map entK))) := (k67.mono fun a h => List.mem_append_right _ h).trans (k8.mono fun a h => List.mem_append_left _ h)
  have hA7 : ∀ y ∈ A, ∃ ys, H'' y = some (.lst ys) := fun y hy => by
    obtain ⟨ys, ey⟩ := hA y hy
    exact ⟨ys, k67.lst0 fdD ey⟩
  have S8 := (S'.keptP k7).kept k8 (fun f hf => .inr (B7.foot_dict f hf)) (fun f _ hz => hA7 f hz) (fun f hf z => by
    rcases f' f hf with g | g
    · exact X.dj f g z
    · obtain ⟨kvs, e⟩ := fdr f z
      rw [e] at g
      cases g)
  refine ⟨⟨B8, X.G.set lk (by rw [List.length_append]; exact hl) fun x hx => ?_, S8, fun v => ?_, fun f hf z => ?_⟩, k68⟩
  · rcases List.mem_append.mp hx with hx | hx
    · have hw := (look_mem lk).2
      exact ⟨X.G.mki s hs x hx, by rw [← hw]; exact X.G.may s hs x hx, X.G.nd s hs x hx⟩
    · rw [List.mem_singleton.mp hx]
      exact ⟨gm, may, nd⟩
  · rw [d', setE_data lk]
    by_cases hv : v = w
    · rw [if_pos hv, if_pos hv, X.dt, look_data lk, List.map_append]
      rfl
    · rw [if_neg hv, if_neg hv, X.dt]
  · rw [foot_set] at z
    rcases f' f hf with g | g
    · exact X.dj f g z
    · obtain ⟨kvs, e⟩ := fdr f z
      rw [e] at g
      cases g
section
variable {P : Program} {w : World} {K : PySem.W.Frag} {mg : Str → Option Value} {base : Heap}
def sChgN : List Str := ["_law_shop_here", "_law_rows_here", "_law_number", "_law_wares", "_law_ware", "_law_make", "_law_needs_here", nOther]
theorem scSChg : FnScope sChgN ["_law_shop_here", "_law_rows_here", "_law_number"] (defScope sSChg) := ⟨rfl, rfl, rfl, by decide +kernel, rfl, by decide +kernel, by decide +kernel⟩
def spSChg (K : PySem.W.Frag) (C T : Addr) : Sp := fun vs H Q _ => ∃ (A : List Addr) (p D r : Addr) (st cl : List Shelf) (mm : Nat) (n : Int), vs = [.ref p, .ref r, .int n] ∧ PairD K C A H p D st r cl mm ∧ mm ≤ 7 ∧ (∃ s ∈ cl, s.ents ≠ []) ∧ (∀ y ∈ A, ∃ ys, H y = some (.lst ys)) ∧ GxR.TabG H T ∧
  ∀ H' st' cl', PairD K C A H' p D st' r cl' mm → Kx T (foot r cl ++ foot D st) H H' → cl'.map (·.ware) = cl.map (·.ware) → foot r cl' = foot r cl → (∀ f ∈ foot D st', f ∈ foot D st ∨ H f = none) → (RawB K H cl → RawB K H' cl') → Q .non H'
theorem ok_schg {f C T fT fP NM BW BM BN TW FU : Addr} {fd fdT fdP : FuncData} (F : Fun K "_law_shop_changed" "_law_shop_changed" sSChg f fd) (X : ShopT K mg C)
    (GT : FnOk P w K mg base (L2N.CX P w) 4 fT fdT ["self", "ware", "make"] (spTake K C T NM)) (bT : Binds K fdT ["self", "ware", "make"] []) (mT : Meth K C "take" fT)
    (GP : FnOk P w K mg base (L2N.CX P w) 5 fP fdP ["self", "ware", "make", "needs"] (spPut K C T BW BM BN TW FU)) (bP : Binds K fdP ["self", "ware", "make", "needs"] []) (mP : Meth K C "put" fP)
    (y_len : mg "len" = none) (y_list : mg "list" = none) : FnOk P w K mg base CX0 6 f fd ["_law_shop_here", "_law_rows_here", "_law_number"] (spSChg K C T) := by
  refine F.ok scSChg (fun vs H Q E h => ?_) (fun cdv A0 outer s H vs Q E hr h => ?_)
  · obtain ⟨A, p, D, r, st, cl, mm, n, rfl, _⟩ := h
    rfl
  · obtain ⟨A, p, D, r, st, cl, mm, n, rfl, PD, hmm, hne, hA, ht, fin⟩ := h
    have hu := hu_of hr
    have hu0 := Nat.lt_of_succ_lt hu
    refine ⟨_, (pss_cons (ps_lock (ps_setLc (i := 3) (own := [("_law_ware", 4)]) (g := (gName 4)) rfl scSChg.nd rfl rfl (sw_true rfl rfl rfl (by decide +kernel)) (pi_keys (pv 1)) (blkOk_by (own := [("_law_ware", 4)]) (N := sChgN) (sc := defScope sSChg) (by decide +kernel)) (fun _ _ _ _ _ => (pg_name (i := 4) scSChg.nd rfl (by first | exact Or.inl rfl | exact Or.inr rfl))) (fun _ _ _ _ _ => pts_one (pt_cmpR (r := rNeE) (op_neE hu0) (pe_dget hu (pv 1) (pv 4) (fun _ _ => rfl)) pe_dnewK (nomark _))) (fun _ _ _ _ _ => (pv 4))))
      (pss_cons (ps_set (i := 4) scSChg.nd rfl (by first | exact .inl rfl | exact .inr rfl) (pe_ix ix_list (pv 3) (pe_op op_mod (pv 2) (pe_callB call_len_seq (by rfl) y_len PySem.boot_len (pa_cons (pv 3) pa_nil))) (fun _ _ => rfl)))
      (pss_cons (ps_set (i := 5) scSChg.nd rfl (by first | exact .inl rfl | exact .inr rfl) (pe_ix ix_list (pe_callTy (call_listD rfl) (by rfl) y_list boot_list (pa_cons (pe_dget hu (pv 1) (pv 4) (fun _ _ => rfl)) pa_nil)) (pe_op op_mod (pe_op op_fdiv (pv 2) pe_int) (pe_callB call_lenD (by rfl) y_len PySem.boot_len (pa_cons (pe_dget hu (pv 1) (pv 4) (fun _ _ => rfl)) pa_nil))) (fun _ _ => rfl)))
      (pss_cons (ps_set (i := 6) scSChg.nd rfl (by first | exact .inl rfl | exact .inr rfl) (pe_dpop1 (pe_dget hu (pv 1) (pv 4) (fun _ _ => rfl)) (pv 5) ⟨rfl, rfl, rfl, rfl⟩))
      (pss_cons (ps_expr (pe_meth (E := E0) (pv 0) X.cl mT GT (hr.mono (by decide)) bT .nil passN (pa_cons (pv 4) (pa_cons (pv 5) pa_nil))))
      (pss_cons (ps_set (i := 7) scSChg.nd rfl (by first | exact .inl rfl | exact .inr rfl) (pe_op op_add pe_int (pe_op op_mod (pe_op op_add (pv 5) (pe_op op_fdiv (pv 2) pe_int)) pe_int)))
      (pss_cons (ps_if (pt_cmpR op_eq (pe_op op_mod (pe_op op_fdiv (pv 2) pe_int) pe_int) pe_int (nomark _)) (pss_cons (ps_expr (pe_meth (E := E0) (pv 0) X.cl mP GP (hr.mono (by decide)) bP .nil passN (pa_cons (pv 4) (pa_cons (pv 5) (pa_cons (pe_slice sl_list (pv 6) (po_some pe_int) po_none) pa_nil)))))
      (pss_one (ps_dput hu (pe_dget hu (pv 1) (pv 4) (fun _ _ => rfl)) (pv 5) (pe_slice sl_list (pv 6) (po_some pe_int) po_none) rfl))) pss_nil)
      (pss_one (ps_if (PW.pt (pw_and (pt_cmpR op_eq (pe_op op_mod (pe_op op_fdiv (pv 2) pe_int) pe_int) pe_int (nomark _)) (pw_and1 (pt_cmp (pc_dnotin hu (pv 7) (pe_dget hu (pv 1) (pv 4) (fun _ _ => rfl))))))) (pss_cons (ps_expr (pe_meth (E := E0) (pv 0) X.cl mP GP (hr.mono (by decide)) bP .nil passN (pa_cons (pv 4) (pa_cons (pv 7) (pa_cons (pe_callTy call_list_of (by rfl) y_list boot_list (pa_cons (pv 6) pa_nil)) pa_nil)))))
      (pss_one (ps_dput hu (pe_dget hu (pv 1) (pv 4) (fun _ _ => rfl)) (pv 7) (pv 6) rfl))) pss_nil))))))))), ?_⟩
    have B := PD.B
    have G := PD.G
    have S := PD.S
    have h12 := G.len
    have fdr : ∀ f ∈ foot r cl, ∃ kvs, H f = some (.dK kvs) := B.foot_dict
    have fdD : ∀ f ∈ foot D st, ∃ kvs, H f = some (.dK kvs) := S.bx.foot_dict
    have rT := B.foot_ne ht r (List.mem_cons_self ..)
    -- the wares that have makes
    refine ⟨r, _, B.dc, True.intro, fun od => ?_⟩
    have eb : upd H r (.frz od (.dK (cl.map keyW))) r = some (.frz od (.dK (cl.map keyW))) := upd_same
    have BR := (BoxR.of B).lock (od := od) B.dc
    have un : ∀ H', Kp T (upd H r (.frz od (.dK (cl.map keyW)))) H' → Kp T H (upd H' r (.dK (cl.map keyW))) := fun H' k => unlockP ht B.dc rT k
    have tb : GxR.TabG (upd H r (.frz od (.dK (cl.map keyW)))) T := tab_upd ht rT
    have dcb : ∀ s ∈ cl, upd H r (.frz od (.dK (cl.map keyW))) s.at_ = some (.dK (s.ents.map entK)) := fun s hs => by
      have na := B.na
      rw [List.nodup_cons] at na
      rw [upd_ne (fun z => na.1 (by rw [← z]; exact List.mem_map.mpr ⟨s, hs, rfl⟩))]
      exact (B.sh s hs).dc
    generalize upd H r (.frz od (.dK (cl.map keyW))) = HB at eb BR un tb dcb ⊢
    refine ⟨_, rfl, r, od, rfl, .inl ⟨_, eb, fun Wl nWl => ?_⟩⟩
    have Wr : Wl ≠ r := fun z => by rw [z, eb] at nWl; cases nWl
    have WT := tab_nn tb nWl
    refine lc_it walk_keys (fun i H' => Kp T HB H' ∧ H' Wl = some (.lst ((fullW (cl.take i)).map V.str))) ⟨Kp.new tb nWl, upd_same⟩ (fun i H' _ h => h.1.keep _ _ rT eb) (fun i x H1 H2 hi hv hy => ?_) (fun H1 hv => ?_)
    · obtain ⟨kk, eW⟩ := hv
      obtain ⟨rfl, k0, v0, hk, rfl⟩ := hy
      have hil : i < cl.length := by rw [List.length_map] at hi; exact hi
      have es : cl[i]? = some cl[i] := List.getElem?_eq_getElem hil
      have hs := List.getElem_mem hil
      rw [List.getElem?_map, es] at hk
      have hk := Option.some.inj hk
      have ek : k0 = Sum.inr cl[i].ware := (congrArg Prod.fst hk).symm
      subst ek
      clear hk
      have etake : cl.take (i + 1) = cl.take i ++ [cl[i]] := by rw [List.take_succ, es]; rfl
      generalize cl[i] = s at es hs etake ⊢
      have sT := B.foot_ne ht s.at_ (List.mem_cons_of_mem _ (List.mem_map.mpr ⟨s, hs, rfl⟩))
      have c1 := cell_rd (BR.keptP kk) s.ware
      rw [look_of B.nd hs rfl] at c1
      refine ⟨rfl, _, rfl, _, rfl, r, _, rfl, c1, fun d nd => ?_⟩
      have k2 := Kp.new (o := HO.dK []) kk.tab nd
      refine ⟨s.at_, d, _, rfl, rfl, (kk.trans k2).keep _ _ sT (dcb s hs), upd_same, _, rfl, ?_⟩
      have eW2 := k2.lst eW
      have kk2 := kk.trans k2
      have fl : (fullW (cl.take i)).length ≤ 12 := by have := fullW_le (cl.take i); rw [List.length_take] at this; omega
      cases hz : s.ents with
      | nil =>
        refine iteF ⟨kk2, ?_⟩
        rw [eW2, etake]
        unfold fullW
        rw [List.filter_append, List.map_append]
        have e0 : List.filter (fun t : Shelf => !t.ents.isEmpty) [s] = [] := by
          rw [List.filter_cons_of_neg (by rw [hz]; exact Bool.false_ne_true)]
          rfl
        rw [e0, List.map_nil, List.append_nil]
      | cons e0 er =>
        refine iteT ⟨_, rfl, _, eW2, small1000 (by rw [List.length_map]; omega), kk2.set nWl WT, ?_⟩
        rw [upd_same, etake]
        unfold fullW
        rw [List.filter_append, List.map_append, List.map_append]
        have e0 : List.filter (fun t : Shelf => !t.ents.isEmpty) [s] = [s] := by
          rw [List.filter_cons_of_pos (by rw [hz]; rfl)]
          rfl
        rw [e0]
        rfl
    · obtain ⟨kk, eW⟩ := hv
      rw [List.length_map, List.take_length] at eW
      have er := kk.keep _ _ rT eb
      refine ⟨er, ?_⟩
      have k1 := un H1 kk
      have eW1 : upd H1 r (.dK (cl.map keyW)) Wl = some (.lst ((fullW cl).map V.str)) := by rw [upd_ne Wr]; exact eW
      generalize upd H1 r (.dK (cl.map keyW)) = H1 at k1 eW1 ⊢
      clear er kk eW un BR dcb eb tb nWl WT
      -- one of them
      have fne : fullW cl ≠ [] := fun z => by
        obtain ⟨s, hs, hz⟩ := hne
        unfold fullW at z
        have z := List.map_eq_nil_iff.mp z
        rw [List.filter_eq_nil_iff] at z
        exact z s hs (by cases e : s.ents with | nil => exact absurd e hz | cons a b => rfl)
      have flp : (0 : Int) < ((((fullW cl).map V.str).length : Nat) : Int) := by
        rw [List.length_map]
        have := List.length_pos_iff.mpr fne
        omega
      obtain ⟨y, ey, hy⟩ : ∃ y, atI ((fullW cl).map V.str) (n % ((((fullW cl).map V.str).length : Nat) : Int)) = some (.str y) ∧ y ∈ fullW cl := by
        obtain ⟨v, hv, y, rfl, hy⟩ := at_pick (xs := (fullW cl).map V.str) (p := fun v => ∃ y, v = V.str y ∧ y ∈ fullW cl) (Int.emod_nonneg n (Int.ne_of_gt flp)) (Int.emod_lt_of_pos n flp) (fun x hx => by
          obtain ⟨y, hy, rfl⟩ := List.mem_map.mp hx
          exact ⟨y, rfl, hy⟩)
        exact ⟨y, hv, hy⟩
      refine ⟨_, rfl, _, rfl, _, rfl, Wl, _, rfl, .inl (.inl (.inl eW1)), n, _, rfl, rfl, flp, Wl, _, _, _, rfl, rfl, .inl (.inl eW1), ey, ?_⟩
      obtain ⟨s, hs, hz, hw⟩ : ∃ s ∈ cl, s.ents ≠ [] ∧ s.ware = y := by
        obtain ⟨s, hs, e⟩ := List.mem_map.mp hy
        obtain ⟨h1, h2⟩ := List.mem_filter.mp hs
        refine ⟨s, h1, fun z => ?_, e⟩
        rw [z] at h2
        cases h2
      subst hw
      have gw := G.w s hs
      have lk : look cl s.ware = some s := look_of B.nd hs rfl
      have B1 := B.keptP k1
      have c1 := cell_get B1 lk
      have dc1 := (B1.sh s hs).dc
      -- one of its makes
      refine ⟨_, rfl, _, rfl, r, _, rfl, c1, s.at_, _, rfl, .inl dc1, fun l2 nl2 => ?_⟩
      rw [keys_ints]
      have k2 := Kp.new (o := HO.lst ((s.ents.map (·.1)).map V.int)) k1.tab nl2
      have e2 : upd H1 l2 (.lst ((s.ents.map (·.1)).map V.int)) l2 = some (.lst ((s.ents.map (·.1)).map V.int)) := upd_same
      have kk2 := k1.trans k2
      generalize upd H1 l2 (.lst ((s.ents.map (·.1)).map V.int)) = H2 at k2 e2 kk2 ⊢
      clear k1 k2 B1 c1 dc1 eW1
      have B2 := B.keptP kk2
      have dc2 := (B2.sh s hs).dc
      have elen : (s.ents.map entK).length = s.ents.length := List.length_map _
      have ep : (0 : Int) < (((s.ents.map entK).length : Nat) : Int) := by
        have := List.length_pos_iff.mpr hz
        omega
      obtain ⟨m, em, hm⟩ : ∃ m, atI ((s.ents.map (·.1)).map V.int) (n / 7 % (((s.ents.map entK).length : Nat) : Int)) = some (.int m) ∧ m ∈ s.ents.map (·.1) := by
        obtain ⟨v, hv, m, rfl, hm⟩ := at_pick (xs := (s.ents.map (·.1)).map V.int) (p := fun v => ∃ m, v = V.int m ∧ m ∈ s.ents.map (·.1)) (Int.emod_nonneg (n / 7) (Int.ne_of_gt ep)) (by have z := Int.emod_lt_of_pos (n / 7) ep; have z2 : ((s.ents.map (·.1)).map V.int).length = (s.ents.map entK).length := by rw [List.length_map, List.length_map, List.length_map]
                                                                                                                                                                                           rw [z2]; exact z) (fun x hx => by
          obtain ⟨m, hm, rfl⟩ := List.mem_map.mp hx
          exact ⟨m, rfl, hm⟩)
        exact ⟨m, hv, hm⟩
      refine ⟨_, rfl, n, 7, rfl, rfl, ⟨by decide, by decide⟩, _, rfl, _, rfl, r, _, rfl, cell_get B2 lk, s.at_, _, rfl, dc2, n / 7, _, rfl, rfl, ep, l2, _, _, _, rfl, rfl, .inl (.inl e2), em, ?_⟩
      obtain ⟨e, he, hme⟩ := List.mem_map.mp hm
      subst hme
      have le : lookE s.ents e.1 = some e := lookE_of (B.sh s hs).nd he
      have gm := G.mki s hs e he
      -- it goes out of the rows
      refine ⟨_, rfl, _, rfl, r, _, rfl, cell_get B2 lk, s.at_, rfl, .inl ⟨_, .inl dc2⟩, _, rfl, _, Sum.inl e.1, _, dc2, rfl, by rw [lookE_val, le]; rfl, ?_⟩
      rw [ent_drop]
      obtain ⟨B3, kx3⟩ := B2.set (es := dropE s.ents e.1) kk2.tab lk (fun x hx => (B2.sh s hs).dp x (List.mem_filter.mp hx).1) (drop_nd (B2.sh s hs).nd)
      have kx03 : Kx T (foot r cl) H (upd H2 s.at_ (.dK ((dropE s.ents e.1).map entK))) := (Kx.of kk2).trans kx3
      have dl2 := (B2.sh s hs).dp e he
      have dl3 := kx3.dpA (fun f hf => .inr (B2.foot_dict f hf)) dl2
      generalize upd H2 s.at_ (.dK ((dropE s.ents e.1).map entK)) = H3 at B3 kx3 kx03 dl3 ⊢
      clear kx3 dl2 dc2 B2 kk2 e2
      have hFr : ∀ f ∈ foot r cl, f ∈ A ∨ ∃ kvs, H f = some (.dK kvs) := fun f hf => .inr (fdr f hf)
      have hFA : ∀ f ∈ foot r cl, f ∈ A → ∃ xs, H f = some (.lst xs) := fun f _ hz => hA f hz
      have S3 := S.kept kx03 hFr hFA PD.dj
      -- and out of the shop
      have hin : e.1 ∈ (dataOf st s.ware).map (·.1) := by
        rw [PD.dt, look_data lk, List.map_map]
        exact List.mem_map.mpr ⟨e, he, rfl⟩
      have hb : hasB st (.str s.ware) (.int e.1) = true := by rw [hasB_keys, gw.1, gm.b, decide_eq_true hin] <;> rfl
      obtain ⟨dx, o3⟩ := S3.ob
      refine ⟨_, rfl, p, dx, _, rfl, o3, flS_no D (by decide +kernel), _, rfl, _, rfl, A, p, D, st, _, _, .str s.ware, .int e.1, rfl, S3, .str _, gw.2, .int _, kx03.tab, fun z => (by rw [hb] at z; cases z), fun x' m' ex em' _ H5 S5 kx5 => ?_⟩
      cases ex
      cases em'
      have fd3D : ∀ f ∈ foot D st, ∃ kvs, H3 f = some (.dK kvs) := S3.bx.foot_dict
      have hA3 : ∀ y ∈ A, ∃ ys, H3 y = some (.lst ys) := fun y hy => by
        obtain ⟨ys, ey⟩ := hA y hy
        exact ⟨ys, kx03.lst0 fdr ey⟩
      have B5 := B3.kept kx5 (fun f hf => .inr (fd3D f hf)) (fun f hf z => PD.dj f z (by rw [foot_set] at hf; exact hf))
      have dl5 := kx5.dpA (fun f hf => .inr (fd3D f hf)) dl3
      have hA5 : ∀ y ∈ A, ∃ ys, H5 y = some (.lst ys) := fun y hy => by
        obtain ⟨ys, ey⟩ := hA3 y hy
        exact ⟨ys, kx5.lst0 fd3D ey⟩
      have kx05 : Kx T (foot r cl ++ foot D st) H H5 := (kx03.mono fun a h => List.mem_append_left _ h).trans (kx5.mono fun a h => List.mem_append_right _ h)
      have lk5 : look (setE cl s.ware (dropE s.ents e.1)) s.ware = some { s with ents := dropE s.ents e.1 } := by
        rw [setE_look, lk]
        show some (if s.ware = s.ware then _ else _) = _
        rw [if_pos rfl]
      have dropl : (dropE s.ents e.1).length < s.ents.length := by
        unfold dropE
        exact List.length_filter_lt_length_iff_exists.mpr ⟨e, he, fun z => of_decide_eq_true z rfl⟩
      have esl := G.el s hs
      have dsub : ∀ x ∈ dropE s.ents e.1, x ∈ s.ents := fun x hx => (List.mem_filter.mp hx).1
      have G5 : RowsG mm (setE cl s.ware (dropE s.ents e.1)) := G.set lk (by omega) fun x hx => ⟨G.mki s hs x (dsub x hx), G.may s hs x (dsub x hx), G.nd s hs x (dsub x hx)⟩
      have dt5 : ∀ v, dataOf (takeS st s.ware e.1) v = dataOf (setE cl s.ware (dropE s.ents e.1)) v := fun v => by
        rw [takeS_data, setE_data lk]
        by_cases hv : v = s.ware
        · rw [if_pos hv, if_pos hv, PD.dt, look_data lk, drop_data]
        · rw [if_neg hv, if_neg hv, PD.dt]
      have ftk : ∀ f ∈ foot D (takeS st s.ware e.1), f ∈ foot D st := takeS_foot
      have PD5 : PairD K C A H5 p D (takeS st s.ware e.1) r (setE cl s.ware (dropE s.ents e.1)) mm := ⟨B5, G5, S5, dt5, fun f hf z => PD.dj f (ftk f hf) (by rw [foot_set] at z; exact z)⟩
      have dcur : dataOf (takeS st s.ware e.1) s.ware = (dropE s.ents e.1).map entD := by
        rw [dt5, look_data lk5]
      have hplace : placeB (takeS st s.ware e.1) s.ware = true := place_after (W := s.ware) (D' := (dropE s.ents e.1).map entD) S.bx.nd S5.bx.nd S5.ne (fun z => by rw [z] at hin; cases hin) (Nat.le_trans PD.len h12)
        (fun v => by
          rw [dt5, setE_data lk]
          by_cases hv : v = s.ware
          · rw [if_pos hv, if_pos hv]
          · rw [if_neg hv, if_neg hv, PD.dt]) (by rw [dcur, List.length_map]; omega) (fun z => by rw [← dcur]; exact z)
      have h100 : (takeS st s.ware e.1).length ≤ 100 := by have := PD5.len; rw [setE_len] at this; omega
      clear S3 o3 dx hb kx03 B3 dl3
      generalize takeS st s.ware e.1 = st5 at S5 dt5 ftk PD5 dcur hplace h100 ⊢
      have fdA : ∀ f ∈ foot r cl ++ foot D st, ∃ kvs, H f = some (.dK kvs) := fun f hf => (List.mem_append.mp hf).elim (fdr f) (fdD f)
      have raw5 : RawB K H cl → RawB K H5 (setE cl s.ware (dropE s.ents e.1)) := fun hR => (hR.kx kx05 fdA).set fun x hx => (hR s hs x (dsub x hx)).imp fun _ q => ⟨kx05.lst0 fdA q.1, dpAll_kx0 kx05 fdA q.2⟩
      have wEq : (setE cl s.ware (dropE s.ents e.1)).map (·.ware) = cl.map (·.ware) := setE_wares _ _ _
      have S5t := kx5.tab
      have fEq : foot r (setE cl s.ware (dropE s.ents e.1)) = foot r cl := foot_set
      have ln : lookE (dropE s.ents e.1) e.1 = none := by
        cases z : lookE (dropE s.ents e.1) e.1 with
        | none => rfl
        | some x =>
          obtain ⟨z1, z2⟩ := lookE_mem z
          exact absurd z2 (of_decide_eq_true (List.mem_filter.mp z1).2)
      have hn : ∀ f, H5 f = none → f ∈ foot D st ∨ H f = none := fun f h => by
        by_cases f1 : f ∈ foot D st
        · exact .inl f1
        · refine .inr ?_
          cases z : H f with
          | none => rfl
          | some o =>
            exfalso
            by_cases f2 : f ∈ foot r cl
            · obtain ⟨kvs, ez⟩ := B5.foot_dict f (by rw [fEq]; exact f2)
              rw [h] at ez; cases ez
            · by_cases f3 : f = T
              · obtain ⟨ps, ez, _⟩ := S5t
                rw [← f3, h] at ez; cases ez
              · have ez := kx05.keep f o f3 (fun q => (List.mem_append.mp q).elim f2 f1) z
                rw [h] at ez; cases ez
      generalize setE cl s.ware (dropE s.ents e.1) = cl5 at PD5 G5 dt5 lk5 wEq fEq B5 hn raw5 ⊢
      have may := G.may s hs e he
      have nde := G.nd s hs e he
      refine ⟨_, rfl, _, rfl, n, 147, rfl, rfl, ⟨by decide, by decide⟩, e.1, _, rfl, rfl, _, _, rfl, rfl, (by show (0 : Int) < 999; decide), 1, _, rfl, rfl, ?_⟩
      obtain ⟨m2, em2, gm2⟩ : ∃ m2 : Int, 1 + (e.1 + n / 147) % 999 = m2 ∧ MakeI m2 := ⟨_, rfl, by show 1 ≤ 1 + (e.1 + n / 147) % 999 ∧ 1 + (e.1 + n / 147) % 999 ≤ 999; omega⟩
      show gName 7 (V.int (1 + (e.1 + n / 147) % 999)) _ _ _
      rw [em2]
      have hnot : ∀ m, lookE (dropE s.ents e.1) m = none → hasB st5 (.str s.ware) (.int m) = false := fun m hm => by
        have z : m ∉ (dataOf st5 s.ware).map (·.1) := fun z => by
          rw [dcur, List.map_map] at z
          obtain ⟨x, hx, ex⟩ := List.mem_map.mp z
          exact lookE_none hm x hx ex
        rw [hasB_keys, decide_eq_false z, Bool.and_false]
      have hA5n : ∀ y ∈ A, H5 y ≠ none := fun y hy => by
        obtain ⟨ys, ey⟩ := hA5 y hy
        rw [ey]
        exact fun z => by cases z
      have fdD5 := S5.bx.foot_dict
      have fdr5 := B5.foot_dict
      refine ⟨_, rfl, n, 49, rfl, rfl, ⟨by decide, by decide⟩, n / 49, 3, rfl, rfl, (by show (0 : Int) < 3; decide), rfl, _, rfl, iteD (fun c1 => ?_) (fun c1 => ?_)⟩
      · -- with a need fewer
        have c1 : n / 49 % 3 = 1 := by have z : V.int (n / 49 % 3) = V.int 1 := c1; injection z
        refine put_readN (A := A) (st := st5) (x := s.ware) (m := e.1) (ds := e.2.2.drop 1) (i := 0) S5 gw gm.b (fun d hd => nde d (List.mem_of_mem_drop hd)) (mayB_drop may 1) S5t h100 hA5n (hnot _ ln) hplace rfl (fun Q z => ⟨_, rfl, z⟩) (fun Q z => ⟨_, rfl, z⟩) (fun Q z => ?_) fun H6 st6 S6 d6 k6 f6 => ?_
        · cases dl5 with
          | @lst _ xs _ hA1 hA2 =>
            refine ⟨_, rfl, 1, rfl, e.2.1, xs, rfl, seq_show hA1, fun l nl => ?_⟩
            rw [cutV_tail]
            have kl := Kp.new (o := HO.lst (xs.drop 1)) S5t nl
            refine z l (xs.drop 1) _ kl (.inl (.inl upd_same)) (dpAll_kx (F := []) (.of kl) (fun f hf => by cases hf) (dpAll_drop 1 hA2))
        · have dl6 := k6.dpA (fun f hf => .inr (fdD5 f hf)) dl5
          cases dl6 with
          | @lst _ xs _ hA1 hA2 =>
            refine ⟨_, rfl, 1, rfl, e.2.1, xs, rfl, seq_show hA1, fun l nl => ?_⟩
            rw [cutV_tail]
            have kl := Kp.new (o := HO.lst (xs.drop 1)) k6.tab nl
            have hlA : l ∉ A := fun z => by
              obtain ⟨ys, ey⟩ := hA5 l z
              rw [k6.lst0 fdD5 ey] at nl
              cases nl
            have hdl : Dp K (hide A (upd H6 l (.lst (xs.drop 1)))) (.ref l) (.list (e.2.2.drop 1)) := .lst (.inl (.inl (hide_of upd_same hlA))) (dpAll_kx (F := []) (.of kl) (fun f hf => by cases hf) (dpAll_drop 1 hA2))
            have B6 := (B5.kept k6 (fun f hf => .inr (fdD5 f hf)) (fun f hf z => PD5.dj f z hf)).keptP kl
            have hs5 := (look_mem lk5).1
            have SH := (B6.sh _ hs5).dc
            have small : ((dropE s.ents e.1).map entK).length < 1000 := by rw [List.length_map]; omega
            have gr := PD5.grow lk5 ln gm (mayB_drop may 1) (fun d hd => nde d (List.mem_of_mem_drop hd)) (by show (dropE s.ents e.1).length + 1 ≤ mm; omega) hA5 S6 d6 k6 f6 kl hdl
            refine ⟨_, rfl, _, rfl, r, _, rfl, cell_get B6 lk5, _, rfl, s.at_, _, rfl, DPut.k (k := Sum.inl e.1) SH (small1000 (by rw [List.length_map]; show (dropE s.ents e.1).length ≤ 1000; omega)), ?_⟩
            rw [ent_put ln]
            obtain ⟨PD7, kx7⟩ := gr
            have c2 : ¬ V.int (n / 49 % 3) = V.int 2 := fun z => by injection z; omega
            refine ⟨_, rfl, n, 49, rfl, rfl, ⟨by decide, by decide⟩, n / 49, 3, rfl, rfl, (by show (0 : Int) < 3; decide), rfl, _, rfl, iteD (fun z => absurd z c2) (fun _ => ?_)⟩
            rw [fEq] at kx7
            refine fin _ _ _ PD7 (kx05.trans (kx7.mono fun f hf => ?_)) ((setE_wares _ _ _).trans wEq) ((foot_set).trans fEq) (fun f hf => ?_) fun hR => ?_
            · exact (List.mem_append.mp hf).elim (List.mem_append_left _) fun q => List.mem_append_right _ (ftk f q)
            · rcases f6 f hf with q | q
              · exact .inl (ftk f q)
              · exact hn f q
            · have fd5 : ∀ f ∈ foot r cl ++ foot D st5, ∃ kvs, H5 f = some (.dK kvs) := fun f hf => (List.mem_append.mp hf).elim (fun q => fdr5 f (by rw [fEq]; exact q)) (fdD5 f)
              have z5 := raw5 hR
              refine (z5.kx kx7 fd5).set fun x hx => ?_
              rcases List.mem_append.mp hx with hx | hx
              · exact (z5 _ hs5 x hx).imp fun _ q => ⟨kx7.lst0 fd5 q.1, dpAll_kx0 kx7 fd5 q.2⟩
              · rw [List.mem_singleton.mp hx]
                refine ⟨xs.drop 1, ?_, dpAll_mono (fun b o hs e => by rw [upd_ne (fun z => by rw [z, show upd H6 l (.lst (xs.drop 1)) s.at_ = _ from SH] at e; cases e; cases hs)]; exact e) _ _ (dpAll_show (dpAll_kx (F := []) (.of kl) (fun f hf => by cases hf) (dpAll_drop 1 hA2)))⟩
                show upd (upd H6 l (.lst (xs.drop 1))) s.at_ _ l = _
                rw [upd_ne (fun z => by rw [← z, upd_same] at SH; cases SH)]
                exact upd_same
      · have c1 : ¬ n / 49 % 3 = 1 := fun z => c1 (by show V.int (n / 49 % 3) = V.int 1; rw [z])
        have fin0 := fin H5 st5 cl5 PD5 kx05 wEq fEq (fun f hf => .inl (ftk f hf)) raw5
        refine ⟨_, rfl, n, 49, rfl, rfl, ⟨by decide, by decide⟩, n / 49, 3, rfl, rfl, (by show (0 : Int) < 3; decide), rfl, _, rfl, iteD (fun c2 => ?_) (fun _ => fin0)⟩
        have hs5 := (look_mem lk5).1
        refine ⟨_, rfl, _, rfl, _, rfl, r, _, rfl, cell_get B5 lk5, s.at_, _, rfl, ent_rd (.of B5) hs5 m2, _, rfl, ?_⟩
        cases ln2 : lookE (dropE s.ents e.1) m2 with
        | some x => exact fin0
        | none =>
          -- another make
          refine put_readN (A := A) (st := st5) (x := s.ware) (m := m2) (ds := e.2.2) (i := 0) S5 gw gm2.b nde may S5t h100 hA5n (hnot _ ln2) hplace rfl (fun Q z => ⟨_, rfl, z⟩) (fun Q z => ⟨_, rfl, z⟩) (fun Q z => ?_) fun H6 st6 S6 d6 k6 f6 => ?_
          · cases dl5 with
            | @lst _ xs _ hA1 hA2 =>
              refine ⟨_, rfl, e.2.1, xs, rfl, .inl (seq_show hA1), fun l nl => ?_⟩
              have kl := Kp.new (o := HO.lst xs) S5t nl
              refine z l xs _ kl (.inl (.inl upd_same)) (dpAll_kx (F := []) (.of kl) (fun f hf => by cases hf) hA2)
          · have dl6 := k6.dpA (fun f hf => .inr (fdD5 f hf)) dl5
            have B6 := B5.kept k6 (fun f hf => .inr (fdD5 f hf)) (fun f hf z => PD5.dj f z hf)
            have SH := (B6.sh _ hs5).dc
            obtain ⟨PD7, kx7⟩ := PD5.grow lk5 ln2 gm2 may nde (by show (dropE s.ents e.1).length + 1 ≤ mm; omega) hA5 S6 d6 k6 f6 (.refl k6.tab) dl6
            refine ⟨_, rfl, _, rfl, _, rfl, r, _, rfl, cell_get B6 lk5, _, rfl, s.at_, _, rfl, DPut.k (k := Sum.inl m2) SH (small1000 (by rw [List.length_map]; show (dropE s.ents e.1).length ≤ 1000; omega)), ?_⟩
            rw [ent_put ln2]
            rw [fEq] at kx7
            refine fin _ _ _ PD7 (kx05.trans (kx7.mono fun f hf => ?_)) ((setE_wares _ _ _).trans wEq) ((foot_set).trans fEq) (fun f hf => ?_) fun hR => ?_
            · exact (List.mem_append.mp hf).elim (List.mem_append_left _) fun q => List.mem_append_right _ (ftk f q)
            · rcases f6 f hf with q | q
              · exact .inl (ftk f q)
              · exact hn f q
            · have fd5 : ∀ f ∈ foot r cl ++ foot D st5, ∃ kvs, H5 f = some (.dK kvs) := fun f hf => (List.mem_append.mp hf).elim (fun q => fdr5 f (by rw [fEq]; exact q)) (fdD5 f)
              have z5 := raw5 hR
              refine (z5.kx kx7 fd5).set fun x hx => ?_
              rcases List.mem_append.mp hx with hx | hx
              · exact (z5 _ hs5 x hx).imp fun _ q => ⟨kx7.lst0 fd5 q.1, dpAll_kx0 kx7 fd5 q.2⟩
              · rw [List.mem_singleton.mp hx]
                exact (hR s hs e he).imp fun _ q => ⟨kx7.lst0 fd5 (kx05.lst0 fdA q.1), dpAll_kx0 kx7 fd5 (dpAll_kx0 kx05 fdA q.2)⟩
end
end Pk

set_option Elab.async false
set_option linter.all false
set_option maxRecDepth 100000
set_option maxHeartbeats 4000000
namespace Pk
open PySem PySem.Spec PyProof.Rows L2
theorem pkD_drop (w : Str) : ∀ pk : List (Str × Int), dropK (pkD pk) (Sum.inr w : Key) = pkD (pk.filter fun e => decide (e.1 ≠ w))
  | [] => rfl
  | e :: r => by
    have ih := pkD_drop w r
    unfold dropK pkD at ih ⊢
    rw [List.map_cons, List.filter_cons, List.filter_cons]
    by_cases h : e.1 = w
    · rw [if_neg (by show ¬ decide (¬ ((Sum.inr e.1 : Key) = Sum.inr w)) = true; rw [h, decide_eq_false (fun z => z rfl)]; exact Bool.false_ne_true), if_neg (by rw [decide_eq_false (fun z => z h)]; exact Bool.false_ne_true)]
      exact ih
    · rw [if_pos (decide_eq_true (by show ¬ ((Sum.inr e.1 : Key) = Sum.inr w); exact fun z => h (Sum.inr.inj z))), if_pos (decide_eq_true h), List.map_cons]
      exact congrArg _ ih
theorem PickOk.drop {D : Str → List (Int × List PyData)} {pk : List (Str × Int)} (O : PickOk D pk) (w : Str) : PickOk D (pk.filter fun e => decide (e.1 ≠ w)) :=
  ⟨(List.Sublist.map _ List.filter_sublist).nodup O.nd, Nat.le_trans (List.length_filter_le _ _) O.len, fun e he => O.gd e (List.mem_filter.mp he).1, fun e he => O.in_ e (List.mem_filter.mp he).1⟩
theorem dpAll_dropLast {K : PySem.W.Frag} {H : Hp} : ∀ {ds : List PyData} {vs : List V}, DpAll K H vs ds → DpAll K H vs.dropLast ds.dropLast
  | [], _, h => by cases h; exact .nil
  | [d], _, h => by
    cases h with
    | cons a b => cases b; exact .nil
  | d :: d2 :: r, _, h => by
    cases h with
    | cons a b =>
      cases b with
      | cons c e => exact .cons a (dpAll_dropLast (.cons c e))
/-- what is asked about: a shop beside its rows, a wish, a pick -/
structure AgSt (K : PySem.W.Frag) (C T : Addr) (A : List Addr) (H : Hp) (p D : Addr) (st : List Shelf) (r : Addr) (cl : List Shelf) (q : Addr) (xs : List V) (ds : List PyData) (a : Addr) (pk : List (Str × Int)) : Prop where
  S : ShopAt K C A H p D st
  B : BoxOk K A H r cl
  dt : dataOf st = dataOf cl
  G : GoodSh (dataOf cl)
  hA : ∀ x ∈ A, ∃ ys, H x = some (.lst ys)
  hq : H q = some (.lst xs)
  hd : DpAll K (hide A H) xs ds
  nd : ∀ d ∈ ds, ND d
  h8 : ds.length ≤ 8
  ha : H a = some (.dK (pkD pk))
  af : a ∉ foot D st
  ar : a ∉ foot r cl
  O : PickOk (dataOf cl) pk
  ht : GxR.TabG H T
theorem dict_kp {T a : Addr} {H H' : Hp} {kvs : List (Key × V)} (k : Kp T H H') (h : H a = some (.dK kvs)) : H' a = some (.dK kvs) := k.keep _ _ (tab_ne k.t0 h fun _ z => by cases z) h
section
variable {K : PySem.W.Frag} {C T : Addr} {A : List Addr} {H : Hp} {p D : Addr} {st : List Shelf} {r : Addr} {cl : List Shelf} {q : Addr} {xs : List V} {ds : List PyData} {a : Addr} {pk : List (Str × Int)}
theorem AgSt.kept {H' : Hp} (X : AgSt K C T A H p D st r cl q xs ds a pk) (k : Kp T H H') : AgSt K C T A H' p D st r cl q xs ds a pk :=
  ⟨X.S.keptP k, X.B.keptP k, X.dt, X.G, fun x hx => (X.hA x hx).imp fun ys e => k.lst e, k.lst X.hq, dpAll_kx (F := []) (.of k) (fun f hf => by cases hf) X.hd, X.nd, X.h8, dict_kp k X.ha, X.af, X.ar, X.O, k.tab⟩
/-- the wish handed in is another list -/
theorem AgSt.wish {H' : Hp} {xs' : List V} {ds' : List PyData} (X : AgSt K C T A H p D st r cl q xs ds a pk) (hqA : q ∈ A) (k : Kx T [q] H H') (hq : H' q = some (.lst xs')) (hd : DpAll K (hide A H) xs' ds') (nd : ∀ d ∈ ds', ND d) (h8 : ds'.length ≤ 8) : AgSt K C T A H' p D st r cl q xs' ds' a pk := by
  have hF : ∀ f ∈ [q], f ∈ A ∨ ∃ kvs, H f = some (.dK kvs) := fun f hf => .inl (by rw [List.mem_singleton.mp hf]; exact hqA)
  have hFp : ∀ f ∈ [q], f ∈ A → ∃ ys, H f = some (.lst ys) := fun f hf _ => by rw [List.mem_singleton.mp hf]; exact ⟨_, X.hq⟩
  have nq : ∀ f, (∃ kvs, H f = some (.dK kvs)) → f ∉ [q] := fun f ⟨kvs, e⟩ z => by rw [List.mem_singleton.mp z, X.hq] at e; cases e
  refine ⟨X.S.kept k hF hFp fun f hf => nq f (X.S.bx.foot_dict f hf), X.B.kept k hF fun f hf => nq f (X.B.foot_dict f hf), X.dt, X.G, fun x hx => ?_, hq, dpAll_kx k hF hd, nd, h8, ?_, X.af, X.ar, X.O, k.tab⟩
  · by_cases e : x = q
    · rw [e]; exact ⟨_, hq⟩
    · obtain ⟨ys, ey⟩ := X.hA x hx
      exact ⟨ys, k.keep _ _ (tab_ne k.t0 ey fun _ z => by cases z) (fun z => e (List.mem_singleton.mp z)) ey⟩
  · exact k.keep _ _ (tab_ne k.t0 X.ha fun _ z => by cases z) (nq a ⟨_, X.ha⟩) X.ha
/-- the pick handed in is another dict -/
theorem AgSt.pick {H' : Hp} {pk' : List (Str × Int)} (X : AgSt K C T A H p D st r cl q xs ds a pk) (k : Kx T [a] H H') (ha : H' a = some (.dK (pkD pk'))) (O : PickOk (dataOf cl) pk') : AgSt K C T A H' p D st r cl q xs ds a pk' := by
  have hF : ∀ f ∈ [a], f ∈ A ∨ ∃ kvs, H f = some (.dK kvs) := fun f hf => .inr (by rw [List.mem_singleton.mp hf]; exact ⟨_, X.ha⟩)
  have hFd : ∀ f ∈ [a], ∃ kvs, H f = some (.dK kvs) := fun f hf => by rw [List.mem_singleton.mp hf]; exact ⟨_, X.ha⟩
  have hFp : ∀ f ∈ [a], f ∈ A → ∃ ys, H f = some (.lst ys) := fun f _ hz => X.hA f hz
  exact ⟨X.S.kept k hF hFp fun f hf z => X.af (by rw [← List.mem_singleton.mp z]; exact hf), X.B.kept k hF fun f hf z => X.ar (by rw [← List.mem_singleton.mp z]; exact hf), X.dt, X.G, fun x hx => (X.hA x hx).imp fun ys e => k.lst0 hFd e, k.lst0 hFd X.hq, dpAll_kx k hF X.hd, X.nd, X.h8, ha, X.af, X.ar, O, k.tab⟩
theorem AgSt.ask {Q : VK} {E : XK} (X : AgSt K C T A H p D st r cl q xs ds a pk) (z : ∀ out l H', AgOf (needW (dataOf cl) pk) (addW [] (ds.map wOf)) 0 out → (∀ y ∈ out, GoodN y) → out.Nodup → out.length ≤ 700 → Kp T H H' → H l = none → H' l = some (.lst (out.map V.str)) → Q (.ref l) H') : spAgenda K C T [.ref p, .ref q, .ref a] H Q E := by
  refine ⟨A, p, D, q, a, st, xs, ds, pk, rfl, X.S, by rw [X.dt]; exact X.G, X.hA, .inl (.inl X.hq), dpAll_show X.hd, X.nd, X.h8, X.ha, X.af, by rw [X.dt]; exact X.O, X.ht, ?_⟩
  rw [X.dt]
  exact z
theorem AgSt.askL {Q : VK} {E : XK} (X : AgSt K C T A H p D st r cl q xs ds a pk) (z : ∀ out l H', AgOf (needW (dataOf cl) pk) (addW [] (ds.map wOf)) 0 out → (∀ y ∈ out, GoodN y) → out.Nodup → out.length ≤ 700 → Kp T H H' → H l = none → H' l = some (.lst (out.map V.str)) → Q (.ref l) H') : spLAg K T [.ref r, .ref q, .ref a] H Q E :=
  ⟨A, r, q, a, cl, xs, ds, pk, rfl, .of X.B, X.G, .inl (.inl X.hq), dpAll_show X.hd, X.nd, X.h8, .inl X.ha, X.O, X.ht, z⟩
theorem AgSt.call {σ : L2.St} {i j k : Nat} {Q : VK} (X : AgSt K C T A H p D st r cl q xs ds a pk) (hi : σ[i]? = some (some (.ref p))) (hj : σ[j]? = some (some (.ref q))) (hk : σ[k]? = some (some (.ref a))) (z : ∀ out l H', AgOf (needW (dataOf cl) pk) (addW [] (ds.map wOf)) 0 out → (∀ y ∈ out, GoodN y) → out.Nodup → out.length ≤ 700 → Kp T H H' → H l = none → H' l = some (.lst (out.map V.str)) → Q (.ref l) H') :
    tCall (spAgenda K C T) [] E0 (tCons (tVar i) (tCons (tVar j) (tCons (tVar k) tNil))) σ H Q := ⟨_, hi, _, hj, _, hk, X.ask (E := E0) z⟩
theorem AgSt.callL {σ : L2.St} {i j k : Nat} {Q : VK} (X : AgSt K C T A H p D st r cl q xs ds a pk) (hi : σ[i]? = some (some (.ref r))) (hj : σ[j]? = some (some (.ref q))) (hk : σ[k]? = some (some (.ref a))) (z : ∀ out l H', AgOf (needW (dataOf cl) pk) (addW [] (ds.map wOf)) 0 out → (∀ y ∈ out, GoodN y) → out.Nodup → out.length ≤ 700 → Kp T H H' → H l = none → H' l = some (.lst (out.map V.str)) → Q (.ref l) H') :
    tCall (spLAg K T) [] E0 (tCons (tVar i) (tCons (tVar j) (tCons (tVar k) tNil))) σ H Q := ⟨_, hi, _, hj, _, hk, X.askL (E := E0) z⟩
end
end Pk

set_option Elab.async false
set_option linter.all false
set_option maxRecDepth 100000
set_option maxHeartbeats 4000000
namespace Pk
open PySem PySem.Spec PyProof.Rows L2
/-- a make that the rows have -/
def inR (D : Str → List (Int × List PyData)) (e : Str × Int) : Bool := decide (e.2 ∈ (D e.1).map (·.1))
def PairV (K : PySem.W.Frag) (H : Hp) (v : V) (e : Str × Int) : Prop := ∃ t, v = .ref t ∧ SqT K H t [.str e.1, .int e.2]
theorem ints_eqv (n : Nat) : PyData.eqv (.list ((List.replicate n (1 : Int)).map .int)) (.list []) = decide (n = 0) := by
  rw [eqv_nil]
  cases n <;> rfl
section
variable {P : Program} {w : World} {K : PySem.W.Frag} {mg : Str → Option Value} {base : Heap}
def thereN : List Str := ["_law_rows_here", "_law_pairs", "_law_ware", "_law_make"]
theorem scThere : FnScope thereN ["_law_rows_here", "_law_pairs"] (defScope sThere) := ⟨rfl, rfl, rfl, by decide +kernel, rfl, by decide +kernel, by decide +kernel⟩
def spThere (K : PySem.W.Frag) (T : Addr) : Sp := fun vs H Q _ => ∃ (A : List Addr) (r q : Addr) (cl : List Shelf) (xs : List V) (pk : List (Str × Int)), vs = [.ref r, .ref q] ∧ BoxOk K A H r cl ∧ SqL K H q xs ∧ Paired (PairV K H) xs pk ∧ pk.length ≤ 100 ∧ GxR.TabG H T ∧
  ∀ H', Kp T H H' → Q (.bl (pk.all (inR (dataOf cl)))) H'
theorem ok_there {f T : Addr} {fd : FuncData} (F : Fun K "_law_there" "_law_there" sThere f fd) : FnOk P w K mg base CX0 1 f fd ["_law_rows_here", "_law_pairs"] (spThere K T) := by
  refine F.ok scThere (fun vs H Q E h => ?_) (fun cdv A0 outer s H vs Q E hr h => ?_)
  · obtain ⟨A, r, q, cl, xs, pk, rfl, _⟩ := h
    rfl
  · obtain ⟨A, r, q, cl, xs, pk, rfl, B, hq, hp, h100, ht, fin⟩ := h
    have hu := hu_of hr
    refine ⟨_, (pss_one (ps_ret (pe_cmpR (op_eqD hr.units) (pe_lc (own := [("_law_ware", 2), ("_law_make", 3)]) (g := (gTup K 2 (gCons (gName 2) (gCons (gName 3) gNil)))) rfl scThere.nd (pi_list (pv 1)) (blkOk_by (own := [("_law_ware", 2), ("_law_make", 3)]) (N := thereN) (sc := defScope sThere) (by decide +kernel)) (fun _ _ _ _ _ => (pg_tup (by rfl) (pgs_cons (pg_name (i := 2) scThere.nd rfl (by first | exact Or.inl rfl | exact Or.inr rfl)) (pgs_cons (pg_name (i := 3) scThere.nd rfl (by first | exact Or.inl rfl | exact Or.inr rfl)) pgs_nil)))) (fun _ _ _ _ _ => pts_one (pt_cmp (pc_dnotin hu (pv 3) (pe_dget2 hu (pv 0) (pv 2) pe_dnewK ⟨rfl, rfl, rfl, rfl⟩)))) (fun _ _ _ _ _ => pe_int)) (pe_lst pa_nil) (nomark _)))), ?_⟩
    refine ⟨_, rfl, q, rfl, ⟨_, hq⟩, fun D nD => ?_⟩
    have DT := tab_nn ht nD
    refine lc_list (K := K) (a := q) (xs := xs) (fun i H' => Kp T H H' ∧ ∃ n, n ≤ i ∧ (n = 0 ↔ (pk.take i).all (inR (dataOf cl)) = true) ∧ H' D = some (.lst ((List.replicate n (1 : Int)).map V.int))) ⟨Kp.new ht nD, 0, Nat.le_refl _, ⟨fun _ => rfl, fun _ => rfl⟩, upd_same⟩ (fun i H' _ ⟨kk, _⟩ => kk.seq hq) (fun i v H' hi hv => ?_) (fun H2 hv => ?_)
    · obtain ⟨kk, n, hn, hz, eD⟩ := hv
      have hil : i < pk.length := by
        rw [← paired_len hp]
        exact (List.getElem?_eq_some_iff.mp hi).1
      have ei := List.getElem?_eq_getElem hil
      obtain ⟨v', ev', t, rfl, ht'⟩ := paired_get hp ei
      rw [hi] at ev'
      cases ev'
      have etake : pk.take (i + 1) = pk.take i ++ [pk[i]] := by rw [List.take_succ, ei]; rfl
      generalize pk[i] = e at ht' etake
      have fl : ∀ {b : Bool} {H3 : Hp}, Kp T H H3 → H3 D = some (.lst ((List.replicate n (1 : Int)).map V.int)) → b = inR (dataOf cl) e → (if (!b) = true then ∃ acc, H3 D = some (.lst acc) ∧ acc.length < sizeLine ∧ (Kp T H (upd H3 D (.lst (acc ++ [.int 1]))) ∧ ∃ n, n ≤ i + 1 ∧ (n = 0 ↔ (pk.take (i + 1)).all (inR (dataOf cl)) = true) ∧ upd H3 D (.lst (acc ++ [.int 1])) D = some (.lst ((List.replicate n (1 : Int)).map V.int))) else Kp T H H3 ∧ ∃ n, n ≤ i + 1 ∧ (n = 0 ↔ (pk.take (i + 1)).all (inR (dataOf cl)) = true) ∧ H3 D = some (.lst ((List.replicate n (1 : Int)).map V.int))) := fun {b H3} k3 e3 eb => by
        rw [etake, List.all_append]
        have e1 : [e].all (inR (dataOf cl)) = b := by rw [eb]; show (inR (dataOf cl) e && true) = _; rw [Bool.and_true]
        rw [e1]
        cases b with
        | true =>
          refine iteF ⟨k3, n, by omega, ?_, e3⟩
          rw [Bool.and_true]
          exact hz
        | false =>
          refine iteT ⟨_, e3, small1000 (by rw [List.length_map, List.length_replicate]; omega), k3.set nD DT, n + 1, by omega, ⟨fun z => absurd z (Nat.succ_ne_zero n), fun z => by rw [Bool.and_false] at z; cases z⟩, ?_⟩
          rw [upd_same, List.replicate_succ', List.map_append]
          rfl
      have B' := B.keptP kk
      refine ⟨t, _, rfl, kk.sqt ht', rfl, _, _, rfl, _, _, rfl, rfl, rfl, _, rfl, _, rfl, r, rfl, .inl ⟨_, .inl B'.dc⟩, _, rfl, fun d nd => ?_⟩
      have k2 := Kp.new (o := HO.dK []) kk.tab nd
      have kk2 := kk.trans k2
      have ed : upd H' d (.dK []) d = some (.dK ([] : List (Key × V))) := upd_same
      have eD2 := k2.lst eD
      generalize upd H' d (.dK []) = H3 at k2 kk2 ed eD2 ⊢
      have B3 := B.keptP kk2
      refine ⟨_, cell_rd (.of B3) e.1, ?_⟩
      cases el : look cl e.1 with
      | none =>
        refine ⟨d, _, rfl, DGet.k (k := (Sum.inl e.2 : Key)) ed, _, rfl, ?_⟩
        refine fl (b := false) kk2 eD2 ?_
        unfold inR dataOf
        rw [el]
        rfl
      | some s =>
        have hs := (look_mem el).1
        refine ⟨s.at_, _, rfl, ent_rd (.of B3) hs e.2, _, rfl, ?_⟩
        rw [Option.isSome_map, keyE_iff]
        refine fl kk2 eD2 ?_
        unfold inR
        rw [look_data el]
    · obtain ⟨kk, n, hn, hz, eD⟩ := hv
      have hl : xs.length = pk.length := paired_len hp
      rw [hl] at hn hz
      rw [List.take_length] at hz
      refine ⟨(by show (0 : Nat) ≤ sizeLine; decide), fun l nl => ?_⟩
      have k2 := Kp.new (o := HO.lst []) kk.tab nl
      refine ⟨.list ((List.replicate n (1 : Int)).map .int), .list [], dp_lst (k2.lst eD) (dp_ints _), dp_lst upd_same .nil, shaped_ints _, rfl, ?_⟩
      rw [ints_eqv]
      have z := fin _ (kk.trans k2)
      have e1 : decide (n = 0) = pk.all (inR (dataOf cl)) := by
        cases h : pk.all (inR (dataOf cl)) with
        | true => exact decide_eq_true (hz.mpr h)
        | false => exact decide_eq_false fun q => by rw [hz.mp q] at h; cases h
      rw [e1]
      exact z
end
end Pk

set_option Elab.async false
set_option linter.all false
set_option maxRecDepth 100000
set_option maxHeartbeats 4000000
/-! all(..), any(..) of a generator expression over any walked thing, its element by rules -/
namespace Pk
open PySem PySem.Spec PyProof.Rows L2
/-! ### the generator's code object -/
theorem gx_code {X : Cx} {pins : List (Addr × Obj)} {σ : L2.St} {H : Hp} {s : Shared} {c P : Addr} {pos : Pos} {q : Str} {scope : Scope} {A : Around} {E : Value → Shared → Prop} {Q : Value → Addr → Shared → Prop} (TB : GxR.TabB X.base X.mg c P) (hcode : X.env.code = .ref c) (I : Inv X pins σ H s) (ht : GxR.TabG H P)
    (hQ : ∀ code s' H', GxR.Tabbed P H H' → Inv X pins σ H' s' → s.heap.objs.size ≤ s'.heap.objs.size → (∀ b o, b ≠ P → s.heap.get? b = some o → s'.heap.get? b = some o) → Q code builtinsNs s') :
    wpAny (model X.prog X.w) A (genexprCode X.env pos q scope) (fun code s3 => wpAny (model X.prog X.w) A (builtinsFor X.env.globals X.env.builtins) (Q code) E s3) E s := by
  obtain ⟨ps, hP, htr⟩ := ht
  have hPs : s.heap.get? P = some { cls := .none, data := .fields ps } := I.hok P _ hP
  have cd : PySem.W.CodeHd s.heap c P := TB.code.keeps I.bk
  have go : ∀ (code : Value) (h3 : Heap) (tk : Nat) (more : Array Value), Heap.ExtBut P s.heap h3 → s.heap.objs.size ≤ h3.objs.size → h3.get? P = some { cls := .none, data := .fields (ps ++ more) } → TriplesOk (ps ++ more).toList →
      wpAny (model X.prog X.w) A (builtinsFor X.env.globals X.env.builtins) (Q code) E { s with heap := h3, toks := tk } := fun code h3 tk more hx hsz h3P ht3 => by
    obtain ⟨bm, ob, e1, e2, e3, e4, e5, e6, e7, e8⟩ := TB.bm
    refine wpAny_builtinsFor (m := X.mg) (by rw [I.ok.glob]; exact (I.mod.glob.keeps I.bk).extBut hx TB.gP) e1 e2 (hx _ _ e4 (I.bk _ _ e5)) e6 e7 e8 ?_
    have J := GxR.inv_tab (more := more) (h' := h3) (g' := s.gens) (d' := s.drawn) (t' := tk) I hP (fun b u hb e => hx b u hb e) h3P I.bare
    exact hQ code { s with heap := h3, toks := tk } _ ⟨⟨_, upd_same, ht3⟩, fun b hb => upd_ne hb⟩ J hsz fun b o hb e => hx b o hb e
  cases hf : codeAmong pos ps.toList with
  | none =>
    refine wpAny_genexprCodeX hcode (cd.code hPs htr) (cd.tab hPs) hf fun c' h' tk hx hge hlt hco' _ htab' _ => ?_
    obtain ⟨o1, vs, f1, tf, fl, tg, inF, tx, tt, op, _, _, _, _, _, _, _, _, _, ht2, _⟩ := hco'
    exact go _ h' tk _ hx (Nat.le_trans hge (Nat.le_of_lt hlt)) htab'.2 ht2
  | some cv =>
    refine wpAny_genexprCode_hit hcode (cd.code hPs htr) hf ?_
    exact go cv s.heap s.toks #[] (Heap.ExtBut.refl _ _) (Nat.le_refl _) (by rw [Array.append_empty]; exact hPs) (by rw [Array.append_empty]; exact htr)
/-! ### the generator's frame -/
/-- its context: run over X's frames, its own frame on top -/
def gxOf (X : Cx) (A : Around) (s : Shared) (H : Hp) (cenv : Env) (fp : List Addr) : Cx := { X with A := A.deeper cenv, s_0 := s, H_0 := H, env := cenv, outer := X.stack, stack := cenv :: X.stack, ex := fp, fn := fun _ => false, calm := true, pn := [], xe := fun _ _ => False }
/-- the names of a generator expression: its own (with their places in N), or captured -/
structure GxS (N : List Str) (env : Env) (scope : Scope) (own : List (Str × Nat)) : Prop where
  kind : scope.kind = .function
  co : scope.isCoroutine = false
  cell : ∀ y ∈ scope.names, y.2 ≠ .cell
  dot : scope.names.lookup (".0" : Str) = some NameKind.local
  uniq : ∀ y ∈ scope.names, scope.names.lookup y.1 = some y.2
  ix : ∀ p ∈ own, N[p.2]? = some p.1
  free : ∀ y ∈ scope.names, y.2 = .free → env.scope.names.lookup y.1 = some .cell ∨ env.scope.names.lookup y.1 = some .free
  loc : ∀ y ∈ scope.names, y.2 = .local → y.1 ∈ own.map (·.1) ∨ y.1 ∉ N
theorem gx_start {X : Cx} {pins : List (Addr × Obj)} {σ : L2.St} {H : Hp} {s : Shared} {scope : Scope} {own : List (Str × Nat)} {fp : List Addr} {A : Around} {code : Value} {h5 : Heap} {gs : Array GenState} {tk : Nat} {m : Str → Option Value} (I : Inv X pins σ H s) (S : GxS X.N X.env scope own) (hN : X.N.Nodup)
    (hfp : ∀ b ∈ fp, FpOk X pins H b ∧ b < s.heap.objs.size) (hfr : A.frames = X.A.frames) (hh : A.handled = none) (keep : ∀ b o, s.heap.get? b = some o → h5.get? b = some o) (hn : h5.Ns s.heap.objs.size m) (hg : AllBare gs) :
    Inv (gxOf X A s H (genEnv scope (cloFrom X.env.cells scope.names []) s.heap.objs.size code builtinsNs X.env) fp) [] (wipe σ (own.map (·.2))) H { s with heap := h5, gens := gs, toks := tk } := by
  have hfree : ∀ y ∈ scope.names, y.2 = .free → ∃ c, X.env.cells.lookup y.1 = some c := fun y hy e => by
    rcases S.free y hy e with k | k
    · exact I.ok.has _ (.inl k)
    · exact I.ok.has _ (.inr k)
  generalize hce : genEnv scope (cloFrom X.env.cells scope.names []) s.heap.objs.size code builtinsNs X.env = ce
  have hL : ce.locals = s.heap.objs.size := by rw [← hce]; rfl
  have hcl : ce.cells = cloFrom X.env.cells scope.names [] := by rw [← hce]; rfl
  have hsc : ce.scope = scope := by rw [← hce]; rfl
  have hfrm : ce.frame = some ce.locals := by rw [← hce]; rfl
  have cm : ∀ {y c}, (y, c) ∈ ce.cells → X.env.cells.lookup y = some c ∧ scope.names.lookup y = some .free := fun {y c} hm => by
    rw [hcl] at hm
    rcases cloFrom_mem hm with hm | ⟨h1, rfl⟩
    · cases hm
    · obtain ⟨c, hc⟩ := hfree _ h1 rfl
      rw [hc]
      exact ⟨rfl, S.uniq _ h1⟩
  have cl : ∀ {y c}, ce.cells.lookup y = some c → X.env.cells.lookup y = some c ∧ scope.names.lookup y = some .free := fun e => cm (PySem.mem_of_lookup e)
  have look : ∀ {y}, scope.names.lookup y = some .free → ∃ c, ce.cells.lookup y = some c := fun {y} hl => by
    have hy : (y, NameKind.free) ∈ scope.names := PySem.mem_of_lookup hl
    have z := cloFrom_has (cells := X.env.cells) (acc := []) hy
    rw [← hcl] at z
    exact mem_lookup z
  have vis : ∀ y, Vis ce.scope y → scope.names.lookup y = some .local ∨ scope.names.lookup y = some .free := fun y v => by
    rw [hsc] at v
    rcases v with v | v | v
    · exact .inl v
    · exact absurd rfl (S.cell _ (PySem.mem_of_lookup v))
    · exact .inr v
  have ok : (gxOf X A s H ce fp).Ok := by
    refine ⟨I.ok.mod, by show ce.scope.kind = _; rw [hsc]; exact S.kind, by show ce.globals = _; rw [← hce]; exact I.ok.glob, by show ce.builtins = _; rw [← hce]; rfl, by show s.heap.objs.size ≤ ce.locals; rw [hL]; exact Nat.le_refl _, fun y z c e1 e2 => I.ok.inj y z c (cl e1).1 (cl e2).1, fun y hy => ?_, (fun y c z => by cases z),
      fun _ => hh, ?_, .inr ⟨rfl, hfrm⟩, fun b hb => ⟨?_, fun y c e z => (hfp b hb).1.2.2.2.2.1 y c (cl e).1 z⟩, I.bs, Nat.le_trans I.ok.bsz I.sz, fun b o e hb => ?_, fun b hb z => ?_, I.stack, I.stkFree⟩
    · show ∃ c, ce.cells.lookup y = some c
      have hy : ce.scope.names.lookup y = some .cell ∨ ce.scope.names.lookup y = some .free := hy
      rw [hsc] at hy
      rcases hy with hy | hy
      · exact absurd rfl (S.cell _ (PySem.mem_of_lookup hy))
      · exact look hy
    · show (A.deeper ce).frames = some (ce :: X.stack)
      exact Around.frames_deeper (by rw [hfr]; exact I.ok.frames)
    · show b ≠ ce.locals
      rw [hL]; exact Nat.ne_of_lt (hfp b hb).2
    · rcases (hfp b hb).1.2.2.2.1 with z | z
      · exact I.ok.noex b o e z
      · exact absurd (Nat.lt_of_lt_of_le (Heap.lt_size e) (Nat.le_trans I.ok.bsz z)) (Nat.lt_irrefl _)
    · rcases List.mem_cons.mp (I.stkSub b z) with z | z
      · exact (hfp b hb).1.2.1 z
      · exact (hfp b hb).1.2.2.1 z
  refine ⟨ok, rfl, hg, Un.kept keep, ⟨m, by show Heap.Ns _ ce.locals _; rw [hL]; exact hn, fun i y av e1 e2 e3 => ?_⟩, fun y c e => ?_, by show H ce.locals = none; rw [hL]; exact I.hok.fresh (Nat.le_refl _), fun y c e => I.freeC y c (cl e).1, fun p hp => absurd (show p ∈ ([] : List (Addr × Obj)) ++ [] from hp) (by simp), I.hok.kept keep, by rw [wipe_length]; exact I.len⟩
  · obtain ⟨e2, hne⟩ := wipe_some e2
    rcases vis y e3 with k | k
    · exfalso
      rcases S.loc _ (PySem.mem_of_lookup k) rfl with e' | e'
      · obtain ⟨p, hp, hpy⟩ := List.mem_map.mp e'
        have e4 := S.ix p hp
        rw [show p.1 = y from hpy] at e4
        exact hne (List.mem_map.mpr ⟨p, hp, nodup_ix hN e4 e1⟩)
      · exact e' (List.mem_of_getElem? e1)
    · obtain ⟨m0, _, hl⟩ := I.loc
      have hv : Vis X.env.scope y := (S.free _ (PySem.mem_of_lookup k) rfl).elim (fun q => .inr (.inl q)) fun q => .inr (.inr q)
      obtain ⟨u, r, q⟩ := hl i y av e1 e2 hv
      obtain ⟨c, hc⟩ := look k
      refine ⟨u, r, .inr ⟨.inr (by show ce.scope.names.lookup y = _; rw [hsc]; exact k), c, hc, ?_⟩⟩
      rcases q with ⟨q, _⟩ | ⟨_, c', e', z⟩
      · have q : X.env.scope.names.lookup y = some .local := q
        rcases S.free _ (PySem.mem_of_lookup k) rfl with k' | k' <;> rw [show X.env.scope.names.lookup y = _ from k'] at q <;> cases q
      · rw [(cl hc).1] at e'; cases e'
        exact z.keeps keep
  · obtain ⟨v, z⟩ := I.cell y c (cl e).1
    exact ⟨v, z.keeps keep⟩
theorem over_gx {A : Around} {elt : Expr} {gs : List Comprehension} {scope : Scope} {pos : Pos} {it acc : Value} {env : Env} : A.over (.compLoop (.GeneratorExp elt gs scope pos) 0 it acc env) [] = A.deeper env := rfl
theorem over_gx0 {A : Around} {elt : Expr} {gs : List Comprehension} {scope : Scope} {pos : Pos} {it acc : Value} {env : Env} : A.over (.compStart (.GeneratorExp elt gs scope pos) 0 it acc env) [] = A.deeper env := rfl
/-- amid the walk, i items gone -/
def GxInv (Y : Cx) (pins : List (Addr × Obj)) (σ : L2.St) (fp : List Addr) (tn : Nat → Heap → Prop) (Pv : Nat → Hp → Prop) (i : Nat) (s : Shared) : Prop := ∃ H, Inv Y pins σ H s ∧ tn i s.heap ∧ (∀ b ∈ fp, H b = none) ∧ Pv i H
theorem inv_grown {Y : Cx} {pins : List (Addr × Obj)} {σ : L2.St} {H : Hp} {s s' : Shared} (I : Inv Y pins σ H s) (k : ∀ b o, s.heap.get? b = some o → s'.heap.get? b = some o) (os : s'.os = s.os) (hg : AllBare s'.gens) : Inv Y pins σ H s' :=
  I.call' (ch := []) os (Un.kept k) (I.hok.kept k) hg fun b hb => by cases hb
theorem inv_setGen {Y : Cx} {pins : List (Addr × Obj)} {σ : L2.St} {H : Hp} {s : Shared} {g : Nat} {x : GenState} (I : Inv Y pins σ H s) (hx : x.bare = true) : Inv Y pins σ H (s.setGen g x) := inv_grown I (fun _ _ e => e) rfl (allBare_setGen I.bare hx)
/-- what is handed out: a truth; at the one that stops, what is wanted then, else the walk stands and may go on -/
def GxY (Y : Cx) (pins : List (Addr × Obj)) (σ : L2.St) (fp : List Addr) (tn : Nat → Heap → Prop) (len : Nat) (stop : Bool) (Pv : Nat → Hp → Prop) (Qs : Hp → Prop) : Protocol := fun n s₀ v s kap =>
  ∃ b : Bool, v = .bool b ∧ (if b = stop then ∃ H, Inv Y pins σ H s ∧ Qs H else n + 1 ≤ len ∧ GxInv Y pins σ fp tn Pv (len - n) s ∧
    ∀ s', (∀ x o, s.heap.get? x = some o → s'.heap.get? x = some o) → s'.os = s.os → AllBare s'.gens → kap (.send .none) s')
def GxR (Y : Cx) (pins : List (Addr × Obj)) (σ : L2.St) (Qd : Hp → Prop) : Nat → Shared → Shared → Prop := fun n s₀ s₁ => n = 0 ∧ ∃ H, Inv Y pins σ H s₁ ∧ Qd H
section
variable {X : Cx} {A : Around} {s0 : Shared} {H0 : Hp} {cenv : Env} {fp : List Addr} {elt tg iter : Expr} {scope : Scope} {pos : Pos} {it : Addr} {own : List Nat} {σ : L2.St} {pins : List (Addr × Obj)} {J : It} {tn : Nat → Heap → Prop} {g : TG} {te : TE} {len : Nat} {stop : Bool} {Pv : Nat → Hp → Prop} {Qs Qd : Hp → Prop}
theorem gx_fp {Y : Cx} {pins : List (Addr × Obj)} {σ : L2.St} {H : Hp} {s : Shared} (I : Inv Y pins σ H s) (hpn : Y.pn = []) (hp : ∀ p ∈ pins, p.1 ∉ Y.ex) (hn : ∀ b ∈ Y.ex, H b = none) : ∀ b ∈ Y.ex, FpOk Y pins H b := fun b hb =>
  ⟨hn b hb, (I.ok.exf b hb).1, I.ok.exfs b hb, .inl hb, (I.ok.exf b hb).2, fun p h z => by
    rw [hpn] at h
    exact hp p h (by rw [z]; exact hb)⟩
theorem gx_loop (hh : A.handled = none) (hco : cenv.scope.isCoroutine = false) (T : Turn X.prog X.w X.K tg J fp it tn) (hpf : ∀ p ∈ pins, p.1 ∉ fp)
    (pg : PG (gxOf X A s0 H0 cenv fp) tg g) (pe : PE (gxOf X A s0 H0 cenv fp) elt te)
    (turn : ∀ i H, i < len → Pv i H → J.go i H ∧ ∀ x H', J.yld i H x H' → g x (wipe σ own) H' fun σ2 H2 => wipe σ2 own = wipe σ own ∧ te σ2 H2 fun y H3 => ∃ b : Bool, y = .bl b ∧ if b = stop then Qs H3 else Pv (i + 1) H3)
    (last : ∀ H, Pv len H → J.stop len H ∧ Qd H) :
    ∀ (k i : Nat) (s₀ s : Shared), len - i = k → i ≤ len → GxInv (gxOf X A s0 H0 cenv fp) pins (wipe σ own) fp tn Pv i s →
      Seg (model X.prog X.w) A (fun n s₀ r s₁ => r = .ok .next ∧ GxR (gxOf X A s0 H0 cenv fp) pins (wipe σ own) Qd n s₀ s₁) (GxY (gxOf X A s0 H0 cenv fp) pins (wipe σ own) fp tn len stop Pv Qs) k s₀
        (.compLoop (.GeneratorExp elt [⟨tg, iter, [], 0⟩] scope pos) 0 (.ref it) .none cenv) ((model X.prog X.w).den (.compLoop (.GeneratorExp elt [⟨tg, iter, [], 0⟩] scope pos) 0 (.ref it) .none cenv)) [] s := by
  intro k
  induction k with
  | zero =>
    rintro i s₀ s hk hi ⟨H, I, st, nf, p⟩
    have e : i = len := by omega
    subst e
    obtain ⟨stp, qd⟩ := last H p
    show Seg _ A _ _ _ s₀ _ (Sem.onRaise (compTurn (.GeneratorExp elt [⟨tg, iter, [], 0⟩] scope pos) 0 (.ref it) .none cenv) (leaving cenv)) [] s
    rw [compTurn_gen, Sem.onRaise_eq_wrap]
    refine seg_bind_wrap (wpAny_standAt (seg_bind_wrap ?_))
    rw [over_gx]
    refine thnF (T.done (gxOf X A s0 H0 cenv fp) rfl rfl rfl rfl _ pins s _ H (fun _ _ => False) I (gx_fp I rfl hpf nf) st stp) fun r s6 ⟨hr, I6⟩ => ?_
    subst hr
    exact seg_end (.ok .next) ⟨rfl, rfl, H, I6, qd⟩
  | succ k ih =>
    rintro i s₀ s hk hi ⟨H, I, st, nf, p⟩
    have hlt : i < len := by omega
    obtain ⟨go, step⟩ := turn i H hlt p
    show Seg _ A _ _ _ s₀ _ (Sem.onRaise (compTurn (.GeneratorExp elt [⟨tg, iter, [], 0⟩] scope pos) 0 (.ref it) .none cenv) (leaving cenv)) [] s
    rw [compTurn_gen, Sem.onRaise_eq_wrap]
    refine seg_bind_wrap (wpAny_standAt (seg_bind_wrap ?_))
    rw [over_gx]
    refine thnF (T.item (gxOf X A s0 H0 cenv fp) rfl rfl rfl rfl i pins s _ H (fun _ _ => False) I (gx_fp I rfl hpf nf) st go) fun r s6 ⟨u, hr, h6⟩ => ?_
    subst hr
    refine seg_bind_wrap ?_
    rw [over_gx]
    refine thnF h6 fun _ s7 ⟨x, H7, I7, r7, y7, st7, n7⟩ => ?_
    have J7 := I7.pinned (gx_fp I7 rfl hpf n7) (T.obj _ _ st7)
    refine seg_bind_wrap ?_
    rw [over_gx]
    refine thnF (pg.run _ s7 _ H7 x u _ J7 r7 (step x H7 y7)) fun _ s8 ⟨σ8, H8, I8, hw8, q8⟩ => ?_
    simp only [List.forIn_nil]
    refine seg_bind_wrap (wpAny_pure ?_)
    simp only [if_true]
    have hy : ∀ v, yieldOut cenv v = yieldValue v := fun v => by simp only [yieldOut, hco, Bool.false_eq_true, if_false]
    simp only [hy]
    rw [Sem.bind_eq_wrap', Sem.bind_eq_wrap', Sem.wrap_wrap, Sem.wrap_wrap]
    refine seg_wrap ?_
    rw [over_gx]
    refine thnF (pe.run _ s8 σ8 H8 _ I8 q8) fun y s9 ⟨yv, H9, I9, r9, b, eb, q9⟩ => ?_
    subst eb
    have I10 : Inv (gxOf X A s0 H0 cenv fp) pins (wipe σ own) H9 s9 := I9.unpinned.weak (by rw [← hw8, wipe_length]) fun j v e => by
      rw [← hw8] at e
      exact (wipe_some e).1
    have pin9 : ∀ c ∈ fp, ∀ o, s7.heap.get? c = some o → s9.heap.get? c = some o ∧ H9 c = none := fun c hc o e =>
      let z := I9.pin (c, o) (List.mem_append_right _ (List.mem_append_right _ (mem_pinsAt hc e)))
      ⟨z.1, z.2.1⟩
    refine seg_at (seg_yield rfl rfl rfl ⟨b, r9, ?_⟩)
    by_cases hb : b = stop
    · rw [if_pos hb] at q9 ⊢
      exact ⟨H9, I10, q9⟩
    · rw [if_neg hb] at q9 ⊢
      have st9 : tn (i + 1) s9.heap := T.keep _ _ _ st7 fun c hc o e => (pin9 c hc o e).1
      have nf9 : ∀ c ∈ fp, H9 c = none := fun c hc => by
        obtain ⟨o, e, _⟩ := T.obj _ _ st7 c hc
        exact (pin9 c hc o e).2
      have ei : len - k = i + 1 := by omega
      refine ⟨by omega, by rw [ei]; exact ⟨H9, I10, st9, nf9, q9⟩, fun s' kp os hg => ?_⟩
      exact seg_again rfl (ih (i + 1) s' s' (by omega) hlt ⟨H9, inv_grown I10 kp os hg, T.keep _ _ _ st9 fun c _ o e => kp c o e, nf9, q9⟩)
theorem gx_begin (hh : A.handled = none) (hco : cenv.scope.isCoroutine = false) (T : Turn X.prog X.w X.K tg J fp it tn) (hpf : ∀ p ∈ pins, p.1 ∉ fp)
    (pg : PG (gxOf X A s0 H0 cenv fp) tg g) (pe : PE (gxOf X A s0 H0 cenv fp) elt te)
    (turn : ∀ i H, i < len → Pv i H → J.go i H ∧ ∀ x H', J.yld i H x H' → g x (wipe σ own) H' fun σ2 H2 => wipe σ2 own = wipe σ own ∧ te σ2 H2 fun y H3 => ∃ b : Bool, y = .bl b ∧ if b = stop then Qs H3 else Pv (i + 1) H3)
    (last : ∀ H, Pv len H → J.stop len H ∧ Qd H) (s₀ s : Shared) (h : GxInv (gxOf X A s0 H0 cenv fp) pins (wipe σ own) fp tn Pv 0 s) :
    Seg (model X.prog X.w) A (fun n s₀ r s₁ => r = .ok .next ∧ GxR (gxOf X A s0 H0 cenv fp) pins (wipe σ own) Qd n s₀ s₁) (GxY (gxOf X A s0 H0 cenv fp) pins (wipe σ own) fp tn len stop Pv Qs) len s₀
      (.compStart (.GeneratorExp elt [⟨tg, iter, [], 0⟩] scope pos) 0 (.ref it) .none cenv) ((model X.prog X.w).den (.compStart (.GeneratorExp elt [⟨tg, iter, [], 0⟩] scope pos) 0 (.ref it) .none cenv)) [] s := by
  have loop := gx_loop (iter := iter) (scope := scope) (pos := pos) hh hco T hpf pg pe turn last len 0 s₀ s (Nat.sub_zero _) (Nat.zero_le _) h
  obtain ⟨H, I, st, nf, p⟩ := h
  show Seg _ A _ _ _ s₀ _ (Sem.onRaise (compStart (.GeneratorExp elt [⟨tg, iter, [], 0⟩] scope pos) 0 (.ref it) .none cenv) (leaving cenv)) [] s
  unfold compStart
  rw [Sem.onRaise_eq_wrap]
  show Seg (model X.prog X.w) A _ _ _ s₀ _ ((ask >>= _).wrap _ _ _ _) [] s
  refine seg_bind_wrap (wpAny_askSetting ?_)
  split
  · exact seg_again rfl loop
  · first
      | exact seg_bind_wrap (wpAny_rule (seg_bind_wrap (wpAny_standAt (seg_bind_wrap (T.self _ 0 s _ _ st (seg_again rfl loop))))))
      | (refine seg_bind_wrap (wpAny_rule ?_); show Seg (model X.prog X.w) A _ _ _ s₀ _ ((standAt iter.pos >>= _).wrap _ _ _ _) [] s; exact seg_bind_wrap (wpAny_standAt (seg_bind_wrap (T.self _ 0 s _ _ st (seg_again rfl loop)))))
end
/-! ### all and any over it -/
section
variable {Y : Cx} {pins : List (Addr × Obj)} {σ : L2.St} {fp : List Addr} {tn : Nat → Heap → Prop} {len : Nat} {Pv : Nat → Hp → Prop} {Qs Qd : Hp → Prop} {a : Addr} {og : Obj} {g : Nat} {B : Around} {R : Result → Shared → Prop}
theorem gx_all (hh : B.handled = none) (hd : B.depth < recursionLimit) (hog : ∀ h : Heap, h.get? a = some og → h.IsGen a g) (hpin : (a, og) ∈ pins)
    (hstop : ∀ s' H, Inv Y pins σ H s' → Qs H → R (.ok (.ret (.bool false))) s') (hdone : ∀ s' H, Inv Y pins σ H s' → Qd H → R (.ok (.ret (.bool true))) s') :
    ∀ (n : Nat) (s : Shared) (gs : GenState), s.heap.get? a = some og → s.heap.NoLimit → s.gens[g]? = some gs →
      gs.Goes (model Y.prog Y.w) B.in1.in1 (fun n s₀ r s₁ => r = .ok .next ∧ GxR Y pins σ Qd n s₀ s₁) (GxY Y pins σ fp tn len false Pv Qs) n (.send .none) (s.setGen g .running) →
      codeAny (model Y.prog Y.w) B (.builtin "all.loop" ⟨[.ref a], []⟩) R s := by
  intro n
  induction n with
  | zero =>
    intro s gs ha hl hgs hgo
    refine codeAny_builtin F.entry_all_loop ?_
    rw [Around.under_plainId F.plain_all_loop _]
    show wpAny _ B.in1 (pyNext (.ref a) >>= _) _ _ s
    refine wpAny_bind (wpAny_pyNext_genexpQ (A := B.in1) (P := GxR Y pins σ Qd) hh hl hd (hog _ ha) hgs hgo (fun v s₁ gs' hb hv => ?_) (fun s₁ hp h' hk => ?_))
    · obtain ⟨b, rfl, hv⟩ := hv
      refine wpAny_bind (wpAny_holding (wpAny_truthy_bool ?_))
      refine wpAny_bind (wpAny_letGo ?_)
      cases b with
      | true =>
        rw [if_neg (by decide)] at hv
        obtain ⟨_, ⟨H, I, _⟩, kap⟩ := hv
        exact (kap s₁ (fun _ _ e => e) rfl I.bare).elim
      | false =>
        rw [if_pos rfl] at hv
        obtain ⟨H, I, q⟩ := hv
        simp only [Bool.false_eq_true, if_false]
        exact wpAny_bind (wpAny_rule (wpAny_pure (hstop _ H (inv_grown I (fun _ _ e => e) rfl (allBare_setGen I.bare hb)) q)))
    · obtain ⟨_, H, I, q⟩ := hp
      exact wpAny_bind (wpAny_rule (wpAny_pure (hdone _ H (inv_grown I (fun b o e => hk b o e) rfl (allBare_setGen I.bare rfl)) q)))
  | succ m ih =>
    intro s gs ha hl hgs hgo
    have hgl : g + 1 ≤ s.gens.size := (Array.getElem?_eq_some_iff.mp hgs).1
    refine codeAny_builtin F.entry_all_loop ?_
    rw [Around.under_plainId F.plain_all_loop _]
    show wpAny _ B.in1 (pyNext (.ref a) >>= _) _ _ s
    refine wpAny_bind (GenW.wpAny_gsz hgl (wpAny_pyNext_genexpQ (A := B.in1) (P := GxR Y pins σ Qd) hh hl hd (hog _ ha) hgs hgo (fun v s₁ gs' hb hv => ?_) (fun s₁ hp h' hk => ?_)))
    · intro hsz
      obtain ⟨b, rfl, hv⟩ := hv
      refine wpAny_bind (wpAny_holding (wpAny_truthy_bool ?_))
      refine wpAny_bind (wpAny_letGo ?_)
      cases b with
      | true =>
        rw [if_neg (by decide)] at hv
        obtain ⟨_, ⟨H, I, _⟩, kap⟩ := hv
        have hs1 : g < s₁.gens.size := by
          rw [GenW.setGen_size] at hsz
          exact hsz
        simp only [if_true]
        refine wpAny_pure ⟨plainId_quiet F.plain_all_loop _, ih (s₁.setGen g gs') gs' ?_ ?_ (setGen_at hs1) ?_⟩
        · exact (I.pin (a, og) (List.mem_append_right _ hpin)).1
        · exact I.nolimit
        · exact kap ((s₁.setGen g gs').setGen g .running) (fun _ _ e => e) rfl (allBare_setGen (s := s₁.setGen g gs') (allBare_setGen I.bare hb) rfl)
      | false =>
        rw [if_pos rfl] at hv
        obtain ⟨H, I, q⟩ := hv
        simp only [Bool.false_eq_true, if_false]
        exact wpAny_bind (wpAny_rule (wpAny_pure (hstop _ H (inv_grown I (fun _ _ e => e) rfl (allBare_setGen I.bare hb)) q)))
    · intro hsz
      obtain ⟨_, H, I, q⟩ := hp
      exact wpAny_bind (wpAny_rule (wpAny_pure (hdone _ H (inv_grown I (fun b o e => hk b o e) rfl (allBare_setGen I.bare rfl)) q)))
end
/-- all(test for target in e); behind it the def's table may have grown -/
def tAllX (P : Addr) (wi : TI) (g : TG) (te : TE) (own : List Nat) : TE := fun σ H Q => wi σ H fun J H1 => GxR.TabG H1 P ∧ ∀ H2, GxR.Tabbed P H1 H2 → ∃ (len : Nat) (Pv : Nat → Hp → Prop), Pv 0 H2 ∧
  (∀ i H', i < len → Pv i H' → J.go i H' ∧ ∀ x H3, J.yld i H' x H3 → g x (wipe σ own) H3 fun σ2 H4 => wipe σ2 own = wipe σ own ∧ te σ2 H4 fun y H5 => ∃ b : Bool, y = .bl b ∧ if b = false then Q (.bl false) H5 else Pv (i + 1) H5) ∧
  ∀ H', Pv len H' → J.stop len H' ∧ Q (.bl true) H'
/-- the context of its element -/
abbrev gxE (X : Cx) (scope : Scope) (s : Shared) (H : Hp) (C : Addr) (code : Value) (fp : List Addr) : Cx := gxOf X X.A.in1.in1 s H (genEnv scope (cloFrom X.env.cells scope.names []) C code builtinsNs X.env) fp
theorem pe_allX {X : Cx} {c P : Addr} {elt tg iter : Expr} {p pos gpos : Pos} {scope : Scope} {own : List (Str × Nat)} {wi : TI} {g : TG} {te : TE} {k : Nat} (hr : Room k X.A) (hg : Gl X "all") (hm : X.mg "all" = none) (hb : bootBuiltins "all" = some (.builtin "all"))
    (TB : GxR.TabB X.base X.mg c P) (hcode : X.env.code = .ref c) (S : GxS X.N X.env scope own) (hN : X.N.Nodup) (hi : PI X tg iter wi) (hpg : ∀ s H C code fp, PG (gxE X scope s H C code fp) tg g) (hpe : ∀ s H C code fp, PE (gxE X scope s H C code fp) elt te)
    (hs : ∀ v, genFold iter X.env v = pure v)
    (he : starEach [.GeneratorExp elt [⟨tg, iter, [], 0⟩] scope gpos] X.env = (false, eval (.GeneratorExp elt [⟨tg, iter, [], 0⟩] scope gpos) X.env) :: starEach [] X.env := by rfl) :
    PE X (.Call (.Name "all" p) [.GeneratorExp elt [⟨tg, iter, [], 0⟩] scope gpos] [] pos) (tAllX P wi g te (own.map (·.2))) := by
  refine ⟨fun pins s σ H Q I h => ?_⟩
  have hfree : ∀ y ∈ scope.names, y.2 = .free → ∃ c, X.env.cells.lookup y.1 = some c := fun y hy e => by
    rcases S.free y hy e with k | k
    · exact I.ok.has _ (.inl k)
    · exact I.ok.has _ (.inr k)
  refine wpAny_Call_Name_kw (ld_blt I hg hm hb ?_)
  refine PyProof.Rows.callWith_builtin1 ?_ he (by rfl)
  rw [he]
  show wpAny (model X.prog X.w) X.A (spliced ((false, eval (.GeneratorExp elt [⟨tg, iter, [], 0⟩] scope gpos) X.env) :: backTo pos (starEach [] X.env))) _ _ s
  refine Calls.spliced_cons (wpAny_GeneratorExp_make S.co (closure_ok hfree) S.cell S.dot S.kind hr.depth ?_ hs)
  refine thn (hi.run pins s σ H _ I h) fun xv s1 hx => thn hx fun itv s2 h2 => ?_
  obtain ⟨it, fp, tn, J, H2, e, I2, T, st2, f2, ht, q⟩ := h2
  subst e
  refine ⟨I2.nolimit, ?_⟩
  refine gx_code TB hcode I2 ht fun code s4 H4 tb4 I4 hsz4 kp4 => ?_
  obtain ⟨len, Pv, p0, turn, last⟩ := q H4 tb4
  have fnP : ∀ b ∈ fp, b ≠ P := fun b hb z => by
    obtain ⟨ps, hP, _⟩ := ht
    have := (f2 b hb).1
    rw [z, hP] at this
    cases this
  have st4 : tn 0 s4.heap := T.keep _ _ _ st2 fun b hb o e => kp4 b o (fnP b hb) e
  have f4 : ∀ b ∈ fp, FpOk X pins H4 b ∧ b < s4.heap.objs.size := fun b hb => by
    obtain ⟨o, e, _⟩ := T.obj _ _ st4 b hb
    exact ⟨⟨(tb4.2 b (fnP b hb)).trans (f2 b hb).1, (f2 b hb).2⟩, Heap.lt_size e⟩
  intro h' hn' hs'
  have hsz : h'.objs.size = s4.heap.objs.size + 1 := by rw [hs'.1, Heap.size_push]
  have kp' : ∀ b o, s4.heap.get? b = some o → h'.get? b = some o := fun b o e => hs'.extBut b o (Nat.ne_of_lt (Heap.lt_size e)) (Heap.get?_push_of_some _ e)
  generalize hog : ({ cls := .type "generator", data := .fields #[.int s4.gens.size 0, .str "<genexpr>" (s4.toks + 1), .str (X.env.qual ++ "<genexpr>") (s4.toks + 1 + 1)] } : Obj) = og
  have isg : ∀ hp : Heap, hp.get? h'.objs.size = some og → hp.IsGen h'.objs.size s4.gens.size := fun hp e => ⟨og, _, _, e, by rw [← hog], by rw [← hog], by rw [← hog]⟩
  have eog : (h'.push og).get? h'.objs.size = some og := Heap.get?_push_size _ (by rw [← hog] <;> rfl)
  have kp5 : ∀ b o, s4.heap.get? b = some o → (h'.push og).get? b = some o := fun b o e => Heap.get?_push_of_some _ (kp' b o e)
  refine Calls.spliced_nil ?_
  refine call_function_tree F.kind_all F.plain_all F.entry_all (F.args_all1 _) ?_
  unfold Builtin.«all»
  refine wpAny_bind (m := oneArg "all" _) (wpAny_pure ?_)
  refine wpAny_bind (wpAny_pyIter_gen (isg _ eog) ?_)
  refine wpAny_pure ⟨plainId_quiet F.plain_all_loop _, ?_⟩
  have back : ∀ {s' : Shared} {H' : Hp} {pn2 : List (Addr × Obj)} {σ2 : L2.St}, Inv (gxE X scope s4 H4 s4.heap.objs.size code fp) pn2 σ2 H' s' → Inv X pins σ H' s' := fun I6 =>
    I4.call' (ch := fp) I6.os I6.base I6.hok I6.bare fun b hb => ⟨(f4 b hb).1.2.2.2.1, (f4 b hb).1.2.1, (f4 b hb).1.2.2.2.2.1, (f4 b hb).1.2.2.2.2.2⟩
  have szP : h'.objs.size < (h'.push og).objs.size := by rw [Heap.size_push]; exact Nat.lt_succ_self _
  have hgs : (s4.gens.push (GenState.fresh (.compStart (.GeneratorExp elt [⟨tg, iter, [], 0⟩] scope gpos) 0 (.ref it) .none (genEnv scope (cloFrom X.env.cells scope.names []) s4.heap.objs.size code builtinsNs X.env))))[s4.gens.size]? = some (.fresh (.compStart (.GeneratorExp elt [⟨tg, iter, [], 0⟩] scope gpos) 0 (.ref it) .none (genEnv scope (cloFrom X.env.cells scope.names []) s4.heap.objs.size code builtinsNs X.env))) := Array.getElem?_push_size ..
  have hbare : AllBare (s4.gens.push (GenState.fresh (.compStart (.GeneratorExp elt [⟨tg, iter, [], 0⟩] scope gpos) 0 (.ref it) .none (genEnv scope (cloFrom X.env.cells scope.names []) s4.heap.objs.size code builtinsNs X.env)))) := I4.bare.push rfl
  have nP : ∀ b ∈ fp, b ≠ h'.objs.size := fun b hb z => by
    have := (f4 b hb).2
    rw [z, hsz] at this
    exact absurd this (Nat.not_lt.mpr (Nat.le_succ _))
  have J0 : Inv (gxE X scope s4 H4 s4.heap.objs.size code fp) [(h'.objs.size, og)] (wipe σ (own.map (·.2))) H4 { s4 with heap := h'.push og, gens := s4.gens.push (GenState.fresh (.compStart (.GeneratorExp elt [⟨tg, iter, [], 0⟩] scope gpos) 0 (.ref it) .none (genEnv scope (cloFrom X.env.cells scope.names []) s4.heap.objs.size code builtinsNs X.env))), toks := s4.toks + 1 + 1 + 1 } := by
    refine (gx_start I4 S hN f4 (A := X.A.in1.in1) rfl hr.hd kp5 (hn'.push og) hbare).pins_of fun pr hp => ?_
    rw [List.mem_singleton.mp hp]
    refine ⟨eog, I4.hok.fresh (by rw [hsz]; exact Nat.le_succ _), ?_, ?_, fun v z => ?_⟩
    · show h'.objs.size ≠ s4.heap.objs.size
      rw [hsz]
      exact Nat.succ_ne_self _
    · intro z
      have z : h'.objs.size ∈ frs X.stack := z
      obtain ⟨_, o, e, _⟩ := I4.stack.mem z
      have := Heap.lt_size e
      rw [hsz] at this
      exact absurd this (Nat.not_lt.mpr (Nat.le_succ _))
    · rw [← hog] at z
      cases z
  have J1 := inv_setGen (g := s4.gens.size) (x := .running) J0 rfl
  refine gx_all (Y := gxE X scope s4 H4 s4.heap.objs.size code fp) (pins := [(h'.objs.size, og)]) (σ := wipe σ (own.map (·.2))) (fp := fp) (tn := tn) (len := len) (Pv := Pv) (Qs := fun H' => Q (.bl false) H') (Qd := fun H' => Q (.bl true) H') (B := X.A) (g := s4.gens.size) hr.hd hr.depth isg (List.mem_cons_self ..)
    (fun s' H' I6 qq => ?_) (fun s' H' I6 qq => ?_) len _ _ eog J0.nolimit hgs ⟨rfl, ?_⟩
  · exact ⟨.bl false, H', back I6, rfl, qq⟩
  · exact ⟨.bl true, H', back I6, rfl, qq⟩
  · refine gx_begin (X := X) (A := X.A.in1.in1) (s0 := s4) (H0 := H4) (pins := [(h'.objs.size, og)]) (σ := σ) (own := own.map (·.2)) (stop := false) hr.hd S.co T (fun pr hp => ?_) (hpg _ _ _ _ _) (hpe _ _ _ _ _) turn last _ _ ⟨H4, J1, T.keep _ _ _ st4 fun b _ o e => kp5 b o e, fun b hb => (f4 b hb).1.1, p0⟩
    rw [List.mem_singleton.mp hp]
    exact fun z => nP _ z rfl
/-- over a list that stays -/
theorem allX_list {K : PySem.W.Frag} {a : Addr} {xs : List V} {g : TG} {te : TE} {own : List Nat} {σ : L2.St} {H2 : Hp} {Q : VK} (Pv : Nat → Hp → Prop) (h0 : Pv 0 H2) (hl : ∀ i H, Pv i H → SqL K H a xs)
    (hs : ∀ i x H, xs[i]? = some x → Pv i H → g x (wipe σ own) H fun σ2 H4 => wipe σ2 own = wipe σ own ∧ te σ2 H4 fun y H5 => ∃ b : Bool, y = .bl b ∧ if b = false then Q (.bl false) H5 else Pv (i + 1) H5) (hd : ∀ H, Pv xs.length H → Q (.bl true) H) :
    ∃ (len : Nat) (Pv : Nat → Hp → Prop), Pv 0 H2 ∧
      (∀ i H', i < len → Pv i H' → (Itl K a).go i H' ∧ ∀ x H3, (Itl K a).yld i H' x H3 → g x (wipe σ own) H3 fun σ2 H4 => wipe σ2 own = wipe σ own ∧ te σ2 H4 fun y H5 => ∃ b : Bool, y = .bl b ∧ if b = false then Q (.bl false) H5 else Pv (i + 1) H5) ∧
      ∀ H', Pv len H' → (Itl K a).stop len H' ∧ Q (.bl true) H' := by
  refine ⟨xs.length, Pv, h0, fun i H' hi p => ⟨⟨xs, xs[i], hl i H' p, by simp [hi]⟩, fun x H3 y => ?_⟩, fun H' p => ⟨⟨xs, hl _ _ p, Nat.le_refl _⟩, hd H' p⟩⟩
  obtain ⟨e, z⟩ := y
  subst e
  exact hs i x _ (z xs (hl _ _ p)) p
/-! ### two tables that may grow -/
structure K2 (T T2 : Addr) (H H' : Hp) : Prop where
  t1 : GxR.TabG H T
  t1' : GxR.TabG H' T
  t2 : GxR.TabG H T2
  t2' : GxR.TabG H' T2
  keep : ∀ b o, b ≠ T → b ≠ T2 → H b = some o → H' b = some o
theorem K2.of {T T2 : Addr} {H H' : Hp} (k : Kp T H H') (h : GxR.TabG H T2) : K2 T T2 H H' := by
  refine ⟨k.t0, k.tab, h, ?_, fun b o n _ e => k.keep b o n e⟩
  by_cases e : T2 = T
  · rw [e]; exact k.tab
  · obtain ⟨ps, e2, h2⟩ := h
    exact ⟨ps, k.keep _ _ e e2, h2⟩
theorem K2.swap {T T2 : Addr} {H H' : Hp} (k : K2 T T2 H H') : K2 T2 T H H' := ⟨k.t2, k.t2', k.t1, k.t1', fun b o n m e => k.keep b o m n e⟩
theorem K2.trans {T T2 : Addr} {H H1 H2 : Hp} (a : K2 T T2 H H1) (b : K2 T T2 H1 H2) : K2 T T2 H H2 := ⟨a.t1, b.t1', a.t2, b.t2', fun c o n m e => b.keep c o n m (a.keep c o n m e)⟩
theorem K2.refl {T T2 : Addr} {H : Hp} (h1 : GxR.TabG H T) (h2 : GxR.TabG H T2) : K2 T T2 H H := ⟨h1, h1, h2, h2, fun _ _ _ _ e => e⟩
/-- what each step keeps is kept by both -/
theorem K2.cut {T T2 : Addr} {H H' : Hp} (k : K2 T T2 H H') : ∃ H1, Kp T H H1 ∧ Kp T2 H1 H' := by
  by_cases e : T2 = T
  · subst e
    exact ⟨H, .refl k.t1, k.t1, k.t1', fun b o n e => k.keep b o n n e⟩
  · refine ⟨fun b => if b = T2 then H T2 else H' b, ⟨k.t1, ?_, fun b o n h => ?_⟩, ?_, k.t2', fun b o n h => ?_⟩
    · obtain ⟨ps, e1, h1⟩ := k.t1'
      exact ⟨ps, by show (if T = T2 then _ else _) = _; rw [if_neg (fun z => e z.symm)]; exact e1, h1⟩
    · show (if b = T2 then _ else _) = _
      by_cases hb : b = T2
      · rw [if_pos hb, ← hb]; exact h
      · rw [if_neg hb]; exact k.keep b o n hb h
    · obtain ⟨ps, e1, h1⟩ := k.t2
      exact ⟨ps, by show (if T2 = T2 then _ else _) = _; rw [if_pos rfl]; exact e1, h1⟩
    · have h : (if b = T2 then H T2 else H' b) = some o := h
      rw [if_neg n] at h
      exact h
theorem K2.lift {T T2 : Addr} {H H' : Hp} {p : Hp → Prop} (k : K2 T T2 H H') (h : ∀ T H H', Kp T H H' → p H → p H') (q : p H) : p H' := by
  obtain ⟨H1, k1, k2⟩ := k.cut
  exact h _ _ _ k2 (h _ _ _ k1 q)
theorem K2.tabbed {T T2 : Addr} {H H' : Hp} (h1 : GxR.TabG H T) (h2 : GxR.TabG H T2) (b : GxR.Tabbed T2 H H') : K2 T T2 H H' := by
  refine ⟨h1, ?_, h2, b.1, fun c o _ m e => by rw [b.2 c m]; exact e⟩
  by_cases e : T = T2
  · rw [e]; exact b.1
  · obtain ⟨ps, e1, q⟩ := h1
    exact ⟨ps, by rw [b.2 T e]; exact e1, q⟩
end Pk

set_option Elab.async false
set_option linter.all false
set_option maxRecDepth 100000
set_option maxHeartbeats 4000000
namespace Pk
open PySem PySem.Spec PyProof.Rows L2
theorem gxS_of {N M : List Str} {sc scope : Scope} {own : List (Str × Nat)} {env : Env} (hM : N = M) (h : env.scope = sc) (kind : scope.kind = .function) (co : scope.isCoroutine = false) (cell : ∀ y ∈ scope.names, y.2 ≠ .cell) (dot : scope.names.lookup (".0" : Str) = some NameKind.local) (uniq : ∀ y ∈ scope.names, scope.names.lookup y.1 = some y.2)
    (ix : ∀ p ∈ own, M[p.2]? = some p.1) (free : ∀ y ∈ scope.names, y.2 = .free → sc.names.lookup y.1 = some .cell ∨ sc.names.lookup y.1 = some .free) (loc : ∀ y ∈ scope.names, y.2 = .local → y.1 ∈ own.map (·.1) ∨ y.1 ∉ M) : GxS N env scope own := ⟨kind, co, cell, dot, uniq, by rw [hM]; exact ix, by rw [h]; exact free, by rw [hM]; exact loc⟩
theorem gx_room {X : Cx} {scope : Scope} {s : Shared} {H : Hp} {C : Addr} {code : Value} {fp : List Addr} {k : Nat} (h : Room (k + 3) X.A) : Room k (gxE X scope s H C code fp).A := h.in1.in1.deeper _
theorem gx_hu {X : Cx} {scope : Scope} {s : Shared} {H : Hp} {C : Addr} {code : Value} {fp : List Addr} {k : Nat} (h : Room k X.A) : (gxE X scope s H C code fp).A.units + 1 < cLine := by
  have z := h.un
  show X.A.units + 1 + 1 + 3 + 1 < _
  omega
/-- a need that a pick meets -/
def metD (pk : List (Str × Int)) : PyData → Bool
  | .tuple [.str w, .int lo, .int hi] => match lkP pk w with
    | some m => decide (lo ≤ m) && decide (m ≤ hi)
    | none => false
  | _ => false
/-- all needs of a wish and of the picked makes -/
def allN (D : Str → List (Int × List PyData)) (pk : List (Str × Int)) (ds : List PyData) : List PyData := ds ++ pk.flatMap fun e => needsD D e.1 e.2
def mB (D : Str → List (Int × List PyData)) (pk : List (Str × Int)) (ds : List PyData) (out : List Str) : Bool := decide ((pk.map (·.1)).Perm out) && (allN D pk ds).all (metD pk)
theorem AgOf.sub {f : Str → List Str} {U : List Str} : ∀ {ws : List Str} {n : Nat} {out : List Str}, AgOf f ws n out → (∀ y ∈ ws, y ∈ U) → (∀ w, ∀ y ∈ f w, y ∈ U) → ∀ y ∈ out, y ∈ U
  | _, _, _, .done _, hw, _ => hw
  | ws, n, _, .step (w := w) h r, hw, hf => AgOf.sub r (fun y hy => (addW_mem.mp hy).elim (hw y) (hf w y)) hf
/-- what waits stays, and what it needs is there -/
theorem AgOf.keeps {f : Str → List Str} : ∀ {ws : List Str} {n : Nat} {out : List Str}, AgOf f ws n out → ∀ y ∈ ws, y ∈ out
  | _, _, _, .done _, y, hy => hy
  | _, _, _, .step h r, y, hy => AgOf.keeps r y (addW_mem.mpr (.inl hy))
theorem AgOf.closed {f : Str → List Str} : ∀ {ws : List Str} {n : Nat} {out : List Str}, AgOf f ws n out → (∀ i w, i < n → ws[i]? = some w → ∀ y ∈ f w, y ∈ ws) → ∀ w ∈ out, ∀ y ∈ f w, y ∈ out
  | ws, n, _, .done h, hc, w, hw, y, hy => by
    obtain ⟨i, hi, rfl⟩ := List.getElem_of_mem hw
    have hn := List.getElem?_eq_none_iff.mp h
    exact hc i _ (by omega) (List.getElem?_eq_getElem hi) y hy
  | ws, n, _, .step (w := w0) h r, hc, w, hw, y, hy => by
    refine AgOf.closed r (fun i w' hi e z hz => ?_) w hw y hy
    have hn := (List.getElem?_eq_some_iff.mp h).1
    obtain ⟨r', er⟩ := addW_pre ws (f w0)
    rw [er, List.getElem?_append_left (by omega)] at e
    by_cases q : i < n
    · exact addW_mem.mpr (.inl (hc i w' q e z hz))
    · have : i = n := by omega
      subst this
      rw [h] at e
      cases e
      exact addW_mem.mpr (.inr hz)
section
variable {P : Program} {w : World} {K : PySem.W.Frag} {mg : Str → Option Value} {base : Heap}
def meetsUN : List Str := ["shop", "wish", "pick", "needs", "ware", "make", "low", "high"]
theorem scMeetsU : FnScope meetsUN ["shop", "wish", "pick"] (defScope sMeetsU) := ⟨rfl, rfl, rfl, by decide +kernel, rfl, by decide +kernel, by decide +kernel⟩
def spMtU (K : PySem.W.Frag) (C T T2 : Addr) : Sp := fun vs H Q _ => ∃ (A : List Addr) (p D q a : Addr) (st : List Shelf) (xs : List V) (ds : List PyData) (pk : List (Str × Int)), vs = [.ref p, .ref q, .ref a] ∧ ShopAt K C A H p D st ∧ GoodSh (dataOf st) ∧ SqL K H q xs ∧ DpAll K H xs ds ∧ (∀ d ∈ ds, ND d) ∧ ds.length ≤ 8 ∧
  H a = some (.dK (pkD pk)) ∧ a ∉ foot D st ∧ (∀ x ∈ A, ∃ ys, H x = some (.lst ys)) ∧ PickOk (dataOf st) pk ∧ pk.length ≤ 9 ∧ GxR.TabG H T ∧ GxR.TabG H T2 ∧ ∀ out H', AgOf (needW (dataOf st) pk) (addW [] (ds.map wOf)) 0 out → K2 T T2 H H' → Q (.bl (mB (dataOf st) pk ds out)) H'
theorem ok_mtu {f c2 T T2 fA fN fW C NM : Addr} {oc kV doc pm ct : Value} {od an : Option Addr} {osl : Array (Option Value)} {fdA fdN fdW : FuncData}
    (lk : K.lookup f = some ⟨oc, od, .func (PySem.W.fnOf "_meets" "_meets" (defArgs sMeetsU) (defBody sMeetsU) (defScope sMeetsU) .none kV doc pm an (.ref c2) ct), osl⟩) (hcd : PySem.W.codeIn K (.ref c2) "_meets" = true) (TB2 : GxR.TabB base mg c2 T2) (X : ShopT K mg C)
    (GA : FnOk P w K mg base CX0 5 fA fdA ["shop", "wish", "pick"] (spAgOf K C T)) (kA : PySem.W.keepIn K (.ref fA) = true) (bA : Binds K fdA ["shop", "wish", "pick"] []) (gA : mg "_agenda_of" = some (.ref fA))
    (GN : FnOk P w K mg base (L2N.CX P w) 4 fN fdN ["self", "ware", "make"] (spNeeds K C T NM)) (bN : Binds K fdN ["self", "ware", "make"] []) (mN : Meth K C "needs" fN)
    (GW : FnOk P w K mg base CX0 1 fW fdW ["make", "low", "high"] spWithin) (kW : PySem.W.keepIn K (.ref fW) = true) (bW : Binds K fdW ["make", "low", "high"] []) (gW : mg "within" = some (.ref fW))
    (y_all : mg "all" = none) (y_list : mg "list" = none) (y_sorted : mg "sorted" = none) :
    FnOk P w K mg base CX0 6 f (PySem.W.fnOf "_meets" "_meets" (defArgs sMeetsU) (defBody sMeetsU) (defScope sMeetsU) .none kV doc pm an (.ref c2) ct) ["shop", "wish", "pick"] (spMtU K C T T2) := by
  refine fn_of lk hcd scMeetsU (fun vs H Q E h => ?_) fun A0 outer s H vs Q E hr h => ?_
  · obtain ⟨A, p, D, q, a, st, xs, ds, pk, rfl, _⟩ := h
    rfl
  · obtain ⟨A, p, D, q, a, st, xs, ds, pk, rfl, S, G, hq, hds, hnd, h8, ha, haf, hA, O, h9, ht, ht2, fin⟩ := h
    have hu := hu_of hr
    suffices z : ∃ t, PSs (cxOf CX0 P w K mg base meetsUN "_meets" (defScope sMeetsU) f (.ref c2) A0 outer s H E).nox (defBody sMeetsU) t ∧ t { nx := fun _ H' => Q .non H', rt := Q } (L2.start meetsUN [.ref p, .ref q, .ref a]) H by
      obtain ⟨t, z1, z2⟩ := z
      exact ⟨t, z1.nox, z2⟩
    refine ⟨_, (pss_cons (ps_if (pt_cmpR (op_neD hr.units) (pe_callB (call_sortedD rfl) (by rfl) y_sorted (by decide +kernel) (pa_cons (pv 2) pa_nil)) (pe_callB cr_sortedS (by rfl) y_sorted (by decide +kernel) (pa_cons (pe_call GA (hr.mono (by decide)) (by rfl) gA kA bA .nil pass0 (pa_cons (pv 0) (pa_cons (pv 1) (pa_cons (pv 2) pa_nil)))) pa_nil)) (nomark _)) (pss_one (ps_ret pe_bl)) pss_nil)
      (pss_cons (ps_set (i := 3) scMeetsU.nd rfl (by first | exact .inl rfl | exact .inr rfl) (pe_callTy call_list_of (by rfl) y_list boot_list (pa_cons (pv 1) pa_nil)))
      (pss_cons (ps_lock (ps_for PassesOwn.never rfl (pi_items (pv 2)) (pg_tup (by rfl) (pgs_cons (pg_name (i := 4) scMeetsU.nd rfl (by first | exact .inl rfl | exact .inr rfl)) (pgs_cons (pg_name (i := 5) scMeetsU.nd rfl (by first | exact .inl rfl | exact .inr rfl)) pgs_nil))) (pss_one (ps_expr (pe_bm PySem.F.plainAttrs_list PySem.F.slot_list_extend PySem.F.type_list_extend mt_extend (pv 3) (pa_cons (pe_meth (E := E0) (pv 0) X.cl mN GN (hr.mono (by decide)) bN .nil passN (pa_cons (pv 4) (pa_cons (pv 5) pa_nil))) pa_nil))))))
      (pss_one (ps_ret (pe_allX (own := [("ware", 4), ("low", 6), ("high", 7)]) (g := (gTup K 3 (gCons (gName 4) (gCons (gName 6) (gCons (gName 7) gNil))))) hr (by rfl) y_all (by decide +kernel) TB2 rfl (gxS_of (M := meetsUN) (sc := defScope sMeetsU) rfl rfl rfl rfl (by decide +kernel) rfl (by decide +kernel) (by decide +kernel) (by decide +kernel) (by decide +kernel)) scMeetsU.nd (pi_list (pv 3)) (fun _ _ _ _ _ => (pg_tup (by rfl) (pgs_cons (pg_name (i := 4) scMeetsU.nd rfl (by first | exact Or.inl rfl | exact Or.inr rfl)) (pgs_cons (pg_name (i := 6) scMeetsU.nd rfl (by first | exact Or.inl rfl | exact Or.inr rfl)) (pgs_cons (pg_name (i := 7) scMeetsU.nd rfl (by first | exact Or.inl rfl | exact Or.inr rfl)) pgs_nil))))) (fun _ _ _ _ _ => (pe_call GW (gx_room (hr.mono (by decide))) (by rfl) gW kW bW .nil pass0 (pa_cons (pe_dget (gx_hu hr) (pv 2) (pv 4) (fun _ _ => rfl)) (pa_cons (pv 6) (pa_cons (pv 7) pa_nil))))) (fun _ => rfl))))))), ?_⟩
    -- the wares of the pick, and of its agenda
    refine ⟨_, rfl, a, _, pk.map (·.1), rfl, .inl ha, (by unfold pkD; rw [List.map_map, List.map_map]; rfl), (by rw [List.length_map]; omega), fun ys l1 hp1 hs1 nl1 => ?_⟩
    have k1 := Kp.new (o := HO.lst (ys.map V.str)) ht nl1
    have e1 : upd H l1 (.lst (ys.map V.str)) l1 = some (.lst (ys.map V.str)) := upd_same
    generalize upd H l1 (.lst (ys.map V.str)) = H1 at k1 e1 ⊢
    refine ⟨_, rfl, _, rfl, _, rfl, A, p, D, q, a, st, xs, ds, pk, rfl, S.keptP k1, G, k1.seq hq, k1.dpAll _ _ hds, hnd, h8, dict_kp k1 ha, O, k1.tab, fun out l2 H2 ag gd nd o7 k2 nl2 el2 => ?_⟩
    have o64 : out.length < 64 := by
      obtain ⟨U, eU⟩ : ∃ U : List Str, U = ds.map wOf ++ pk.flatMap (fun e => (needsD (dataOf st) e.1 e.2).map wOf) := ⟨_, rfl⟩
      have h1 : ∀ r : List (Str × Int), (r.flatMap (fun e => (needsD (dataOf st) e.1 e.2).map wOf)).length ≤ 6 * r.length := fun r => by
        induction r with
        | nil => exact Nat.le_refl _
        | cons e r ih =>
          rw [List.flatMap_cons, List.length_append, List.length_map, List.length_cons]
          have := (needsD_good G e.1 e.2).1
          omega
      have z := sub_len (U := U) nd (ag.sub (fun y hy => by
        rw [eU]
        rcases addW_mem.mp hy with hy | hy
        · cases hy
        · exact List.mem_append_left _ hy) fun w y hy => by
        unfold needW at hy
        cases el : lkP pk w with
        | none => rw [el] at hy; cases hy
        | some m =>
          rw [el] at hy
          rw [eU]
          exact List.mem_append_right _ (List.mem_flatMap.mpr ⟨(w, m), lkP_mem el, hy⟩))
      have h2 := h1 pk
      rw [eU, List.length_append, List.length_map] at z
      omega
    have k12 := k1.trans k2
    have e12 := k2.lst e1
    refine ⟨l2, out, rfl, .inl (.inl el2), o64, fun zs l3 hp3 hs3 nl3 => ?_⟩
    have k3 := Kp.new (o := HO.lst (zs.map V.str)) k12.tab nl3
    have e3 : upd H2 l3 (.lst (zs.map V.str)) l3 = some (.lst (zs.map V.str)) := upd_same
    have k13 := k12.trans k3
    have e13 := k3.lst e12
    generalize upd H2 l3 (.lst (zs.map V.str)) = H3 at k3 e3 k13 e13 ⊢
    have gy : ∀ y ∈ ys, GoodN y := fun y hy => by
      obtain ⟨e, he, rfl⟩ := List.mem_map.mp (hp1.mem_iff.mp hy)
      exact O.gd e he
    have gz : ∀ y ∈ zs, GoodN y := fun y hy => gd y (hp3.mem_iff.mp hy)
    refine ⟨.list (ys.map .str), .list (zs.map .str), dp_lst e13 (dp_strs ys), dp_lst e3 (dp_strs zs), shaped_strs gy, shaped_strs gz, _, rfl, ?_⟩
    rw [eqv_strs]
    have hperm : decide (ys = zs) = decide ((pk.map (·.1)).Perm out) := by
      by_cases e : ys = zs
      · rw [decide_eq_true e, decide_eq_true (hp1.symm.trans (by rw [e]; exact hp3))]
      · rw [decide_eq_false e, decide_eq_false fun z => e (sorted_same (hp1.trans (z.trans hp3.symm)) hs1 hs3)]
    rw [hperm]
    have fin1 := fin out
    unfold mB at fin1
    by_cases hpo : (pk.map (·.1)).Perm out
    · rw [decide_eq_true hpo] at fin1 ⊢
      refine iteF ?_
      clear e12 el2 nl2 k2 k12 e13 e3 k3 nl3 hp3 hs3 hp1 hs1 k1 e1 hperm
      -- all needs
      refine ⟨_, rfl, q, xs, rfl, .inl (k13.seq hq), fun nl nnl => ?_⟩
      have k4 := Kp.new (o := HO.lst xs) k13.tab nnl
      have S4 := ((S.keptP k13).more nnl).keptP k4
      have ha4 := dict_kp (k13.trans k4) ha
      have enl : upd H3 nl (.lst xs) nl = some (.lst xs) := upd_same
      have hd4 : DpAll K (hide [nl] (upd H3 nl (.lst xs))) xs ds := dpAll_mono (fun b o _ e => hide_of (k4.keep _ _ (tab_ne k13.tab e fun ps z => by subst z; cases ‹isSeqO _ = true›) e) fun z => by rw [List.mem_singleton.mp z, nnl] at e; cases e) _ _ (k13.dpAll _ _ hds)
      have nlA : ∀ y ∈ nl :: A, ∃ ys, upd H3 nl (.lst xs) y = some (.lst ys) := fun y hy => by
        rcases List.mem_cons.mp hy with rfl | hy
        · exact ⟨_, upd_same⟩
        · exact (hA y hy).imp fun _ e => k4.lst (k13.lst e)
      have nla : nl ≠ a := fun z => by rw [z, dict_kp k13 ha] at nnl; cases nnl
      have nlT := tab_nn k13.tab nnl
      generalize upd H3 nl (.lst xs) = H4 at k4 S4 ha4 enl hd4 nlA ⊢
      have t4 := k4.tab
      have aT := tab_ne t4 ha4 (fun _ z => by cases z)
      refine ⟨a, _, ha4, True.intro, fun od => ?_⟩
      have kL := lockX (od := od) t4 ha4 aT
      have SL := S4.kept kL (fun f hf => .inr ⟨pkD pk, by rw [List.mem_singleton.mp hf]; exact ha4⟩) (fun f _ hfA => nlA f hfA) (fun f hf z => haf (by rw [← List.mem_singleton.mp z]; exact hf))
      have eL : upd H4 a (.frz od (.dK (pkD pk))) a = some (.frz od (.dK (pkD pk))) := upd_same
      have un : ∀ H', Kx T [nl] (upd H4 a (.frz od (.dK (pkD pk)))) H' → Kx T [nl] H4 (upd H' a (.dK (pkD pk))) := fun H' k => unlockX t4 ha4 aT k
      have tL := kL.tab
      have enL : upd H4 a (.frz od (.dK (pkD pk))) nl = some (.lst xs) := by rw [upd_ne nla]; exact enl
      have hdL : DpAll K (hide [nl] (upd H4 a (.frz od (.dK (pkD pk))))) xs ds := dpAll_kx kL (fun f hf => .inr ⟨pkD pk, by rw [List.mem_singleton.mp hf]; exact ha4⟩) hd4
      generalize upd H4 a (.frz od (.dK (pkD pk))) = HL at kL SL eL un tL enL hdL ⊢
      have aN : a ∉ [nl] := fun z => nla (List.mem_singleton.mp z).symm
      refine ⟨_, rfl, a, od, _, rfl, eL, for_it walk_items (fun i σ' H' => ∃ (x4 x5 : Option V) (vs : List V), σ' = [some (.ref p), some (.ref q), some (.ref a), some (.ref nl), x4, x5, none, none] ∧ Kx T [nl] HL H' ∧ H' nl = some (.lst vs) ∧ DpAll K (hide [nl] H') vs (allN (dataOf st) (pk.take i) ds))
        ⟨none, none, xs, rfl, .refl tL, enL, by show DpAll K _ xs (ds ++ []); rw [List.append_nil]; exact hdL⟩ (fun i σ' H' _ ⟨_, _, _, _, kk, _, _⟩ => kk.keep _ _ aT aN eL) ?_ ?_⟩
      · rintro i v σ' H5 H6 hi ⟨x4, x5, vs, rfl, kk, en5, hd5⟩ ⟨Tt, x, y, rfl, nT, rfl, ex, ey⟩
        have hil : i < pk.length := by unfold pkD at hi; rw [List.length_map] at hi; exact hi
        have e0 : (pkD pk)[i]? = some (Sum.inr pk[i].1, V.int pk[i].2) := by
          unfold pkD
          rw [List.getElem?_map, List.getElem?_eq_getElem hil]
          rfl
        change Option.map (fun kv : Key × V => L2.kV kv.1) (pkD pk)[i]? = some x at ex
        change Option.map Prod.snd (pkD pk)[i]? = some y at ey
        rw [e0] at ex ey
        obtain rfl : V.str pk[i].1 = x := Option.some.inj ex
        obtain rfl : V.int pk[i].2 = y := Option.some.inj ey
        have hm := List.getElem_mem (h := hil)
        have etake : pk.take (i + 1) = pk.take i ++ [pk[i]] := by rw [List.take_succ, List.getElem?_eq_getElem hil]; rfl
        generalize pk[i] = e at hm etake nT ⊢
        have k6 := Kp.new (o := HO.tup [.str e.1, .int e.2]) kk.tab nT
        have etp : upd H5 Tt (.tup [V.str e.1, .int e.2]) Tt = some (.tup [V.str e.1, .int e.2]) := upd_same
        have kk6 := kk.trans (Kx.of (A := [nl]) k6)
        have en6 := k6.lst en5
        have hd6 := dpAll_kx (F := []) (.of k6) (fun f hf => by cases hf) hd5
        generalize upd H5 Tt (.tup [V.str e.1, .int e.2]) = H6 at k6 etp kk6 en6 hd6 ⊢
        have S6 := SL.kept kk6 (fun f hf => .inl (by rw [List.mem_singleton.mp hf]; exact List.mem_cons_self ..)) (fun f hf _ => by rw [List.mem_singleton.mp hf]; exact ⟨_, enL⟩) (fun f hf z => by
          obtain ⟨kvs, e⟩ := SL.bx.foot_dict f hf
          rw [List.mem_singleton.mp z, enL] at e; cases e)
        obtain ⟨dx, o6⟩ := S6.ob
        refine ⟨Tt, _, rfl, .inl (.inl etp), rfl, _, _, rfl, _, _, rfl, rfl, ?_⟩
        refine ⟨_, rfl, .inl ⟨rfl, _, .inl (.inl en6)⟩, _, rfl, p, dx, _, rfl, o6, flS_no D (by decide +kernel), _, rfl, _, rfl, nl :: A, p, D, st, _, _, .str e.1, .int e.2, rfl, S6, .str _, (O.gd _ hm).2, .int _, k6.tab, fun z => (by rw [pick_has G (O.gd _ hm) (O.in_ _ hm)] at z; cases z), fun x' m' ex em _ xs' ds' l H7 hf k7 nl7 el7 hd7 => ?_⟩
        cases ex
        cases em
        have ends := needsD_of hf
        have en7 := k7.lst en6
        have hd67 := dpAll_kx (F := []) (.of k7) (fun f hf => by cases hf) hd6
        have lv := dpAll_len hd67
        have lx := dpAll_len hd7
        have l1 : (allN (dataOf st) (pk.take i) ds).length ≤ 8 + 6 * 9 := by
          have h1 : ∀ r : List (Str × Int), (r.flatMap (fun e => needsD (dataOf st) e.1 e.2)).length ≤ 6 * r.length := fun r => by
            induction r with
            | nil => exact Nat.le_refl _
            | cons e r ih =>
              rw [List.flatMap_cons, List.length_append, List.length_cons]
              have := (needsD_good G e.1 e.2).1
              omega
          have h2 := h1 (pk.take i)
          unfold allN
          rw [List.length_append]
          rw [List.length_take] at h2
          omega
        have l2 : ds'.length ≤ 6 := by rw [← ends]; exact (needsD_good G e.1 e.2).1
        refine ⟨nl, l, vs, xs', rfl, rfl, en7, el7, Nat.le_of_lt (small1000 (by omega)), ?_⟩
        have k8 : Kx T [nl] H7 (upd H7 nl (.lst (vs ++ xs'))) := Kx.upd k7.tab nlT (List.mem_singleton.mpr rfl)
        refine ⟨_, _, vs ++ xs', rfl, (kk6.trans (Kx.of k7)).trans k8, upd_same, ?_⟩
        have e8 : allN (dataOf st) (pk.take (i + 1)) ds = allN (dataOf st) (pk.take i) ds ++ ds' := by
          unfold allN
          rw [etake, List.flatMap_append, ← ends, List.append_assoc, List.flatMap_cons, List.flatMap_nil, List.append_nil]
        rw [e8]
        have hsub : DpAll K (hide [nl] H7) xs' ds' := dpAll_mono (hide_sub fun x hx => by rw [List.mem_singleton.mp hx]; exact List.mem_cons_self ..) _ _ hd7
        exact dpAll_kx k8 (fun f hf => .inl hf) (dpAll_app hd67 hsub)
      · rintro σ' H5 ⟨x4, x5, vs, rfl, kk, en5, hd5⟩
        have hpl : (pkD pk).length = pk.length := by unfold pkD; rw [List.length_map]
        rw [hpl, List.take_length] at hd5
        have er := kk.keep _ _ aT aN eL
        refine ⟨er, ?_⟩
        have k6 := un H5 kk
        have ea6 : upd H5 a (.dK (pkD pk)) a = some (.dK (pkD pk)) := upd_same
        have en6 : upd H5 a (.dK (pkD pk)) nl = some (.lst vs) := by rw [upd_ne nla]; exact en5
        have hd6 : DpAll K (upd H5 a (.dK (pkD pk))) vs (allN (dataOf st) pk ds) := dpAll_mono (fun b o hs e => by
          rw [upd_ne (fun z => by rw [z, er] at e; cases e; cases hs)]
          exact e) _ _ (dpAll_show hd5)
        generalize upd H5 a (.dK (pkD pk)) = H6 at k6 ea6 en6 hd6 ⊢
        have k36 : Kp T H3 H6 := Kx.dropNew nnl k4 k6
        have kp6 := k13.trans k36
        have t26 := (K2.of kp6 ht2).t2'
        have hnN : ∀ d ∈ allN (dataOf st) pk ds, ND d := fun d hd => by
          rcases List.mem_append.mp hd with hd | hd
          · exact hnd d hd
          · obtain ⟨e, _, hd⟩ := List.mem_flatMap.mp hd
            exact (needsD_good G e.1 e.2).2 d hd
        have hlook : ∀ d ∈ allN (dataOf st) pk ds, ∃ m, lkP pk (wOf d) = some m := fun d hd => by
          have hin : wOf d ∈ out := by
            rcases List.mem_append.mp hd with hd | hd
            · exact ag.keeps _ (addW_mem.mpr (.inr (List.mem_map.mpr ⟨d, hd, rfl⟩)))
            · obtain ⟨e, he, hd⟩ := List.mem_flatMap.mp hd
              refine ag.closed (fun i w hi => by omega) e.1 (hpo.mem_iff.mp (List.mem_map.mpr ⟨e, he, rfl⟩)) _ ?_
              unfold needW
              rw [lkP_of O.nd (show (e.1, e.2) ∈ pk from he)]
              exact List.mem_map.mpr ⟨d, hd, rfl⟩
          obtain ⟨e, he, ee⟩ := List.mem_map.mp (hpo.mem_iff.mpr hin)
          exact ⟨e.2, by rw [← ee]; exact lkP_of O.nd (show (e.1, e.2) ∈ pk from he)⟩
        have hlen := dpAll_len hd6
        refine ⟨_, rfl, nl, rfl, ⟨_, .inl (.inl en6)⟩, t26, fun H7 tb => ?_⟩
        have k67 := K2.tabbed kp6.tab t26 tb
        have k07 : K2 T T2 H H7 := (K2.of kp6 ht2).trans k67
        have ea7 := k67.lift (p := fun H => H a = some (.dK (pkD pk))) (fun _ _ _ k h => dict_kp k h) ea6
        have en7 := k67.lift (p := fun H => H nl = some (.lst vs)) (fun _ _ _ k h => k.lst h) en6
        have hd7 := k67.lift (p := fun H => DpAll K H vs (allN (dataOf st) pk ds)) (fun _ _ _ k h => k.dpAll _ _ h) hd6
        refine allX_list (K := K) (a := nl) (xs := vs) (fun i H' => H' = H7 ∧ ((allN (dataOf st) pk ds).take i).all (metD pk) = true) ⟨rfl, rfl⟩ (fun i H' h => by rw [h.1]; exact .inl (.inl en7)) (fun i v H' hi h => ?_) (fun H' h => ?_)
        · obtain ⟨rfl, hall⟩ := h
          have hil : i < (allN (dataOf st) pk ds).length := by
            rw [← hlen]
            exact (List.getElem?_eq_some_iff.mp hi).1
          have ei := List.getElem?_eq_getElem hil
          obtain ⟨v', ev', hdv⟩ := dpAll_get hd7 ei
          rw [hi] at ev'
          cases ev'
          have hmem := List.getElem_mem hil
          obtain ⟨b, y, lo, hi', rfl, hT, ed, _⟩ := nd_read hdv (hnN _ hmem)
          obtain ⟨m, em⟩ := hlook _ hmem
          have etake : (allN (dataOf st) pk ds).take (i + 1) = (allN (dataOf st) pk ds).take i ++ [(allN (dataOf st) pk ds)[i]] := by rw [List.take_succ, ei]; rfl
          have emet : metD pk (allN (dataOf st) pk ds)[i] = (decide (lo ≤ m) && decide (m ≤ hi')) := by
            rw [ed] at em ⊢
            show (match lkP pk y with | some m => decide (lo ≤ m) && decide (m ≤ hi') | none => false) = _
            rw [show lkP pk y = some m from em]
          rw [ed] at em
          refine ⟨b, _, rfl, hT, rfl, _, _, rfl, _, _, rfl, _, _, rfl, rfl, rfl, _, rfl, _, rfl, a, _, rfl, .inl ⟨_, Sum.inr y, .inl ea7, rfl, (by rw [pkD_val, show lkP pk y = some m from em] <;> rfl)⟩, _, rfl, _, rfl, m, lo, hi', rfl, _, rfl, ?_⟩
          cases hb : (decide (lo ≤ m) && decide (m ≤ hi')) with
          | true =>
            rw [if_neg (by decide)]
            refine ⟨rfl, ?_⟩
            rw [etake, List.all_append, hall, Bool.true_and]
            show (metD pk _ && true) = true
            rw [emet, hb] <;> rfl
          | false =>
            rw [if_pos rfl]
            have z := fin1 H' ag k07
            have e0 : (allN (dataOf st) pk ds).all (metD pk) = false := by
              cases q : (allN (dataOf st) pk ds).all (metD pk) with
              | false => rfl
              | true =>
                have := List.all_eq_true.mp q _ hmem
                rw [emet, hb] at this
                cases this
            rw [e0, Bool.and_false] at z
            exact z
        · obtain ⟨rfl, hall⟩ := h
          rw [hlen, List.take_length] at hall
          have z := fin1 H' ag k07
          rw [hall, Bool.and_true] at z
          exact z
    · rw [decide_eq_false hpo] at fin1 ⊢
      exact iteT (fin1 _ ag (K2.of k13 ht2))
end
end Pk

set_option Elab.async false
set_option linter.all false
set_option maxRecDepth 100000
set_option maxHeartbeats 4000000
namespace Pk
open PySem PySem.Spec PyProof.Rows L2
section
variable {P : Program} {w : World} {K : PySem.W.Frag} {mg : Str → Option Value} {base : Heap}
def lMeetsN : List Str := ["_law_rows_here", "_law_wish_here", nPick, "_law_needs_here", "_law_ware", "_law_low", "_law_high"]
theorem scLMeets : FnScope lMeetsN ["_law_rows_here", "_law_wish_here", nPick] (defScope sLMeets) := ⟨rfl, rfl, rfl, by decide +kernel, rfl, by decide +kernel, by decide +kernel⟩
def spLMt (K : PySem.W.Frag) (T : Addr) : Sp := fun vs H Q _ => ∃ (A : List Addr) (r q a : Addr) (cl : List Shelf) (xs : List V) (ds : List PyData) (pk : List (Str × Int)), vs = [.ref r, .ref q, .ref a] ∧ BoxOk K A H r cl ∧ GoodSh (dataOf cl) ∧ SqL K H q xs ∧ DpAll K H xs ds ∧ (∀ d ∈ ds, ND d) ∧ ds.length ≤ 8 ∧
  H a = some (.dK (pkD pk)) ∧ a ∉ foot r cl ∧ PickOk (dataOf cl) pk ∧ pk.length ≤ 9 ∧ RawB K H cl ∧ GxR.TabG H T ∧ (∀ H', Kp T H H' → (allN (dataOf cl) pk ds).all (metD pk) = false → Q (.bl false) H') ∧
  ∀ out H', AgOf (needW (dataOf cl) pk) (addW [] (ds.map wOf)) 0 out → Kp T H H' → Q (.bl (mB (dataOf cl) pk ds out)) H'
theorem ok_lmt {f fL T : Addr} {fd fdL : FuncData} (F : Fun K "_law_meets" "_law_meets" sLMeets f fd)
    (GL : FnOk P w K mg base CX0 1 fL fdL ["_law_rows_here", "_law_wish_here", nPick] (spLAg K T)) (kL : PySem.W.keepIn K (.ref fL) = true) (bL : Binds K fdL ["_law_rows_here", "_law_wish_here", nPick] []) (gL : mg "_law_agenda" = some (.ref fL))
    (y_list : mg "list" = none) (y_sorted : mg "sorted" = none) : FnOk P w K mg base CX0 2 f fd ["_law_rows_here", "_law_wish_here", nPick] (spLMt K T) := by
  refine F.ok scLMeets (fun vs H Q E h => ?_) (fun cdv A0 outer s H vs Q E hr h => ?_)
  · obtain ⟨A, r, q, a, cl, xs, ds, pk, rfl, _⟩ := h
    rfl
  · obtain ⟨A, r, q, a, cl, xs, ds, pk, rfl, B, G, hq, hds, hnd, h8, ha, har, O, h9, hR, ht, finN, fin⟩ := h
    have hu := hu_of hr
    refine ⟨_, (pss_cons (ps_set (i := 3) scLMeets.nd rfl (by first | exact .inl rfl | exact .inr rfl) (pe_callTy call_list_of (by rfl) y_list boot_list (pa_cons (pv 1) pa_nil)))
      (pss_cons (ps_lock (ps_for PassesOwn.never rfl (pi_keys (pv 2)) (pg_name (i := 4) scLMeets.nd rfl (by first | exact .inl rfl | exact .inr rfl)) (pss_one (ps_set (i := 3) scLMeets.nd rfl (by first | exact .inl rfl | exact .inr rfl) (pe_op op_cat (pv 3) (pe_dget hu (pe_dget hu (pv 0) (pv 4) (fun _ _ => rfl)) (pe_dget hu (pv 2) (pv 4) (fun _ _ => rfl)) (fun _ _ => rfl)))))))
      (pss_cons (ps_for PassesOwn.never rfl (pi_list (pv 3)) (pg_tup (by rfl) (pgs_cons (pg_name (i := 4) scLMeets.nd rfl (by first | exact .inl rfl | exact .inr rfl)) (pgs_cons (pg_name (i := 5) scLMeets.nd rfl (by first | exact .inl rfl | exact .inr rfl)) (pgs_cons (pg_name (i := 6) scLMeets.nd rfl (by first | exact .inl rfl | exact .inr rfl)) pgs_nil)))) (pss_one (ps_if (PW.pt (pw_or (pt_cmp (pc_dnotin hu (pv 4) (pv 2))) (pw_or1 (pt_not (pt_chain op_le op_le (pv 5) (pe_dget hu (pv 2) (pv 4) (fun _ _ => rfl)) (pv 6)))))) (pss_one (ps_ret pe_bl)) pss_nil)))
      (pss_one (ps_ret (pe_cmpR (op_eqD hr.units) (pe_callB (call_sortedD rfl) (by rfl) y_sorted (by decide +kernel) (pa_cons (pv 2) pa_nil)) (pe_callB cr_sortedS (by rfl) y_sorted (by decide +kernel) (pa_cons (pe_call GL (hr.mono (by decide)) (by rfl) gL kL bL .nil pass0 (pa_cons (pv 0) (pa_cons (pv 1) (pa_cons (pv 2) pa_nil)))) pa_nil)) (nomark _))))))), ?_⟩
    refine ⟨_, rfl, q, xs, rfl, .inl hq, fun nl nnl => ?_⟩
    have k1 := Kp.new (o := HO.lst xs) ht nnl
    have ha1 := dict_kp k1 ha
    have enl : upd H nl (.lst xs) nl = some (.lst xs) := upd_same
    have B1 := B.keptP k1
    have R1 := hR.kp k1
    have d1 := k1.dpAll _ _ hds
    generalize upd H nl (.lst xs) = H1 at k1 ha1 enl B1 R1 d1 ⊢
    have t1 := k1.tab
    have aT := tab_ne t1 ha1 (fun _ z => by cases z)
    refine ⟨a, _, ha1, True.intro, fun od => ?_⟩
    have eL : upd H1 a (.frz od (.dK (pkD pk))) a = some (.frz od (.dK (pkD pk))) := upd_same
    have BL := B1.swap (d := a) (o' := .frz od (.dK (pkD pk))) (fun o z => by rw [ha1] at z; cases z; rfl) har
    have RL : RawB K (upd H1 a (.frz od (.dK (pkD pk)))) cl := fun s hs e he => (R1 s hs e he).imp fun _ z => ⟨by rw [upd_ne (fun q => by have z := z.1; rw [q, ha1] at z; cases z)]; exact z.1, dpAll_mono (fun b o hs e => by rw [upd_ne (fun z => by rw [z, ha1] at e; cases e; cases hs)]; exact e) _ _ z.2⟩
    have dL : DpAll K (upd H1 a (.frz od (.dK (pkD pk)))) xs ds := dpAll_mono (fun b o hs e => by rw [upd_ne (fun z => by rw [z, ha1] at e; cases e; cases hs)]; exact e) _ _ d1
    have enL : upd H1 a (.frz od (.dK (pkD pk))) nl = some (.lst xs) := by rw [upd_ne (fun z => by rw [z, ha1] at enl; cases enl)]; exact enl
    have un : ∀ H', Kp T (upd H1 a (.frz od (.dK (pkD pk)))) H' → Kp T H1 (upd H' a (.dK (pkD pk))) := fun H' k => unlockP t1 ha1 aT k
    have tL : GxR.TabG (upd H1 a (.frz od (.dK (pkD pk)))) T := tab_upd t1 aT
    generalize upd H1 a (.frz od (.dK (pkD pk))) = HL at eL BL RL dL enL un tL ⊢
    refine ⟨_, rfl, a, od, rfl, .inl ⟨_, eL, for_it walk_keys (fun i σ' H' => ∃ (x4 : Option V) (cur : Addr) (vs : List V), σ' = [some (.ref r), some (.ref q), some (.ref a), some (.ref cur), x4, none, none] ∧ Kp T HL H' ∧ H' cur = some (.lst vs) ∧ DpAll K H' vs (allN (dataOf cl) (pk.take i) ds))
      ⟨none, nl, xs, rfl, .refl tL, enL, by show DpAll K _ xs (ds ++ []); rw [List.append_nil]; exact dL⟩ (fun i σ' H' _ ⟨_, _, _, _, kk, _, _⟩ => kk.keep _ _ aT eL) ?_ ?_⟩⟩
    · intro i v σ' H5 H6 hi hv hy
      obtain ⟨x4, cur, vs, rfl, kk, ecur, hd5⟩ := hv
      obtain ⟨rfl, k0, v0, hk, rfl⟩ := hy
      have hil : i < pk.length := by unfold pkD at hi; rw [List.length_map] at hi; exact hi
      have es : pk[i]? = some pk[i] := List.getElem?_eq_getElem hil
      have hm := List.getElem_mem hil
      have hk2 : (pkD pk)[i]? = some (k0, v0) := hk
      unfold pkD at hk2
      rw [List.getElem?_map, es] at hk2
      have ek : k0 = Sum.inr pk[i].1 := (congrArg Prod.fst (Option.some.inj hk2)).symm
      subst ek
      clear hk hk2
      have etake : pk.take (i + 1) = pk.take i ++ [pk[i]] := by rw [List.take_succ, es]; rfl
      generalize pk[i] = e at hm etake ⊢
      obtain ⟨s, e', lk, le, en⟩ := row_need (O.in_ e hm)
      have hs := (look_mem lk).1
      have he' := (lookE_mem le).1
      have B5 := BL.keptP kk
      obtain ⟨zs, ez, dz⟩ := RL.kp kk s hs e' he'
      have d9 := ent_rd (.of B5) hs e.2
      rw [le] at d9
      have lv := dpAll_len hd5
      have lz := dpAll_len dz
      have ll : (allN (dataOf cl) (pk.take i) ds).length ≤ 8 + 6 * 9 := by
        have h1 : ∀ r : List (Str × Int), (r.flatMap (fun e => needsD (dataOf cl) e.1 e.2)).length ≤ 6 * r.length := fun r => by
          induction r with
          | nil => exact Nat.le_refl _
          | cons e r ih =>
            rw [List.flatMap_cons, List.length_append, List.length_cons]
            have := (needsD_good G e.1 e.2).1
            omega
        have h2 := h1 (pk.take i)
        unfold allN
        rw [List.length_append]
        rw [List.length_take] at h2
        omega
      have l2 : e'.2.2.length ≤ 6 := by rw [← en]; exact (needsD_good G e.1 e.2).1
      refine ⟨_, rfl, _, rfl, _, rfl, r, _, rfl, cell_get B5 lk, _, rfl, _, rfl, a, _, rfl, .inl ⟨_, Sum.inr e.1, .inr ⟨od, kk.keep _ _ aT eL⟩, rfl, (by rw [pkD_val, lkP_of O.nd (show (e.1, e.2) ∈ pk from hm)] <;> rfl)⟩, s.at_, _, rfl, d9, cur, e'.2.1, vs, zs, rfl, rfl, ecur, ez, Nat.le_of_lt (small1000 (by omega)), fun l3 nl3 => ?_⟩
      have k3 := Kp.new (o := HO.lst (vs ++ zs)) kk.tab nl3
      have e8 : allN (dataOf cl) (pk.take (i + 1)) ds = allN (dataOf cl) (pk.take i) ds ++ e'.2.2 := by
        unfold allN
        rw [etake, List.flatMap_append, ← en, List.append_assoc, List.flatMap_cons, List.flatMap_nil, List.append_nil]
      refine ⟨_, l3, vs ++ zs, rfl, kk.trans k3, upd_same, ?_⟩
      rw [e8]
      exact k3.dpAll _ _ (dpAll_app hd5 dz)
    · rintro σ' H5 ⟨x4, cur, vs, rfl, kk, ecur, hd5⟩
      have hpl : (pkD pk).length = pk.length := by unfold pkD; rw [List.length_map]
      rw [hpl, List.take_length] at hd5
      have er := kk.keep _ _ aT eL
      refine ⟨er, ?_⟩
      have k6 := un H5 kk
      have ea6 : upd H5 a (.dK (pkD pk)) a = some (.dK (pkD pk)) := upd_same
      have ecur6 : upd H5 a (.dK (pkD pk)) cur = some (.lst vs) := by rw [upd_ne (fun z => by rw [z, er] at ecur; cases ecur)]; exact ecur
      have hd6 : DpAll K (upd H5 a (.dK (pkD pk))) vs (allN (dataOf cl) pk ds) := dpAll_mono (fun b o hs e => by
          rw [upd_ne (fun z => by rw [z, er] at e; cases e; cases hs)]
          exact e) _ _ hd5
      generalize upd H5 a (.dK (pkD pk)) = H6 at k6 ea6 ecur6 hd6 ⊢
      clear er hd5 ecur kk un eL BL RL dL enL aT tL
      have kp6 := k1.trans k6
      have hlen := dpAll_len hd6
      have hnN : ∀ d ∈ allN (dataOf cl) pk ds, ND d := fun d hd => by
        rcases List.mem_append.mp hd with hd | hd
        · exact hnd d hd
        · obtain ⟨e, _, hd⟩ := List.mem_flatMap.mp hd
          exact (needsD_good G e.1 e.2).2 d hd
      refine ⟨_, rfl, cur, rfl, ⟨_, .inl (.inl ecur6)⟩, for_list (K := K) (a := cur) (xs := vs) (fun i σ' H' => ∃ x4 x5 x6 : Option V, σ' = [some (.ref r), some (.ref q), some (.ref a), some (.ref cur), x4, x5, x6] ∧ H' = H6 ∧ ((allN (dataOf cl) pk ds).take i).all (metD pk) = true) ⟨x4, none, none, rfl, rfl, rfl⟩ (fun i σ' H' _ ⟨_, _, _, _, e, _⟩ => by rw [e]; exact .inl (.inl ecur6)) ?_ ?_⟩
      · rintro i v σ' H' hi ⟨x4, x5, x6, rfl, rfl, hall⟩
        have hil : i < (allN (dataOf cl) pk ds).length := by
          rw [← hlen]
          exact (List.getElem?_eq_some_iff.mp hi).1
        have ei := List.getElem?_eq_getElem hil
        obtain ⟨v', ev', hdv⟩ := dpAll_get hd6 ei
        rw [hi] at ev'
        cases ev'
        have hmem := List.getElem_mem hil
        obtain ⟨b, y, lo, hi', rfl, hT, ed, _⟩ := nd_read hdv (hnN _ hmem)
        have etake : (allN (dataOf cl) pk ds).take (i + 1) = (allN (dataOf cl) pk ds).take i ++ [(allN (dataOf cl) pk ds)[i]] := by rw [List.take_succ, ei]; rfl
        have no : metD pk (allN (dataOf cl) pk ds)[i] = false → (allN (dataOf cl) pk ds).all (metD pk) = false := fun h => by
          cases q : (allN (dataOf cl) pk ds).all (metD pk) with
          | false => rfl
          | true =>
            have := List.all_eq_true.mp q _ hmem
            rw [h] at this
            cases this
        have yes : metD pk (allN (dataOf cl) pk ds)[i] = true → ((allN (dataOf cl) pk ds).take (i + 1)).all (metD pk) = true := fun h => by
          rw [etake, List.all_append, hall, Bool.true_and]
          show (metD pk _ && true) = true
          rw [h] <;> rfl
        have emet : metD pk (allN (dataOf cl) pk ds)[i] = match lkP pk y with | some m => decide (lo ≤ m) && decide (m ≤ hi') | none => false := by rw [ed]; rfl
        have dg : DGet H' a (.str y) ((lkP pk y).map V.int) := by have z := DGet.k (k := (Sum.inr y : Key)) ea6; rw [pkD_val] at z; exact z
        refine ⟨b, _, rfl, hT, rfl, _, _, rfl, _, _, rfl, _, _, rfl, rfl, ?_⟩
        refine ⟨_, rfl, _, rfl, a, _, rfl, dg, _, rfl, ?_⟩
        cases em : lkP pk y with
        | none =>
          rw [em] at emet
          exact finN H' kp6 (no emet)
        | some m =>
          rw [em] at emet dg
          have emet : metD pk (allN (dataOf cl) pk ds)[i] = (decide (lo ≤ m) && decide (m ≤ hi')) := emet
          refine ⟨_, rfl, _, rfl, _, rfl, a, _, rfl, dg, _, _, rfl, rfl, _, rfl, iteD (fun c1 => ⟨_, rfl, _, _, rfl, rfl, _, rfl, iteN (fun c2 => ?_) (fun c2 => ?_)⟩) (fun c1 => ?_)⟩
          · exact finN H' kp6 (no (by rw [emet, decide_eq_false c2, Bool.and_false]))
          · exact ⟨_, _, _, rfl, rfl, yes (by rw [emet, decide_eq_true c1, decide_eq_true c2] <;> rfl)⟩
          · exact ⟨_, rfl, finN H' kp6 (no (by rw [emet, decide_eq_false c1, Bool.false_and]))⟩
      · rintro σ' H' ⟨x4', x5, x6, rfl, rfl, hall⟩
        rw [hlen, List.take_length] at hall
        have t6 := kp6.tab
        -- the wares of the pick, and of its agenda
        refine ⟨_, rfl, a, _, pk.map (·.1), rfl, .inl ea6, (by unfold pkD; rw [List.map_map, List.map_map]; rfl), (by rw [List.length_map]; omega), fun ys l1 hp1 hs1 nl1 => ?_⟩
        have k7 := Kp.new (o := HO.lst (ys.map V.str)) t6 nl1
        have e1 : upd H' l1 (.lst (ys.map V.str)) l1 = some (.lst (ys.map V.str)) := upd_same
        have kk7 := kp6.trans k7
        generalize upd H' l1 (.lst (ys.map V.str)) = H7 at k7 kk7 e1 ⊢
        refine ⟨_, rfl, _, rfl, _, rfl, A, r, q, a, cl, xs, ds, pk, rfl, .of (B.keptP kk7), G, kk7.seq hq, kk7.dpAll _ _ hds, hnd, h8, .inl (dict_kp kk7 ha), O, kk7.tab, fun out l2 H2 ag gd nd o7 k2 nl2 el2 => ?_⟩
        have o64 : out.length < 64 := by
          obtain ⟨U, eU⟩ : ∃ U : List Str, U = ds.map wOf ++ pk.flatMap (fun e => (needsD (dataOf cl) e.1 e.2).map wOf) := ⟨_, rfl⟩
          have h1 : ∀ r : List (Str × Int), (r.flatMap (fun e => (needsD (dataOf cl) e.1 e.2).map wOf)).length ≤ 6 * r.length := fun r => by
            induction r with
            | nil => exact Nat.le_refl _
            | cons e r ih =>
              rw [List.flatMap_cons, List.length_append, List.length_map, List.length_cons]
              have := (needsD_good G e.1 e.2).1
              omega
          have z := sub_len (U := U) nd (ag.sub (fun y hy => by
            rw [eU]
            rcases addW_mem.mp hy with hy | hy
            · cases hy
            · exact List.mem_append_left _ hy) fun w y hy => by
            unfold needW at hy
            cases el : lkP pk w with
            | none => rw [el] at hy; cases hy
            | some m =>
              rw [el] at hy
              rw [eU]
              exact List.mem_append_right _ (List.mem_flatMap.mpr ⟨(w, m), lkP_mem el, hy⟩))
          have h2 := h1 pk
          rw [eU, List.length_append, List.length_map] at z
          omega
        have k12 := kk7.trans k2
        have e12 := k2.lst e1
        refine ⟨l2, out, rfl, .inl (.inl el2), o64, fun zs l3 hp3 hs3 nl3 => ?_⟩
        have k3 := Kp.new (o := HO.lst (zs.map V.str)) k12.tab nl3
        have e3 : upd H2 l3 (.lst (zs.map V.str)) l3 = some (.lst (zs.map V.str)) := upd_same
        have k13 := k12.trans k3
        have e13 := k3.lst e12
        generalize upd H2 l3 (.lst (zs.map V.str)) = H3 at k3 e3 k13 e13 ⊢
        have gy : ∀ y ∈ ys, GoodN y := fun y hy => by
          obtain ⟨e, he, rfl⟩ := List.mem_map.mp (hp1.mem_iff.mp hy)
          exact O.gd e he
        have gz : ∀ y ∈ zs, GoodN y := fun y hy => gd y (hp3.mem_iff.mp hy)
        refine ⟨.list (ys.map .str), .list (zs.map .str), dp_lst e13 (dp_strs ys), dp_lst e3 (dp_strs zs), shaped_strs gy, shaped_strs gz, ?_⟩
        rw [eqv_strs]
        have hperm : decide (ys = zs) = decide ((pk.map (·.1)).Perm out) := by
          by_cases e : ys = zs
          · rw [decide_eq_true e, decide_eq_true (hp1.symm.trans (by rw [e]; exact hp3))]
          · rw [decide_eq_false e, decide_eq_false fun z => e (sorted_same (hp1.trans (z.trans hp3.symm)) hs1 hs3)]
        rw [hperm]
        have z := fin out H3 ag k13
        unfold mB at z
        rw [hall, Bool.and_true] at z
        exact z
end
end Pk

set_option Elab.async false
set_option linter.all false
set_option maxRecDepth 100000
set_option maxHeartbeats 4000000
namespace Pk
open PySem PySem.Spec PyProof.Rows L2
/-- a dict that is a pick, new since H0 -/
def PkN (H0 H : Hp) (v : V) (pk : List (Str × Int)) : Prop := ∃ a, v = .ref a ∧ H0 a = none ∧ H a = some (.dK (pkD pk))
theorem PkN.kept {T : Addr} {H0 H H' : Hp} (k : Kp T H H') {v : V} {pk : List (Str × Int)} (h : PkN H0 H v pk) : PkN H0 H' v pk := by
  obtain ⟨a, e, n, h⟩ := h
  exact ⟨a, e, n, dict_kp k h⟩
theorem PkN.upd {H0 H : Hp} {d : Addr} {u : HO} (nd : H0 d ≠ none) {v : V} {pk : List (Str × Int)} (h : PkN H0 H v pk) : PkN H0 (L2.upd H d u) v pk := by
  obtain ⟨a, e, n, h⟩ := h
  exact ⟨a, e, n, by rw [upd_ne (fun z => nd (by rw [← z]; exact n))]; exact h⟩
theorem PkN.set {H0 H : Hp} {d : Addr} {xs ys : List V} (hd : H d = some (.lst xs)) {v : V} {pk : List (Str × Int)} (h : PkN H0 H v pk) : PkN H0 (L2.upd H d (.lst ys)) v pk := by
  obtain ⟨a, e, n, h⟩ := h
  exact ⟨a, e, n, by rw [upd_ne (fun z => by rw [z, hd] at h; cases h)]; exact h⟩
theorem PkN.back {T : Addr} {H0 H1 H : Hp} (k : Kp T H0 H1) {v : V} {pk : List (Str × Int)} (h : PkN H1 H v pk) : PkN H0 H v pk := by
  obtain ⟨a, e, n, h⟩ := h
  exact ⟨a, e, k.free n, h⟩
theorem PickOk.app {D : Str → List (Int × List PyData)} {pk : List (Str × Int)} {w : Str} {m : Int} (O : PickOk D pk) (h : w ∉ pk.map (·.1)) (gw : GoodN w) (hm : m ∈ (D w).map (·.1)) (hl : pk.length < 100) : PickOk D (pk ++ [(w, m)]) := by
  refine ⟨?_, by rw [List.length_append, List.length_singleton]; omega, fun e he => ?_, fun e he => ?_⟩
  · rw [List.map_append]
    exact List.nodup_append.mpr ⟨O.nd, List.nodup_cons.mpr ⟨List.not_mem_nil, List.nodup_nil⟩, fun a ha b hb e => h (by rw [List.mem_singleton.mp hb] at e; have e : a = w := e; rw [← e]; exact ha)⟩
  · rcases List.mem_append.mp he with he | he
    · exact O.gd e he
    · rw [List.mem_singleton.mp he]; exact gw
  · rcases List.mem_append.mp he with he | he
    · exact O.in_ e he
    · rw [List.mem_singleton.mp he]; exact hm
theorem PickOk.nil {D : Str → List (Int × List PyData)} : PickOk D [] := ⟨List.nodup_nil, Nat.zero_le _, fun e he => (by cases he), fun e he => (by cases he)⟩
theorem PickOk.le {cl : List Shelf} {pk : List (Str × Int)} (O : PickOk (dataOf cl) pk) : pk.length ≤ cl.length := by
  have z := sub_len (U := cl.map (·.ware)) O.nd fun y hy => by
    obtain ⟨e, he, rfl⟩ := List.mem_map.mp hy
    have z := O.in_ e he
    obtain ⟨s, hs⟩ := look_cons (st := cl) (x := e.1) (fun q => by rw [q] at z; cases z)
    obtain ⟨g1, g2⟩ := look_mem hs
    exact List.mem_map.mpr ⟨s, g1, g2⟩
  rw [List.length_map, List.length_map] at z
  exact z
/-- a pick of the first i rows -/
def PkI (cl : List Shelf) (i : Nat) (pk : List (Str × Int)) : Prop := PickOk (dataOf cl) pk ∧ ∀ y ∈ pk.map (·.1), y ∈ (cl.take i).map (·.ware)
theorem PkI.up {cl : List Shelf} {i : Nat} {pk : List (Str × Int)} (h : PkI cl i pk) : PkI cl (i + 1) pk := ⟨h.1, fun y hy => (List.Sublist.map _ (List.take_sublist_take_left (Nat.le_succ i))).subset (h.2 y hy)⟩
theorem PkI.new {cl : List Shelf} {i : Nat} {s : Shelf} {pk : List (Str × Int)} {m : Int} (nd : (cl.map (·.ware)).Nodup) (es : cl[i]? = some s) (h : PkI cl i pk) (gw : GoodN s.ware) (hm : m ∈ s.ents.map (·.1)) (hl : pk.length < 100) : s.ware ∉ pk.map (·.1) ∧ PkI cl (i + 1) (pk ++ [(s.ware, m)]) := by
  have fresh : s.ware ∉ pk.map (·.1) := fun z => by
    obtain ⟨t, ht2, e2⟩ := List.mem_map.mp (h.2 _ z)
    obtain ⟨j, hj⟩ := List.mem_iff_getElem?.mp ht2
    have hjn : j < i := by
      have := (List.getElem?_eq_some_iff.mp hj).1
      rw [List.length_take] at this
      omega
    rw [List.getElem?_take, if_pos hjn] at hj
    have e1 : (cl.map (·.ware))[j]? = some s.ware := by rw [List.getElem?_map, hj, ← e2]; rfl
    have e2 : (cl.map (·.ware))[i]? = some s.ware := by rw [List.getElem?_map, es]; rfl
    exact absurd (nd_idx nd e1 e2) (by omega)
  have lk : look cl s.ware = some s := look_of nd (List.mem_of_getElem? es) rfl
  refine ⟨fresh, h.1.app fresh gw ?_ hl, fun y hy => ?_⟩
  · rw [look_data lk, List.map_map]
    exact hm
  · rw [List.take_succ, es, List.map_append]
    rw [List.map_append] at hy
    rcases List.mem_append.mp hy with hy | hy
    · exact List.mem_append_left _ (h.2 y hy)
    · exact List.mem_append_right _ (List.mem_singleton.mpr (List.mem_singleton.mp hy))
/-- a pick that meets a wish -/
def Mets (D : Str → List (Int × List PyData)) (ds : List PyData) (pk : List (Str × Int)) : Prop := ∃ out, AgOf (needW D pk) (addW [] (ds.map wOf)) 0 out ∧ mB D pk ds out = true
section
variable {P : Program} {w : World} {K : PySem.W.Frag} {mg : Str → Option Value} {base : Heap}
def allPN : List Str := ["_law_rows_here", "_law_wish_here", "_law_picks", "_law_ware", "_law_more", "_law_pick", "_law_make", "_law_beside"]
theorem scAllP : FnScope allPN ["_law_rows_here", "_law_wish_here"] (defScope sAllP) := ⟨rfl, rfl, rfl, by decide +kernel, rfl, by decide +kernel, by decide +kernel⟩
def spAllP (K : PySem.W.Frag) (T : Addr) : Sp := fun vs H Q _ => ∃ (A : List Addr) (r q : Addr) (cl : List Shelf) (xs : List V) (ds : List PyData), vs = [.ref r, .ref q] ∧ BoxOk K A H r cl ∧ RowsG 3 cl ∧ cl.length ≤ 4 ∧ SqL K H q xs ∧ DpAll K H xs ds ∧ (∀ d ∈ ds, ND d) ∧ ds.length ≤ 8 ∧ RawB K H cl ∧ GxR.TabG H T ∧
  ∀ l vs pks H', Kp T H H' → H l = none → H' l = some (.lst vs) → Paired (PkN H H') vs pks → (∀ pk ∈ pks, PickOk (dataOf cl) pk ∧ Mets (dataOf cl) ds pk) → pks.length ≤ 256 → Q (.ref l) H'
theorem ok_allp {f fM T : Addr} {fd fdM : FuncData} (F : Fun K "_law_all_picks" "_law_all_picks" sAllP f fd)
    (GM : FnOk P w K mg base CX0 2 fM fdM ["_law_rows_here", "_law_wish_here", nPick] (spLMt K T)) (kM : PySem.W.keepIn K (.ref fM) = true) (bM : Binds K fdM ["_law_rows_here", "_law_wish_here", nPick] []) (gM : mg "_law_meets" = some (.ref fM))
    (y_dict : mg "dict" = none) : FnOk P w K mg base CX0 3 f fd ["_law_rows_here", "_law_wish_here"] (spAllP K T) := by
  refine F.ok scAllP (fun vs H Q E h => ?_) (fun cdv A0 outer s H vs Q E hr h => ?_)
  · obtain ⟨A, r, q, cl, xs, ds, rfl, _⟩ := h
    rfl
  · obtain ⟨A, r, q, cl, xs, ds, rfl, B, G, h4, hq, hds, hnd, h8, hR, ht, fin⟩ := h
    have hu := hu_of hr
    refine ⟨_, (pss_cons (ps_set (i := 2) scAllP.nd rfl (by first | exact .inl rfl | exact .inr rfl) (pe_lst (pa_cons pe_dnewK pa_nil)))
      (pss_cons (ps_lock (ps_for PassesOwn.never rfl (pi_keys (pv 0)) (pg_name (i := 3) scAllP.nd rfl (by first | exact .inl rfl | exact .inr rfl)) (pss_cons (ps_set (i := 4) scAllP.nd rfl (by first | exact .inl rfl | exact .inr rfl) (pe_lst pa_nil))
      (pss_cons (ps_for PassesOwn.never rfl (pi_list (pv 2)) (pg_name (i := 5) scAllP.nd rfl (by first | exact .inl rfl | exact .inr rfl)) (pss_cons (ps_expr (pe_bm PySem.F.plainAttrs_list PySem.F.slot_list_append PySem.F.type_list_append mt_append (pv 4) (pa_cons (pv 5) pa_nil)))
      (pss_one (ps_lock (ps_for PassesOwn.never rfl (pi_keys (pe_dget hu (pv 0) (pv 3) (fun _ _ => rfl))) (pg_name (i := 6) scAllP.nd rfl (by first | exact .inl rfl | exact .inr rfl)) (pss_cons (ps_set (i := 7) scAllP.nd rfl (by first | exact .inl rfl | exact .inr rfl) (pe_callTy call_dictD (by rfl) y_dict boot_dict (pa_cons (pv 5) pa_nil)))
      (pss_cons (ps_dput hu (pv 7) (pv 3) (pv 6) rfl)
      (pss_one (ps_expr (pe_bm PySem.F.plainAttrs_list PySem.F.slot_list_append PySem.F.type_list_append mt_append (pv 4) (pa_cons (pv 7) pa_nil)))))))))))
      (pss_one (ps_set (i := 2) scAllP.nd rfl (by first | exact .inl rfl | exact .inr rfl) (pv 4)))))))
      (pss_one (ps_ret (pe_lc (own := [("_law_pick", 5)]) (g := (gName 5)) rfl scAllP.nd (pi_list (pv 2)) (blkOk_by (own := [("_law_pick", 5)]) (N := allPN) (sc := defScope sAllP) (by decide +kernel)) (fun _ _ _ _ _ => (pg_name (i := 5) scAllP.nd rfl (by first | exact Or.inl rfl | exact Or.inr rfl))) (fun _ _ _ _ _ => pts_one (pt_val (pe_call GM (hr.mono (by decide)) (by rfl) gM kM bM .nil pass0 (pa_cons (pv 0) (pa_cons (pv 1) (pa_cons (pv 5) pa_nil)))))) (fun _ _ _ _ _ => (pv 5))))))), ?_⟩
    -- one empty pick
    intro d0 n0
    have k1 := Kp.new (o := HO.dK []) ht n0
    have e1 : upd H d0 (.dK []) d0 = some (.dK (pkD [])) := upd_same
    generalize upd H d0 (.dK []) = H1 at k1 e1 ⊢
    refine ⟨(by show (1 : Nat) ≤ sizeLine; decide), fun P0 nP => ?_⟩
    have k2 := Kp.new (o := HO.lst [.ref d0]) k1.tab nP
    have eP : upd H1 P0 (.lst [.ref d0]) P0 = some (.lst [.ref d0]) := upd_same
    have e12 := dict_kp k2 e1
    have k12 := k1.trans k2
    generalize upd H1 P0 (.lst [.ref d0]) = H2 at k2 eP e12 k12 ⊢
    have B2 := B.keptP k12
    have t2 := k2.tab
    have rT := B2.foot_ne t2 r (List.mem_cons_self ..)
    have rH : H r ≠ none := by rw [B.dc]; exact fun z => by cases z
    -- the rows, one behind the other
    refine ⟨r, _, B2.dc, True.intro, fun od => ?_⟩
    have eb : upd H2 r (.frz od (.dK (cl.map keyW))) r = some (.frz od (.dK (cl.map keyW))) := upd_same
    have BR := (BoxR.of B2).lock (od := od) B2.dc
    have un : ∀ H', Kp T (upd H2 r (.frz od (.dK (cl.map keyW)))) H' → Kp T H2 (upd H' r (.dK (cl.map keyW))) := fun H' k => unlockP t2 B2.dc rT k
    have tb : GxR.TabG (upd H2 r (.frz od (.dK (cl.map keyW)))) T := tab_upd t2 rT
    have dcb : ∀ s ∈ cl, upd H2 r (.frz od (.dK (cl.map keyW))) s.at_ = some (.dK (s.ents.map entK)) := fun s hs => by
      have na := B2.na
      rw [List.nodup_cons] at na
      rw [upd_ne (fun z => na.1 (by rw [← z]; exact List.mem_map.mpr ⟨s, hs, rfl⟩))]
      exact (B2.sh s hs).dc
    have ePb : upd H2 r (.frz od (.dK (cl.map keyW))) P0 = some (.lst [.ref d0]) := by rw [upd_ne (fun z => by rw [z, B2.dc] at eP; cases eP)]; exact eP
    have pb : PkN H (upd H2 r (.frz od (.dK (cl.map keyW)))) (.ref d0) [] := PkN.upd rH ⟨d0, rfl, n0, e12⟩
    have frb : ∀ f, upd H2 r (.frz od (.dK (cl.map keyW))) f = none → H f = none := fun f hf => by
      rw [upd_ne (fun z => by rw [z, upd_same] at hf; cases hf)] at hf
      exact k12.free hf
    generalize upd H2 r (.frz od (.dK (cl.map keyW))) = HB at eb BR un tb dcb ePb pb frb ⊢
    refine ⟨_, rfl, r, od, rfl, .inl ⟨_, eb, for_it walk_keys (fun i σ' H' => ∃ (x3 x4 x5 x6 x7 : Option V) (cur : Addr) (vs : List V) (pks : List (List (Str × Int))), σ' = [some (.ref r), some (.ref q), some (.ref cur), x3, x4, x5, x6, x7] ∧ Kp T HB H' ∧ H cur = none ∧ H' cur = some (.lst vs) ∧ Paired (PkN H H') vs pks ∧ (∀ pk ∈ pks, PkI cl i pk) ∧ pks.length ≤ 4 ^ i)
      ⟨none, none, none, none, none, P0, _, [[]], rfl, .refl tb, k1.free nP, ePb, .cons pb .nil, (fun pk hp => by rw [List.mem_singleton.mp hp]; exact ⟨.nil, fun y hy => by cases hy⟩), Nat.le_refl _⟩ (fun i σ' H' _ ⟨_, _, _, _, _, _, _, _, _, kk, _⟩ => kk.keep _ _ rT eb) ?_ ?_⟩⟩
    · rintro i v σ' H3 H3' hi ⟨x3, x4, x5, x6, x7, cur, vs, pks, rfl, k3, ncur, ecur, hP, hI, hl⟩ ⟨rfl, k0, v0, hk, rfl⟩
      have hil : i < cl.length := by rw [List.length_map] at hi; exact hi
      have es : cl[i]? = some cl[i] := List.getElem?_eq_getElem hil
      have hs := List.getElem_mem hil
      rw [List.getElem?_map, es] at hk
      have hk := Option.some.inj hk
      have ek : k0 = Sum.inr cl[i].ware := (congrArg Prod.fst hk).symm
      subst ek
      clear hk
      generalize cl[i] = s at es hs ⊢
      have sT := B.foot_ne ht s.at_ (List.mem_cons_of_mem _ (List.mem_map.mpr ⟨s, hs, rfl⟩))
      have sH : H s.at_ ≠ none := by rw [(B.sh s hs).dc]; exact fun z => by cases z
      have lk : look cl s.ware = some s := look_of B.nd hs rfl
      have gw := G.w s hs
      have h3 := G.el s hs
      have p1 : 4 ^ (i + 1) = 4 * 4 ^ i := by rw [Nat.pow_succ, Nat.mul_comm]
      have p2 : 4 ^ (i + 1) ≤ 4 ^ 4 := Nat.pow_le_pow_right (by decide) (by omega)
      have p3 : (4 : Nat) ^ 4 = 256 := rfl
      refine ⟨(by show (0 : Nat) ≤ sizeLine; decide), fun M nM => ?_⟩
      have k4 := Kp.new (o := HO.lst []) k3.tab nM
      have nMB := k3.free nM
      have nMH := frb _ nMB
      have MT := tab_nn k3.tab nM
      have Ms : M ≠ s.at_ := fun z => sH (by rw [← z]; exact nMH)
      have cs : cur ≠ s.at_ := fun z => sH (by rw [← z]; exact ncur)
      have Mc : cur ≠ M := fun z => by rw [z, nM] at ecur; cases ecur
      have hlv := paired_len hP
      refine ⟨_, rfl, cur, rfl, ⟨_, .inl (.inl (k4.lst ecur))⟩, for_list (K := K) (a := cur) (xs := vs) (fun k σ' H' => ∃ (x5 x6 x7 : Option V) (mv : List V) (mp : List (List (Str × Int))), σ' = [some (.ref r), some (.ref q), some (.ref cur), some (.str s.ware), some (.ref M), x5, x6, x7] ∧ Kp T HB H' ∧ H' cur = some (.lst vs) ∧ Paired (PkN H H') vs pks ∧ H' M = some (.lst mv) ∧ Paired (PkN H H') mv mp ∧ (∀ pk ∈ mp, PkI cl (i + 1) pk) ∧ mp.length ≤ 4 * k)
        ⟨x5, x6, x7, [], [], rfl, k3.trans k4, k4.lst ecur, paired_mono (fun _ _ => PkN.kept k4) hP, upd_same, .nil, (fun pk hp => by cases hp), Nat.zero_le _⟩ (fun k σ' H' _ ⟨_, _, _, _, _, _, _, e, _⟩ => .inl (.inl e)) ?_ ?_⟩
      · rintro k v σ' H5 hk ⟨x5, x6, x7, mv, mp, rfl, k5, ec5, hP5, eM5, hM5, hI5, hl5⟩
        have hkl : k < pks.length := by
          rw [← hlv]
          exact (List.getElem?_eq_some_iff.mp hk).1
        have ek := List.getElem?_eq_getElem hkl
        obtain ⟨v', ev', pa⟩ := paired_get hP5 ek
        rw [hk] at ev'
        cases ev'
        have hIk := hI _ (List.getElem_mem hkl)
        generalize pks[k] = pk at pa hIk
        have hmv := paired_len hM5
        -- the pick itself
        refine ⟨_, rfl, .inl ⟨rfl, _, .inl (.inl eM5)⟩, _, rfl, M, _, _, rfl, rfl, eM5, small1000 (by omega), ?_⟩
        obtain ⟨a, rfl, na, ea⟩ := pa
        have k6 := k5.set nMB MT (o := HO.lst (mv ++ [.ref a]))
        have ec6 : upd H5 M (.lst (mv ++ [.ref a])) cur = some (.lst vs) := by rw [upd_ne Mc]; exact ec5
        have hP6 := paired_mono (S := PkN H (upd H5 M (.lst (mv ++ [.ref a])))) (fun _ _ => PkN.set eM5) hP5
        have pa6 : PkN H (upd H5 M (.lst (mv ++ [.ref a]))) (.ref a) pk := PkN.set eM5 ⟨a, rfl, na, ea⟩
        have hM6 := paired_app2 (paired_mono (S := PkN H (upd H5 M (.lst (mv ++ [.ref a])))) (fun _ _ => PkN.set eM5) hM5) (.cons pa6 .nil)
        have eM6 : upd H5 M (.lst (mv ++ [.ref a])) M = some (.lst (mv ++ [.ref a])) := upd_same
        generalize upd H5 M (.lst (mv ++ [.ref a])) = H6 at k6 ec6 hP6 pa6 hM6 eM6 ⊢
        clear hM5 eM5 hP5 ec5 k5 ea
        -- and one for each make
        have ed := k6.keep _ _ sT (dcb s hs)
        refine ⟨s.at_, _, ed, True.intro, fun od2 => ?_⟩
        have kL := Kp.both (d := s.at_) (o := .frz od2 (.dK (s.ents.map entK))) k6 sT
        have eb2 : upd HB s.at_ (.frz od2 (.dK (s.ents.map entK))) s.at_ = some (.frz od2 (.dK (s.ents.map entK))) := upd_same
        have BR2 := BR.lock (od := od2) (dcb s hs)
        have un2 : ∀ H', Kp T (upd HB s.at_ (.frz od2 (.dK (s.ents.map entK)))) H' → Kp T HB (upd H' s.at_ (.dK (s.ents.map entK))) := fun H' k => unlockP k6.t0 (dcb s hs) sT k
        have nMb2 : upd HB s.at_ (.frz od2 (.dK (s.ents.map entK))) M = none := by rw [upd_ne Ms]; exact nMB
        have ecL : upd H6 s.at_ (.frz od2 (.dK (s.ents.map entK))) cur = some (.lst vs) := by rw [upd_ne cs]; exact ec6
        have eML : upd H6 s.at_ (.frz od2 (.dK (s.ents.map entK))) M = some (.lst (mv ++ [.ref a])) := by rw [upd_ne Ms]; exact eM6
        have hPL := paired_mono (S := PkN H (upd H6 s.at_ (.frz od2 (.dK (s.ents.map entK))))) (fun _ _ => PkN.upd sH) hP6
        have hML := paired_mono (S := PkN H (upd H6 s.at_ (.frz od2 (.dK (s.ents.map entK))))) (fun _ _ => PkN.upd sH) hM6
        have paL : PkN H (upd H6 s.at_ (.frz od2 (.dK (s.ents.map entK)))) (.ref a) pk := PkN.upd sH pa6
        have frb2 : ∀ f, upd HB s.at_ (.frz od2 (.dK (s.ents.map entK))) f = none → H f = none := fun f hf => by
          rw [upd_ne (fun z => by rw [z, upd_same] at hf; cases hf)] at hf
          exact frb f hf
        generalize upd HB s.at_ (.frz od2 (.dK (s.ents.map entK))) = HBL at kL eb2 BR2 un2 nMb2 frb2 ⊢
        generalize upd H6 s.at_ (.frz od2 (.dK (s.ents.map entK))) = HL at kL ecL eML hPL hML paL ⊢
        clear hM6 eM6 hP6 ec6 pa6 ed k6
        have c1 := cell_rd (BR2.keptP kL) s.ware
        rw [lk] at c1
        refine ⟨_, rfl, _, rfl, r, _, rfl, c1, s.at_, od2, rfl, .inl ⟨_, kL.keep _ _ sT eb2, for_it walk_keys (fun j σ' H' => ∃ (x6 x7 : Option V) (mv : List V) (mp : List (List (Str × Int))), σ' = [some (.ref r), some (.ref q), some (.ref cur), some (.str s.ware), some (.ref M), some (.ref a), x6, x7] ∧ Kp T HBL H' ∧ H' cur = some (.lst vs) ∧ Paired (PkN H H') vs pks ∧ PkN H H' (.ref a) pk ∧ H' M = some (.lst mv) ∧ Paired (PkN H H') mv mp ∧ (∀ pk ∈ mp, PkI cl (i + 1) pk) ∧ mp.length ≤ 4 * k + 1 + j)
          ⟨x6, x7, _, mp ++ [pk], rfl, kL, ecL, hPL, paL, eML, hML, (fun y hy => ?_), (by rw [List.length_append, List.length_singleton]; omega)⟩ (fun j σ' H' _ ⟨_, _, _, _, _, kk, _⟩ => kk.keep _ _ sT eb2) ?_ ?_⟩⟩
        · rcases List.mem_append.mp hy with hy | hy
          · exact hI5 y hy
          · rw [List.mem_singleton.mp hy]; exact hIk.up
        · rintro j v σ' H7 H7' hj ⟨x6, x7, mv, mp, rfl, k7, ec7, hP7, pa7, eM7, hM7, hI7, hl7⟩ ⟨rfl, kk1, vv, hk2, rfl⟩
          have hjl : j < s.ents.length := by rw [List.length_map] at hj; exact hj
          rw [List.getElem?_map, List.getElem?_eq_getElem hjl] at hk2
          have hk2 := Option.some.inj hk2
          have ek2 : kk1 = Sum.inl s.ents[j].1 := (congrArg Prod.fst hk2).symm
          subst ek2
          clear hk2
          have he := List.getElem_mem hjl
          generalize s.ents[j] = e at he ⊢
          have hmv := paired_len hM7
          obtain ⟨a', ea', na', ea7⟩ := id pa7
          cases ea'
          refine ⟨_, rfl, a, _, rfl, .inl ea7, fun b nb => ?_⟩
          have nbH := frb2 _ (k7.free nb)
          have k8 := Kp.new (o := HO.dK (pkD pk)) k7.tab nb
          have eb8 : upd H7' b (.dK (pkD pk)) b = some (.dK (pkD pk)) := upd_same
          have k78 := k7.trans k8
          have nbT := tab_nn k7.tab nb
          have nbB := k7.free nb
          have O := hIk.1
          have hpl := O.le
          have hm : e.1 ∈ s.ents.map (·.1) := List.mem_map.mpr ⟨e, he, rfl⟩
          obtain ⟨fresh, hIn⟩ := hIk.new B.nd es gw hm (by omega)
          have ec8 := k8.lst ec7
          have eM8 := k8.lst eM7
          have hP8 := paired_mono (S := PkN H (upd H7' b (.dK (pkD pk)))) (fun _ _ => PkN.kept k8) hP7
          have hM8 := paired_mono (S := PkN H (upd H7' b (.dK (pkD pk)))) (fun _ _ => PkN.kept k8) hM7
          have pa8 : PkN H (upd H7' b (.dK (pkD pk))) (.ref a) pk := pa7.kept k8
          have nbV : ∀ {x : V} {y : List (Str × Int)}, PkN H H7' x y → ∀ {u : HO}, PkN H (upd (upd H7' b (.dK (pkD pk))) b u) x y := fun {x y} h {u} => by
            obtain ⟨a2, e2, n2, h2⟩ := h
            refine ⟨a2, e2, n2, ?_⟩
            have ne : a2 ≠ b := fun z => by rw [z, nb] at h2; cases h2
            rw [upd_ne ne, upd_ne ne]
            exact h2
          have hP9 := paired_mono (S := PkN H (upd (upd H7' b (.dK (pkD pk))) b (.dK (putK (pkD pk) (Sum.inr s.ware) (L2.kV (Sum.inl e.1)))))) (fun _ _ h => nbV h) hP7
          have hM9 := paired_mono (S := PkN H (upd (upd H7' b (.dK (pkD pk))) b (.dK (putK (pkD pk) (Sum.inr s.ware) (L2.kV (Sum.inl e.1)))))) (fun _ _ h => nbV h) hM7
          have pa9 : PkN H (upd (upd H7' b (.dK (pkD pk))) b (.dK (putK (pkD pk) (Sum.inr s.ware) (L2.kV (Sum.inl e.1))))) (.ref a) pk := nbV pa7
          have bc : b ≠ cur := fun z => by rw [z, ec7] at nb; cases nb
          have bM : b ≠ M := fun z => by rw [z, eM7] at nb; cases nb
          have ec9 : upd (upd H7' b (.dK (pkD pk))) b (.dK (putK (pkD pk) (Sum.inr s.ware) (L2.kV (Sum.inl e.1)))) cur = some (.lst vs) := by rw [upd_ne bc.symm]; exact ec8
          have eM9 : upd (upd H7' b (.dK (pkD pk))) b (.dK (putK (pkD pk) (Sum.inr s.ware) (L2.kV (Sum.inl e.1)))) M = some (.lst mv) := by rw [upd_ne bM.symm]; exact eM8
          refine ⟨_, rfl, _, rfl, _, rfl, b, _, rfl, DPut.k (k := Sum.inr s.ware) eb8 (small1000 (by unfold pkD; rw [List.length_map]; omega)), ?_⟩
          have k9 := k78.set nbB nbT (o := HO.dK (putK (pkD pk) (Sum.inr s.ware) (L2.kV (Sum.inl e.1))))
          have eb9 : upd (upd H7' b (.dK (pkD pk))) b (.dK (putK (pkD pk) (Sum.inr s.ware) (L2.kV (Sum.inl e.1)))) b = some (.dK (putK (pkD pk) (Sum.inr s.ware) (L2.kV (Sum.inl e.1)))) := upd_same
          generalize upd (upd H7' b (.dK (pkD pk))) b (.dK (putK (pkD pk) (Sum.inr s.ware) (L2.kV (Sum.inl e.1)))) = H9 at k9 eb9 hP9 hM9 pa9 ec9 eM9 ⊢
          have eb9 : H9 b = some (.dK (pkD (pk ++ [(s.ware, e.1)]))) := by rw [← pkD_put fresh]; exact eb9
          refine ⟨_, rfl, .inl ⟨rfl, _, .inl (.inl eM9)⟩, _, rfl, M, _, _, rfl, rfl, eM9, small1000 (by omega), ?_⟩
          refine ⟨_, _, _, mp ++ [pk ++ [(s.ware, e.1)]], rfl, k9.set nMb2 MT, by rw [upd_ne Mc]; exact ec9, paired_mono (fun _ _ => PkN.set eM9) hP9, PkN.set eM9 pa9, upd_same, paired_app2 (paired_mono (fun _ _ => PkN.set eM9) hM9) (.cons (PkN.set eM9 ⟨b, rfl, nbH, eb9⟩) .nil), fun y hy => ?_, by rw [List.length_append, List.length_singleton]; omega⟩
          rcases List.mem_append.mp hy with hy | hy
          · exact hI7 y hy
          · rw [List.mem_singleton.mp hy]; exact hIn
        · rintro σ' H7 ⟨x6, x7, mv, mp, rfl, k7, ec7, hP7, pa7, eM7, hM7, hI7, hl7⟩
          have er := k7.keep _ _ sT eb2
          refine ⟨er, ?_⟩
          rw [List.length_map] at hl7
          exact ⟨_, _, _, mv, mp, rfl, un2 H7 k7, by rw [upd_ne cs]; exact ec7, paired_mono (fun _ _ => PkN.upd sH) hP7, by rw [upd_ne Ms]; exact eM7, paired_mono (fun _ _ => PkN.upd sH) hM7, hI7, by omega⟩
      · rintro σ' H5 ⟨x5, x6, x7, mv, mp, rfl, k5, ec5, hP5, eM5, hM5, hI5, hl5⟩
        refine ⟨_, rfl, _, _, _, _, _, M, mv, mp, rfl, k5, nMH, eM5, hM5, hI5, ?_⟩
        omega
    · rintro σ' H3 ⟨x3, x4, x5, x6, x7, cur, vs, pks, rfl, k3, ncur, ecur, hP, hI, hl⟩
      have er := k3.keep _ _ rT eb
      refine ⟨er, ?_⟩
      have k4 := k12.trans (un H3 k3)
      have cr : cur ≠ r := fun z => rH (by rw [← z]; exact ncur)
      have ec4 : upd H3 r (.dK (cl.map keyW)) cur = some (.lst vs) := by rw [upd_ne cr]; exact ecur
      have hP4 := paired_mono (S := PkN H (upd H3 r (.dK (cl.map keyW)))) (fun _ _ => PkN.upd rH) hP
      generalize upd H3 r (.dK (cl.map keyW)) = H4 at k4 ec4 hP4 ⊢
      rw [List.length_map] at hl
      have h256 : pks.length ≤ 256 := Nat.le_trans hl (Nat.pow_le_pow_right (n := 4) (by decide) h4)
      -- those that meet the wish
      refine ⟨_, rfl, cur, rfl, ⟨_, .inl (.inl ec4)⟩, fun L nL => ?_⟩
      have LT := tab_nn k4.tab nL
      have nLH := k4.free nL
      have hlv := paired_len hP4
      refine lc_list (K := K) (a := cur) (xs := vs) (fun i H' => Kp T H4 H' ∧ ∃ ov op, H' L = some (.lst ov) ∧ Paired (PkN H H') ov op ∧ (∀ pk ∈ op, PickOk (dataOf cl) pk ∧ Mets (dataOf cl) ds pk) ∧ op.length ≤ i) ⟨Kp.new k4.tab nL, [], [], upd_same, .nil, (fun pk hp => by cases hp), Nat.le_refl _⟩ (fun i H' _ ⟨kk, _⟩ => .inl (.inl (kk.lst ec4))) (fun i v H' hi hv => ?_) (fun H5 hv => ?_)
      · obtain ⟨kk, ov, op, eL, hO, hIo, hlo⟩ := hv
        have hil : i < pks.length := by
          rw [← hlv]
          exact (List.getElem?_eq_some_iff.mp hi).1
        have ei := List.getElem?_eq_getElem hil
        obtain ⟨v', ev', pa⟩ := paired_get hP4 ei
        rw [hi] at ev'
        cases ev'
        have hIk := hI _ (List.getElem_mem hil)
        generalize pks[i] = pk at pa hIk
        obtain ⟨a, rfl, na, ea⟩ := pa.kept kk
        have kk4 := k4.trans kk
        have fl : ∀ {b : Bool} {H3 : Hp} {X : Prop}, Kp T H' H3 → (b = true → Mets (dataOf cl) ds pk) → ((∃ acc, H3 L = some (.lst acc) ∧ acc.length < sizeLine ∧ (Kp T H4 (upd H3 L (.lst (acc ++ [.ref a]))) ∧ ∃ ov op, upd H3 L (.lst (acc ++ [.ref a])) L = some (.lst ov) ∧ Paired (PkN H (upd H3 L (.lst (acc ++ [.ref a])))) ov op ∧ (∀ pk ∈ op, PickOk (dataOf cl) pk ∧ Mets (dataOf cl) ds pk) ∧ op.length ≤ i + 1)) → X) → (if b = true then X else Kp T H4 H3 ∧ ∃ ov op, H3 L = some (.lst ov) ∧ Paired (PkN H H3) ov op ∧ (∀ pk ∈ op, PickOk (dataOf cl) pk ∧ Mets (dataOf cl) ds pk) ∧ op.length ≤ i + 1) := fun {b H3 X} k5 hb hx => by
          have kk5 := kk.trans k5
          have eL5 := k5.lst eL
          have hO5 := paired_mono (S := PkN H H3) (fun _ _ => PkN.kept k5) hO
          have pa5 : PkN H H3 (.ref a) pk := PkN.kept k5 ⟨a, rfl, na, ea⟩
          cases b with
          | true =>
            refine iteT (hx ⟨ov, eL5, small1000 (by rw [paired_len hO5]; omega), kk5.set nL LT, _, op ++ [pk], upd_same, paired_app2 (paired_mono (fun _ _ => PkN.set eL5) hO5) (.cons (PkN.set eL5 pa5) .nil), fun y hy => ?_, by rw [List.length_append, List.length_singleton]; omega⟩)
            rcases List.mem_append.mp hy with hy | hy
            · exact hIo y hy
            · rw [List.mem_singleton.mp hy]; exact ⟨hIk.1, hb rfl⟩
          | false => exact iteF ⟨kk5, ov, op, eL5, hO5, hIo, by omega⟩
        have har : a ∉ foot r cl := fun z => by
          obtain ⟨kvs, e⟩ := B.foot_dict a z
          rw [na] at e
          cases e
        refine ⟨rfl, _, rfl, _, rfl, _, rfl, A, r, q, a, cl, xs, ds, pk, rfl, B.keptP kk4, G.good (by decide), kk4.seq hq, kk4.dpAll _ _ hds, hnd, h8, ea, har, hIk.1, Nat.le_trans hIk.1.le (by omega), hR.kp kk4, kk.tab, fun H6 k6 _ => ⟨_, rfl, fl k6 (fun z => by cases z) (fun h => ⟨_, rfl, h⟩)⟩, fun out H6 ag k6 => ⟨_, rfl, fl k6 (fun z => ⟨out, ag, z⟩) (fun h => ⟨_, rfl, h⟩)⟩⟩
      · obtain ⟨kk, ov, op, eL, hO, hIo, hlo⟩ := hv
        exact fin L ov op H5 (k4.trans kk) nLH eL hO hIo (by omega)
end
end Pk

set_option Elab.async false
set_option linter.all false
set_option maxRecDepth 100000
set_option maxHeartbeats 4000000
namespace Pk
open PySem PySem.Spec PyProof.Rows L2
theorem ps_never {X : Cx} {st : Stmt} : PS X st (fun _ _ _ => False) := ⟨fun pins s σ H D I h => h.elim⟩
/-- of two picks the one is ahead: the first ware of the agenda at which they differ tells -/
def aheadB (pk pk2 : List (Str × Int)) : List Str → Bool
  | [] => false
  | w :: r => match lkP pk w, lkP pk2 w with
    | some m, some n => if m = n then aheadB pk pk2 r else decide (n < m)
    | _, _ => false
theorem ahead_drop {pk pk2 : List (Str × Int)} {out : List Str} {i : Nat} {w : Str} {m n : Int} (h : out[i]? = some w) (em : lkP pk w = some m) (en : lkP pk2 w = some n) : aheadB pk pk2 (out.drop i) = if m = n then aheadB pk pk2 (out.drop (i + 1)) else decide (n < m) := by
  have hl := (List.getElem?_eq_some_iff.mp h).1
  have e : out.drop i = w :: out.drop (i + 1) := by
    rw [List.drop_eq_getElem_cons hl]
    congr 1
    rw [List.getElem?_eq_getElem hl] at h
    exact Option.some.inj h
  rw [e]
  show (match lkP pk w, lkP pk2 w with | some m, some n => if m = n then aheadB pk pk2 (out.drop (i + 1)) else decide (n < m) | _, _ => false) = _
  rw [em, en]
theorem AgOf.pre {f : Str → List Str} : ∀ {ws : List Str} {n : Nat} {out : List Str}, AgOf f ws n out → ∃ r, out = ws ++ r
  | _, _, _, .done _ => ⟨[], (List.append_nil _).symm⟩
  | ws, n, _, .step (w := w) h r => by
    obtain ⟨q, e⟩ := AgOf.pre r
    obtain ⟨r', er⟩ := addW_pre ws (f w)
    exact ⟨r' ++ q, by rw [e, er, List.append_assoc]⟩
/-- two agendas are alike as far as what is picked is -/
theorem AgOf.agree {f g : Str → List Str} : ∀ {ws : List Str} {n : Nat} {a b : List Str}, AgOf f ws n a → AgOf g ws n b → ∀ {i : Nat} {w : Str}, a[i]? = some w → (∀ j v, j < i → a[j]? = some v → f v = g v) → b[i]? = some w
  | ws, n, _, b, .done h, hb, i, w, hi, _ => by
    cases hb with
    | done _ => exact hi
    | step h2 _ => rw [h] at h2; cases h2
  | ws, n, a, b, .step (w := w0) h r, hb, i, w, hi, hag => by
    have hn := (List.getElem?_eq_some_iff.mp h).1
    obtain ⟨ra, ea⟩ := AgOf.pre (.step h r)
    cases hb with
    | done h2 => rw [h] at h2; cases h2
    | step h2 r2 =>
      rw [h] at h2
      cases h2
      obtain ⟨rb, eb⟩ := AgOf.pre (.step h r2)
      by_cases hin : i ≤ n
      · rw [ea, List.getElem?_append_left (by omega)] at hi
        rw [eb, List.getElem?_append_left (by omega)]
        exact hi
      · have e : f w0 = g w0 := hag n w0 (by omega) (by rw [ea, List.getElem?_append_left hn]; exact h)
        rw [← e] at r2
        exact AgOf.agree r r2 hi hag
theorem Mets.keys {D : Str → List (Int × List PyData)} {ds : List PyData} {pk : List (Str × Int)} {out : List Str} (h : Mets D ds pk) (ag : AgOf (needW D pk) (addW [] (ds.map wOf)) 0 out) : (pk.map (·.1)).Perm out := by
  obtain ⟨o, ag1, hm⟩ := h
  rw [← ag1.det ag]
  unfold mB at hm
  rw [Bool.and_eq_true] at hm
  exact of_decide_eq_true hm.1
theorem lkP_key {pk : List (Str × Int)} {w : Str} (h : w ∈ pk.map (·.1)) : ∃ m, lkP pk w = some m := by
  cases e : lkP pk w with
  | none => exact absurd h (lkP_none e)
  | some m => exact ⟨m, rfl⟩
theorem ahead_at {D : Str → List (Int × List PyData)} {ds : List PyData} {pk pk2 : List (Str × Int)} {out : List Str} (ag : AgOf (needW D pk) (addW [] (ds.map wOf)) 0 out) (h1 : Mets D ds pk) (h2 : Mets D ds pk2) {i : Nat} {w : Str} (hi : out[i]? = some w) (hag : ∀ j v, j < i → out[j]? = some v → lkP pk v = lkP pk2 v) : ∃ m n, lkP pk w = some m ∧ lkP pk2 w = some n := by
  obtain ⟨m, em⟩ := lkP_key ((h1.keys ag).mem_iff.mpr (List.mem_of_getElem? hi))
  obtain ⟨o2, ag2, hm2⟩ := id h2
  have z := ag.agree ag2 hi fun j v hj hv => by
    unfold needW
    rw [hag j v hj hv]
  obtain ⟨n, en⟩ := lkP_key ((h2.keys ag2).mem_iff.mpr (List.mem_of_getElem? z))
  exact ⟨m, n, em, en⟩
section
variable {P : Program} {w : World} {K : PySem.W.Frag} {mg : Str → Option Value} {base : Heap}
def newerN : List Str := ["shop", "wish", "one", "other", "pick", "ware"]
theorem scNewer : FnScope newerN ["shop", "wish", "one", "other"] (defScope sNewer) := ⟨rfl, rfl, rfl, by decide +kernel, rfl, by decide +kernel, by decide +kernel⟩
def aheadN : List Str := ["_law_rows_here", "_law_wish_here", "_law_one", nOther, "_law_ware"]
theorem scAhead : FnScope aheadN ["_law_rows_here", "_law_wish_here", "_law_one", nOther] (defScope sAhead) := ⟨rfl, rfl, rfl, by decide +kernel, rfl, by decide +kernel, by decide +kernel⟩
def spNewer (K : PySem.W.Frag) (C T T2 : Addr) : Sp := fun vs H Q _ => ∃ (A : List Addr) (p D q a b : Addr) (st : List Shelf) (xs : List V) (ds : List PyData) (pk pk2 : List (Str × Int)), vs = [.ref p, .ref q, .ref a, .ref b] ∧ ShopAt K C A H p D st ∧ GoodSh (dataOf st) ∧ (∀ x ∈ A, ∃ ys, H x = some (.lst ys)) ∧ SqL K H q xs ∧ DpAll K H xs ds ∧ (∀ d ∈ ds, ND d) ∧ ds.length ≤ 8 ∧
  H a = some (.dK (pkD pk)) ∧ H b = some (.dK (pkD pk2)) ∧ a ∉ foot D st ∧ b ∉ foot D st ∧ PickOk (dataOf st) pk ∧ PickOk (dataOf st) pk2 ∧ pk.length ≤ 9 ∧ pk2.length ≤ 9 ∧ Mets (dataOf st) ds pk ∧ Mets (dataOf st) ds pk2 ∧ GxR.TabG H T ∧ GxR.TabG H T2 ∧ ∀ out H', AgOf (needW (dataOf st) pk) (addW [] (ds.map wOf)) 0 out → K2 T T2 H H' → Q (.bl (aheadB pk pk2 out)) H'
def spAhead (K : PySem.W.Frag) (T : Addr) : Sp := fun vs H Q _ => ∃ (A : List Addr) (r q a b : Addr) (cl : List Shelf) (xs : List V) (ds : List PyData) (pk pk2 : List (Str × Int)), vs = [.ref r, .ref q, .ref a, .ref b] ∧ BoxOk K A H r cl ∧ GoodSh (dataOf cl) ∧ SqL K H q xs ∧ DpAll K H xs ds ∧ (∀ d ∈ ds, ND d) ∧ ds.length ≤ 8 ∧
  H a = some (.dK (pkD pk)) ∧ H b = some (.dK (pkD pk2)) ∧ PickOk (dataOf cl) pk ∧ PickOk (dataOf cl) pk2 ∧ Mets (dataOf cl) ds pk ∧ Mets (dataOf cl) ds pk2 ∧ GxR.TabG H T ∧ ∀ out H', AgOf (needW (dataOf cl) pk) (addW [] (ds.map wOf)) 0 out → Kp T H H' → Q (.bl (aheadB pk pk2 out)) H'
theorem ok_newer {f fC fK fM fG C T T2 BI : Addr} {fd fdC fdK fdM fdG : FuncData} (F : Fun K "newer" "newer" sNewer f fd)
    (GC : FnOk P w K mg base (L2N.CX P w) 4 fC fdC ["thing"] (spChkW K T BI)) (kC : PySem.W.keepIn K (.ref fC) = true) (bC : Binds K fdC ["thing"] []) (gC : mg "check_wish" = some (.ref fC))
    (GK : FnOk P w K mg base (L2N.CX P w) 4 fK fdK ["shop", "thing"] (spChkP K C T)) (kK : PySem.W.keepIn K (.ref fK) = true) (bK : Binds K fdK ["shop", "thing"] []) (gK : mg "_check_pick" = some (.ref fK))
    (GM : FnOk P w K mg base CX0 6 fM fdM ["shop", "wish", "pick"] (spMtU K C T T2)) (kM : PySem.W.keepIn K (.ref fM) = true) (bM : Binds K fdM ["shop", "wish", "pick"] []) (gM : mg "_meets" = some (.ref fM))
    (GG : FnOk P w K mg base CX0 5 fG fdG ["shop", "wish", "pick"] (spAgOf K C T)) (kG : PySem.W.keepIn K (.ref fG) = true) (bG : Binds K fdG ["shop", "wish", "pick"] []) (gG : mg "_agenda_of" = some (.ref fG)) :
    FnOk P w K mg base CX0 7 f fd ["shop", "wish", "one", "other"] (spNewer K C T T2) := by
  refine F.ok scNewer (fun vs H Q E h => ?_) (fun cdv A0 outer s H vs Q E hr h => ?_)
  · obtain ⟨A, p, D, q, a, b, st, xs, ds, pk, pk2, rfl, _⟩ := h
    rfl
  · obtain ⟨A, p, D, q, a, b, st, xs, ds, pk, pk2, rfl, S, G, hA, hq, hds, hnd, h8, ha, hb, haf, hbf, O, O2, h9, h92, M1, M2, ht, ht2, fin⟩ := h
    have hu := hu_of hr
    refine ⟨_, (pss_cons (ps_expr (pe_call (E := E0) GC (hr.mono (by decide)) (by rfl) gC kC bC .nil passN (pa_cons (pv 1) pa_nil)))
      (pss_cons (ps_for PassesOwn.never rfl (pi_tup (pe_tup (pa_cons (pv 2) (pa_cons (pv 3) pa_nil)))) (pg_name (i := 4) scNewer.nd rfl (by first | exact .inl rfl | exact .inr rfl)) (pss_cons (ps_expr (pe_call (E := E0) GK (hr.mono (by decide)) (by rfl) gK kK bK .nil passN (pa_cons (pv 0) (pa_cons (pv 4) pa_nil))))
      (pss_one (ps_if (pt_not (pt_val (pe_call GM (hr.mono (by decide)) (by rfl) gM kM bM .nil pass0 (pa_cons (pv 0) (pa_cons (pv 1) (pa_cons (pv 4) pa_nil)))))) (pss_one ps_never) pss_nil))))
      (pss_cons (ps_for PassesOwn.never rfl (pi_list (pe_call GG (hr.mono (by decide)) (by rfl) gG kG bG .nil pass0 (pa_cons (pv 0) (pa_cons (pv 1) (pa_cons (pv 2) pa_nil))))) (pg_name (i := 5) scNewer.nd rfl (by first | exact .inl rfl | exact .inr rfl)) (pss_one (ps_if (pt_cmpR op_ne (pe_dget hu (pv 2) (pv 5) (fun _ _ => rfl)) (pe_dget hu (pv 3) (pv 5) (fun _ _ => rfl)) (nomark _)) (pss_one (ps_ret (pe_cmpR op_gt (pe_dget hu (pv 2) (pv 5) (fun _ _ => rfl)) (pe_dget hu (pv 3) (pv 5) (fun _ _ => rfl)) (nomark _)))) pss_nil)))
      (pss_one (ps_ret pe_bl))))), ?_⟩
    have hw := wish_good hnd h8
    refine ⟨_, rfl, _, .list ds, rfl, Dq.of (.lst hq hds), wish_okL hnd h8, ht, fun z => (by rw [hw] at z; cases z), fun _ H1 k1 => ?_⟩
    -- both picks
    refine ⟨_, rfl, _, rfl, (by show (2 : Nat) ≤ sizeLine; decide), fun t nt => ?_⟩
    have k2 := Kp.new (o := HO.tup [.ref a, .ref b]) k1.tab nt
    have et : upd H1 t (.tup [V.ref a, .ref b]) t = some (.tup [.ref a, .ref b]) := upd_same
    have k12 := k1.trans k2
    generalize upd H1 t (.tup [V.ref a, .ref b]) = H2 at k2 et k12 ⊢
    have KK := K2.of k12 ht2
    clear k1 k2 nt
    refine ⟨t, rfl, ⟨_, .inl (.inl et)⟩, for_tup (K := K) (a := t) (xs := [.ref a, .ref b]) (fun _ σ' H' => ∃ (x4 x5 : Option V), σ' = [some (.ref p), some (.ref q), some (.ref a), some (.ref b), x4, x5] ∧ K2 T T2 H H' ∧ H' t = some (.tup [.ref a, .ref b])) ⟨none, none, rfl, KK, et⟩ (fun i σ' H' _ ⟨_, _, _, _, e⟩ => .inl (.inl e)) ?_ ?_⟩
    · rintro i v σ' H' hi ⟨x4, x5, rfl, kk, et'⟩
      obtain ⟨c, pkc, rfl, hc, hcf, Oc, hc9, Mc⟩ : ∃ c pkc, v = .ref c ∧ H c = some (.dK (pkD pkc)) ∧ c ∉ foot D st ∧ PickOk (dataOf st) pkc ∧ pkc.length ≤ 9 ∧ Mets (dataOf st) ds pkc := by
        have hm := List.mem_of_getElem? hi
        simp only [List.mem_cons, List.not_mem_nil, or_false] at hm
        rcases hm with rfl | rfl
        · exact ⟨a, pk, rfl, ha, haf, O, h9, M1⟩
        · exact ⟨b, pk2, rfl, hb, hbf, O2, h92, M2⟩
      have S' := kk.lift (p := fun H => ShopAt K C A H p D st) (fun _ _ _ k h => h.keptP k) S
      have hA' : ∀ x ∈ A, ∃ ys, H' x = some (.lst ys) := fun x hx => (hA x hx).imp fun ys e => kk.lift (p := fun H => H x = some (.lst ys)) (fun _ _ _ k h => k.lst h) e
      have hc' := kk.lift (p := fun H => H c = some (.dK (pkD pkc))) (fun _ _ _ k h => dict_kp k h) hc
      refine ⟨_, rfl, _, rfl, A, p, D, c, st, pkc, rfl, S', G, hA', hc', hcf, Oc, kk.t1', fun H3 k3 => ?_⟩
      have hc3 := dict_kp k3 hc'
      have k03 := kk.trans (K2.of k3 kk.t2')
      refine ⟨_, rfl, _, rfl, _, rfl, A, p, D, q, c, st, xs, ds, pkc, rfl, S'.keptP k3, G, k03.lift (p := fun H => SqL K H q xs) (fun _ _ _ k h => k.seq h) hq, k03.lift (p := fun H => DpAll K H xs ds) (fun _ _ _ k h => k.dpAll _ _ h) hds, hnd, h8, hc3, hcf, fun x hx => (hA' x hx).imp fun _ e => k3.lst e, Oc, hc9, k03.t1', k03.t2', fun out H4 ag k4 => ?_⟩
      obtain ⟨o2, ag2, hm2⟩ := Mc
      rw [← ag.det ag2] at hm2
      rw [hm2]
      refine ⟨_, rfl, iteF ⟨_, _, rfl, k03.trans k4, ?_⟩⟩
      exact (K2.of k3 kk.t2').trans k4 |>.lift (p := fun H => H t = some (.tup [.ref a, .ref b])) (fun _ _ _ k h => k.keep _ _ (tab_ne k.t0 h fun _ z => by cases z) h) et'
    · rintro σ' H3 ⟨x4, x5, rfl, k3, et3⟩
      clear KK k12 et et3
      have S3 := k3.lift (p := fun H => ShopAt K C A H p D st) (fun _ _ _ k h => h.keptP k) S
      have hq3 := k3.lift (p := fun H => SqL K H q xs) (fun _ _ _ k h => k.seq h) hq
      have hd3 := k3.lift (p := fun H => DpAll K H xs ds) (fun _ _ _ k h => k.dpAll _ _ h) hds
      have ha3 := k3.lift (p := fun H => H a = some (.dK (pkD pk))) (fun _ _ _ k h => dict_kp k h) ha
      have hb3 := k3.lift (p := fun H => H b = some (.dK (pkD pk2))) (fun _ _ _ k h => dict_kp k h) hb
      refine ⟨_, rfl, _, rfl, _, rfl, A, p, D, q, a, st, xs, ds, pk, rfl, S3, G, hq3, hd3, hnd, h8, ha3, O, k3.t1', fun out l H4 ag gd nd o7 k4 nl el => ?_⟩
      have k04 := k3.trans (K2.of k4 k3.t2')
      have ea4 := dict_kp k4 ha3
      have eb4 := dict_kp k4 hb3
      refine ⟨l, rfl, ⟨_, .inl (.inl el)⟩, for_list (K := K) (a := l) (xs := out.map V.str) (fun i σ' H' => ∃ (x4 x5 : Option V), σ' = [some (.ref p), some (.ref q), some (.ref a), some (.ref b), x4, x5] ∧ H' = H4 ∧ aheadB pk pk2 out = aheadB pk pk2 (out.drop i) ∧ ∀ j v, j < i → out[j]? = some v → lkP pk v = lkP pk2 v) ⟨_, _, rfl, rfl, rfl, fun j v hj => absurd hj (Nat.not_lt_zero _)⟩ (fun i σ' H' _ ⟨_, _, _, e, _⟩ => by rw [e]; exact .inl (.inl el)) ?_ ?_⟩
      · rintro i v σ' H' hi ⟨x4, x5, rfl, rfl, heq, hag⟩
        obtain ⟨w, ew, hw⟩ : ∃ w, out[i]? = some w ∧ v = .str w := by
          rw [List.getElem?_map] at hi
          cases e : out[i]? with
          | none => rw [e] at hi; cases hi
          | some w => rw [e] at hi; exact ⟨w, rfl, (Option.some.inj hi).symm⟩
        subst hw
        obtain ⟨m, n, em, en⟩ := ahead_at ag M1 M2 ew hag
        have dga : DGet H' a (.str w) (some (.int m)) := by have z := DGet.k (k := (Sum.inr w : Key)) ea4; rw [pkD_val, em] at z; exact z
        have dgb : DGet H' b (.str w) (some (.int n)) := by have z := DGet.k (k := (Sum.inr w : Key)) eb4; rw [pkD_val, en] at z; exact z
        have ed := ahead_drop ew em en
        refine ⟨_, rfl, _, rfl, a, _, rfl, dga, _, rfl, _, rfl, b, _, rfl, dgb, ?_⟩
        refine ⟨rfl, _, rfl, iteN (fun c => ?_) (fun c => ?_)⟩
        · have c : ¬ m = n := fun z => c (by rw [z])
          rw [if_neg c] at ed
          have z := fin out H' ag k04
          rw [heq, ed] at z
          exact ⟨_, rfl, _, rfl, a, _, rfl, dga, _, rfl, _, rfl, b, _, rfl, dgb, _, _, rfl, rfl, z⟩
        · have c : m = n := by injection c
          rw [if_pos c] at ed
          refine ⟨_, _, rfl, rfl, by rw [heq, ed], fun j u hj hu => ?_⟩
          by_cases hji : j < i
          · exact hag j u hji hu
          · have : j = i := by omega
            subst this
            rw [ew] at hu
            cases hu
            rw [em, en, c]
      · rintro σ' H' ⟨x4, x5, rfl, rfl, heq, hag⟩
        have z := fin out H' ag k04
        rw [heq, List.length_map, List.drop_length] at z
        exact z
theorem ok_ahead {f fL T : Addr} {fd fdL : FuncData} (F : Fun K "_law_ahead" "_law_ahead" sAhead f fd)
    (GL : FnOk P w K mg base CX0 1 fL fdL ["_law_rows_here", "_law_wish_here", nPick] (spLAg K T)) (kL : PySem.W.keepIn K (.ref fL) = true) (bL : Binds K fdL ["_law_rows_here", "_law_wish_here", nPick] []) (gL : mg "_law_agenda" = some (.ref fL)) :
    FnOk P w K mg base CX0 2 f fd ["_law_rows_here", "_law_wish_here", "_law_one", nOther] (spAhead K T) := by
  refine F.ok scAhead (fun vs H Q E h => ?_) (fun cdv A0 outer s H vs Q E hr h => ?_)
  · obtain ⟨A, r, q, a, b, cl, xs, ds, pk, pk2, rfl, _⟩ := h
    rfl
  · obtain ⟨A, r, q, a, b, cl, xs, ds, pk, pk2, rfl, B, G, hq, hds, hnd, h8, ha, hb, O, O2, M1, M2, ht, fin⟩ := h
    have hu := hu_of hr
    refine ⟨_, (pss_cons (ps_for PassesOwn.never rfl (pi_list (pe_call GL (hr.mono (by decide)) (by rfl) gL kL bL .nil pass0 (pa_cons (pv 0) (pa_cons (pv 1) (pa_cons (pv 2) pa_nil))))) (pg_name (i := 4) scAhead.nd rfl (by first | exact .inl rfl | exact .inr rfl)) (pss_one (ps_if (pt_cmpR op_ne (pe_dget hu (pv 2) (pv 4) (fun _ _ => rfl)) (pe_dget hu (pv 3) (pv 4) (fun _ _ => rfl)) (nomark _)) (pss_one (ps_ret (pe_cmpR op_gt (pe_dget hu (pv 2) (pv 4) (fun _ _ => rfl)) (pe_dget hu (pv 3) (pv 4) (fun _ _ => rfl)) (nomark _)))) pss_nil)))
      (pss_one (ps_ret pe_bl))), ?_⟩
    refine ⟨_, rfl, _, rfl, _, rfl, A, r, q, a, cl, xs, ds, pk, rfl, .of B, G, hq, hds, hnd, h8, .inl ha, O, ht, fun out l H4 ag gd nd o7 k4 nl el => ?_⟩
    have ea4 := dict_kp k4 ha
    have eb4 := dict_kp k4 hb
    refine ⟨l, rfl, ⟨_, .inl (.inl el)⟩, for_list (K := K) (a := l) (xs := out.map V.str) (fun i σ' H' => ∃ (x4 : Option V), σ' = [some (.ref r), some (.ref q), some (.ref a), some (.ref b), x4] ∧ H' = H4 ∧ aheadB pk pk2 out = aheadB pk pk2 (out.drop i) ∧ ∀ j v, j < i → out[j]? = some v → lkP pk v = lkP pk2 v) ⟨_, rfl, rfl, rfl, fun j v hj => absurd hj (Nat.not_lt_zero _)⟩ (fun i σ' H' _ ⟨_, _, e, _⟩ => by rw [e]; exact .inl (.inl el)) ?_ ?_⟩
    · rintro i v σ' H' hi ⟨x4, rfl, rfl, heq, hag⟩
      obtain ⟨w, ew, hw⟩ : ∃ w, out[i]? = some w ∧ v = .str w := by
        rw [List.getElem?_map] at hi
        cases e : out[i]? with
        | none => rw [e] at hi; cases hi
        | some w => rw [e] at hi; exact ⟨w, rfl, (Option.some.inj hi).symm⟩
      subst hw
      obtain ⟨m, n, em, en⟩ := ahead_at ag M1 M2 ew hag
      have dga : DGet H' a (.str w) (some (.int m)) := by have z := DGet.k (k := (Sum.inr w : Key)) ea4; rw [pkD_val, em] at z; exact z
      have dgb : DGet H' b (.str w) (some (.int n)) := by have z := DGet.k (k := (Sum.inr w : Key)) eb4; rw [pkD_val, en] at z; exact z
      have ed := ahead_drop ew em en
      refine ⟨_, rfl, _, rfl, a, _, rfl, dga, _, rfl, _, rfl, b, _, rfl, dgb, ?_⟩
      refine ⟨rfl, _, rfl, iteN (fun c => ?_) (fun c => ?_)⟩
      · have c : ¬ m = n := fun z => c (by rw [z])
        rw [if_neg c] at ed
        have z := fin out H' ag k4
        rw [heq, ed] at z
        exact ⟨_, rfl, _, rfl, a, _, rfl, dga, _, rfl, _, rfl, b, _, rfl, dgb, _, _, rfl, rfl, z⟩
      · have c : m = n := by injection c
        rw [if_pos c] at ed
        refine ⟨_, rfl, rfl, by rw [heq, ed], fun j u hj hu => ?_⟩
        by_cases hji : j < i
        · exact hag j u hji hu
        · have : j = i := by omega
          subst this
          rw [ew] at hu
          cases hu
          rw [em, en, c]
    · rintro σ' H' ⟨x4, rfl, rfl, heq, hag⟩
      have z := fin out H' ag k4
      rw [heq, List.length_map, List.drop_length] at z
      exact z
end
end Pk

set_option Elab.async false
set_option linter.all false
set_option maxRecDepth 100000
set_option maxHeartbeats 4000000
namespace Pk
open PySem PySem.Spec PyProof.Rows L2
/-! ### sorted of a list of (number, text): the same in some order -/
/-- v is a tuple of a number and a text -/
def NumTx (h : Heap) (v : Value) (x : Int) (y : Str) : Prop := ∃ a o t u n, v = .ref a ∧ h.get? a = some o ∧ o.cls = .type "tuple" ∧ o.data = .seq #[.int x t, .str y u] n
theorem NumTx.keeps {h h' : Heap} {v : Value} {x : Int} {y : Str} (p : NumTx h v x y) (k : ∀ b o, h.get? b = some o → o.cls = .type "tuple" → h'.get? b = some o) : NumTx h' v x y :=
  let ⟨a, o, t, u, n, e, ho, hc, hd⟩ := p
  ⟨a, o, t, u, n, e, k _ _ ho hc, hc, hd⟩
section
variable {prog : Program} {w : World} {A : Around} {E : Value → Shared → Prop} {s : Shared}
theorem numtx_tot {vs : List Value} (hp : ∀ v ∈ vs, ∃ x y, NumTx s.heap v x y) : Srt.Tot prog w A s (tuples' true) (fun p => p.1 ∈ vs) := by
  intro p q hm hm'
  obtain ⟨x1, y1, a1, o1, t1, u1, n1, e1, g1, c1, d1⟩ := hp _ hm
  obtain ⟨x2, y2, a2, o2, t2, u2, n2, e2, g2, c2, d2⟩ := hp _ hm'
  rw [e1, e2]
  refine ⟨if x1 = x2 then (if y1 = y2 then false else decide (y1.cps.toList < y2.cps.toList)) else decide (x1 < x2), ?_⟩
  refine PySem.W.kat_lt g1 d1 g2 d2 ?_
  show PySem.W.KatLex prog w A true (decide (2 < 2)) _ [(.int x1 t1, .int x2 t2), (.str y1 u1, .str y2 u2)] 0 s
  refine PySem.W.kat_cons (SeqAt.EqAt.int_int x1 t1 x2 t2 prog w _ _ ?_)
  refine PySem.W.kat_go (fun z1 => ?_) (fun z1 => ?_)
  · have ex : x1 = x2 := by simpa using z1
    rw [if_pos ex]
    refine PySem.W.kat_yes (PySem.W.kat_cons (SeqAt.EqAt.str_str y1 u1 y2 u2 prog w _ _ ?_))
    refine PySem.W.kat_go (fun z2 => ?_) (fun z2 => ?_)
    · have ey : y1 = y2 := by simpa using z2
      rw [if_pos ey]
      exact PySem.W.kat_yes (PySem.W.kat_nil ⟨rfl, rfl⟩)
    · have ey : ¬ y1 = y2 := by simpa using z2
      rw [if_neg ey]
      exact PySem.W.kat_no (PySem.W.kat_one _ _ (lt_str (Q := PySem.W.BoolBack _) ⟨rfl, rfl⟩))
  · have ex : ¬ x1 = x2 := by simpa using z1
    rw [if_neg ex]
    exact PySem.W.kat_no (oneLt_int ⟨rfl, rfl⟩)
theorem numtx_firsts {h : Heap} : ∀ {vs : List Value}, (∀ v ∈ vs, ∃ x y, NumTx h v x y) → ∃ fs : List Value, PySem.W.KatTups h vs fs ∧ fs.length = vs.length ∧ ∀ f ∈ fs, ∃ x t, f = Value.int x t
  | [], _ => ⟨[], .nil, rfl, fun f hf => by cases hf⟩
  | v :: r, hp => by
    obtain ⟨fs, k1, k2, k3⟩ := numtx_firsts (vs := r) fun u hu => hp u (List.mem_cons_of_mem _ hu)
    obtain ⟨x, y, a, o, t, u, n, e, g, c, d⟩ := hp v (List.mem_cons_self ..)
    subst e
    refine ⟨.int x t :: fs, .cons g c d rfl k1, congrArg (· + 1) k2, fun f hf => ?_⟩
    rcases List.mem_cons.mp hf with hf | hf
    · exact ⟨x, t, hf⟩
    · exact k3 f hf
theorem numtx_sortable {a : Addr} {vs : List Value} (h0 : 0 < vs.length) (hp : ∀ v ∈ vs, ∃ x y, NumTx s.heap v x y) (ha : ∀ o, s.heap.get? a = some o → o.cls ≠ .type "tuple") : Srt.Sortable prog w A s a vs := fun h' keep => by
  have hq : ∀ v ∈ vs, ∃ x y, NumTx h' v x y := fun v hv => by
    obtain ⟨x, y, p⟩ := hp v hv
    exact ⟨x, y, p.keeps fun b o e c => keep b o (fun z => ha o (by rw [← z]; exact e) c) e⟩
  obtain ⟨fs, k1, k2, k3⟩ := numtx_firsts hq
  refine ⟨tuples' true, fun Q E r => ?_, numtx_tot hq⟩
  refine PySem.W.kat_kind (T := .type "int") k1 (by omega) (fun f hf => ?_) (by rfl) ?_
  · obtain ⟨x, t, rfl⟩ := k3 f hf
    exact PySem.W.Looks.now
  · rw [show (Value.type "int" != Value.type "tuple") = true by decide +kernel]
    exact r
theorem sorted_numtx {l : Addr} {vs : List Value} {Q : Value → Shared → Prop} (hl : s.heap.IsList l vs.toArray) (hz : vs.length ≤ sizeLine) (hp : ∀ v ∈ vs, ∃ x y, NumTx s.heap v x y)
    (h : ∀ (h' : Heap) (d : Addr) (out : List Value), out.Perm vs → (∀ b o, s.heap.get? b = some o → h'.get? b = some o) → s.heap.objs.size ≤ d → (∃ n, h'.get? d = some (seqObj "list" out.toArray n)) → Q (.ref d) { s with heap := h' }) :
    wpAny (model prog w) A (call (.builtin "sorted") [.ref l]) Q E s := by
  refine Srt.sorted_any hl hz (fun h2 h1 a ha k => ?_) fun out ho => h _ _ out ho (fun b o e => sortedAll_old e) (Nat.le_succ _) (sortedAll_at s.heap vs out.toArray)
  refine numtx_sortable (s := { s with heap := h1 }) (by omega) (fun v hv => ?_) fun o e c => ?_
  · obtain ⟨x, y, p⟩ := hp v hv
    exact ⟨x, y, p.keeps fun b o e _ => (k b o e).2⟩
  · have z : some o = some (seqObj "list" vs.toArray 0) := e.symm.trans ha
    cases z
    exact absurd (Value.type.inj c) (by decide)
end
def rSortedN (K : PySem.W.Frag) : List V → Hp → VK → Prop := fun vs H Q => ∃ a xs, vs = [V.ref a] ∧ SqL K H a xs ∧ (∀ x ∈ xs, ∃ t i y, x = V.ref t ∧ H t = some (.tup [.int i, .str y])) ∧ ∀ ys p, ys.Perm xs → H p = none → Q (.ref p) (upd H p (.lst ys))
theorem cr_sortedN {X : Cx} : CallR X (.builtin "sorted") (rSortedN X.K) := by
  intro pins s σ H vs us Q I r h
  obtain ⟨a, xs, rfl, hs, hx, q⟩ := h
  obtain ⟨its, rv, hl, hz⟩ := I.list hs
  obtain ⟨u, rfl, ru⟩ := Vals.one r
  obtain rfl : u = Value.ref a := ru
  obtain ⟨e1, e2⟩ := refs_back rv fun x m => by
    obtain ⟨t, _, _, e, _⟩ := hx x m
    exact ⟨t, e⟩
  refine sorted_numtx hl.isList (by rw [← rv.length]; exact hz) (fun v hv => ?_) fun h' d out hp k hd hn => ?_
  · obtain ⟨t, rfl⟩ := e2 v hv
    obtain ⟨t', i, y, e, ht⟩ := hx (V.ref t) (by rw [e1]; exact List.mem_map.mpr ⟨_, hv, rfl⟩)
    cases e
    obtain ⟨_, its2, r2, o, ho, hc, n, hd⟩ := I.hok _ _ ht
    cases r2 with
    | cons r3 r4 =>
      cases r4 with
      | cons r5 r6 =>
        cases r6
        obtain ⟨t1, rfl⟩ := r3
        obtain ⟨t2, rfl⟩ := r5
        exact ⟨i, y, t, o, t1, t2, n, rfl, ho, hc, hd⟩
  · have h3 : ∀ u ∈ out, ∃ a, u = Value.ref a := fun u hu => e2 u (hp.mem_iff.mp hu)
    obtain ⟨n, hn⟩ := hn
    have hlen : (out.map backV).length ≤ sizeLine := by rw [List.length_map, hp.length_eq, ← rv.length]; exact hz
    exact ⟨.ref d, upd H d (.lst (out.map backV)), I.laid (t' := s.toks) k hd ⟨hlen, out, n, vals_back h3, hn⟩, rfl, q _ d (by rw [e1]; exact hp.map backV) (I.hok.fresh hd)⟩
end Pk

set_option Elab.async false
set_option linter.all false
set_option maxRecDepth 100000
set_option maxHeartbeats 4000000
namespace Pk
open PySem PySem.Spec PyProof.Rows L2
/-! ### enumerate over a dict's keys: the library has it over lists, tuples, texts -/
section
variable {prog : Program} {w : World} {A : Around} {E : Value → Shared → Prop} {s : Shared}
/-- what a key iterator hands out next, or that it ends -/
theorem nextOf_key {it d : Addr} {i ep : Nat} {od : Obj} {es : Array DictEntry} {Q : Value → Shared → Prop} (hh : A.handled = none) (hit : s.heap.IsKeyIter it d i es.size ep) (hod : s.heap.get? d = some od) (hdd : od.data = .dict es ep)
    (hQ : ∀ en h', es[i]? = some en → h'.IsKeyIter it d (i + 1) es.size ep → Heap.SameBut it s.heap h' → Q en.key { s with heap := h' })
    (hE : es.size ≤ i → ∀ h' e, Heap.ExtBut it s.heap h' → (∃ o, h'.get? e = some o ∧ o.cls = .type "StopIteration") → E (.ref e) { s with heap := h' }) :
    wpAny (model prog w) A (Builtin.SmallTypes.nextOf (.ref it)) Q E s := by
  obtain ⟨o, ho, hc, hd⟩ := id hit
  have ht := hit.typeIs
  have hown : Builtin.Dict_items.ownsTuple "dict_keyiterator" = false := by decide
  have nn : ¬ ((Value.ref d == Value.none) = true) := Bool.false_ne_true
  have pos : ¬ ((i : Int) < 0) := by omega
  -- its class, its fields
  refine wpAny_bind (wpAny_callSpecial?_slot (name := Str.ofString "__next__") ht F.slot_dict_keyiterator_next (wpAny_call_entry F.slot_dict_keyiterator_next ht F.entry_dict_keyiterator_next
    (wpAny_bind (wpAny_pure (wpAny_bind (wpAny_bind (wpAny_bind (wpAny_typeNameOfWhole_keyiter ht (wpAny_pure (wpAny_bind (wpAny_fieldsOf ho hd ?_))))))))) (F.args_dict_keyiterator_next_1 _)))
  simp only [hown, Bool.false_eq_true, if_false]
  show wpAny _ _ (if (Value.ref d == Value.none) = true then _ else _) _ _ s
  -- the dict as it was
  rw [if_neg nn]
  refine wpAny_bind (wpAny_pure (wpAny_bind (wpAny_dictEntries hod hdd ?_)))
  rw [if_neg (by simp)]
  refine wpAny_bind (wpAny_pure (wpAny_bind (wpAny_dictEpoch hod hdd ?_)))
  rw [if_neg (by simp)]
  refine wpAny_pure ?_
  rcases Nat.lt_or_ge i es.size with hlt | hge
  · -- an entry
    simp only [pos, if_false, Int.toNat_natCast, Array.getElem?_eq_getElem hlt]
    refine wpAny_bind (wpAny_bind (wpAny_typeNameOfWhole_keyiter ht (wpAny_pure (wpAny_bind (wpAny_isOneOf_keyiter ht ?_)))))
    have st' : (s.heap.update it (Obj.mapFields (·.setIfInBounds 1 (rawInt ((i : Int) + 1))))).IsKeyIter it d (i + 1) es.size ep :=
      ⟨_, Heap.get?_update_self _ ho (Obj.isFreed_of_fields (Obj.data_mapFields hd _)), (Obj.cls_mapFields ..).trans hc, by rw [Obj.data_mapFields hd]; simp [rawInt]⟩
    show wpAny _ _ (setField (.ref it) 1 (rawInt ((i : Int) + 1)) >>= _) _ _ s
    refine wpAny_bind (wpAny_setField ho hd (by simp) (wpAny_bind (wpAny_holding (wpAny_bind (wpAny_isOneOf_keyiter (s := { s with heap := s.heap.update it (Obj.mapFields (·.setIfInBounds 1 (rawInt ((i : Int) + 1)))) }) st'.typeIs ?_)))))
    show wpAny _ _ (pure es[i].key) _ _ _
    exact wpAny_pure (wpAny_pure ⟨_, rfl, wpAny_pure (hQ _ _ (Array.getElem?_eq_getElem hlt) st' (Heap.SameBut.update ..))⟩)
  · -- the end
    simp only [pos, if_false, Int.toNat_natCast, Array.getElem?_eq_none hge]
    refine wpAny_bind (wpAny_bind (wpAny_typeNameOfWhole_keyiter ht (wpAny_pure ?_)))
    show wpAny _ _ (setField (.ref it) 0 .none >>= _) _ _ s
    refine wpAny_bind (wpAny_setField ho hd (by simp) ?_)
    show wpAny _ _ (newExc (.type "StopIteration") [] >>= _) _ _ _
    simp only [newExc, newTuple]
    refine wpAny_bind (wpAny_bind (wpAny_newObj_type (wpAny_bind (m := firstArgMember _ _) (wpAny_of_eq (a := Value.none) (by first | rfl | (simp only [firstArgMember]; rfl)) (wpAny_newObj_type ?_ (by size_fits)))) (by size_fits)))
    simp only [raiseNew]
    refine wpAny_bind (wpAny_handled ?_)
    first | rw [show A.in1.handled = none from hh] | rw [hh]
    exact wpAny_bind (wpAny_pure (wpAny_throw (hE hge _ _ (((Heap.SameBut.update ..).extBut.push _).push _) ⟨_, Heap.get?_push_size _ rfl, rfl⟩)))
end
/-- a key iterator, as a thing that enumerate may draw from -/
theorem draws_key {prog : Program} {w : World} {A : Around} (hh : A.handled = none) {it d : Addr} (hne : d ≠ it) {ep : Nat} {od : Obj} {es : Array DictEntry} (hdd : od.data = .dict es ep) :
    Draws prog w A it [it, d] es.size (fun i v => ∃ en, es[i]? = some en ∧ v = en.key) (fun i h => h.IsKeyIter it d i es.size ep ∧ h.get? d = some od) where
  live := fun _ _ st => by
    obtain ⟨o, ho, _⟩ := st.1
    exact ⟨o, ho⟩
  frame := fun _ _ _ st hk => ⟨st.1.at fun o e => hk it (by simp) o e, hk d (by simp) _ st.2⟩
  item := fun i s Q E hi st hQ => nextOf_key hh st.1 st.2 hdd (fun en h' he st' hs' => hQ _ h' s.toks ⟨en, he, rfl⟩ ⟨st', hs'.extBut d od hne st.2⟩ hs') (fun hge => absurd hi (Nat.not_lt.mpr hge))
  done := fun s Q E st hE => nextOf_key hh st.1 st.2 hdd (fun en h' he _ _ => by rw [Array.getElem?_eq_none (Nat.le_refl _)] at he; cases he) fun _ => hE
/-- enumerate's own making, over what iter makes one new object of -/
theorem enum_new {v : Value} {o : Obj} {H : Heap → Prop} (B : Begins v o H) :
    Meets (Builtin.«enumerate.__new__» ⟨[.type "enumerate", v], []⟩) (fun _ R s => H s.heap ∧ R (.ok (.ret (.ref (s.heap.push o).objs.size)))
      { s with heap := (s.heap.push o).push { cls := .type "enumerate", data := .fields #[.none, .bool false, .ref s.heap.objs.size, rawInt 0, .none, .none] } }) :=
  .of_wp fun prog w A R s h => by
    obtain ⟨hp, g, d, tk, os⟩ := s
    obtain ⟨h1, h⟩ := h
    have hsub := sub_enumerate
    have it : ∀ {A' : Around} {E : Value → Shared → Prop} {Q : Value → Shared → Prop}, Q (.ref hp.objs.size) ⟨hp.push o, g, d, tk, os⟩ → wpAny (model prog w) A' (pyIter v) Q E ⟨hp, g, d, tk, os⟩ :=
      fun q => B.iter prog w _ _ ⟨hp, g, d, tk, os⟩ _ h1 q
    wp_walk using it
    refine wpAny_stack_any fun st => wpAny_pure ?_
    split
    · rename_i c _ _ _ _ _
      cases (c == Value.type "enumerate") <;> (wp_walk using it; exact ⟨_, rfl, h⟩)
    · wp_walk using it
      exact ⟨_, rfl, h⟩
theorem begins_keys {d : Addr} {od : Obj} {es : Array DictEntry} {ep : Nat} (hs : (d == sysModules) = false) (hx : od.ExactDict) (hdd : od.data = .dict es ep) :
    Begins (.ref d) { cls := .type "dict_keyiterator", data := .fields #[.ref d, .int 0 0, .int es.size 0, .int ep 0] } fun h => h.get? d = some od where
  iter := fun prog w A E s Q ho h => iter_keys hs ho hx hdd h
  keeps := fun h h' x hk => hk d od x
  free := rfl
section
variable {prog : Program} {w : World} {A : Around} {E : Value → Shared → Prop} {s : Shared}
theorem enum_call {v : Value} {o : Obj} {H : Heap → Prop} {Q : Value → Shared → Prop} (B : Begins v o H) (h1 : H s.heap)
    (h : ∀ h', IsEnum h' (s.heap.objs.size + 1) s.heap.objs.size 0 .none → h'.get? s.heap.objs.size = some o → (∀ b o, s.heap.get? b = some o → h'.get? b = some o) → Q (.ref (s.heap.objs.size + 1)) { s with heap := h' }) :
    wpAny (model prog w) A (call (.type "enumerate") [v]) Q E s := by
  refine callType_new F.called_enumerate (by decide) (F.typeCall_enumerate_1 _) (F.newCall_enumerate_1 _) (fun obj => F.args_object_init_2 obj _) F.entry_enumerate_new (enum_new B) ⟨h1, ?_⟩
  have hz : (s.heap.push o).objs.size = s.heap.objs.size + 1 := Heap.size_push ..
  show _ ∧ _
  rw [hz]
  have g1 := Heap.get?_push_size (s.heap.push o) (o := { cls := .type "enumerate", data := .fields #[.none, .bool false, .ref s.heap.objs.size, rawInt 0, .none, .none] }) rfl
  rw [hz] at g1
  exact ⟨⟨_, g1, rfl⟩, h _ g1 (Heap.get?_push_of_some _ (Heap.get?_push_size _ B.free)) fun b o x => Heap.get?_push_of_some _ (Heap.get?_push_of_some _ x)⟩
end
/-- the keys of the locked dict at d, each behind its number in a new pair -/
def IteD (d : Addr) (o : Obj) (kvs : List (Key × V)) : It :=
  ⟨fun i H => H d = some (.frz o (.dK kvs)) ∧ i < kvs.length, fun i H x H' => ∃ T k v, kvs[i]? = some (k, v) ∧ x = .ref T ∧ H T = none ∧ H' = upd H T (.tup [.int (i : Nat), kV k]), fun i H => H d = some (.frz o (.dK kvs)) ∧ i = kvs.length⟩
theorem turn_enumD {P : Program} {w : World} {K : PySem.W.Frag} {elts : List Expr} {kk : Nat} {tpos : Pos} {d e it : Addr} {o : Obj} {es : Array DictEntry} {ep : Nat} {kvs : List (Key × V)} (hod : o.data = .dict es ep) :
    Turn P w K (.Tuple elts kk tpos) (IteD d o kvs) [e, it] e (fun i h => (∃ old, IsEnum h e it ((i : Nat) : Int) old) ∧ h.IsKeyIter it d i kvs.length ep ∧ e ≠ it) where
  mem := by simp
  obj := fun i h st b hb => by
    obtain ⟨⟨old, he⟩, ⟨oi, ho, hc, hd⟩, _⟩ := st
    rcases List.mem_cons.mp hb with z | hb
    · rw [z]; exact ⟨_, he, fun v q => nomatch q⟩
    · rw [List.mem_singleton.mp hb]; exact ⟨oi, ho, fun v q => by rw [hd] at q; cases q⟩
  keep := fun i h h' st k => by
    obtain ⟨⟨old, he⟩, hi, hne⟩ := st
    exact ⟨⟨old, k e (by simp) _ he⟩, hi.at fun o q => k it (by simp) o q, hne⟩
  item := by
    intro X hP hw hK hc i pins s σ H E I hf st hg
    subst hP hw hK
    obtain ⟨⟨old, he⟩, hit, hne⟩ := st
    obtain ⟨hd, hi⟩ := hg
    obtain ⟨_, hgd, _, es', ep', vs, hdt, hsz, kv, hm⟩ := I.frzK hd
    obtain ⟨rfl, rfl⟩ := dict_ep hod hdt
    have fe := hf e (by simp)
    have fi := hf it (by simp)
    have de : d ≠ e := fun z => by rw [z, fe.1] at hd; cases hd
    have di : d ≠ it := fun z => by rw [z, fi.1] at hd; cases hd
    have hkv : kvs[i]? = some kvs[i] := List.getElem?_eq_getElem hi
    generalize kvs[i] = kv0 at hkv
    obtain ⟨k, v⟩ := kv0
    obtain ⟨u, hu, ru⟩ := kv_get kv hkv
    rw [← hsz] at hit
    have D := draws_key (prog := X.prog) (w := X.w) (A := X.A.in1) (I.ok.hd hc) di hod
    have hel : e < s.heap.objs.size := Heap.lt_size he
    have hil : it < s.heap.objs.size := by obtain ⟨_, q, _⟩ := hit; exact Heap.lt_size q
    refine wpAny_pyNext_enum_itemD D he ⟨hit, hgd⟩ (by rw [hsz]; exact hi) hne (fun z => (List.mem_cons.mp z).elim hne fun y => de (List.mem_singleton.mp y).symm) fun x h' tk hP ho st' hT hz2 hk => ?_
    obtain ⟨en, hen, rfl⟩ := hP
    refine ⟨_, rfl, wpAny_letOwnedTupleGo_enum (s := { s with heap := h', toks := tk + 1 }) ho fun h'' he' sb => ?_⟩
    have hT2 : h''.get? s.heap.objs.size = some { cls := .type "tuple", data := .seq #[.int i tk, en.key] } := (sb.2 _ (Nat.ne_of_gt hel)).trans hT
    have rk : RelV (kV k) en.key := by
      obtain ⟨od2, es2, g1, g2, g3, g4, g5, g6⟩ := hm
      rw [hgd] at g1
      cases g1
      obtain ⟨rfl, _⟩ := dict_ep hod g3
      exact relV_key (show keyIs k en.key = true from (g5.get? (e := en) (by rw [Array.getElem?_toList]; exact hen) hu).1)
    have new : ObjOk X.prog X.w (upd H s.heap.objs.size (.tup [.int (i : Nat), kV k])) h'' s.heap.objs.size (.tup [.int (i : Nat), kV k]) :=
      ⟨by show 2 ≤ sizeLine; decide, [.int i tk, en.key], .cons ⟨_, rfl⟩ (.cons rk .nil), ⟨_, hT2, rfl, _, rfl⟩⟩
    have I1 : Inv X pins σ (upd H s.heap.objs.size (.tup [.int (i : Nat), kV k])) { s with heap := h'', toks := tk + 1 } :=
      I.turnedNew (ch := [e, it]) (fun b ob hb q => (sb.2 b (fun z => hb (by simp [z]))).trans (hk b ob (fun z => hb (by simp [z])) (fun z => hb (by simp [z])) q)) hf (Nat.le_refl _) new
    refine ⟨.ref s.heap.objs.size, _, I1, rfl, ⟨_, k, v, hkv, rfl, I.hok.fresh (Nat.le_refl _), rfl⟩, ⟨⟨en.key, ?_⟩, ?_, hne⟩, fun b hb => ?_⟩
    · have e1 : ((i + 1 : Nat) : Int) = (i : Int) + 1 := by omega
      rw [e1]; exact he'
    · rw [← hsz]
      exact st'.1.at fun o q => (sb.2 it (Ne.symm hne)).trans q
    · have hb' : b < s.heap.objs.size := by
        rcases List.mem_cons.mp hb with z | hb
        · rw [z]; exact hel
        · rw [List.mem_singleton.mp hb]; exact hil
      rw [upd_ne (Nat.ne_of_lt hb')]
      exact (hf b hb).1
  done := by
    intro X hP hw hK hc i pins s σ H E I hf st hg
    subst hP hw hK
    obtain ⟨⟨old, he⟩, hit, hne⟩ := st
    obtain ⟨hd, hi⟩ := hg
    obtain ⟨_, hgd, _, es', ep', vs, hdt, hsz, kv, hm⟩ := I.frzK hd
    obtain ⟨rfl, rfl⟩ := dict_ep hod hdt
    obtain ⟨f0, f1, f2, f3, f4, f5⟩ := hf it (by simp)
    have di : d ≠ it := fun z => by rw [z, f0] at hd; cases hd
    have D := draws_key (prog := X.prog) (w := X.w) (A := X.A.in1) (I.ok.hd hc) di hod
    rw [← hsz] at hit
    rw [hi, ← hsz] at hit
    exact wpAny_pyNext_enum_endD D he ⟨hit, hgd⟩ fun h' eb => ⟨rfl, I.turned (t' := s.toks) (fun b o hb q => eb b o hb q) f0 f1 f3 f4 f5⟩
  self := fun A i s Q E st h => by
    obtain ⟨⟨_, he⟩, _⟩ := st
    exact wpAny_pyIter_enum he h
def iEnumD (ta : TA) : TI := fun σ H R => ta σ H fun vs H1 => ∃ d o kvs, vs = [.ref d] ∧ H1 d = some (.frz o (.dK kvs)) ∧ R (IteD d o kvs) H1
theorem pi_enumD {X : Cx} {e : Expr} {ta : TA} {p pos tpos : Pos} {elts : List Expr} {kk : Nat} (hg : Gl X "enumerate") (hm : X.mg "enumerate" = none) (ha : PA X [e] ta) (hs : starEach [e] X.env = [(false, eval e X.env)] := by rfl) :
    PI X (.Tuple elts kk tpos) (.Call (.Name "enumerate" p) [e] [] pos) (iEnumD ta) := by
  refine ⟨fun pins s σ H R I h => ?_⟩
  refine Call_ (ld_blt I hg hm boot_enumerate (PyProof.Rows.callWith_type1 (thn (ha.run pos pins s σ H _ I h) fun us s1 ⟨vs, H1, I1, r1, q1⟩ => ?_) hs rfl))
  obtain ⟨d, o, kvs, ex, hd, q⟩ := q1
  subst ex
  obtain ⟨u, rfl, ru⟩ := vals1 r1
  obtain rfl : u = Value.ref d := ru
  obtain ⟨hsm, hgd, hx, es, ep, vs, hdt, hsz, kv, hmm⟩ := I1.frzK hd
  refine enum_call (begins_keys hsm hx hdt) hgd fun h' he hit hk => wpAny_pyIter_enum he ?_
  have I2 : Inv X pins σ H1 { s1 with heap := h' } := I1.kept (t' := s1.toks) hk
  refine ⟨s1.heap.objs.size + 1, [s1.heap.objs.size + 1, s1.heap.objs.size], _, _, H1, rfl, I2, turn_enumD (it := s1.heap.objs.size) hdt, ⟨⟨.none, he⟩, ⟨_, hit, rfl, by rw [hsz] <;> rfl⟩, Nat.succ_ne_self _⟩, fun b hb => ?_, q⟩
  have hle : s1.heap.objs.size ≤ b := by
    rcases List.mem_cons.mp hb with z | hb
    · rw [z]; exact Nat.le_add_right _ _
    · rw [List.mem_singleton.mp hb]; exact Nat.le_refl _
  exact I1.fpOk hle (I1.hok.fresh hle)
theorem walk_enumD {d : Addr} {o : Obj} {kvs : List (Key × V)} : Walk (IteD d o kvs) kvs.length (fun H => H d = some (.frz o (.dK kvs))) (YPair (fun i => some (.int (i : Nat))) (fun i => kvs[i]?.map fun kv => kV kv.1)) := by
  refine ⟨fun _ _ hi q => ⟨q, hi⟩, fun _ q => ⟨q, rfl⟩, fun i H x H' _ _ y => ?_⟩
  obtain ⟨T, k, v, h1, h2, h3, h4⟩ := y
  exact ⟨T, .int (i : Nat), kV k, h2, h3, h4, rfl, by simp [h1]⟩
end Pk

set_option Elab.async false
set_option linter.all false
set_option maxRecDepth 100000
set_option maxHeartbeats 4000000
namespace Pk
open PySem PySem.Spec PyProof.Rows L2
section
variable {P : Program} {w : World} {K : PySem.W.Frag} {mg : Str → Option Value} {base : Heap}
def wideN : List Str := ["_law_script", "_law_rows_here", "_law_order", "_law_k", "_law_ware", "_law_number"]
theorem scWide : FnScope wideN ["_law_script", "_law_rows_here"] (defScope sWide) := ⟨rfl, rfl, rfl, by decide +kernel, rfl, by decide +kernel, by decide +kernel⟩
theorem hideK {T : Addr} {A : List Addr} {H H' : Hp} (k : Kp T H H') : ∀ b o, isSeqO o = true → hide A H b = some o → hide A H' b = some o := fun b o hs e => by
  obtain ⟨e1, e2⟩ := hide_some e
  exact hide_of (k.keep b o (isSeq_ne_tab k.t0 hs e1) e1) e2
def spWide (K : PySem.W.Frag) (T : Addr) : Sp := fun vs H Q _ => ∃ (A : List Addr) (a r : Addr) (ns : List Int) (cl : List Shelf) (mm : Nat), vs = [.ref a, .ref r] ∧ SqL K H a (ns.map V.int) ∧ BoxOk K A H r cl ∧ RowsG mm cl ∧ cl.length ≤ 8 ∧ GxR.TabG H T ∧
  ∀ (xs : List V) (ds : List PyData) l H', Kp T H H' → H l = none → H' l = some (.lst xs) → DpAll K H' xs ds → (∀ d ∈ ds, ND d) → ds.length ≤ 8 → Q (.ref l) H'
theorem ok_wide {f fX T : Addr} {fd fdX : FuncData} (F : Fun K "_law_wide_wish" "_law_wide_wish" sWide f fd)
    (GX : FnOk P w K mg base CX0 1 fX fdX ["_law_script", "_law_k"] (spMixed K)) (kX : PySem.W.keepIn K (.ref fX) = true) (bX : Binds K fdX ["_law_script", "_law_k"] []) (gX : mg "_law_mixed" = some (.ref fX))
    (y_enumerate : mg "enumerate" = none) (y_sorted : mg "sorted" = none) : FnOk P w K mg base CX0 2 f fd ["_law_script", "_law_rows_here"] (spWide K T) := by
  refine F.ok scWide (fun vs H Q E h => ?_) (fun cdv A0 outer s H vs Q E hr h => ?_)
  · obtain ⟨A, a, r, ns, cl, mm, rfl, _⟩ := h
    rfl
  · obtain ⟨A, a, r, ns, cl, mm, rfl, hS, B, G, h8, ht, fin⟩ := h
    have hu := hu_of hr
    refine ⟨_, (pss_cons (ps_set (i := 2) scWide.nd rfl (by first | exact .inl rfl | exact .inr rfl) (pe_callB cr_sortedN (by rfl) y_sorted (by decide +kernel) (pa_cons (pe_lock (pe_lc (own := [("_law_k", 3), ("_law_ware", 4)]) (g := (gTup K 2 (gCons (gName 3) (gCons (gName 4) gNil)))) (tt := tYes) rfl scWide.nd (pi_enumD (by rfl) y_enumerate (pa_cons (pv 1) pa_nil)) (blkOk_by (own := [("_law_k", 3), ("_law_ware", 4)]) (N := wideN) (sc := defScope sWide) (by decide +kernel)) (fun _ _ _ _ _ => (pg_tup (by rfl) (pgs_cons (pg_name (i := 3) scWide.nd rfl (by first | exact Or.inl rfl | exact Or.inr rfl)) (pgs_cons (pg_name (i := 4) scWide.nd rfl (by first | exact Or.inl rfl | exact Or.inr rfl)) pgs_nil)))) (fun _ _ _ _ _ => pts_nil) (fun _ _ _ _ _ => (pe_tup (pa_cons (pe_op op_mod (pe_call GX (hr.mono (by decide)) (by rfl) gX kX bX .nil pass0 (pa_cons (pv 0) (pa_cons (pe_op op_add pe_int (pv 3)) pa_nil))) pe_int) (pa_cons (pv 4) pa_nil)))))) pa_nil)))
      (pss_one (ps_ret (pe_lc (own := [("_law_number", 5), ("_law_ware", 4)]) (g := (gTup K 2 (gCons (gName 5) (gCons (gName 4) gNil)))) (tt := tYes) rfl scWide.nd (pi_list (pv 2)) (blkOk_by (own := [("_law_number", 5), ("_law_ware", 4)]) (N := wideN) (sc := defScope sWide) (by decide +kernel)) (fun _ _ _ _ _ => (pg_tup (by rfl) (pgs_cons (pg_name (i := 5) scWide.nd rfl (by first | exact Or.inl rfl | exact Or.inr rfl)) (pgs_cons (pg_name (i := 4) scWide.nd rfl (by first | exact Or.inl rfl | exact Or.inr rfl)) pgs_nil)))) (fun _ _ _ _ _ => pts_nil) (fun _ _ _ _ _ => (pe_tup (pa_cons (pv 4) (pa_cons pe_int (pa_cons pe_int pa_nil))))))))), ?_⟩
    have rT := B.foot_ne ht r (List.mem_cons_self ..)
    refine ⟨r, _, B.dc, True.intro, fun od => ?_⟩
    have eb : upd H r (.frz od (.dK (cl.map keyW))) r = some (.frz od (.dK (cl.map keyW))) := upd_same
    have un : ∀ H', Kp T (upd H r (.frz od (.dK (cl.map keyW)))) H' → Kp T H (upd H' r (.dK (cl.map keyW))) := fun H' k => unlockP ht B.dc rT k
    have tb : GxR.TabG (upd H r (.frz od (.dK (cl.map keyW)))) T := tab_upd ht rT
    have SB : SqL K (upd H r (.frz od (.dK (cl.map keyW)))) a (ns.map V.int) := seq_mono (fun b o hs e => by rw [upd_ne (fun z => by rw [z, B.dc] at e; cases e; cases hs)]; exact e) hS
    generalize upd H r (.frz od (.dK (cl.map keyW))) = HB at eb un tb SB ⊢
    refine ⟨_, rfl, r, od, _, rfl, eb, fun W nW => ?_⟩
    have WT := tab_nn tb nW
    have Wr : W ≠ r := fun z => by rw [z, eb] at nW; cases nW
    refine lc_it walk_enumD (fun i H' => Kp T HB H' ∧ ∃ xs, H' W = some (.lst xs) ∧ (∀ x ∈ xs, ∃ t n y, x = .ref t ∧ H' t = some (.tup [.int n, .str y]) ∧ GoodN y) ∧ xs.length ≤ i) ⟨Kp.new tb nW, [], upd_same, (fun x hx => by cases hx), Nat.le_refl _⟩ (fun i H' _ h => h.1.keep _ _ rT eb) (fun i v H3 H4 hi hv hy => ?_) (fun H2 hv => ?_)
    · obtain ⟨k3, xs, eW, hx, hl⟩ := hv
      obtain ⟨Tt, x, y, rfl, nT, rfl, ex, ey⟩ := hy
      have hil : i < cl.length := by rw [List.length_map] at hi; exact hi
      have es : cl[i]? = some cl[i] := List.getElem?_eq_getElem hil
      have hs := List.getElem_mem hil
      change some (V.int (i : Nat)) = some x at ex
      change Option.map (fun kv : Key × V => kV kv.1) (cl.map keyW)[i]? = some y at ey
      rw [List.getElem?_map, es] at ey
      cases ex
      have ey' : V.str cl[i].ware = y := Option.some.inj ey
      subst ey'
      clear ey
      have gw := G.w _ hs
      generalize cl[i].ware = wr at gw ⊢
      have k4 := Kp.new (o := HO.tup [.int (i : Nat), .str wr]) k3.tab nT
      have e4 : upd H3 Tt (.tup [V.int (i : Nat), .str wr]) Tt = some (.tup [.int (i : Nat), .str wr]) := upd_same
      have kk := k3.trans k4
      have eW4 := k4.lst eW
      have hx4 : ∀ x ∈ xs, ∃ t n y, x = .ref t ∧ upd H3 Tt (.tup [V.int (i : Nat), .str wr]) t = some (.tup [.int n, .str y]) ∧ GoodN y := fun x h => by
        obtain ⟨t, n, y, e1, e2, e3⟩ := hx x h
        exact ⟨t, n, y, e1, k4.keep _ _ (tab_ne k4.t0 e2 fun _ z => by cases z) e2, e3⟩
      generalize upd H3 Tt (.tup [V.int (i : Nat), .str wr]) = H4 at k4 e4 kk eW4 hx4 ⊢
      have e280 : (280 : Int) + (i : Int) = ((280 + i : Nat) : Int) := by omega
      refine ⟨Tt, _, rfl, .inl (.inl e4), rfl, _, _, rfl, _, _, rfl, rfl, rfl, tYes_if ?_⟩
      refine ⟨_, rfl, _, rfl, _, _, rfl, rfl, a, ns, 280 + i, (by show [V.ref a, V.int (280 + (i : Int))] = _; rw [e280] <;> rfl), kk.seq SB, by omega, fun n hn _ => ⟨n, 1000, rfl, rfl, (by show (0 : Int) < 1000; decide), _, rfl, (by show (2 : Nat) ≤ sizeLine; decide), fun tp ntp => ?_⟩⟩
      have k5 := Kp.new (o := HO.tup [.int (n % 1000), .str wr]) kk.tab ntp
      have e5 : upd H4 tp (.tup [V.int (n % 1000), .str wr]) tp = some (.tup [.int (n % 1000), .str wr]) := upd_same
      have eW5 := k5.lst eW4
      have up : ∀ {zs : List V} {t : Addr} {o : HO}, upd H4 tp (.tup [V.int (n % 1000), .str wr]) t = some o → (∀ us, o ≠ .lst us) → upd (upd H4 tp (.tup [V.int (n % 1000), .str wr])) W (.lst zs) t = some o := fun {zs t o} h hn => by
        rw [upd_ne (fun z => by rw [z, eW5] at h; cases h; exact hn _ rfl)]
        exact h
      refine ⟨xs, eW5, small1000 (by have := B.nd; omega), (kk.trans k5).set nW WT, _, upd_same, fun x h => ?_, by rw [List.length_append, List.length_singleton]; omega⟩
      rcases List.mem_append.mp h with h | h
      · obtain ⟨t, m, y, e1, e2, e3⟩ := hx4 x h
        exact ⟨t, m, y, e1, up (k5.keep _ _ (tab_ne k5.t0 e2 fun _ z => by cases z) e2) (fun _ z => by cases z), e3⟩
      · rw [List.mem_singleton.mp h]
        exact ⟨tp, _, wr, rfl, up e5 (fun _ z => by cases z), gw⟩
    · obtain ⟨kk, xs, eW, hx, hl⟩ := hv
      have er := kk.keep _ _ rT eb
      refine ⟨er, ?_⟩
      have k1 := un H2 kk
      have eW1 : upd H2 r (.dK (cl.map keyW)) W = some (.lst xs) := by rw [upd_ne Wr]; exact eW
      have hx1 : ∀ x ∈ xs, ∃ t n y, x = .ref t ∧ upd H2 r (.dK (cl.map keyW)) t = some (.tup [.int n, .str y]) ∧ GoodN y := fun x h => by
        obtain ⟨t, n, y, e1, e2, e3⟩ := hx x h
        exact ⟨t, n, y, e1, by rw [upd_ne (fun z => by rw [z, er] at e2; cases e2)]; exact e2, e3⟩
      rw [List.length_map] at hl
      generalize upd H2 r (.dK (cl.map keyW)) = H3 at k1 eW1 hx1 ⊢
      refine ⟨W, xs, rfl, .inl (.inl eW1), fun x h => ?_, fun ys p hp np => ?_⟩
      · obtain ⟨t, n, y, e1, e2, _⟩ := hx1 x h
        exact ⟨t, n, y, e1, e2⟩
      have k4 := Kp.new (o := HO.lst ys) k1.tab np
      have ep : upd H3 p (.lst ys) p = some (.lst ys) := upd_same
      have k14 := k1.trans k4
      have hy : ∀ x ∈ ys, ∃ t n y, x = .ref t ∧ upd H3 p (.lst ys) t = some (.tup [.int n, .str y]) ∧ GoodN y := fun x h => by
        obtain ⟨t, n, y, e1, e2, e3⟩ := hx1 x (hp.mem_iff.mp h)
        exact ⟨t, n, y, e1, k4.keep _ _ (tab_ne k4.t0 e2 fun _ z => by cases z) e2, e3⟩
      have hyl : ys.length ≤ 8 := by rw [hp.length_eq]; omega
      generalize upd H3 p (.lst ys) = H4 at k4 ep k14 hy ⊢
      clear hx hx1 eW eW1 er un eb tb SB kk k1 k4 hp np nW WT Wr
      -- a need of each
      refine ⟨_, rfl, p, rfl, ⟨_, .inl (.inl ep)⟩, fun L nL => ?_⟩
      have LT := tab_nn k14.tab nL
      refine lc_list (K := K) (a := p) (xs := ys) (fun i H' => Kp T H4 H' ∧ ∃ zs ds, H' L = some (.lst zs) ∧ DpAll K (hide [L] H') zs ds ∧ (∀ d ∈ ds, ND d) ∧ ds.length ≤ i) ⟨Kp.new k14.tab nL, [], [], upd_same, .nil, (fun d hd => by cases hd), Nat.le_refl _⟩ (fun i H' _ ⟨kk, _⟩ => .inl (.inl (kk.lst ep))) (fun i v H' hi hv => ?_) (fun H5 hv => ?_)
      · obtain ⟨kk, zs, ds, eL, hD, hN, hl⟩ := hv
        have hil := (List.getElem?_eq_some_iff.mp hi).1
        obtain ⟨t, n, y, rfl, et0, gy⟩ := hy v (List.mem_of_getElem? hi)
        have et := kk.keep _ _ (tab_ne kk.t0 et0 fun _ z => by cases z) et0
        refine ⟨t, _, rfl, .inl (.inl et), rfl, _, _, rfl, _, _, rfl, rfl, rfl, tYes_if ?_⟩
        refine ⟨_, rfl, (by show (3 : Nat) ≤ sizeLine; decide), fun tp ntp => ?_⟩
        have k5 := Kp.new (o := HO.tup [.str y, .int 1, .int 999]) kk.tab ntp
        have e5 : upd H' tp (.tup [.str y, .int 1, .int 999]) tp = some (.tup [.str y, .int 1, .int 999]) := upd_same
        have eL5 := k5.lst eL
        have hD5 : DpAll K (hide [L] (upd H' tp (.tup [.str y, .int 1, .int 999]))) zs ds := dpAll_mono (hideK k5) _ _ hD
        have tL : tp ≠ L := fun z => by rw [z, eL] at ntp; cases ntp
        generalize upd H' tp (.tup [.str y, .int 1, .int 999]) = H6 at k5 e5 eL5 hD5 ⊢
        have dz := dpAll_len hD5
        refine ⟨zs, eL5, small1000 (by omega), (kk.trans k5).set nL LT, _, ds ++ [.tuple [.str y, .int 1, .int 999]], upd_same, ?_, fun d hd => ?_, by rw [List.length_append, List.length_singleton]; omega⟩
        · rw [hide_upd (List.mem_singleton.mpr rfl)]
          exact dpAll_app hD5 (.cons (.tup (.inl (.inl (hide_of e5 fun z => tL (List.mem_singleton.mp z)))) (.cons (.str _) (.cons (.int _) (.cons (.int _) .nil)))) .nil)
        · rcases List.mem_append.mp hd with hd | hd
          · exact hN d hd
          · rw [List.mem_singleton.mp hd]
            exact ⟨y, 1, 999, rfl, gy, by decide, by decide, by decide⟩
      · obtain ⟨kk, zs, ds, eL, hD, hN, hl⟩ := hv
        exact fin zs ds L H5 (k14.trans kk) (k14.free nL) eL (dpAll_show hD) hN (by omega)
end
end Pk

set_option Elab.async false
set_option linter.all false
set_option maxRecDepth 100000
set_option maxHeartbeats 4000000
namespace PySem.SeqAt
open AutoSeq1 (wpAny_loadPart')
open MeetsSeq MeetsSeq2 MeetsSeq3 SeqRoads2
namespace NeL
/-! ### xs != ys for two lists whose items are the same, for one program and one world -/
section
variable {prog : Program} {w : World} (p q : Addr) (xs ys : Array Value) (cx cy : Nat) (dx dy : Option Addr) (tx ty : Array (Option Value))
/-- the two lists, and their items the same -/
structure Two (s : Shared) (A : Around) : Prop where
  hx : s.heap.get? p = some { cls := .type "list", dict := dx, data := .seq xs cx, slots := tx }
  hy : s.heap.get? q = some { cls := .type "list", dict := dy, data := .seq ys cy, slots := ty }
  he : ∀ j (h1 : j < xs.size) (h2 : j < ys.size), EqIn prog w A.in1 s xs[j] ys[j] true
theorem loop (hz : xs.size = ys.size) : ∀ m i : Nat, xs.size - i = m →
    MeetsIn prog w (Builtin.«list.__eq__.loop» ⟨[.ref p, .ref q, rawInt i, rawInt 3], []⟩) (fun A R s => Two (prog := prog) (w := w) p q xs ys cx cy dx dy tx ty s A ∧ R (.ok (.ret (.bool false))) s)
  | 0, i, hk => by
    intro A R s h
    obtain ⟨⟨u1, u2, u3⟩, r⟩ := h
    obtain ⟨hp, g, d, tk, os⟩ := s
    wp_walk using wpAny_loadPart' u1, wpAny_loadPart' u2
    have o1 : xs[((i : Nat) : Int).toNat]? = none := by simp; omega
    have o2 : ys[((i : Nat) : Int).toNat]? = none := by simp; omega
    rw [o1, o2]
    wp_walk using wpAny_loadPart' u1, wpAny_loadPart' u2
    show R (.ok (.ret (.bool (xs.size != ys.size)))) _
    rw [hz]
    simpa using r
  | m + 1, i, hk => by
    intro A R s h
    obtain ⟨⟨u1, u2, u3⟩, r⟩ := h
    obtain ⟨hp, g, d, tk, os⟩ := s
    wp_walk using wpAny_loadPart' u1, wpAny_loadPart' u2
    have lx : i < xs.size := by omega
    have ly : i < ys.size := by omega
    have o1 : xs[((i : Nat) : Int).toNat]? = some xs[i] := by simp [lx]
    have o2 : ys[((i : Nat) : Int).toNat]? = some ys[i] := by simp [ly]
    have oc : ((i : Int) + 1) = ((i + 1 : Nat) : Int) := by omega
    rw [o1, o2]
    refine wpAny_bind (u3 i lx ly _ _ ?_)
    wp_walk
    rw [oc]
    have go := loop hz m (i + 1) (by omega) A R _ ⟨⟨u1, u2, u3⟩, r⟩
    exact ⟨plainId_quiet plain_eq_loop _, codeAny_builtin entry_eq_loop (by rw [Around.under_plainId plain_eq_loop _]; exact go)⟩
theorem ne (hz : xs.size = ys.size) : MeetsIn prog w (Builtin.«list.__ne__» ⟨[.ref p, .ref q], []⟩) (fun A R s => Two (prog := prog) (w := w) p q xs ys cx cy dx dy tx ty s A ∧ R (.ok (.ret (.bool false))) s) := by
  intro A R s h
  obtain ⟨t, r⟩ := h
  obtain ⟨u1, u2, u3⟩ := id t
  obtain ⟨hp, g, d, tk, os⟩ := s
  have fl := AutoSeq1.sub_list_list
  have hn : ¬ (xs.size != ys.size) = true := by simp [hz]
  wp_walk using wpAny_loadPart' u1, wpAny_loadPart' u2
  have go := loop p q xs ys cx cy dx dy tx ty hz _ 0 rfl A R _ ⟨t, r⟩
  exact ⟨plainId_quiet plain_eq_loop _, codeAny_builtin entry_eq_loop (by rw [Around.under_plainId plain_eq_loop _]; exact go)⟩
end
theorem rc {prog : Program} {w : World} {A : Around} {s : Shared} {E : Value → Shared → Prop} {p q : Addr} {xs ys : Array Value} {Q : Value → Shared → Prop} (h1 : s.heap.IsList p xs) (h2 : s.heap.IsList q ys) (hz : xs.size = ys.size) (hu : A.units < cLine)
    (he : ∀ j (h1 : j < xs.size) (h2 : j < ys.size), EqIn prog w A.in1 s xs[j] ys[j] true) (h : Q (.bool false) s) : wpAny (model prog w) A (richCompare .NotEq (.ref p) (.ref q)) Q E s := by
  obtain ⟨⟨c1, d1, a1, t1⟩, o1, k1, n1, e1⟩ := id h1
  obtain ⟨⟨c2, d2, a2, t2⟩, o2, k2, n2, e2⟩ := id h2
  simp only at k1 e1 k2 e2
  subst k1 e1 k2 e2
  refine wpAny_richCompare_same_room (T := "list") (op := .NotEq) ⟨_, o1, rfl⟩ ⟨_, o2, rfl⟩ F.slot_list_ne ?_ hu
  exact call_meetsIn F.slot_list_ne ⟨_, o1, rfl⟩ F.entry_list_ne (F.args_list_ne_2 _ _) (ne p q xs ys n1 n2 d1 d2 t1 t2 hz) ⟨⟨o1, o2, he⟩, show Value.bool false ≠ Value.notImplemented ∧ Q (.bool false) s from ⟨(fun x => nomatch x), h⟩⟩
end NeL
end PySem.SeqAt

set_option Elab.async false
set_option linter.all false
set_option maxRecDepth 100000
set_option maxHeartbeats 4000000
namespace Pk
open PySem PySem.Spec PyProof.Rows L2
/-! ### lists that hold data and dicts, compared: they hold the same -/
inductive SameV (K : PySem.W.Frag) (H : Hp) : V → V → Prop
  | dat {v u : V} {d : PyData} : Dp K H v d → Dp K H u d → SeqAt.shaped d = true → PyData.eqv d d = true → SameV K H v u
  | dct {a b : Addr} {ks ls : List (Key × V)} : a ≠ b → H a = some (.dK ks) → H b = some (.dK ls) → ks.length = ls.length → (∀ p ∈ ks, valV ls p.1 = some p.2 ∧ flatB p.2 = true) → SameV K H (.ref a) (.ref b)
def rNeH (K : PySem.W.Frag) : R2 := fun x y H Q => ∃ a b xs ys, x = .ref a ∧ y = .ref b ∧ H a = some (.lst xs) ∧ H b = some (.lst ys) ∧ Paired (SameV K H) xs ys ∧ Q (.bl false) H
theorem paired_at {α β : Type} {R : α → β → Prop} : ∀ {a : List α} {b : List β}, Paired R a b → ∀ {i : Nat} {x : α} {y : β}, a[i]? = some x → b[i]? = some y → R x y
  | _, _, .nil, i, x, y, e, _ => by simp at e
  | _, _, .cons h t, i, x, y, e, e2 => by
    cases i with
    | zero => cases e; cases e2; exact h
    | succ i => exact paired_at t (i := i) (by simpa using e) (by simpa using e2)
theorem paired_lenQ {α β : Type} {R : α → β → Prop} {a : List α} {b : List β} (h : Paired R a b) : a.length = b.length := by
  induction h with
  | nil => rfl
  | cons _ _ ih => simp [ih]
theorem vals_at : ∀ {xs : List V} {us : List Value}, Vals xs us → ∀ {i : Nat} {x : V} {u : Value}, xs[i]? = some x → us[i]? = some u → RelV x u
  | _, _, .nil, i, x, u, e, _ => by simp at e
  | _, _, .cons r t, i, x, u, e, e2 => by
    cases i with
    | zero => cases e; cases e2; exact r
    | succ i => exact vals_at t (i := i) (by simpa using e) (by simpa using e2)
theorem vals_lenQ {xs : List V} {us : List Value} (h : Vals xs us) : xs.length = us.length := by
  induction h with
  | nil => rfl
  | cons _ _ ih => simp [ih]
theorem room66 {k : Nat} {A : Around} (r : Room k A) : A.units + 66 < cLine := by have := r.un; omega
theorem op_neH {X : Cx} (hu : X.A.units + 66 < cLine) : OpR X (compareOp .NotEq) (rNeH X.K) := by
  intro pins s σ H x y v u Q I rx ry h
  obtain ⟨a, b, xs, ys, rfl, rfl, ea, eb, hp, q⟩ := h
  obtain rfl : v = Value.ref a := rx
  obtain rfl : u = Value.ref b := ry
  obtain ⟨_, ia, na, va, oa⟩ := (show ObjOk X.prog X.w H s.heap a (.lst xs) from I.hok a _ ea)
  obtain ⟨_, ib, nb, vb, ob⟩ := (show ObjOk X.prog X.w H s.heap b (.lst ys) from I.hok b _ eb)
  have lx := vals_lenQ va
  have ly := vals_lenQ vb
  have lp := paired_lenQ hp
  refine SeqAt.NeL.rc (p := a) (q := b) (xs := ia.toArray) (ys := ib.toArray) ⟨_, oa, rfl, _, rfl⟩ ⟨_, ob, rfl, _, rfl⟩ (by simp; omega) (by omega) (fun j h1 h2 => ?_) ⟨.bl false, H, I, rfl, q⟩
  have h1' : j < ia.length := by simpa using h1
  have h2' : j < ib.length := by simpa using h2
  have e1 : ia.toArray[j] = ia[j] := by simp
  have e2 : ib.toArray[j] = ib[j] := by simp
  rw [e1, e2]
  have x1 : xs[j]? = some xs[j] := List.getElem?_eq_getElem (by omega)
  have y1 : ys[j]? = some ys[j] := List.getElem?_eq_getElem (by omega)
  have r1 := vals_at va x1 (List.getElem?_eq_getElem h1')
  have r2 := vals_at vb y1 (List.getElem?_eq_getElem h2')
  have hs := paired_at hp x1 y1
  generalize xs[j] = v1 at r1 hs
  generalize ys[j] = v2 at r2 hs
  generalize ia[j] = u1 at r1
  generalize ib[j] = u2 at r2
  cases hs with
  | @dat _ _ d d1 d2 sd ev =>
    obtain ⟨as, z1⟩ := Dp.reads I d v1 u1 d1 r1
    obtain ⟨bs, z2⟩ := Dp.reads I d v2 u2 d2 r2
    have cd := SeqAt.canLay_of_shaped sd
    have z := SeqAt.eqAt_reads d d X.A.in1 s u1 u2 as bs z1 z2 cd cd (SeqAt.room_of_shaped (A := X.A.in1) (db := d) sd (by show X.A.units + 1 + 64 < _; omega))
    rw [ev] at z
    exact z.inModel X.prog X.w
  | @dct a1 b1 ks ls ne k1 k2 hlen hpp =>
    obtain rfl : u1 = Value.ref a1 := r1
    obtain rfl : u2 = Value.ref b1 := r2
    obtain ⟨_, ya, wa, ra, da⟩ := (show ObjOk X.prog X.w H s.heap a1 (.dK ks) from I.hok a1 _ k1)
    obtain ⟨_, yb, wb, rb, db⟩ := (show ObjOk X.prog X.w H s.heap b1 (.dK ls) from I.hok b1 _ k2)
    have hl : wa.length = wb.length := by rw [← ra.length, ← rb.length]; exact hlen
    refine SeqAt.EqIn.of_refs ne fun E Q h => ?_
    exact PySem.W.keq_eq (knd := mixKind X.prog X.w) (r := true) ya yb da db (by show X.A.units + 1 < _; omega) (fun _ => hits_all rb ra hpp) (by simp [hl]; exact h)
end Pk

set_option Elab.async false
set_option linter.all false
set_option maxRecDepth 100000
set_option maxHeartbeats 4000000
namespace Pk
open PySem PySem.Spec PyProof.Rows L2
/-! ### a.update(b), a an empty dict -/
def rDUpd : V → List V → Hp → VK → Prop := fun x vs H Q => ∃ (a b : Addr) (kvs : List (Key × V)), x = .ref a ∧ vs = [.ref b] ∧ a ≠ b ∧ H a = some (.dK []) ∧ H b = some (.dK kvs) ∧ Q .non (upd H a (.dK kvs))
theorem mtd_update {X : Cx} : MtR X "dict.update" rDUpd := by
  intro pins s σ H x vs v us Q I rx rv h
  obtain ⟨a, b, kvs, ex, ev, hab, ea, eb, q⟩ := h
  subst ex
  subst ev
  obtain rfl : v = Value.ref a := rx
  obtain ⟨u, rfl, ru⟩ := Vals.one rv
  obtain rfl : u = Value.ref b := ru
  obtain ⟨z, hd, vs, rel, dd⟩ := dk_of I.hok ea
  obtain ⟨z2, hd2, vs2, rel2, dd2⟩ := dk_of I.hok eb
  cases rel
  have hn : (vs2.map (·.1)).Nodup := by
    obtain ⟨o, es, ep, ho, hc, hdt, hk, hp, hn⟩ := dd2
    exact hn
  refine call_meetsIn PySem.F.slot_dict_update dd.typeIs PySem.F.entry_dict_update (PySem.F.args_dict_update_2 _ _) (meets_dict_update (mixKind X.prog X.w) a b hab hd2) ⟨[], vs2, dd, dd2, (by rw [← rel2.length]; show 0 + _ ≤ _; omega), fun h' dd' _ hs => ?_⟩
  rw [merged_nil_of_nodup vs2 hn] at dd'
  have he : ∃ q, h'.get? a = some q := let ⟨q, _, _, hq, _⟩ := dd'; ⟨q, hq⟩
  exact ⟨.non, _, d_write (t' := s.toks) I (by rw [ea]; exact True.intro) hs he (dk_new z2 hd rel2 dd'), rfl, q⟩
end Pk

set_option Elab.async false
set_option linter.all false
set_option maxRecDepth 100000
set_option maxHeartbeats 4000000
namespace Pk
open PySem PySem.Spec PyProof.Rows L2
theorem cutV_init (xs : List V) : cutV xs none (some (-1)) = xs.dropLast := by
  unfold cutV
  have hd0 : HT.sIx xs.length 0 none = 0 := rfl
  have e : HT.sIx xs.length xs.length (some (-1)) = xs.length - 1 := by
    show (if (-1 : Int) < 0 then ((-1 : Int) + (xs.length : Int)).toNat else min (-1 : Int).toNat xs.length) = _
    rw [if_pos (by decide)]
    omega
  rw [hd0, e, List.drop_zero, Nat.sub_zero]
  exact (List.dropLast_eq_take (l := xs)).symm
theorem at_end {xs : List V} {v : V} (h : xs[xs.length - 1]? = some v) : atI xs (-1) = some v := by
  have h0 := (List.getElem?_eq_some_iff.mp h).1
  have e : ixN xs.length (-1) = some (xs.length - 1) := by
    unfold ixN
    rw [if_neg (by decide), if_pos (by omega)]
    congr 1
    omega
  unfold atI
  rw [e]
  exact h
/-- a dict that is a pick, none of some -/
def PkV (N : List Addr) (H : Hp) (v : V) (pk : List (Str × Int)) : Prop := ∃ a, v = .ref a ∧ a ∉ N ∧ H a = some (.dK (pkD pk))
theorem PkV.kept {T : Addr} {N : List Addr} {H H' : Hp} (k : Kp T H H') {v : V} {pk : List (Str × Int)} (h : PkV N H v pk) : PkV N H' v pk := by
  obtain ⟨a, e, n, h⟩ := h
  exact ⟨a, e, n, dict_kp k h⟩
theorem PkV.upd {N : List Addr} {H : Hp} {d : Addr} {u : HO} (nd : d ∈ N) {v : V} {pk : List (Str × Int)} (h : PkV N H v pk) : PkV N (L2.upd H d u) v pk := by
  obtain ⟨a, e, n, h⟩ := h
  exact ⟨a, e, n, by rw [upd_ne (fun z => n (by rw [z]; exact nd))]; exact h⟩
theorem PkV.set {N : List Addr} {H : Hp} {d : Addr} {xs ys : List V} (hd : H d = some (.lst xs)) {v : V} {pk : List (Str × Int)} (h : PkV N H v pk) : PkV N (L2.upd H d (.lst ys)) v pk := by
  obtain ⟨a, e, n, h⟩ := h
  exact ⟨a, e, n, by rw [upd_ne (fun z => by rw [z, hd] at h; cases h)]; exact h⟩
theorem PkV.less {N N' : List Addr} {H : Hp} (hN : ∀ a ∈ N', a ∈ N) {v : V} {pk : List (Str × Int)} (h : PkV N H v pk) : PkV N' H v pk := by
  obtain ⟨a, e, n, h⟩ := h
  exact ⟨a, e, fun z => n (hN a z), h⟩
theorem pkD_vals {D : Str → List (Int × List PyData)} {pk : List (Str × Int)} (O : PickOk D pk) : ∀ e ∈ pkD pk, valV (pkD pk) e.1 = some e.2 ∧ flatB e.2 = true := by
  have pknd : ((pkD pk).map (·.1)).Nodup := by
    have z : (pkD pk).map (·.1) = (pk.map (·.1)).map (fun w => (Sum.inr w : Key)) := by
      unfold pkD
      rw [List.map_map, List.map_map]
      rfl
    rw [z]
    exact List.Pairwise.map _ (fun _ _ h q => h (Sum.inr.inj q)) O.nd
  refine fun e he => ⟨val_nodup pknd e he, ?_⟩
  obtain ⟨x, _, rfl⟩ := List.mem_map.mp he
  rfl
theorem K2.set {T T2 p : Addr} {H H1 : Hp} {o : HO} (k : K2 T T2 H H1) (np : H p = none) (h1 : p ≠ T) (h2 : p ≠ T2) : K2 T T2 H (L2.upd H1 p o) :=
  ⟨k.t1, tab_upd k.t1' h1, k.t2, tab_upd k.t2' h2, fun b o' n m e => by rw [upd_ne (fun z => by rw [z, np] at e; cases e)]; exact k.keep b o' n m e⟩
/-- what the answers are asked of: a shop and rows that hold the same, a wish and a copy of it, picks and two dicts that are filled -/
structure RS6 (K : PySem.W.Frag) (C : Addr) (N : List Addr) (H : Hp) (p D : Addr) (st : List Shelf) (r : Addr) (cl : List Shelf) (q : Addr) (xs : List V) (ds : List PyData) (h0 h1 : Addr) (k1 : List (Str × Int)) (h2 : Addr) (k2 : List (Str × Int)) (hh pl : Addr) (vs : List V) (pks : List (List (Str × Int))) : Prop where
  S : ShopAt K C [] H p D st
  B : BoxOk K [] H r cl
  hq : SqL K H q xs
  hd : DpAll K H xs ds
  e0 : H h0 = some (.lst xs)
  e1 : H h1 = some (.dK (pkD k1))
  e2 : H h2 = some (.dK (pkD k2))
  eh : H hh = some (.lst [.ref h0, .ref h1, .ref h2])
  eP : SqL K H pl vs
  hP : Paired (PkV (h1 :: h2 :: N) H) vs pks
  f1 : h1 ∉ foot D st
  g1 : h1 ∉ foot r cl
  f2 : h2 ∉ foot D st
  g2 : h2 ∉ foot r cl
  ne : h1 ≠ h2
section
variable {K : PySem.W.Frag} {C : Addr} {N : List Addr} {H : Hp} {p D : Addr} {st : List Shelf} {r : Addr} {cl : List Shelf} {q : Addr} {xs : List V} {ds : List PyData} {h0 h1 : Addr} {k1 : List (Str × Int)} {h2 : Addr} {k2 : List (Str × Int)} {hh pl : Addr} {vs : List V} {pks : List (List (Str × Int))}
theorem RS6.kp {T : Addr} {H' : Hp} (X : RS6 K C N H p D st r cl q xs ds h0 h1 k1 h2 k2 hh pl vs pks) (k : Kp T H H') : RS6 K C N H' p D st r cl q xs ds h0 h1 k1 h2 k2 hh pl vs pks :=
  ⟨X.S.keptP k, X.B.keptP k, k.seq X.hq, k.dpAll _ _ X.hd, k.lst X.e0, dict_kp k X.e1, dict_kp k X.e2, k.lst X.eh, k.seq X.eP, paired_mono (fun _ _ => PkV.kept k) X.hP, X.f1, X.g1, X.f2, X.g2, X.ne⟩
theorem RS6.k2' {T T2 : Addr} {H' : Hp} (X : RS6 K C N H p D st r cl q xs ds h0 h1 k1 h2 k2 hh pl vs pks) (k : K2 T T2 H H') : RS6 K C N H' p D st r cl q xs ds h0 h1 k1 h2 k2 hh pl vs pks :=
  k.lift (p := fun H => RS6 K C N H p D st r cl q xs ds h0 h1 k1 h2 k2 hh pl vs pks) (fun _ _ _ k h => h.kp k) X
theorem seq_upd {a d : Addr} {xs : List V} {kvs : List (Key × V)} {o : HO} (hd : H d = some (.dK kvs)) (h : SqL K H a xs) : SqL K (L2.upd H d o) a xs := seq_mono (fun b u hs e => by rw [upd_ne (fun z => by rw [z, hd] at e; cases e; cases hs)]; exact e) h
theorem RS6.set1 {T : Addr} (X : RS6 K C N H p D st r cl q xs ds h0 h1 k1 h2 k2 hh pl vs pks) (t : GxR.TabG H T) (k' : List (Str × Int)) : RS6 K C N (L2.upd H h1 (.dK (pkD k'))) p D st r cl q xs ds h0 h1 k' h2 k2 hh pl vs pks := by
  have kx : Kx T [h1] H (L2.upd H h1 (.dK (pkD k'))) := Kx.upd t (tab_ne t X.e1 fun _ z => by cases z) (List.mem_singleton.mpr rfl)
  have hF : ∀ f ∈ [h1], f ∈ ([] : List Addr) ∨ ∃ kvs, H f = some (.dK kvs) := fun f hf => .inr (by rw [List.mem_singleton.mp hf]; exact ⟨_, X.e1⟩)
  have hl : ∀ {b : Addr} {us : List V}, H b = some (.lst us) → L2.upd H h1 (.dK (pkD k')) b = some (.lst us) := fun {b us} e => by rw [upd_ne (fun z => by rw [z, X.e1] at e; cases e)]; exact e
  exact ⟨X.S.kept kx hF (fun f hf hz => by cases hz) fun f hf z => X.f1 (by rw [← List.mem_singleton.mp z]; exact hf), X.B.kept kx hF fun f hf z => X.g1 (by rw [← List.mem_singleton.mp z]; exact hf), seq_upd X.e1 X.hq, dpAll_kx0 kx (fun f hf => by rw [List.mem_singleton.mp hf]; exact ⟨_, X.e1⟩) X.hd, hl X.e0, upd_same, by rw [upd_ne X.ne.symm]; exact X.e2, hl X.eh, seq_upd X.e1 X.eP, paired_mono (fun _ _ => PkV.upd (List.mem_cons_self ..)) X.hP, X.f1, X.g1, X.f2, X.g2, X.ne⟩
theorem RS6.set2 {T : Addr} (X : RS6 K C N H p D st r cl q xs ds h0 h1 k1 h2 k2 hh pl vs pks) (t : GxR.TabG H T) (k' : List (Str × Int)) : RS6 K C N (L2.upd H h2 (.dK (pkD k'))) p D st r cl q xs ds h0 h1 k1 h2 k' hh pl vs pks := by
  have kx : Kx T [h2] H (L2.upd H h2 (.dK (pkD k'))) := Kx.upd t (tab_ne t X.e2 fun _ z => by cases z) (List.mem_singleton.mpr rfl)
  have hF : ∀ f ∈ [h2], f ∈ ([] : List Addr) ∨ ∃ kvs, H f = some (.dK kvs) := fun f hf => .inr (by rw [List.mem_singleton.mp hf]; exact ⟨_, X.e2⟩)
  have hl : ∀ {b : Addr} {us : List V}, H b = some (.lst us) → L2.upd H h2 (.dK (pkD k')) b = some (.lst us) := fun {b us} e => by rw [upd_ne (fun z => by rw [z, X.e2] at e; cases e)]; exact e
  exact ⟨X.S.kept kx hF (fun f hf hz => by cases hz) fun f hf z => X.f2 (by rw [← List.mem_singleton.mp z]; exact hf), X.B.kept kx hF fun f hf z => X.g2 (by rw [← List.mem_singleton.mp z]; exact hf), seq_upd X.e2 X.hq, dpAll_kx0 kx (fun f hf => by rw [List.mem_singleton.mp hf]; exact ⟨_, X.e2⟩) X.hd, hl X.e0, by rw [upd_ne X.ne]; exact X.e1, upd_same, hl X.eh, seq_upd X.e2 X.eP, paired_mono (fun _ _ => PkV.upd (List.mem_cons_of_mem _ (List.mem_cons_self ..))) X.hP, X.f1, X.g1, X.f2, X.g2, X.ne⟩
theorem RS6.call {T T2 : Addr} {σ : L2.St} {Q : VK} (X : RS6 K C N H p D st r cl q xs ds h0 h1 k1 h2 k2 hh pl vs pks) (hp : σ[0]? = some (some (.ref p))) (h5 : σ[5]? = some (some (.ref hh))) (G : RowsG 3 cl) (h4 : cl.length ≤ 4) (dt : dataOf st = dataOf cl) (nd : ∀ d ∈ ds, ND d) (h8 : ds.length ≤ 8) (O1 : PickOk (dataOf cl) k1) (O2 : PickOk (dataOf cl) k2) (M1 : Mets (dataOf cl) ds k1) (M2 : Mets (dataOf cl) ds k2) (t : GxR.TabG H T) (t2 : GxR.TabG H T2)
    (z : ∀ out H', AgOf (needW (dataOf cl) k1) (addW [] (ds.map wOf)) 0 out → K2 T T2 H H' → Q (.bl (aheadB k1 k2 out)) H') :
    tCall (spNewer K C T T2) [] E0 (tCons (tVar 0) (tCons (tOp (rIxL K) (tVar 5) (tC (.int 0))) (tCons (tOp (rIxL K) (tVar 5) (tC (.int 1))) (tCons (tOp (rIxL K) (tVar 5) (tC (.int 2))) tNil)))) σ H Q := by
  refine ⟨_, hp, _, h5, hh, _, 0, _, rfl, rfl, .inl (.inl X.eh), at_gen (j := 0) rfl rfl, _, h5, hh, _, 1, _, rfl, rfl, .inl (.inl X.eh), at_gen (j := 1) rfl rfl, _, h5, hh, _, 2, _, rfl, rfl, .inl (.inl X.eh), at_gen (j := 2) rfl rfl, [], p, D, h0, h1, h2, st, xs, ds, k1, k2, rfl, X.S, by rw [dt]; exact G.good (by decide), (fun x hx => by cases hx), .inl (.inl X.e0), X.hd, nd, h8, X.e1, X.e2, X.f1, X.f2, by rw [dt]; exact O1, by rw [dt]; exact O2, Nat.le_trans O1.le (by omega), Nat.le_trans O2.le (by omega), by rw [dt]; exact M1, by rw [dt]; exact M2, t, t2, ?_⟩
  rw [dt]
  exact z
end
theorem small_all : ∀ n : Fin 257, Builtin.Range.small 0 (n.val : Int) (1 + (n.val : Int) / 8) = true := by decide +kernel
theorem rg_all {n : Nat} (h : n ≤ 256) : ∃ m : Nat, RgC 0 (n : Int) (1 + (n : Int) / 8) m ∧ ∀ i : Nat, i < m → 0 + (i : Int) * (1 + (n : Int) / 8) < (n : Int) := by
  obtain ⟨c, ec⟩ : ∃ c : Int, c = 1 + (n : Int) / 8 := ⟨_, rfl⟩
  have hc : 1 ≤ c := by omega
  have hs := small_all ⟨n, by omega⟩
  refine ⟨(Builtin.Range.rangeSize 0 (n : Int) (1 + (n : Int) / 8)).toNat, ⟨by omega, by omega, hs, rangeSize_toNat _ _ _⟩, fun i hi => ?_⟩
  rw [← ec] at hi ⊢
  have hz : (i : Int) < Builtin.Range.rangeSize 0 (n : Int) c := by have := rangeSize_toNat 0 (n : Int) c; omega
  unfold Builtin.Range.rangeSize at hz
  rw [if_pos (by omega)] at hz
  by_cases h0 : (0 : Int) < (n : Int)
  · rw [if_pos h0] at hz
    have h1 : (i : Int) ≤ ((n : Int) - 0 - 1) / c := by omega
    have h2 := Int.mul_le_mul_of_nonneg_right h1 (show 0 ≤ c by omega)
    have h3 := Int.ediv_mul_le ((n : Int) - 0 - 1) (show c ≠ 0 by omega)
    omega
  · rw [if_neg h0] at hz
    omega
section
variable {P : Program} {w : World} {K : PySem.W.Frag} {mg : Str → Option Value} {base : Heap}
def allRN : List Str := ["_law_shop_here", "_law_rows_here", "_law_wish_here", "_law_picks", "_law_step", "_law_handed", "_law_one", nOther, "_law_k", "_law_found"]
theorem scAllR : FnScope allRN ["_law_shop_here", "_law_rows_here", "_law_wish_here"] (defScope sAllR) := ⟨rfl, rfl, rfl, by decide +kernel, rfl, by decide +kernel, by decide +kernel⟩
def spAllR (K : PySem.W.Frag) (C T T2 : Addr) : Sp := fun vs H Q _ => ∃ (p D r q : Addr) (st cl : List Shelf) (xs : List V) (ds : List PyData), vs = [.ref p, .ref r, .ref q] ∧ ShopAt K C [] H p D st ∧ BoxOk K [] H r cl ∧ RowsG 3 cl ∧ cl.length ≤ 4 ∧ dataOf st = dataOf cl ∧ RawB K H cl ∧ SqL K H q xs ∧ DpAll K H xs ds ∧ (∀ d ∈ ds, ND d) ∧ ds.length ≤ 8 ∧
  GxR.TabG H T ∧ GxR.TabG H T2 ∧ ∀ H', K2 T T2 H H' → Q (.bl true) H'
theorem ok_allr {f fG fM fQ T : Addr} {fd fdG fdM fdQ : FuncData} {C T2 : Addr} (F : Fun K "_law_all_right" "_law_all_right" sAllR f fd)
    (GQ : FnOk P w K mg base CX0 3 fQ fdQ ["_law_rows_here", "_law_wish_here"] (spAllP K T)) (kQ : PySem.W.keepIn K (.ref fQ) = true) (bQ : Binds K fdQ ["_law_rows_here", "_law_wish_here"] []) (gQ : mg "_law_all_picks" = some (.ref fQ))
    (GG : FnOk P w K mg base CX0 7 fG fdG ["shop", "wish", "one", "other"] (spNewer K C T T2)) (kG : PySem.W.keepIn K (.ref fG) = true) (bG : Binds K fdG ["shop", "wish", "one", "other"] []) (gG : mg "newer" = some (.ref fG))
    (GM : FnOk P w K mg base CX0 2 fM fdM ["_law_rows_here", "_law_wish_here", "_law_one", nOther] (spAhead K T)) (kM : PySem.W.keepIn K (.ref fM) = true) (bM : Binds K fdM ["_law_rows_here", "_law_wish_here", "_law_one", nOther] []) (gM : mg "_law_ahead" = some (.ref fM))
    (y_list : mg "list" = none) (y_len : mg "len" = none) (y_range : mg "range" = none) (y_isinstance : mg "isinstance" = none) (y_bool : mg "bool" = none) : FnOk P w K mg base CX0 8 f fd ["_law_shop_here", "_law_rows_here", "_law_wish_here"] (spAllR K C T T2) := by
  refine F.ok scAllR (fun vs H Q E h => ?_) (fun cdv A0 outer s H vs Q E hr h => ?_)
  · obtain ⟨p, D, r, q, st, cl, xs, ds, rfl, _⟩ := h
    rfl
  · obtain ⟨p, D, r, q, st, cl, xs, ds, rfl, S, B, G, h4, dt, hR, hq, hd, nd, h8, t, t2, fin⟩ := h
    have hu := hu_of hr
    refine ⟨_, (pss_cons (ps_set (i := 3) scAllR.nd rfl (by first | exact .inl rfl | exact .inr rfl) (pe_call GQ (hr.mono (by decide)) (by rfl) gQ kQ bQ .nil pass0 (pa_cons (pv 1) (pa_cons (pv 2) pa_nil))))
      (pss_cons (ps_set (i := 4) scAllR.nd rfl (by first | exact .inl rfl | exact .inr rfl) (pe_op op_add pe_int (pe_op op_fdiv (pe_callB call_len_seq (by rfl) y_len PySem.boot_len (pa_cons (pv 3) pa_nil)) pe_int)))
      (pss_cons (ps_set (i := 3) scAllR.nd rfl (by first | exact .inl rfl | exact .inr rfl) (pe_lc (own := [("_law_k", 8)]) (g := (gName 8)) (tt := tYes) rfl scAllR.nd (pi_range3 (by rfl) y_range (pa_cons pe_int (pa_cons (pe_callB call_len_seq (by rfl) y_len PySem.boot_len (pa_cons (pv 3) pa_nil)) (pa_cons (pv 4) pa_nil)))) (blkOk_by (own := [("_law_k", 8)]) (N := allRN) (sc := defScope sAllR) (by decide +kernel)) (fun _ _ _ _ _ => (pg_name (i := 8) scAllR.nd rfl (by first | exact Or.inl rfl | exact Or.inr rfl))) (fun _ _ _ _ _ => pts_nil) (fun _ _ _ _ _ => (pe_ix (r := rIxL K) ix_list (pv 3) (pv 8) (fun _ _ => rfl)))))
      (pss_cons (ps_set (i := 5) scAllR.nd rfl (by first | exact .inl rfl | exact .inr rfl) (pe_lst (pa_cons (pe_callTy call_list_of (by rfl) y_list boot_list (pa_cons (pv 2) pa_nil)) (pa_cons pe_dnewK (pa_cons pe_dnewK pa_nil)))))
      (pss_cons (ps_for PassesOwn.never rfl (pi_list (pv 3)) (pg_name (i := 6) scAllR.nd rfl (by first | exact .inl rfl | exact .inr rfl)) (pss_one (ps_for PassesOwn.never rfl (pi_list (pv 3)) (pg_name (i := 7) scAllR.nd rfl (by first | exact .inl rfl | exact .inr rfl)) (pss_cons (ps_for PassesOwn.never rfl (pi_range1 (by rfl) y_range (pa_cons pe_int pa_nil)) (pg_name (i := 8) scAllR.nd rfl (by first | exact .inl rfl | exact .inr rfl)) (pss_cons (ps_expr (pe_dclear (pe_ix ix_list (pv 5) (pe_op op_add pe_int (pv 8)) (fun _ _ => rfl))))
      (pss_one (ps_expr (pe_bm PySem.F.plainAttrs_dict PySem.F.slot_dict_update PySem.F.type_dict_update mtd_update (pe_ix ix_list (pv 5) (pe_op op_add pe_int (pv 8)) (fun _ _ => rfl)) (pa_cons (pe_ix ix_list (pe_lst (pa_cons (pv 6) (pa_cons (pv 7) pa_nil))) (pv 8) (fun _ _ => rfl)) pa_nil))))))
      (pss_cons (ps_set (i := 9) scAllR.nd rfl (by first | exact .inl rfl | exact .inr rfl) (pe_call GG (hr.mono (by decide)) (by rfl) gG kG bG .nil pass0 (pa_cons (pv 0) (pa_cons (pe_ix ix_list (pv 5) pe_int (fun _ _ => rfl)) (pa_cons (pe_ix ix_list (pv 5) pe_int (fun _ _ => rfl)) (pa_cons (pe_ix ix_list (pv 5) pe_int (fun _ _ => rfl)) pa_nil))))))
      (pss_cons (ps_if (PW.pt (pw_or (pt_not (pt_val (pe_callB call_isi (by rfl) y_isinstance boot_isinstance (pa_cons (pv 9) (pa_cons (pe_bltn (v := .ty "bool") (by rfl) y_bool boot_bool rfl) pa_nil))))) (pw_or1 (pt_cmpR (op_neD hr.units) (pv 9) (pe_call GM (hr.mono (by decide)) (by rfl) gM kM bM .nil pass0 (pa_cons (pv 1) (pa_cons (pv 2) (pa_cons (pv 6) (pa_cons (pv 7) pa_nil))))) (nomark _))))) (pss_one (ps_ret pe_bl)) pss_nil)
      (pss_one (ps_if (pt_cmpR (op_neH (room66 hr)) (pv 5) (pe_lst (pa_cons (pv 2) (pa_cons (pv 6) (pa_cons (pv 7) pa_nil)))) (nomark _)) (pss_one (ps_ret pe_bl)) pss_nil))))))))
      (pss_one (ps_ret pe_bl))))))), ?_⟩
    have shd := shaped_nd nd
    have shb : ∀ b : Bool, SeqAt.shaped (.bool b) = true := fun b => by cases b <;> rfl
    have fdn : ∀ f ∈ foot D st ++ foot r cl, H f ≠ none := fun f hf z => by
      rcases List.mem_append.mp hf with hf | hf
      · obtain ⟨kvs, e⟩ := S.bx.foot_dict f hf; rw [z] at e; cases e
      · obtain ⟨kvs, e⟩ := B.foot_dict f hf; rw [z] at e; cases e
    -- the picks
    refine ⟨_, rfl, _, rfl, [], r, q, cl, xs, ds, rfl, B, G, h4, hq, hd, nd, h8, hR, t, fun l us pks H1 k1 nl el hP hO h256 => ?_⟩
    have hP1 : Paired (PkV (foot D st ++ foot r cl) H1) us pks := paired_mono (fun v pk h => by
      obtain ⟨a, e, n, h⟩ := h
      exact ⟨a, e, fun z => fdn a z n, h⟩) hP
    clear hP
    have lus := paired_len hP1
    refine ⟨_, rfl, l, us, rfl, .inl (.inl (.inl el)), _, 8, rfl, rfl, ⟨by decide, by decide⟩, 1, _, rfl, rfl, ?_⟩
    obtain ⟨m, hRg, hlt⟩ := rg_all (n := us.length) (by omega)
    refine ⟨_, rfl, l, us, rfl, .inl (.inl (.inl el)), _, rfl, 0, _, _, m, rfl, hRg, fun W nW => ?_⟩
    have WT := tab_nn k1.tab nW
    have hm : m ≤ 256 := by
      cases m with
      | zero => omega
      | succ m =>
        have z := hlt m (by omega)
        have z2 : (m : Int) * 1 ≤ (m : Int) * (1 + (us.length : Int) / 8) := Int.mul_le_mul_of_nonneg_left (by omega) (by omega)
        omega
    refine lc_it walk_rangeC (fun i H' => Kp T H1 H' ∧ ∃ ws wp, H' W = some (.lst ws) ∧ Paired (PkV (foot D st ++ foot r cl) H') ws wp ∧ (∀ pk ∈ wp, PickOk (dataOf cl) pk ∧ Mets (dataOf cl) ds pk) ∧ wp.length ≤ i) ⟨Kp.new k1.tab nW, [], [], upd_same, .nil, (fun pk hp => by cases hp), Nat.le_refl _⟩ (fun i H' _ _ => True.intro) (fun i x H' H'' hi hv hy => ?_) (fun H2 hv => ?_)
    · obtain ⟨kk, ws, wp, eW, hW, hOw, hlw⟩ := hv
      obtain ⟨rfl, rfl⟩ := hy
      obtain ⟨j, ej, hj⟩ : ∃ j : Nat, 0 + (i : Int) * (1 + (us.length : Int) / 8) = (j : Int) ∧ j < pks.length := by
        have z := hlt i hi
        have z2 : 0 ≤ (i : Int) * (1 + (us.length : Int) / 8) := Int.mul_nonneg (by omega) (by omega)
        exact ⟨(0 + (i : Int) * (1 + (us.length : Int) / 8)).toNat, by omega, by omega⟩
      obtain ⟨v, ev, pv⟩ := paired_get hP1 (List.getElem?_eq_getElem hj)
      have Oj := hO _ (List.getElem_mem hj)
      generalize pks[j] = pk at pv Oj
      have at1 : atI us (0 + (i : Int) * (1 + (us.length : Int) / 8)) = some v := by rw [ej]; exact atI_nat ev
      refine ⟨rfl, tYes_if ?_⟩
      have hlw2 := paired_len hW
      refine ⟨_, rfl, _, rfl, l, us, _, v, rfl, rfl, .inl (.inl (kk.lst el)), at1, ws, eW, small1000 (by omega), kk.set nW WT, _, wp ++ [pk], upd_same, paired_app2 (paired_mono (fun _ _ => PkV.set eW) hW) (.cons (PkV.set eW (pv.kept kk)) .nil), fun y hy => ?_, by rw [List.length_append, List.length_singleton]; omega⟩
      rcases List.mem_append.mp hy with hy | hy
      · exact hOw y hy
      · rw [List.mem_singleton.mp hy]; exact Oj
    · obtain ⟨kk, ws, wp, eW, hW, hOw, hlw⟩ := hv
      have k02 := k1.trans kk
      clear hP1 hO hlt hRg el nl h256 lus
      -- the copies
      refine ⟨_, rfl, q, xs, rfl, .inl (k02.seq hq), fun h0 n0 => ?_⟩
      have k3 := Kp.new (o := HO.lst xs) k02.tab n0
      have e0 : upd H2 h0 (.lst xs) h0 = some (.lst xs) := upd_same
      have k03 := k02.trans k3
      have eW3 := k3.lst eW
      have hW3 := paired_mono (S := PkV (foot D st ++ foot r cl) (upd H2 h0 (.lst xs))) (fun _ _ => PkV.kept k3) hW
      generalize upd H2 h0 (.lst xs) = H3 at k3 e0 k03 eW3 hW3 ⊢
      intro h1 n1
      have k4 := Kp.new (o := HO.dK []) k03.tab n1
      have e1 : upd H3 h1 (.dK []) h1 = some (.dK (pkD [])) := upd_same
      have n1H := k03.free n1
      have h1T := tab_nn k03.tab n1
      have h1T2 := tab_nn (K2.of k03 t2).t2' n1
      have k04 := k03.trans k4
      have e04 := k4.lst e0
      have eW4 := k4.lst eW3
      have hW4 : Paired (PkV (h1 :: (foot D st ++ foot r cl)) (upd H3 h1 (.dK []))) ws wp := paired_mono (fun v pk h => by
        obtain ⟨a, e, n, h⟩ := h
        refine ⟨a, e, fun z => ?_, dict_kp k4 h⟩
        rcases List.mem_cons.mp z with z | z
        · rw [z, n1] at h; cases h
        · exact n z) hW3
      generalize upd H3 h1 (.dK []) = H4 at k4 e1 k04 e04 eW4 hW4 ⊢
      intro h2 n2
      have k5 := Kp.new (o := HO.dK []) k04.tab n2
      have e2 : upd H4 h2 (.dK []) h2 = some (.dK (pkD [])) := upd_same
      have n2H := k04.free n2
      have h2T := tab_nn k04.tab n2
      have h2T2 := tab_nn (K2.of k04 t2).t2' n2
      have k05 := k04.trans k5
      have e05 := k5.lst e04
      have e15 := dict_kp k5 e1
      have eW5 := k5.lst eW4
      have ne12 : h1 ≠ h2 := fun z => by rw [← z, e1] at n2; cases n2
      have hW5 : Paired (PkV (h1 :: h2 :: (foot D st ++ foot r cl)) (upd H4 h2 (.dK []))) ws wp := paired_mono (fun v pk h => by
        obtain ⟨a, e, n, h⟩ := h
        refine ⟨a, e, fun z => ?_, dict_kp k5 h⟩
        rcases List.mem_cons.mp z with z | z
        · exact n (by rw [z]; exact List.mem_cons_self ..)
        · rcases List.mem_cons.mp z with z | z
          · rw [z, n2] at h; cases h
          · exact n (List.mem_cons_of_mem _ z)) hW4
      generalize upd H4 h2 (.dK []) = H5 at k5 e2 k05 e05 e15 eW5 hW5 ⊢
      refine ⟨(by show (3 : Nat) ≤ sizeLine; decide), fun hh nh => ?_⟩
      have k6 := Kp.new (o := HO.lst [.ref h0, .ref h1, .ref h2]) k05.tab nh
      have eh : upd H5 hh (.lst [.ref h0, .ref h1, .ref h2]) hh = some (.lst [.ref h0, .ref h1, .ref h2]) := upd_same
      have k06 := k05.trans k6
      have fF : ∀ {x : Addr}, H x = none → x ∉ foot D st ∧ x ∉ foot r cl := fun {x} hx => ⟨fun z => fdn x (List.mem_append_left _ z) hx, fun z => fdn x (List.mem_append_right _ z) hx⟩
      have X0 : RS6 K C (foot D st ++ foot r cl) (upd H5 hh (.lst [.ref h0, .ref h1, .ref h2])) p D st r cl q xs ds h0 h1 [] h2 [] hh W ws wp :=
        ⟨S.keptP k06, B.keptP k06, k06.seq hq, k06.dpAll _ _ hd, k6.lst e05, dict_kp k6 e15, dict_kp k6 e2, eh, .inl (.inl (k6.lst eW5)), paired_mono (fun _ _ => PkV.kept k6) hW5, (fF n1H).1, (fF n1H).2, (fF n2H).1, (fF n2H).2, ne12⟩
      have K0 := K2.of k06 t2
      generalize upd H5 hh (.lst [.ref h0, .ref h1, .ref h2]) = H6 at X0 K0 ⊢
      clear k6 eh k06 hW5 eW5 e15 e05 k05 e2 k5 hW4 eW4 e04 k04 e1 k4 hW3 eW3 k03 e0 k3 n0 nh n1 n2 kk eW hW k02 k1
      have lws := paired_len X0.hP
      refine ⟨_, rfl, W, rfl, ⟨_, X0.eP⟩, for_list (K := K) (a := W) (xs := ws) (fun i σ' H' => ∃ (x6 x7 x8 x9 : Option V) (y1 y2 : List (Str × Int)), σ' = [some (.ref p), some (.ref r), some (.ref q), some (.ref W), some (.int (1 + (us.length : Int) / 8)), some (.ref hh), x6, x7, x8, x9] ∧ K2 T T2 H H' ∧ RS6 K C (foot D st ++ foot r cl) H' p D st r cl q xs ds h0 h1 y1 h2 y2 hh W ws wp)
        ⟨none, none, none, none, [], [], rfl, K0, X0⟩ (fun i σ' H' _ ⟨_, _, _, _, _, _, _, _, X⟩ => X.eP) ?_ ?_⟩
      · rintro i v σ' H' hi ⟨x6, x7, x8, x9, y1, y2, rfl, kA, XA⟩
        have hil : i < wp.length := by rw [← lws]; exact (List.getElem?_eq_some_iff.mp hi).1
        obtain ⟨v', ev', a, rfl, na, ea⟩ := paired_get XA.hP (List.getElem?_eq_getElem hil)
        rw [hi] at ev'
        cases ev'
        have Oa := hOw _ (List.getElem_mem hil)
        generalize wp[i] = pk at ea Oa
        have a1 : a ≠ h1 := fun z => na (by rw [z]; exact List.mem_cons_self ..)
        have a2 : a ≠ h2 := fun z => na (by rw [z]; exact List.mem_cons_of_mem _ (List.mem_cons_self ..))
        refine ⟨_, rfl, W, rfl, ⟨_, XA.eP⟩, for_list (K := K) (a := W) (xs := ws) (fun i σ' H' => ∃ (x7 x8 x9 : Option V) (y1 y2 : List (Str × Int)), σ' = [some (.ref p), some (.ref r), some (.ref q), some (.ref W), some (.int (1 + (us.length : Int) / 8)), some (.ref hh), some (.ref a), x7, x8, x9] ∧ K2 T T2 H H' ∧ RS6 K C (foot D st ++ foot r cl) H' p D st r cl q xs ds h0 h1 y1 h2 y2 hh W ws wp ∧ H' a = some (.dK (pkD pk)))
          ⟨x7, x8, x9, y1, y2, rfl, kA, XA, ea⟩ (fun i σ' H' _ ⟨_, _, _, _, _, _, _, X, _⟩ => X.eP) ?_ ?_⟩
        · rintro i2 v σ' H' hi2 ⟨x7, x8, x9, y1, y2, rfl, kB, XB, eaB⟩
          have hil2 : i2 < wp.length := by rw [← lws]; exact (List.getElem?_eq_some_iff.mp hi2).1
          obtain ⟨v', ev', b, rfl, nb, eb⟩ := paired_get XB.hP (List.getElem?_eq_getElem hil2)
          rw [hi2] at ev'
          cases ev'
          have Ob := hOw _ (List.getElem_mem hil2)
          generalize wp[i2] = pk2 at eb Ob
          have b1 : b ≠ h1 := fun z => nb (by rw [z]; exact List.mem_cons_self ..)
          have b2 : b ≠ h2 := fun z => nb (by rw [z]; exact List.mem_cons_of_mem _ (List.mem_cons_self ..))
          refine ⟨2, rfl, by decide, by decide, for_range (lo := 0) (n := 2) (fun j σ' H' => ∃ (x8 : Option V) (y1 y2 : List (Str × Int)), σ' = [some (.ref p), some (.ref r), some (.ref q), some (.ref W), some (.int (1 + (us.length : Int) / 8)), some (.ref hh), some (.ref a), some (.ref b), x8, x9] ∧ K2 T T2 H H' ∧ RS6 K C (foot D st ++ foot r cl) H' p D st r cl q xs ds h0 h1 y1 h2 y2 hh W ws wp ∧ H' a = some (.dK (pkD pk)) ∧ H' b = some (.dK (pkD pk2)) ∧ (1 ≤ j → y1 = pk) ∧ (2 ≤ j → y2 = pk2))
            ⟨x8, y1, y2, rfl, kB, XB, eaB, eb, fun z => by omega, fun z => by omega⟩ ?_ ?_⟩
          · rintro j σ' H5 hj ⟨x8, y1, y2, rfl, k5, X5, ea5, eb5, hy1, hy2⟩
            have hj2 : j = 0 ∨ j = 1 := by omega
            rcases hj2 with rfl | rfl
            · refine ⟨_, rfl, _, rfl, 1, _, rfl, rfl, hh, _, (1 + (0 + ((0 : Nat) : Int))), _, rfl, rfl, .inl (.inl X5.eh), at_gen (j := 1) (by rfl) rfl, .inr (.inr (.inl ⟨rfl, .inl ⟨_, X5.e1⟩⟩)), h1, _, rfl, rfl, X5.e1, ?_⟩
              have X6 := X5.set1 k5.t1' []
              have k6 : K2 T T2 H (upd H5 h1 (.dK (pkD []))) := k5.set n1H h1T h1T2
              have ea6 : upd H5 h1 (.dK (pkD [])) a = some (.dK (pkD pk)) := by rw [upd_ne a1]; exact ea5
              have eb6 : upd H5 h1 (.dK (pkD [])) b = some (.dK (pkD pk2)) := by rw [upd_ne b1]; exact eb5
              have z6 : upd H5 h1 (.dK []) = upd H5 h1 (.dK (pkD [])) := rfl
              rw [z6]
              generalize upd H5 h1 (.dK (pkD [])) = H6 at X6 k6 ea6 eb6 ⊢
              clear z6
              refine ⟨_, rfl, _, rfl, 1, _, rfl, rfl, hh, _, (1 + (0 + ((0 : Nat) : Int))), _, rfl, rfl, .inl (.inl X6.eh), at_gen (j := 1) (by rfl) rfl, .inr (.inr (.inl ⟨rfl, .inl ⟨_, X6.e1⟩⟩)), _, rfl, _, rfl, (by show (2 : Nat) ≤ sizeLine; decide), fun l nl => ?_⟩
              have k7 := Kp.new (o := HO.lst [.ref a, .ref b]) k6.t1' nl
              have el : upd H6 l (.lst [.ref a, .ref b]) l = some (.lst [.ref a, .ref b]) := upd_same
              have X7 := X6.kp k7
              have kk7 := k6.trans (K2.of k7 k6.t2')
              have ea7 := dict_kp k7 ea6
              have eb7 := dict_kp k7 eb6
              generalize upd H6 l (.lst [.ref a, .ref b]) = H7 at k7 el X7 kk7 ea7 eb7 ⊢
              refine ⟨_, rfl, l, _, (0 + ((0 : Nat) : Int)), _, rfl, rfl, .inl (.inl el), at_gen (j := 0) (by rfl) rfl, h1, a, _, rfl, rfl, a1.symm, X7.e1, ea7, ?_⟩
              have X8 := X7.set1 kk7.t1' pk
              have ea8 : upd H7 h1 (.dK (pkD pk)) a = some (.dK (pkD pk)) := by rw [upd_ne a1]; exact ea7
              have eb8 : upd H7 h1 (.dK (pkD pk)) b = some (.dK (pkD pk2)) := by rw [upd_ne b1]; exact eb7
              refine ⟨_, pk, y2, rfl, kk7.set n1H h1T h1T2, X8, ea8, eb8, fun z => ?_, fun z => ?_⟩
              · rfl
              · omega
            · refine ⟨_, rfl, _, rfl, 1, _, rfl, rfl, hh, _, (1 + (0 + ((1 : Nat) : Int))), _, rfl, rfl, .inl (.inl X5.eh), at_gen (j := 2) (by rfl) rfl, .inr (.inr (.inl ⟨rfl, .inl ⟨_, X5.e2⟩⟩)), h2, _, rfl, rfl, X5.e2, ?_⟩
              have X6 := X5.set2 k5.t1' []
              have k6 : K2 T T2 H (upd H5 h2 (.dK (pkD []))) := k5.set n2H h2T h2T2
              have ea6 : upd H5 h2 (.dK (pkD [])) a = some (.dK (pkD pk)) := by rw [upd_ne a2]; exact ea5
              have eb6 : upd H5 h2 (.dK (pkD [])) b = some (.dK (pkD pk2)) := by rw [upd_ne b2]; exact eb5
              have z6 : upd H5 h2 (.dK []) = upd H5 h2 (.dK (pkD [])) := rfl
              rw [z6]
              generalize upd H5 h2 (.dK (pkD [])) = H6 at X6 k6 ea6 eb6 ⊢
              clear z6
              refine ⟨_, rfl, _, rfl, 1, _, rfl, rfl, hh, _, (1 + (0 + ((1 : Nat) : Int))), _, rfl, rfl, .inl (.inl X6.eh), at_gen (j := 2) (by rfl) rfl, .inr (.inr (.inl ⟨rfl, .inl ⟨_, X6.e2⟩⟩)), _, rfl, _, rfl, (by show (2 : Nat) ≤ sizeLine; decide), fun l nl => ?_⟩
              have k7 := Kp.new (o := HO.lst [.ref a, .ref b]) k6.t1' nl
              have el : upd H6 l (.lst [.ref a, .ref b]) l = some (.lst [.ref a, .ref b]) := upd_same
              have X7 := X6.kp k7
              have kk7 := k6.trans (K2.of k7 k6.t2')
              have ea7 := dict_kp k7 ea6
              have eb7 := dict_kp k7 eb6
              generalize upd H6 l (.lst [.ref a, .ref b]) = H7 at k7 el X7 kk7 ea7 eb7 ⊢
              refine ⟨_, rfl, l, _, (0 + ((1 : Nat) : Int)), _, rfl, rfl, .inl (.inl el), at_gen (j := 1) (by rfl) rfl, h2, b, _, rfl, rfl, b2.symm, X7.e2, eb7, ?_⟩
              have X8 := X7.set2 kk7.t1' pk2
              have ea8 : upd H7 h2 (.dK (pkD pk2)) a = some (.dK (pkD pk)) := by rw [upd_ne a2]; exact ea7
              have eb8 : upd H7 h2 (.dK (pkD pk2)) b = some (.dK (pkD pk2)) := by rw [upd_ne b2]; exact eb7
              refine ⟨_, y1, pk2, rfl, kk7.set n2H h2T h2T2, X8, ea8, eb8, fun z => ?_, fun z => ?_⟩
              · exact hy1 (by omega)
              · rfl
          · rintro σ' H5 ⟨x8, y1, y2, rfl, k5, X5, ea5, eb5, hy1, hy2⟩
            obtain rfl := hy1 (by omega)
            obtain rfl := hy2 (by omega)
            refine X5.call rfl rfl G h4 dt nd h8 Oa.1 Ob.1 Oa.2 Ob.2 k5.t1' k5.t2' fun out H7 ag k7 => ?_
            have X7 := X5.k2' k7
            have ea7 := k7.lift (p := fun H => H a = some (.dK (pkD y1))) (fun _ _ _ k h => dict_kp k h) ea5
            have eb7 := k7.lift (p := fun H => H b = some (.dK (pkD y2))) (fun _ _ _ k h => dict_kp k h) eb5
            have kk7 := k5.trans k7
            clear X5 ea5 eb5 k7 k5
            refine ⟨_, rfl, _, .ty "bool", _, _, true, rfl, .ty "bool", tyx_of (Dp.bl (aheadB y1 y2 out)), by rw [kit_bool] <;> rfl, true, rfl, iteF ?_⟩
            refine ⟨_, rfl, _, rfl, _, rfl, _, rfl, _, rfl, [], r, q, a, b, cl, xs, ds, y1, y2, rfl, X7.B, G.good (by decide), X7.hq, X7.hd, nd, h8, ea7, eb7, Oa.1, Ob.1, Oa.2, Ob.2, kk7.t1', fun out' H8 ag' k8 => ?_⟩
            have eo : out = out' := ag.det ag'
            subst eo
            have X8 := X7.kp k8
            have ea8 := dict_kp k8 ea7
            have eb8 := dict_kp k8 eb7
            have kk8 := kk7.trans (K2.of k8 kk7.t2')
            clear X7 ea7 eb7 kk7 k8
            refine ⟨.bool _, .bool _, .bl _, .bl _, shb _, shb _, _, rfl, ?_⟩
            rw [eqv_self (shb _)]
            refine iteF ?_
            refine ⟨_, rfl, _, rfl, _, rfl, _, rfl, (by show (3 : Nat) ≤ sizeLine; decide), fun l nl => ?_⟩
            have k9 := Kp.new (o := HO.lst [.ref q, .ref a, .ref b]) kk8.t1' nl
            have e9 : upd H8 l (.lst [.ref q, .ref a, .ref b]) l = some (.lst [.ref q, .ref a, .ref b]) := upd_same
            have X9 := X8.kp k9
            have ea9 := dict_kp k9 ea8
            have eb9 := dict_kp k9 eb8
            have kk9 := kk8.trans (K2.of k9 kk8.t2')
            generalize upd H8 l (.lst [.ref q, .ref a, .ref b]) = H9 at k9 e9 X9 ea9 eb9 kk9 ⊢
            refine ⟨hh, l, _, _, rfl, rfl, X9.eh, e9, .cons (.dat (dp_lst X9.e0 X9.hd) (.lst X9.hq X9.hd) shd (eqv_self shd)) (.cons (.dct a1.symm X9.e1 ea9 rfl (pkD_vals Oa.1)) (.cons (.dct b2.symm X9.e2 eb9 rfl (pkD_vals Ob.1)) .nil)), _, rfl, iteF ?_⟩
            exact ⟨_, _, _, _, _, rfl, kk9, X9, ea9⟩
        · rintro σ' H' ⟨x7, x8, x9, y1, y2, rfl, kB, XB, eaB⟩
          exact ⟨_, _, _, _, _, _, rfl, kB, XB⟩
      · rintro σ' H' ⟨x6, x7, x8, x9, y1, y2, rfl, kA, XA⟩
        exact fin H' kA
end
end Pk

set_option Elab.async false
set_option linter.all false
set_option maxRecDepth 100000
set_option maxHeartbeats 4000000
namespace PySem.SeqAt
open AutoSeq1 (wpAny_loadPart')
open MeetsSeq MeetsSeq2 MeetsSeq3 SeqRoads2
namespace InL
/-! ### x in xs for a list, for one program and one world: what is told if it is found -/
section
variable {prog : Program} {w : World} (p : Addr) (xs : Array Value) (cx : Nat) (dx : Option Addr) (tx : Array (Option Value)) (x : Value) (G : Value → Prop)
structure One (s : Shared) (A : Around) : Prop where
  hx : s.heap.get? p = some { cls := .type "list", dict := dx, data := .seq xs cx, slots := tx }
  he : ∀ y, y ∈ xs → ∃ t : Bool, EqIn prog w A.in1 s y x t ∧ (t = true → G y)
theorem loop : ∀ m i : Nat, xs.size - i = m →
    MeetsIn prog w (Builtin.«list.__contains__.loop» ⟨[.ref p, x, rawInt i], []⟩) (fun A R s => One (prog := prog) (w := w) p xs cx dx tx x G s A ∧ ∀ t : Bool, (t = true → ∃ y ∈ xs, G y) → R (.ok (.ret (.bool t))) s)
  | 0, i, hk => by
    intro A R s h
    obtain ⟨⟨u1, u3⟩, r⟩ := h
    obtain ⟨hp, g, d, tk, os⟩ := s
    wp_walk using wpAny_loadPart' u1
    have o1 : xs[((i : Nat) : Int).toNat]? = none := by simp; omega
    rw [o1]
    wp_walk
    exact r false fun z => by cases z
  | m + 1, i, hk => by
    intro A R s h
    obtain ⟨⟨u1, u3⟩, r⟩ := h
    obtain ⟨hp, g, d, tk, os⟩ := s
    wp_walk using wpAny_loadPart' u1
    have lx : i < xs.size := by omega
    have o1 : xs[((i : Nat) : Int).toNat]? = some xs[i] := by simp [lx]
    have oc : ((i : Int) + 1) = ((i + 1 : Nat) : Int) := by omega
    rw [o1]
    obtain ⟨t, u4, u5⟩ := u3 xs[i] (Array.getElem_mem lx)
    refine wpAny_bind (u4 _ _ ?_)
    cases t with
    | true =>
      wp_walk
      exact r true fun _ => ⟨xs[i], Array.getElem_mem lx, u5 rfl⟩
    | false =>
      wp_walk
      rw [oc]
      have go := loop m (i + 1) (by omega) A R _ ⟨⟨u1, u3⟩, r⟩
      exact ⟨plainId_quiet plain_contains_loop _, codeAny_builtin entry_contains_loop (by rw [Around.under_plainId plain_contains_loop _]; exact go)⟩
theorem has : MeetsIn prog w (Builtin.«list.__contains__» ⟨[.ref p, x], []⟩) (fun A R s => One (prog := prog) (w := w) p xs cx dx tx x G s A ∧ ∀ t : Bool, (t = true → ∃ y ∈ xs, G y) → R (.ok (.ret (.bool t))) s) := by
  intro A R s h
  obtain ⟨t, r⟩ := h
  obtain ⟨u1, u3⟩ := id t
  obtain ⟨hp, g, d, tk, os⟩ := s
  wp_walk using wpAny_loadPart' u1
  have go := loop p xs cx dx tx x G _ 0 rfl A R _ ⟨t, r⟩
  exact ⟨plainId_quiet plain_contains_loop _, codeAny_builtin entry_contains_loop (by rw [Around.under_plainId plain_contains_loop _]; exact go)⟩
end
theorem inL {prog : Program} {w : World} {A : Around} {s : Shared} {E : Value → Shared → Prop} {p : Addr} {xs : Array Value} {x : Value} (G : Value → Prop) {Q : Value → Shared → Prop} (h1 : s.heap.IsList p xs)
    (he : ∀ y, y ∈ xs → ∃ t : Bool, EqIn prog w A.in1 s y x t ∧ (t = true → G y)) (h : ∀ t : Bool, (t = true → ∃ y ∈ xs, G y) → Q (.bool t) s) : wpAny (model prog w) A (compareOp .In x (.ref p)) Q E s := by
  obtain ⟨⟨c1, d1, a1, t1⟩, o1, k1, n1, e1⟩ := id h1
  simp only at k1 e1
  subst k1 e1
  show wpAny _ A (do return .bool (← contains (.ref p) x)) Q E s
  refine wpAny_bind (wpAny_contains_slot ⟨_, o1, rfl⟩ F.slot_list_contains (call_meetsIn F.slot_list_contains ⟨_, o1, rfl⟩ F.entry_list_contains (F.args_list_contains_2 _ _) (has p xs n1 d1 t1 x G) ⟨⟨o1, he⟩, fun t z => ?_⟩))
  exact wpAny_truthy_bool (wpAny_pure (h t z))
end InL
end PySem.SeqAt
namespace Pk
open PySem PySem.Spec PyProof.Rows L2
/-- the items of one dict found in another, if they are told to be alike -/
theorem hits_int {A : Around} {s : Shared} {ks : List (Key × V)} {vb : List (Key × Value)} (rb : KV ks vb) (hb : ∀ p ∈ ks, ∃ m, p.2 = V.int m) {ls : List (Key × V)} {va : List (Key × Value)} (ra : KV ls va) :
    (∀ p ∈ ls, ∃ m, p.2 = V.int m) → ∃ t : Bool, PySem.W.KeqHits A s vb va t ∧ (t = true → ∀ p ∈ ls, valV ks p.1 = some p.2) := by
  unfold KV at ra
  induction ra with
  | nil => exact fun _ => ⟨true, .nil, fun _ p hp => by cases hp⟩
  | @cons p q ps qs h t ih =>
    intro hl
    obtain ⟨h1, h2⟩ := h
    obtain ⟨b, k1, k2⟩ := ih fun p' hm => hl p' (List.mem_cons_of_mem _ hm)
    obtain ⟨m, em⟩ := hl p (List.mem_cons_self ..)
    obtain ⟨k, v⟩ := q
    have h1' : p.1 = k := h1
    have rr := rb.val k
    cases ev : valV ks k with
    | none => exact ⟨false, .miss (RelO.none_of (by rw [ev] at rr; exact rr)), fun z => by cases z⟩
    | some y =>
      have ry : RelO (some y) (valueAt vb k) := by rw [← ev]; exact rr
      obtain ⟨u, hu, ru⟩ := ry.some_of
      obtain ⟨m2, e2⟩ : ∃ m2, y = V.int m2 := by
        unfold valV at ev
        obtain ⟨e, he, rfl⟩ := Option.map_eq_some_iff.mp ev
        exact hb e (List.mem_of_find?_eq_some he)
      subst e2
      rw [em] at h2
      obtain ⟨t1, hv⟩ : ∃ t1, v = Value.int m t1 := h2
      obtain ⟨t2, hu2⟩ : ∃ t2, u = Value.int m2 t2 := ru
      subst hv hu2
      refine ⟨(m == m2) && b, .hit hu (SeqAt.EqAt.int_int m t1 m2 t2) k1, fun z p' hp' => ?_⟩
      rw [Bool.and_eq_true] at z
      rcases List.mem_cons.mp hp' with hp' | hp'
      · rw [hp', h1', ev, em, (eq_of_beq z.1 : m = m2)]
      · exact k2 z.2 p' hp'
def rInH : R2 := fun x y H Q => ∃ a b xs ks, x = .ref a ∧ y = .ref b ∧ H a = some (.dK ks) ∧ (∀ p ∈ ks, ∃ m, p.2 = V.int m) ∧ H b = some (.lst xs) ∧ (∀ v ∈ xs, ∃ c ls, v = .ref c ∧ H c = some (.dK ls) ∧ ∀ p ∈ ls, ∃ m, p.2 = V.int m) ∧
  ∀ t : Bool, (t = true → ∃ c ls, V.ref c ∈ xs ∧ H c = some (.dK ls) ∧ ls.length = ks.length ∧ (c = a ∨ ∀ p ∈ ls, valV ks p.1 = some p.2)) → Q (.bl t) H
theorem op_inH {X : Cx} (hu : X.A.units + 66 < cLine) : OpR X (compareOp .In) rInH := by
  intro pins s σ H x y v u Q I rx ry h
  obtain ⟨a, b, xs, ks, rfl, rfl, ea, hka, eb, hx, q⟩ := h
  obtain rfl : v = Value.ref a := rx
  obtain rfl : u = Value.ref b := ry
  obtain ⟨_, ib, nb, vb, ob⟩ := (show ObjOk X.prog X.w H s.heap b (.lst xs) from I.hok b _ eb)
  obtain ⟨_, ya, wa, ra, da⟩ := (show ObjOk X.prog X.w H s.heap a (.dK ks) from I.hok a _ ea)
  have lx := vals_lenQ vb
  refine SeqAt.InL.inL (p := b) (xs := ib.toArray) (fun y => ∃ c ls, y = Value.ref c ∧ V.ref c ∈ xs ∧ H c = some (.dK ls) ∧ ls.length = ks.length ∧ (c = a ∨ ∀ p ∈ ls, valV ks p.1 = some p.2)) ⟨_, ob, rfl, _, rfl⟩ (fun y hy => ?_) fun t z => ?_
  · have hy' : y ∈ ib := by simpa using hy
    obtain ⟨j, hj⟩ := List.mem_iff_getElem?.mp hy'
    have hjl := (List.getElem?_eq_some_iff.mp hj).1
    have xj : xs[j]? = some xs[j] := List.getElem?_eq_getElem (by omega)
    have r1 := vals_at vb xj hj
    have hm := List.getElem_mem (show j < xs.length by omega)
    generalize xs[j] = v1 at r1 hm
    obtain ⟨c, ls, rfl, ec, hls⟩ := hx v1 hm
    obtain rfl : y = Value.ref c := r1
    by_cases hca : c = a
    · subst hca
      rw [ea] at ec
      cases ec
      exact ⟨true, (SeqAt.EqAt.same _).inModel X.prog X.w, fun _ => ⟨c, ks, rfl, hm, ea, rfl, .inl rfl⟩⟩
    · obtain ⟨_, yc, wc, rc, dc⟩ := (show ObjOk X.prog X.w H s.heap c (.dK ls) from I.hok c _ ec)
      obtain ⟨t, k1, k2⟩ := hits_int (A := X.A.in1.in1) (s := s) ra hka rc hls
      refine ⟨wc.length == wa.length && t, SeqAt.EqIn.of_refs hca fun E Q h => ?_, fun z => ?_⟩
      · exact PySem.W.keq_eq (knd := mixKind X.prog X.w) (r := t) yc ya dc da (by show X.A.units + 1 < _; omega) (fun _ => k1) h
      · rw [Bool.and_eq_true] at z
        exact ⟨c, ls, rfl, hm, ec, by rw [rc.length, ra.length]; exact eq_of_beq z.1, .inr (k2 z.2)⟩
  · refine ⟨.bl t, H, I, rfl, q t fun e => ?_⟩
    obtain ⟨y, hy, c, ls, _, h2⟩ := z e
    exact ⟨c, ls, h2⟩
/-! ### xs != [] for any list -/
def rNeNil : R2 := fun x y H Q => ∃ a b xs, x = .ref a ∧ y = .ref b ∧ H a = some (.lst xs) ∧ H b = some (.lst []) ∧ Q (.bl (!xs.isEmpty)) H
theorem op_neNil {X : Cx} (hu : X.A.units + 66 < cLine) : OpR X (compareOp .NotEq) rNeNil := by
  intro pins s σ H x y v u Q I rx ry h
  obtain ⟨a, b, xs, rfl, rfl, ea, eb, q⟩ := h
  obtain rfl : v = Value.ref a := rx
  obtain rfl : u = Value.ref b := ry
  obtain ⟨_, ia, na, va, oa⟩ := (show ObjOk X.prog X.w H s.heap a (.lst xs) from I.hok a _ ea)
  obtain ⟨_, ib, nb, vb, ob⟩ := (show ObjOk X.prog X.w H s.heap b (.lst []) from I.hok b _ eb)
  cases vb
  cases va with
  | nil =>
    exact SeqAt.NeL.rc (p := a) (q := b) (xs := #[]) (ys := #[]) ⟨_, oa, rfl, _, rfl⟩ ⟨_, ob, rfl, _, rfl⟩ rfl (by omega) (fun j h1 _ => absurd h1 (by simp)) ⟨.bl false, H, I, rfl, q⟩
  | @cons z u zs us r t =>
    exact SeqAt.RcNeAt.lists_lengths (l := a) (b := b) (items := (u :: us).toArray) (items2 := #[]) ⟨_, oa, rfl, _, rfl⟩ ⟨_, ob, rfl, _, rfl⟩ (by simp) (by omega) X.prog X.w _ _ ⟨.bl true, H, I, rfl, q⟩
end Pk

set_option Elab.async false
set_option linter.all false
set_option maxRecDepth 100000
set_option maxHeartbeats 4000000
namespace Pk
open PySem PySem.Spec PyProof.Rows L2
theorem PkN.v {T : Addr} {N : List Addr} {H H' : Hp} (hN : ∀ f ∈ N, H f ≠ none) {v : V} {pk : List (Str × Int)} (h : PkN H H' v pk) : PkV N H' v pk := by
  obtain ⟨a, e, n, h⟩ := h
  exact ⟨a, e, fun z => hN a z n, h⟩
theorem PkV.kx {T : Addr} {N N' F : List Addr} {H H' : Hp} (k : Kx T F H H') (hF : ∀ f ∈ F, f ∈ N) (hN : ∀ f ∈ N', f ∈ N ∨ H f = none) {v : V} {pk : List (Str × Int)} (h : PkV N H v pk) : PkV N' H' v pk := by
  obtain ⟨a, e, n, h⟩ := h
  refine ⟨a, e, fun z => ?_, k.keep _ _ (tab_ne k.t0 h fun _ z => by cases z) (fun z => n (hF a z)) h⟩
  rcases hN a z with z | z
  · exact n z
  · rw [h] at z; cases z
theorem Kx.tab2 {T T2 : Addr} {F : List Addr} {H H' : Hp} (k : Kx T F H H') (hF : ∀ f ∈ F, ∃ kvs, H f = some (.dK kvs)) (t2 : GxR.TabG H T2) : GxR.TabG H' T2 := by
  by_cases e : T2 = T
  · rw [e]; exact k.tab
  · obtain ⟨ps, e1, q⟩ := t2
    refine ⟨ps, k.keep _ _ e (fun z => ?_) e1, q⟩
    obtain ⟨kvs, e2⟩ := hF _ z
    rw [e1] at e2; cases e2
structure St5 (K : PySem.W.Frag) (C T T2 a : Addr) (ns : List Int) (H : Hp) (p D : Addr) (st : List Shelf) (r : Addr) (cl : List Shelf) (q : Addr) (xs : List V) (ds : List PyData) : Prop where
  S : ShopAt K C [] H p D st
  B : BoxOk K [] H r cl
  G : RowsG 3 cl
  h4 : cl.length ≤ 4
  dt : dataOf st = dataOf cl
  dj : ∀ f ∈ foot D st, f ∉ foot r cl
  R : RawB K H cl
  hS : SqL K H a (ns.map V.int)
  hq : H q = some (.lst xs)
  hd : DpAll K H xs ds
  nd : ∀ d ∈ ds, ND d
  h8 : ds.length ≤ 8
  t : GxR.TabG H T
  t2 : GxR.TabG H T2
section
variable {K : PySem.W.Frag} {C T T2 a : Addr} {ns : List Int} {H : Hp} {p D : Addr} {st : List Shelf} {r : Addr} {cl : List Shelf} {q : Addr} {xs : List V} {ds : List PyData}
theorem St5.kp {H' : Hp} (X : St5 K C T T2 a ns H p D st r cl q xs ds) (k : Kp T H H') : St5 K C T T2 a ns H' p D st r cl q xs ds :=
  ⟨X.S.keptP k, X.B.keptP k, X.G, X.h4, X.dt, X.dj, X.R.kp k, k.seq X.hS, k.lst X.hq, k.dpAll _ _ X.hd, X.nd, X.h8, k.tab, (K2.of k X.t2).t2'⟩
theorem St5.k2 {H' : Hp} (X : St5 K C T T2 a ns H p D st r cl q xs ds) (k : K2 T T2 H H') : St5 K C T T2 a ns H' p D st r cl q xs ds :=
  ⟨k.lift (p := fun H => ShopAt K C [] H p D st) (fun _ _ _ k h => h.keptP k) X.S, k.lift (p := fun H => BoxOk K [] H r cl) (fun _ _ _ k h => h.keptP k) X.B, X.G, X.h4, X.dt, X.dj, k.lift (p := fun H => RawB K H cl) (fun _ _ _ k h => h.kp k) X.R, k.lift (p := fun H => SqL K H a (ns.map V.int)) (fun _ _ _ k h => k.seq h) X.hS, k.lift (p := fun H => H q = some (.lst xs)) (fun _ _ _ k h => k.lst h) X.hq,
    k.lift (p := fun H => DpAll K H xs ds) (fun _ _ _ k h => k.dpAll _ _ h) X.hd, X.nd, X.h8, k.t1', k.t2'⟩
theorem St5.fd (X : St5 K C T T2 a ns H p D st r cl q xs ds) : ∀ f ∈ foot D st ++ foot r cl, ∃ kvs, H f = some (.dK kvs) := fun f hf => (List.mem_append.mp hf).elim (X.S.bx.foot_dict f) (X.B.foot_dict f)
theorem St5.nn (X : St5 K C T T2 a ns H p D st r cl q xs ds) : ∀ f ∈ foot D st ++ foot r cl, H f ≠ none := fun f hf z => by
  obtain ⟨kvs, e⟩ := X.fd f hf
  rw [z] at e; cases e
end
theorem perm_nd {a b : List Str} (ha : a.Nodup) (hb : b.Nodup) (h : ∀ x, x ∈ a ↔ x ∈ b) : a.Perm b := (List.perm_ext_iff_of_nodup ha hb).mpr h
/-- the same pick in another order -/
theorem same_lk {pk pk' : List (Str × Int)} (nd : (pk.map (·.1)).Nodup) (nd' : (pk'.map (·.1)).Nodup) (hl : pk'.length = pk.length) (h : ∀ e ∈ pk', lkP pk e.1 = some e.2) : ∀ w, lkP pk w = lkP pk' w := fun w => by
  cases e : lkP pk' w with
  | some m => exact h (w, m) (lkP_mem e)
  | none =>
    cases e2 : lkP pk w with
    | none => rfl
    | some m =>
      exfalso
      have hw := lkP_none e
      have z := sub_len (ws := w :: pk'.map (·.1)) (U := pk.map (·.1)) (List.nodup_cons.mpr ⟨hw, nd'⟩) fun y hy => by
        rcases List.mem_cons.mp hy with hy | hy
        · rw [hy]; exact List.mem_map.mpr ⟨(w, m), lkP_mem e2, rfl⟩
        · obtain ⟨x, hx, rfl⟩ := List.mem_map.mp hy
          exact List.mem_map.mpr ⟨(x.1, x.2), lkP_mem (h x hx), rfl⟩
      rw [List.length_cons, List.length_map, List.length_map] at z
      omega
theorem lk_key {pk : List (Str × Int)} {w : Str} (h : w ∈ pk.map (·.1)) (nd : (pk.map (·.1)).Nodup) : ∃ m, (w, m) ∈ pk ∧ lkP pk w = some m := by
  obtain ⟨e, he, rfl⟩ := List.mem_map.mp h
  exact ⟨e.2, he, lkP_of nd (show (e.1, e.2) ∈ pk from he)⟩
theorem same_mets {D : Str → List (Int × List PyData)} {ds : List PyData} {pk pk' : List (Str × Int)} (nd : (pk.map (·.1)).Nodup) (O' : PickOk D pk') (e : ∀ w, lkP pk w = lkP pk' w) (M : Mets D ds pk') : Mets D ds pk := by
  obtain ⟨out, ag, hm⟩ := M
  have en : ∀ w, needW D pk' w = needW D pk w := fun w => by unfold needW; rw [e w]
  have em : metD pk = metD pk' := funext fun d => by
    unfold metD
    split
    · rw [e]
    · rfl
  refine ⟨out, ag.congr en, ?_⟩
  unfold mB at hm ⊢
  rw [Bool.and_eq_true] at hm ⊢
  refine ⟨decide_eq_true ((perm_nd nd O'.nd fun x => ⟨fun hx => ?_, fun hx => ?_⟩).trans (of_decide_eq_true hm.1)), List.all_eq_true.mpr fun d hd => ?_⟩
  · obtain ⟨m, _, h⟩ := lk_key hx nd
    rw [e] at h
    exact List.mem_map.mpr ⟨_, lkP_mem h, rfl⟩
  · obtain ⟨m, _, h⟩ := lk_key hx O'.nd
    rw [← e] at h
    exact List.mem_map.mpr ⟨_, lkP_mem h, rfl⟩
  · rw [em]
    refine List.all_eq_true.mp hm.2 d ?_
    rcases List.mem_append.mp hd with hd | hd
    · exact List.mem_append_left _ hd
    · obtain ⟨x, hx, hd⟩ := List.mem_flatMap.mp hd
      have h := lkP_of nd (show (x.1, x.2) ∈ pk from hx)
      rw [e] at h
      exact List.mem_append_right _ (List.mem_flatMap.mpr ⟨(x.1, x.2), lkP_mem h, hd⟩)
theorem same_pick {D D0 : Str → List (Int × List PyData)} {pk pk' : List (Str × Int)} (O : PickOk D0 pk) (O' : PickOk D pk') (e : ∀ w, lkP pk w = lkP pk' w) : PickOk D pk := ⟨O.nd, O.len, O.gd, fun x hx => by
  have h := lkP_of O.nd (show (x.1, x.2) ∈ pk from hx)
  rw [e] at h
  exact O'.in_ _ (lkP_mem h)⟩
theorem pkD_ints (pk : List (Str × Int)) : ∀ e ∈ pkD pk, ∃ m, e.2 = V.int m := fun e he => by
  obtain ⟨x, _, rfl⟩ := List.mem_map.mp he
  exact ⟨_, rfl⟩
theorem paired_all {α β : Type} {R : α → β → Prop} {a : List α} {b : List β} (h : Paired R a b) : ∀ x ∈ a, ∃ y ∈ b, R x y := by
  induction h with
  | nil => exact fun x hx => by cases hx
  | @cons x y xs ys h _ ih =>
    intro z hz
    rcases List.mem_cons.mp hz with rfl | hz
    · exact ⟨y, List.mem_cons_self .., h⟩
    · obtain ⟨u, hu, r⟩ := ih z hz
      exact ⟨u, List.mem_cons_of_mem _ hu, r⟩
/-- found among picks: as good as one of them -/
theorem found_pick {D D0 : Str → List (Int × List PyData)} {ds : List PyData} {pk pk' : List (Str × Int)} (O : PickOk D0 pk) (O' : PickOk D pk') (M : Mets D ds pk') (hl : (pkD pk').length = (pkD pk).length) (h : pkD pk' = pkD pk ∨ ∀ e ∈ pkD pk', valV (pkD pk) e.1 = some e.2) : PickOk D pk ∧ Mets D ds pk := by
  have hv : ∀ e ∈ pk', lkP pk e.1 = some e.2 := fun e he => by
    have z : valV (pkD pk) (Sum.inr e.1 : Key) = some (V.int e.2) := by
      rcases h with h | h
      · rw [← h, pkD_val, lkP_of O'.nd (show (e.1, e.2) ∈ pk' from he)]
        rfl
      · exact h (Sum.inr e.1, V.int e.2) (List.mem_map.mpr ⟨e, he, rfl⟩)
    rw [pkD_val] at z
    obtain ⟨m, hm, e2⟩ := Option.map_eq_some_iff.mp z
    rw [hm]
    injection e2 with e2
    rw [e2]
  have hl' : pk'.length = pk.length := by
    unfold pkD at hl
    rw [List.length_map, List.length_map] at hl
    exact hl
  have e := same_lk O.nd O'.nd hl' hv
  exact ⟨same_pick O O' e, same_mets O.nd O' e M⟩
section
variable {P : Program} {w : World} {K : PySem.W.Frag} {mg : Str → Option Value} {base : Heap}
def pairRN : List Str := ["_law_shop_here", "_law_rows_here", "_law_wish_here", "_law_pair", "_law_found"]
theorem scPairR : FnScope pairRN ["_law_shop_here", "_law_rows_here", "_law_wish_here", "_law_pair"] (defScope sPairR) := ⟨rfl, rfl, rfl, by decide +kernel, rfl, by decide +kernel, by decide +kernel⟩
def lawN : List Str := ["_law_script", "_law_rows_here", "_law_wish_here", "_law_shop_here", "_law_picks", "_law_pair", "_law_k"]
theorem scLaw : FnScope lawN ["_law_script"] (defScope sLaw) := ⟨rfl, rfl, rfl, by decide +kernel, rfl, by decide +kernel, by decide +kernel⟩
def spPairR (K : PySem.W.Frag) (C T T2 : Addr) : Sp := fun vs H Q _ => ∃ (p D r q pr a b : Addr) (st cl : List Shelf) (xs : List V) (ds : List PyData) (pk pk2 : List (Str × Int)), vs = [.ref p, .ref r, .ref q, .ref pr] ∧ ShopAt K C [] H p D st ∧ BoxOk K [] H r cl ∧ RowsG 3 cl ∧ cl.length ≤ 4 ∧ dataOf st = dataOf cl ∧ SqL K H q xs ∧ DpAll K H xs ds ∧ (∀ d ∈ ds, ND d) ∧ ds.length ≤ 8 ∧
  H pr = some (.lst [.ref a, .ref b]) ∧ H a = some (.dK (pkD pk)) ∧ H b = some (.dK (pkD pk2)) ∧ a ∉ foot D st ∧ b ∉ foot D st ∧ PickOk (dataOf cl) pk ∧ PickOk (dataOf cl) pk2 ∧ Mets (dataOf cl) ds pk ∧ Mets (dataOf cl) ds pk2 ∧ GxR.TabG H T ∧ GxR.TabG H T2 ∧ ∀ H', K2 T T2 H H' → Q (.bl true) H'
theorem ok_pairr {f C T T2 fG fM : Addr} {fd fdG fdM : FuncData} (F : Fun K "_law_pair_right" "_law_pair_right" sPairR f fd)
    (GG : FnOk P w K mg base CX0 7 fG fdG ["shop", "wish", "one", "other"] (spNewer K C T T2)) (kG : PySem.W.keepIn K (.ref fG) = true) (bG : Binds K fdG ["shop", "wish", "one", "other"] []) (gG : mg "newer" = some (.ref fG))
    (GM : FnOk P w K mg base CX0 2 fM fdM ["_law_rows_here", "_law_wish_here", "_law_one", nOther] (spAhead K T)) (kM : PySem.W.keepIn K (.ref fM) = true) (bM : Binds K fdM ["_law_rows_here", "_law_wish_here", "_law_one", nOther] []) (gM : mg "_law_ahead" = some (.ref fM))
    : FnOk P w K mg base CX0 8 f fd ["_law_shop_here", "_law_rows_here", "_law_wish_here", "_law_pair"] (spPairR K C T T2) := by
  refine F.ok scPairR (fun vs H Q E h => ?_) (fun cdv A0 outer s H vs Q E hr h => ?_)
  · obtain ⟨p, D, r, q, pr, a, b, st, cl, xs, ds, pk, pk2, rfl, _⟩ := h
    rfl
  · obtain ⟨p, D, r, q, pr, a, b, st, cl, xs, ds, pk, pk2, rfl, S, B, G, h4, dt, hq, hd, nd, h8, epr, ea, eb, fa, fb, O1, O2, M1, M2, t, t2, fin⟩ := h
    have hu := hu_of hr
    refine ⟨_, (pss_cons (ps_set (i := 4) scPairR.nd rfl (by first | exact .inl rfl | exact .inr rfl) (pe_call GG (hr.mono (by decide)) (by rfl) gG kG bG .nil pass0 (pa_cons (pv 0) (pa_cons (pv 2) (pa_cons (pe_ix ix_list (pv 3) pe_int (fun _ _ => rfl)) (pa_cons (pe_ix ix_list (pv 3) pe_int (fun _ _ => rfl)) pa_nil))))))
      (pss_one (ps_ret (pe_cmpR (op_eqD hr.units) (pv 4) (pe_call GM (hr.mono (by decide)) (by rfl) gM kM bM .nil pass0 (pa_cons (pv 1) (pa_cons (pv 2) (pa_cons (pe_ix ix_list (pv 3) pe_int (fun _ _ => rfl)) (pa_cons (pe_ix ix_list (pv 3) pe_int (fun _ _ => rfl)) pa_nil))))) (nomark _))))), ?_⟩
    have shb : ∀ b : Bool, SeqAt.shaped (.bool b) = true := fun b => by cases b <;> rfl
    have at0 : atI [V.ref a, .ref b] 0 = some (.ref a) := at_gen (j := 0) rfl rfl
    have at1 : atI [V.ref a, .ref b] 1 = some (.ref b) := at_gen (j := 1) rfl rfl
    have GG : GoodSh (dataOf cl) := G.good (by decide)
    refine ⟨_, rfl, _, rfl, _, rfl, pr, _, 0, _, rfl, rfl, .inl (.inl epr), at0, _, rfl, pr, _, 1, _, rfl, rfl, .inl (.inl epr), at1, [], p, D, q, a, b, st, xs, ds, pk, pk2, rfl, S, by rw [dt]; exact GG, (fun x hx => by cases hx), hq, hd, nd, h8, ea, eb, fa, fb, by rw [dt]; exact O1, by rw [dt]; exact O2, Nat.le_trans O1.le (by omega), Nat.le_trans O2.le (by omega), by rw [dt]; exact M1, by rw [dt]; exact M2, t, t2, fun out H1 ag k1 => ?_⟩
    rw [dt] at ag
    have ep1 := k1.lift (p := fun H => H pr = some (.lst [.ref a, .ref b])) (fun _ _ _ k h => k.lst h) epr
    have ea1 := k1.lift (p := fun H => H a = some (.dK (pkD pk))) (fun _ _ _ k h => dict_kp k h) ea
    have eb1 := k1.lift (p := fun H => H b = some (.dK (pkD pk2))) (fun _ _ _ k h => dict_kp k h) eb
    have B1 := k1.lift (p := fun H => BoxOk K [] H r cl) (fun _ _ _ k h => h.keptP k) B
    have hq1 := k1.lift (p := fun H => SqL K H q xs) (fun _ _ _ k h => k.seq h) hq
    have hd1 := k1.lift (p := fun H => DpAll K H xs ds) (fun _ _ _ k h => k.dpAll _ _ h) hd
    refine ⟨_, rfl, _, rfl, _, rfl, _, rfl, pr, _, 0, _, rfl, rfl, .inl (.inl ep1), at0, _, rfl, pr, _, 1, _, rfl, rfl, .inl (.inl ep1), at1, [], r, q, a, b, cl, xs, ds, pk, pk2, rfl, B1, GG, hq1, hd1, nd, h8, ea1, eb1, O1, O2, M1, M2, k1.t1', fun out' H2 ag' k2 => ?_⟩
    have eo : out = out' := ag.det ag'
    subst eo
    refine ⟨.bool _, .bool _, .bl _, .bl _, shb _, shb _, ?_⟩
    rw [eqv_self (shb _)]
    exact fin H2 (k1.trans (K2.of k2 k1.t2'))
def spLaw6 (K : PySem.W.Frag) (T T2 : Addr) : Sp := fun vs H Q _ => ∃ (a : Addr) (ns : List Int), vs = [.ref a] ∧ SqL K H a (ns.map V.int) ∧ ns.length ≤ 63 ∧ GxR.TabG H T ∧ GxR.TabG H T2 ∧ ∀ H', Q (.bl true) H'
theorem ok_law6 {f C T T2 fR fX fW fY fS fQ fA fB fD : Addr} {fd fdR fdX fdW fdY fdS fdQ fdA fdB fdD : FuncData} (F : Fun K "law" "law" sLaw f fd)
    (GR : FnOk P w K mg base CX0 3 fR fdR ["_law_script", "_law_most", "_law_many_makes"] (spRows K T)) (kR : PySem.W.keepIn K (.ref fR) = true) (bR : Binds K fdR ["_law_script", "_law_most", "_law_many_makes"] []) (gR : mg "_law_rows" = some (.ref fR))
    (GX : FnOk P w K mg base CX0 1 fX fdX ["_law_script", "_law_k"] (spMixed K)) (kX : PySem.W.keepIn K (.ref fX) = true) (bX : Binds K fdX ["_law_script", "_law_k"] []) (gX : mg "_law_mixed" = some (.ref fX))
    (GW : FnOk P w K mg base CX0 3 fW fdW ["_law_script", "_law_rows_here", "_law_most"] (spWish K T)) (kW : PySem.W.keepIn K (.ref fW) = true) (bW : Binds K fdW ["_law_script", "_law_rows_here", "_law_most"] []) (gW : mg "_law_wish" = some (.ref fW))
    (GY : FnOk P w K mg base CX0 2 fY fdY ["_law_script", "_law_rows_here"] (spWide K T)) (kY : PySem.W.keepIn K (.ref fY) = true) (bY : Binds K fdY ["_law_script", "_law_rows_here"] []) (gY : mg "_law_wide_wish" = some (.ref fY))
    (GS : FnOk P w K mg base CX0 6 fS fdS ["_law_rows_here"] (spLShop K C T)) (kS : PySem.W.keepIn K (.ref fS) = true) (bS : Binds K fdS ["_law_rows_here"] []) (gS : mg "_law_shop" = some (.ref fS))
    (GQ : FnOk P w K mg base CX0 3 fQ fdQ ["_law_rows_here", "_law_wish_here"] (spAllP K T)) (kQ : PySem.W.keepIn K (.ref fQ) = true) (bQ : Binds K fdQ ["_law_rows_here", "_law_wish_here"] []) (gQ : mg "_law_all_picks" = some (.ref fQ))
    (GA : FnOk P w K mg base CX0 8 fA fdA ["_law_shop_here", "_law_rows_here", "_law_wish_here"] (spAllR K C T T2)) (kA : PySem.W.keepIn K (.ref fA) = true) (bA : Binds K fdA ["_law_shop_here", "_law_rows_here", "_law_wish_here"] []) (gA : mg "_law_all_right" = some (.ref fA))
    (GB : FnOk P w K mg base CX0 8 fB fdB ["_law_shop_here", "_law_rows_here", "_law_wish_here", "_law_pair"] (spPairR K C T T2)) (kB : PySem.W.keepIn K (.ref fB) = true) (bB : Binds K fdB ["_law_shop_here", "_law_rows_here", "_law_wish_here", "_law_pair"] []) (gB : mg "_law_pair_right" = some (.ref fB))
    (GD : FnOk P w K mg base CX0 6 fD fdD ["_law_shop_here", "_law_rows_here", "_law_number"] (spSChg K C T)) (kD : PySem.W.keepIn K (.ref fD) = true) (bD : Binds K fdD ["_law_shop_here", "_law_rows_here", "_law_number"] []) (gD : mg "_law_shop_changed" = some (.ref fD))
    (y_range : mg "range" = none) (y_len : mg "len" = none) : FnOk P w K mg base CX0 9 f fd ["_law_script"] (spLaw6 K T T2) := by
  refine F.ok scLaw (fun vs H Q E h => ?_) (fun cdv A0 outer s H vs Q E hr h => ?_)
  · obtain ⟨a, ns, rfl, _⟩ := h
    rfl
  · obtain ⟨a, ns, rfl, hS, h63, t, t2, fin⟩ := h
    have hu := hu_of hr
    refine ⟨_, (pss_cons (ps_set (i := 1) scLaw.nd rfl (by first | exact .inl rfl | exact .inr rfl) (pe_call GR (hr.mono (by decide)) (by rfl) gR kR bR .nil pass0 (pa_cons (pv 0) (pa_cons pe_int (pa_cons pe_int pa_nil)))))
      (pss_cons (ps_set (i := 2) scLaw.nd rfl (by first | exact .inl rfl | exact .inr rfl) (pe_call GW (hr.mono (by decide)) (by rfl) gW kW bW .nil pass0 (pa_cons (pv 0) (pa_cons (pv 1) (pa_cons pe_int pa_nil)))))
      (C8.pss_cut (ps_if (pt_cmpR op_gt (pe_op op_mod (pe_call GX (hr.mono (by decide)) (by rfl) gX kX bX .nil pass0 (pa_cons (pv 0) (pa_cons pe_int pa_nil))) pe_int) pe_int (nomark _)) (pss_one (ps_set (i := 2) scLaw.nd rfl (by first | exact .inl rfl | exact .inr rfl) (pe_call GY (hr.mono (by decide)) (by rfl) gY kY bY .nil pass0 (pa_cons (pv 0) (pa_cons (pv 1) pa_nil))))) pss_nil)
      (pss_cons (ps_set (i := 3) scLaw.nd rfl (by first | exact .inl rfl | exact .inr rfl) (pe_call GS (hr.mono (by decide)) (by rfl) gS kS bS .nil pass0 (pa_cons (pv 1) pa_nil)))
      (pss_cons (ps_if (pt_not (pt_val (pe_call GA (hr.mono (by decide)) (by rfl) gA kA bA .nil pass0 (pa_cons (pv 3) (pa_cons (pv 1) (pa_cons (pv 2) pa_nil)))))) (pss_one (ps_ret pe_bl)) pss_nil)
      (pss_cons (ps_set (i := 4) scLaw.nd rfl (by first | exact .inl rfl | exact .inr rfl) (pe_call GQ (hr.mono (by decide)) (by rfl) gQ kQ bQ .nil pass0 (pa_cons (pv 1) (pa_cons (pv 2) pa_nil))))
      (pss_cons (ps_set (i := 5) scLaw.nd rfl (by first | exact .inl rfl | exact .inr rfl) (pe_lst (pa_cons pe_dnewK (pa_cons pe_dnewK pa_nil))))
      (pss_cons (ps_for PassesOwn.never rfl (pi_range1 (by rfl) y_range (pa_cons pe_int pa_nil)) (pg_name (i := 6) scLaw.nd rfl (by first | exact .inl rfl | exact .inr rfl)) (pss_one (ps_if (pt_cmpR (op_neNil (room66 hr)) (pv 4) (pe_lst pa_nil) (nomark _)) (pss_one (ps_asg (pe_ix ix_list (pv 4) (pe_op op_mod (pe_call GX (hr.mono (by decide)) (by rfl) gX kX bX .nil pass0 (pa_cons (pv 0) (pa_cons (pe_op op_add pe_int (pv 6)) pa_nil))) (pe_callB call_len_seq (by rfl) y_len PySem.boot_len (pa_cons (pv 4) pa_nil))) (fun _ _ => rfl)) (pg_sub (pv 5) (pv 6) set_list))) pss_nil)))
      (C8.pss_cut (ps_if (PW.pt (pw_and (pt_cmpR (op_neNil (room66 hr)) (pv 4) (pe_lst pa_nil) (nomark _)) (pw_and1 (pt_not (pt_val (pe_call GB (hr.mono (by decide)) (by rfl) gB kB bB .nil pass0 (pa_cons (pv 3) (pa_cons (pv 1) (pa_cons (pv 2) (pa_cons (pv 5) pa_nil)))))))))) (pss_one (ps_ret pe_bl)) pss_nil)
      (pss_cons (ps_expr (pe_call GD (hr.mono (by decide)) (by rfl) gD kD bD .nil pass0 (pa_cons (pv 3) (pa_cons (pv 1) (pa_cons (pe_call GX (hr.mono (by decide)) (by rfl) gX kX bX .nil pass0 (pa_cons (pv 0) (pa_cons pe_int pa_nil))) pa_nil)))))
      (pss_cons (ps_set (i := 4) scLaw.nd rfl (by first | exact .inl rfl | exact .inr rfl) (pe_call GQ (hr.mono (by decide)) (by rfl) gQ kQ bQ .nil pass0 (pa_cons (pv 1) (pa_cons (pv 2) pa_nil))))
      (C8.pss_cut (ps_if (PW.pt (pw_and (pt_cmpR (op_inH (room66 hr)) (pe_ix ix_list (pv 5) pe_int (fun _ _ => rfl)) (pv 4) (by rfl)) (pw_and (pt_cmpR (op_inH (room66 hr)) (pe_ix ix_list (pv 5) pe_int (fun _ _ => rfl)) (pv 4) (by rfl)) (pw_and1 (pt_not (pt_val (pe_call GB (hr.mono (by decide)) (by rfl) gB kB bB .nil pass0 (pa_cons (pv 3) (pa_cons (pv 1) (pa_cons (pv 2) (pa_cons (pv 5) pa_nil))))))))))) (pss_one (ps_ret pe_bl)) pss_nil)
      (pss_one (ps_ret (pe_call GA (hr.mono (by decide)) (by rfl) gA kA bA .nil pass0 (pa_cons (pv 3) (pa_cons (pv 1) (pa_cons (pv 2) pa_nil)))))))))))))))))), ?_⟩
    -- the rows
    refine ⟨_, rfl, [], a, ns, 4, 3, rfl, hS, by decide, by decide, by decide, by decide, (fun y hy => by cases hy), t, fun r cl H1 k1 B1 hcl hlen hG fr1 hR1 => ?_⟩
    have G : RowsG 3 cl := .of (by omega) hG
    have hne : ∀ s ∈ cl, s.ents ≠ [] := fun s hs => (hG s hs).ne
    have S1 := k1.seq hS
    -- the wish
    refine ⟨_, rfl, _, rfl, [], a, r, ns, cl, 3, 3, rfl, S1, B1, G, by decide, hcl, hne, by decide, by decide, (fun y hy => by cases hy), k1.tab, fun xs ds q H2 k2 nq eq hd hnd h8 => ?_⟩
    have S2 := k2.seq S1
    have hd2 := dpAll_show hd
    clear hd
    refine ⟨fun σ' H' => ∃ (q : Addr) (xs : List V) (ds : List PyData), σ' = [some (.ref a), some (.ref r), some (.ref q), none, none, none, none] ∧ Kp T H1 H' ∧ H' q = some (.lst xs) ∧ DpAll K H' xs ds ∧ (∀ d ∈ ds, ND d) ∧ ds.length ≤ 8, ?_, ?_⟩
    · refine ⟨_, rfl, a, ns, 299, rfl, S2, by decide, fun n hn _ => ⟨n, 3, rfl, rfl, (by show (0 : Int) < 3; decide), _, _, rfl, rfl, _, rfl, iteD (fun c => ?_) (fun c => ⟨q, xs, ds, rfl, k2, eq, hd2, hnd, h8⟩)⟩⟩
      exact ⟨_, rfl, _, rfl, [], a, r, ns, cl, 3, rfl, S2, B1.keptP k2, G, by omega, k2.tab, fun xs' ds' l H' k nl el hd hn h8' => ⟨l, xs', ds', rfl, k2.trans k, el, hd, hn, h8'⟩⟩
    clear eq hd2 hnd h8 k2 nq S2
    rintro σ' H2 ⟨q, xs, ds, rfl, k2, eq, hd2, hnd, h8⟩
    have S2 := k2.seq S1
    have B2 := B1.keptP k2
    have hR2 := hR1.kp k2
    -- the shop
    refine ⟨_, rfl, [], r, cl, 3, rfl, B2, G, by decide, (fun y hy => by cases hy), k2.tab, fun p D st H3 k3 SS3 dt3 fr3 np => ?_⟩
    have dj : ∀ f ∈ foot D st, f ∉ foot r cl := fun f hf z => by
      obtain ⟨kvs, ez⟩ := B2.foot_dict f z
      rw [fr3 f hf] at ez; cases ez
    have k03 := (k1.trans k2).trans k3
    have X3 : St5 K C T T2 a ns H3 p D st r cl q xs ds := ⟨SS3, B2.keptP k3, G, hlen, funext dt3, dj, hR2.kp k3, k3.seq S2, k3.lst eq, k3.dpAll _ _ hd2, hnd, h8, k3.tab, (K2.of k03 t2).t2'⟩
    clear SS3 B2 hR2 S2 eq hd2 k3 k2 k1 B1 S1 hR1 fr1 fr3 np dt3 k03
    -- all pairs of picks
    refine ⟨_, rfl, _, rfl, _, rfl, p, D, r, q, st, cl, xs, ds, rfl, X3.S, X3.B, X3.G, X3.h4, X3.dt, X3.R, .inl (.inl X3.hq), X3.hd, hnd, h8, X3.t, X3.t2, fun H4 k4 => ⟨true, rfl, iteF ?_⟩⟩
    have X4 := X3.k2 k4
    clear X3 k4
    refine ⟨_, rfl, _, rfl, [], r, q, cl, xs, ds, rfl, X4.B, X4.G, X4.h4, .inl (.inl X4.hq), X4.hd, X4.nd, X4.h8, X4.R, X4.t, fun l vs pks H5 k5 nl el hP hO h256 => ?_⟩
    have hP5 : Paired (PkV (foot D st ++ foot r cl) H5) vs pks := paired_mono (fun _ _ => PkN.v (T := T) X4.nn) hP
    have X5 := X4.kp k5
    clear X4 k5 nl hP
    have lvs := paired_len hP5
    -- a pair of them
    intro d1 n1
    have k6 := Kp.new (o := HO.dK []) X5.t n1
    have e1 : upd H5 d1 (.dK []) d1 = some (.dK (pkD [])) := upd_same
    have f1 : d1 ∉ foot D st ++ foot r cl := fun z => X5.nn d1 z n1
    have el6 := k6.lst el
    have hP6 := paired_mono (S := PkV (foot D st ++ foot r cl) (upd H5 d1 (.dK []))) (fun _ _ => PkV.kept k6) hP5
    have X6 := X5.kp k6
    generalize upd H5 d1 (.dK []) = H6 at k6 e1 el6 hP6 X6 ⊢
    clear X5 hP5 el k6 n1
    intro d2 n2
    have k7 := Kp.new (o := HO.dK []) X6.t n2
    have e2 : upd H6 d2 (.dK []) d2 = some (.dK (pkD [])) := upd_same
    have f2 : d2 ∉ foot D st ++ foot r cl := fun z => X6.nn d2 z n2
    have el7 := k7.lst el6
    have e17 := dict_kp k7 e1
    have hP7 := paired_mono (S := PkV (foot D st ++ foot r cl) (upd H6 d2 (.dK []))) (fun _ _ => PkV.kept k7) hP6
    have X7 := X6.kp k7
    generalize upd H6 d2 (.dK []) = H7 at k7 e2 el7 e17 hP7 X7 ⊢
    clear X6 hP6 el6 k7 n2 e1
    refine ⟨(by show (2 : Nat) ≤ sizeLine; decide), fun pr npr => ?_⟩
    have prT := tab_nn X7.t npr
    have k8 := Kp.new (o := HO.lst [.ref d1, .ref d2]) X7.t npr
    have epr0 : upd H7 pr (.lst [.ref d1, .ref d2]) pr = some (.lst [.ref d1, .ref d2]) := upd_same
    have e18 := dict_kp k8 e17
    have e28 := dict_kp k8 e2
    generalize upd H7 pr (.lst [.ref d1, .ref d2]) = H8 at k8 epr0 e18 e28 ⊢
    refine ⟨2, rfl, by decide, by decide, for_range (lo := 0) (n := 2) (fun j σ' H' => ∃ (x6 : Option V) (a1 a2 : Addr) (p1 p2 : List (Str × Int)), σ' = [some (.ref a), some (.ref r), some (.ref q), some (.ref p), some (.ref l), some (.ref pr), x6] ∧ Kp T H7 H' ∧ H' pr = some (.lst [.ref a1, .ref a2]) ∧ H' a1 = some (.dK (pkD p1)) ∧ H' a2 = some (.dK (pkD p2)) ∧ a1 ∉ foot D st ++ foot r cl ∧ a2 ∉ foot D st ++ foot r cl ∧ PickOk (dataOf cl) p1 ∧ PickOk (dataOf cl) p2 ∧ (vs.isEmpty = false → 1 ≤ j → Mets (dataOf cl) ds p1) ∧ (vs.isEmpty = false → 2 ≤ j → Mets (dataOf cl) ds p2))
      ⟨none, d1, d2, [], [], rfl, k8, epr0, e18, e28, f1, f2, .nil, .nil, fun _ z => by omega, fun _ z => by omega⟩ ?_ ?_⟩
    · rintro j σ' H9 hj ⟨x6, a1, a2, p1, p2, rfl, k9, epr, ea1, ea2, fa1, fa2, O1, O2, M1, M2⟩
      have el9 := k9.lst el7
      refine ⟨_, rfl, (by show (0 : Nat) ≤ sizeLine; decide), fun l0 nl0 => ?_⟩
      have k10 := Kp.new (o := HO.lst []) k9.tab nl0
      have kk := k9.trans k10
      have el10 := k10.lst el9
      have epr10 := k10.lst epr
      have ea10 := dict_kp k10 ea1
      have eb10 := dict_kp k10 ea2
      have e010 : upd H9 l0 (.lst []) l0 = some (.lst ([] : List V)) := upd_same
      generalize upd H9 l0 (.lst []) = HX at k10 kk el10 epr10 ea10 eb10 e010 ⊢
      refine ⟨l, l0, vs, rfl, rfl, el10, e010, _, rfl, ?_⟩
      cases hve : vs.isEmpty with
      | true => exact iteF ⟨_, a1, a2, p1, p2, rfl, kk, epr10, ea10, eb10, fa1, fa2, O1, O2, (fun z => by cases z), fun z => by cases z⟩
      | false =>
        have vne : vs ≠ [] := fun z => by rw [z] at hve; cases hve
        have vp : (0 : Int) < ((vs.length : Nat) : Int) := by have := List.length_pos_iff.mpr vne; omega
        have e341 : (341 : Int) + (0 + (j : Int)) = ((341 + j : Nat) : Int) := by omega
        have hPX := paired_mono (S := PkV (foot D st ++ foot r cl) HX) (fun _ _ => PkV.kept kk) hP7
        refine iteT ⟨_, rfl, _, rfl, _, rfl, _, _, rfl, rfl, a, ns, 341 + j, (by show [V.ref a, V.int (341 + (0 + (j : Int)))] = _; rw [e341] <;> rfl), kk.seq X7.hS, by omega, fun n hn _ => ?_⟩
        obtain ⟨v, ev, pk, ⟨c, rfl, fc, ec⟩, hpk⟩ := at_pick (xs := vs) (p := fun v => ∃ pk, PkV (foot D st ++ foot r cl) HX v pk ∧ pk ∈ pks) (Int.emod_nonneg n (Int.ne_of_gt vp)) (Int.emod_lt_of_pos n vp) (fun x hx => by
          obtain ⟨y, hy, h⟩ := paired_all hPX x hx
          exact ⟨y, h, hy⟩)
        obtain ⟨Oc, Mc⟩ := hO pk hpk
        have prc : c ≠ pr := fun z => by rw [z, epr10] at ec; cases ec
        have pra : a1 ≠ pr := fun z => by rw [z, epr10] at ea10; cases ea10
        have prb : a2 ≠ pr := fun z => by rw [z, epr10] at eb10; cases eb10
        have hj2 : j = 0 ∨ j = 1 := by omega
        rcases hj2 with rfl | rfl
        · refine ⟨_, rfl, l, vs, rfl, .inl (.inl (.inl el10)), n, _, rfl, rfl, vp, l, vs, _, _, rfl, rfl, .inl (.inl el10), ev, _, rfl, _, rfl, pr, _, _, 0, rfl, rfl, epr10, rfl, ?_⟩
          exact ⟨_, c, a2, pk, p2, rfl, kk.set npr prT, upd_same, by rw [upd_ne prc]; exact ec, by rw [upd_ne prb]; exact eb10, fc, fa2, Oc, O2, fun _ _ => Mc, fun _ z => by omega⟩
        · refine ⟨_, rfl, l, vs, rfl, .inl (.inl (.inl el10)), n, _, rfl, rfl, vp, l, vs, _, _, rfl, rfl, .inl (.inl el10), ev, _, rfl, _, rfl, pr, _, _, 1, rfl, rfl, epr10, rfl, ?_⟩
          exact ⟨_, a1, c, p1, pk, rfl, kk.set npr prT, upd_same, by rw [upd_ne pra]; exact ea10, by rw [upd_ne prc]; exact ec, fa1, fc, O1, Oc, fun _ z => M1 hve (by omega), fun _ _ => Mc⟩
    rintro σ' H9 ⟨x6, a1, a2, p1, p2, rfl, k9, epr, ea1, ea2, fa1, fa2, O1, O2, M1, M2⟩
    have X9 := X7.kp k9
    have el9 := k9.lst el7
    clear X7 el7 hP7 k8 epr0 e18 e28 k9 npr e17 e2 f1 f2 hO
    have nf : ∀ {x : Addr}, x ∉ foot D st ++ foot r cl → x ∉ foot D st := fun h z => h (List.mem_append_left _ z)
    -- the pair of them
    refine ⟨fun σ' H' => σ' = [some (.ref a), some (.ref r), some (.ref q), some (.ref p), some (.ref l), some (.ref pr), x6] ∧ St5 K C T T2 a ns H' p D st r cl q xs ds ∧ H' pr = some (.lst [.ref a1, .ref a2]) ∧ H' a1 = some (.dK (pkD p1)) ∧ H' a2 = some (.dK (pkD p2)), ?_, ?_⟩
    · refine ⟨_, rfl, (by show (0 : Nat) ≤ sizeLine; decide), fun l0 nl0 => ?_⟩
      have k10 := Kp.new (o := HO.lst []) X9.t nl0
      have X10 := X9.kp k10
      have el10 := k10.lst el9
      have epr10 := k10.lst epr
      have ea10 := dict_kp k10 ea1
      have eb10 := dict_kp k10 ea2
      have e010 : upd H9 l0 (.lst []) l0 = some (.lst ([] : List V)) := upd_same
      generalize upd H9 l0 (.lst []) = HX at k10 X10 el10 epr10 ea10 eb10 e010 ⊢
      refine ⟨l, l0, vs, rfl, rfl, el10, e010, _, rfl, ?_⟩
      cases hve : vs.isEmpty with
      | true => exact iteF (iteF ⟨rfl, X10, epr10, ea10, eb10⟩)
      | false =>
        refine iteT ⟨_, rfl, _, rfl, _, rfl, _, rfl, p, D, r, q, pr, a1, a2, st, cl, xs, ds, p1, p2, rfl, X10.S, X10.B, X10.G, X10.h4, X10.dt, .inl (.inl X10.hq), X10.hd, hnd, h8, epr10, ea10, eb10, nf fa1, nf fa2, O1, O2, M1 hve (by omega), M2 hve (by omega), X10.t, X10.t2, fun HY kY => ⟨true, rfl, iteF ⟨rfl, X10.k2 kY, ?_, ?_, ?_⟩⟩⟩
        · exact kY.lift (p := fun H => H pr = some (.lst [.ref a1, .ref a2])) (fun _ _ _ k h => k.lst h) epr10
        · exact kY.lift (p := fun H => H a1 = some (.dK (pkD p1))) (fun _ _ _ k h => dict_kp k h) ea10
        · exact kY.lift (p := fun H => H a2 = some (.dK (pkD p2))) (fun _ _ _ k h => dict_kp k h) eb10
    clear X9 el9 epr ea1 ea2 M1 M2
    rintro σ' H9 ⟨rfl, X9, epr, ea1, ea2⟩
    -- the shop is changed
    refine ⟨_, rfl, _, rfl, _, rfl, a, ns, 340, rfl, X9.hS, by decide, fun n _ _ => ?_⟩
    refine ⟨[], p, D, r, st, cl, 3, n, rfl, ⟨X9.B, X9.G, X9.S, fun v => congrFun X9.dt v, X9.dj⟩, by decide, ?_, (fun y hy => by cases hy), X9.t, fun HA st' cl' PD kA wEq fEq fN raw => ?_⟩
    · obtain ⟨s, hs⟩ : ∃ s, s ∈ cl := by
        cases cl with
        | nil => exact absurd rfl hcl
        | cons s _ => exact ⟨s, List.mem_cons_self ..⟩
      exact ⟨s, hs, hne s hs⟩
    have fdF : ∀ f ∈ foot r cl ++ foot D st, ∃ kvs, H9 f = some (.dK kvs) := fun f hf => X9.fd f (List.mem_append.mpr (List.mem_append.mp hf).symm)
    have XA : St5 K C T T2 a ns HA p D st' r cl' q xs ds := ⟨PD.S, PD.B, PD.G, by have := congrArg List.length wEq; rw [List.length_map, List.length_map] at this; have := X9.h4; omega, funext PD.dt, PD.dj, raw X9.R, kA.seq0 fdF X9.hS, kA.lst0 fdF X9.hq, dpAll_kx0 kA fdF X9.hd, X9.nd, X9.h8, kA.tab, kA.tab2 fdF X9.t2⟩
    have eprA := kA.lst0 fdF epr
    have vk : ∀ {c : Addr} {pk : List (Str × Int)}, c ∉ foot D st ++ foot r cl → H9 c = some (.dK (pkD pk)) → c ∉ foot D st' ++ foot r cl' ∧ HA c = some (.dK (pkD pk)) := fun {c pk} fc ec => by
      obtain ⟨c', e', n', h'⟩ := PkV.kx (N := foot D st ++ foot r cl) (N' := foot D st' ++ foot r cl') kA (fun f hf => List.mem_append.mpr (List.mem_append.mp hf).symm) (fun f hf => by
        rcases List.mem_append.mp hf with hf | hf
        · exact (fN f hf).imp (fun z => List.mem_append_left _ z) id
        · exact .inl (List.mem_append_right _ (by rw [← fEq]; exact hf))) (show PkV (foot D st ++ foot r cl) H9 (.ref c) pk from ⟨c, rfl, fc, ec⟩)
      cases e'
      exact ⟨n', h'⟩
    obtain ⟨fA1, eA1⟩ := vk fa1 ea1
    obtain ⟨fA2, eA2⟩ := vk fa2 ea2
    clear vk X9 epr ea1 ea2 kA fdF raw PD fa1 fa2
    -- the picks that meet the wish now
    refine ⟨_, rfl, _, rfl, [], r, q, cl', xs, ds, rfl, XA.B, XA.G, XA.h4, .inl (.inl XA.hq), XA.hd, XA.nd, XA.h8, XA.R, XA.t, fun l2 vs2 pks2 HB kB nl2 el2 hPn hO2 h256' => ?_⟩
    have hP2 : Paired (PkV (foot D st' ++ foot r cl') HB) vs2 pks2 := paired_mono (fun _ _ => PkN.v (T := T) XA.nn) hPn
    clear hPn
    have XB := XA.kp kB
    have epr := kB.lst eprA
    have ea1 := dict_kp kB eA1
    have ea2 := dict_kp kB eA2
    clear XA eprA eA1 eA2 kB nl2
    have hdict : ∀ v ∈ vs2, ∃ c ls, v = V.ref c ∧ HB c = some (.dK ls) ∧ ∀ e ∈ ls, ∃ m, e.2 = V.int m := fun v hv => by
      obtain ⟨pk, _, c, e, _, h⟩ := paired_all hP2 v hv
      exact ⟨c, _, e, h, pkD_ints pk⟩
    refine ⟨fun σ' H' => ∃ x6, σ' = [some (.ref a), some (.ref r), some (.ref q), some (.ref p), some (.ref l2), some (.ref pr), x6] ∧ St5 K C T T2 a ns H' p D st' r cl' q xs ds, ?_, ?_⟩
    · have XA := XB
      refine ⟨_, rfl, pr, _, 0, _, rfl, rfl, .inl (.inl epr), at_gen (j := 0) rfl rfl, _, rfl, a1, l2, vs2, pkD p1, rfl, rfl, ea1, pkD_ints p1, el2, hdict, fun tt hz => ⟨tt, rfl, ?_⟩⟩
      cases tt with
      | false => exact iteF ⟨x6, rfl, XA⟩
      | true =>
      obtain ⟨c, ls, hc, ec, hll, hor⟩ := hz rfl
      obtain ⟨OO1, MM1⟩ : PickOk (dataOf cl') p1 ∧ Mets (dataOf cl') ds p1 := by
        obtain ⟨pk', hpk, c', e', _, h'⟩ := paired_all hP2 _ hc
        cases e'
        rw [ec] at h'
        cases h'
        refine found_pick O1 (hO2 pk' hpk).1 (hO2 pk' hpk).2 hll (hor.imp (fun z => ?_) id)
        rw [z, ea1] at ec
        exact (HO.dK.inj (Option.some.inj ec)).symm
      refine ⟨_, rfl, pr, _, 1, _, rfl, rfl, .inl (.inl epr), at_gen (j := 1) rfl rfl, _, rfl, a2, l2, vs2, pkD p2, rfl, rfl, ea2, pkD_ints p2, el2, hdict, fun tt hz => ⟨tt, rfl, ?_⟩⟩
      cases tt with
      | false => exact iteF ⟨x6, rfl, XA⟩
      | true =>
      obtain ⟨c, ls, hc, ec, hll, hor⟩ := hz rfl
      obtain ⟨OO2, MM2⟩ : PickOk (dataOf cl') p2 ∧ Mets (dataOf cl') ds p2 := by
        obtain ⟨pk', hpk, c', e', _, h'⟩ := paired_all hP2 _ hc
        cases e'
        rw [ec] at h'
        cases h'
        refine found_pick O2 (hO2 pk' hpk).1 (hO2 pk' hpk).2 hll (hor.imp (fun z => ?_) id)
        rw [z, ea2] at ec
        exact (HO.dK.inj (Option.some.inj ec)).symm
      have nf' : ∀ {x : Addr}, x ∉ foot D st' ++ foot r cl' → x ∉ foot D st' := fun h z => h (List.mem_append_left _ z)
      exact ⟨_, rfl, _, rfl, _, rfl, _, rfl, p, D, r, q, pr, a1, a2, st', cl', xs, ds, p1, p2, rfl, XB.S, XB.B, XB.G, XB.h4, XB.dt, .inl (.inl XB.hq), XB.hd, hnd, h8, epr, ea1, ea2, nf' fA1, nf' fA2, OO1, OO2, MM1, MM2, XB.t, XB.t2, fun HY kY => ⟨true, rfl, iteF ⟨x6, rfl, XB.k2 kY⟩⟩⟩
    rintro σ' HC ⟨x6, rfl, XC⟩
    exact ⟨_, rfl, _, rfl, _, rfl, p, D, r, q, st', cl', xs, ds, rfl, XC.S, XC.B, XC.G, XC.h4, XC.dt, XC.R, .inl (.inl XC.hq), XC.hd, hnd, h8, XC.t, XC.t2, fun HY kY => fin HY⟩
end
end Pk

set_option Elab.async false
set_option linter.all false
set_option maxRecDepth 100000
set_option maxHeartbeats 4000000
namespace Pk
open PySem PySem.Spec PyProof.Rows L2
theorem all_mk {l : PySem.W.OpenLaw} {w : World} {K : PySem.W.Frag} {h : Heap} {mg : Str → Option Value} {fa T TT2 c cc2 : Addr} (X : K.In h) (G : h.Ns mainGlobals mg) (hfa : mg "law" = some (.ref fa)) {q : Program}
    (hT0 : ∀ (y : Str) (c T : Addr), ((recsOf q).any fun e => e.name == y) = true → PySem.W.tabIn K y = some (c, T) → PySem.W.CodeHd h c T ∧ h.get? T = some (PySem.W.tabObj #[])) (hrecc : ((recsOf q).any fun e => e.name == ("is_ware" : Str)) = true) (hreccc2 : ((recsOf q).any fun e => e.name == ("_meets" : Str)) = true)
    {ecc : Value} {dccc : Option Addr} {vscc : Array Value} {slcc : Array (Option Value)} (lcc : K.lookup c = some ⟨ecc, dccc, .fields vscc, slcc⟩) (v11c : vscc[11]? = some (.ref T)) (nTc : K.lookup T = none)
    {eccc2 : Value} {dcccc2 : Option Addr} {vsccc2 : Array Value} {slccc2 : Array (Option Value)} (lccc2 : K.lookup cc2 = some ⟨eccc2, dcccc2, .fields vsccc2, slccc2⟩) (v11cc2 : vsccc2[11]? = some (.ref TT2)) (nTcc2 : K.lookup TT2 = none)
    {f1 f2 f3 f4 f5 f6 f7 f8 f9 f10 f11 f12 f13 f14 f15 f16 f17 f18 f19 f20 f21 f22 f23 f24 f25 f26 f27 f28 f29 f30 f31 f32 f33 f34 f35 CShop EBadWare EBadMake EBadNeed ETwice EFull ENoMake EBadWish EBadPick : Addr} {od1 an1 od2 an2 od3 an3 od4 an4 od5 an5 od6 an6 od7 an7 od8 an8 od9 an9 od10 an10 od11 an11 od12 an12 od13 an13 od14 an14 od15 an15 od16 an16 od17 an17 od18 an18 od19 an19 od20 an20 od21 an21 od22 an22 od23 an23 od24 an24 od25 an25 od26 an26 od27 an27 od28 an28 od29 an29 od30 an30 od31 an31 od32 an32 od33 an33 od34 an34 od35 an35 : Option Addr} {sl1 sl2 sl3 sl4 sl5 sl6 sl7 sl8 sl9 sl10 sl11 sl12 sl13 sl14 sl15 sl16 sl17 sl18 sl19 sl20 sl21 sl22 sl23 sl24 sl25 sl26 sl27 sl28 sl29 sl30 sl31 sl32 sl33 sl34 sl35 : Array (Option Value)}
    {oc1 kV1 dc1 pm1 ct1 oc2 kV2 dc2 pm2 ct2 cd2 oc3 kV3 dc3 pm3 ct3 cd3 oc4 kV4 dc4 pm4 ct4 cd4 oc5 kV5 dc5 pm5 ct5 cd5 oc6 kV6 dc6 pm6 ct6 cd6 oc7 kV7 dc7 pm7 ct7 cd7 oc8 kV8 dc8 pm8 ct8 cd8 oc9 kV9 dc9 pm9 ct9 cd9 oc10 kV10 dc10 pm10 ct10 cd10 oc11 kV11 dc11 pm11 ct11 cd11 oc12 kV12 dc12 pm12 ct12 cd12 oc13 kV13 dc13 pm13 ct13 cd13 oc14 kV14 dc14 pm14 ct14 cd14 oc15 kV15 dc15 pm15 ct15 cd15 oc16 kV16 dc16 pm16 ct16 cd16 oc17 kV17 dc17 pm17 ct17 cd17 oc18 kV18 dc18 pm18 ct18 cd18 oc19 kV19 dc19 pm19 ct19 oc20 kV20 dc20 pm20 ct20 cd20 oc21 kV21 dc21 pm21 ct21 cd21 oc22 kV22 dc22 pm22 ct22 cd22 oc23 kV23 dc23 pm23 ct23 cd23 oc24 kV24 dc24 pm24 ct24 cd24 oc25 kV25 dc25 pm25 ct25 cd25 oc26 kV26 dc26 pm26 ct26 cd26 oc27 kV27 dc27 pm27 ct27 cd27 oc28 kV28 dc28 pm28 ct28 cd28 oc29 kV29 dc29 pm29 ct29 cd29 oc30 kV30 dc30 pm30 ct30 cd30 oc31 kV31 dc31 pm31 ct31 cd31 oc32 kV32 dc32 pm32 ct32 cd32 oc33 kV33 dc33 pm33 ct33 cd33 oc34 kV34 dc34 pm34 ct34 cd34 oc35 kV35 dc35 pm35 ct35 cd35 : Value} {t8 t1 t9 t12 t88 t6 tw8 : Tok}
    (aCShop : PySem.W.nsIn K mainGlobals "Shop" = some (some (.ref CShop)))
    (a1 : PySem.W.nsIn K mainGlobals "is_ware" = some (some (.ref f1)))    (l1 : K.lookup f1 = some ⟨oc1, od1, .func (PySem.W.fnOf "is_ware" "is_ware" (defArgs sWare) (defBody sWare) (defScope sWare) .none kV1 dc1 pm1 an1 (.ref c) ct1), sl1⟩)    (c1 : PySem.W.codeIn K (.ref c) "is_ware" = true)    (k1 : PySem.W.keepIn K (.ref f1) = true)
    (a2 : PySem.W.nsIn K mainGlobals "is_make" = some (some (.ref f2)))    (l2 : K.lookup f2 = some ⟨oc2, od2, .func (PySem.W.fnOf "is_make" "is_make" (defArgs sMake) (defBody sMake) (defScope sMake) .none kV2 dc2 pm2 an2 cd2 ct2), sl2⟩)    (c2 : PySem.W.codeIn K cd2 "is_make" = true)    (k2 : PySem.W.keepIn K (.ref f2) = true)
    (a3 : PySem.W.nsIn K mainGlobals "is_need" = some (some (.ref f3)))    (l3 : K.lookup f3 = some ⟨oc3, od3, .func (PySem.W.fnOf "is_need" "is_need" (defArgs sNeed) (defBody sNeed) (defScope sNeed) .none kV3 dc3 pm3 an3 cd3 ct3), sl3⟩)    (c3 : PySem.W.codeIn K cd3 "is_need" = true)    (k3 : PySem.W.keepIn K (.ref f3) = true)
    (a4 : PySem.W.nsIn K mainGlobals "within" = some (some (.ref f4)))    (l4 : K.lookup f4 = some ⟨oc4, od4, .func (PySem.W.fnOf "within" "within" (defArgs sWithin) (defBody sWithin) (defScope sWithin) .none kV4 dc4 pm4 an4 cd4 ct4), sl4⟩)    (c4 : PySem.W.codeIn K cd4 "within" = true)    (k4 : PySem.W.keepIn K (.ref f4) = true)
    (a5 : PySem.W.nsIn K mainGlobals "_may_need" = some (some (.ref f5)))    (l5 : K.lookup f5 = some ⟨oc5, od5, .func (PySem.W.fnOf "_may_need" "_may_need" (defArgs sMay) (defBody sMay) (defScope sMay) .none kV5 dc5 pm5 an5 cd5 ct5), sl5⟩)    (c5 : PySem.W.codeIn K cd5 "_may_need" = true)    (k5 : PySem.W.keepIn K (.ref f5) = true)
    (a6 : PySem.W.findIn K (.ref CShop) "__init__" = some (some (.ref f6)))    (i6 : PySem.W.isFn K (.ref f6) = true)    (l6 : K.lookup f6 = some ⟨oc6, od6, .func (PySem.W.fnOf "__init__" "Shop.__init__" (defArgs sInit) (defBody sInit) (defScope sInit) .none kV6 dc6 pm6 an6 cd6 ct6), sl6⟩)    (c6 : PySem.W.codeIn K cd6 "Shop.__init__" = true)    (k6 : PySem.W.keepIn K (.ref f6) = true)
    (a7 : PySem.W.findIn K (.ref CShop) "put" = some (some (.ref f7)))    (i7 : PySem.W.isFn K (.ref f7) = true)    (l7 : K.lookup f7 = some ⟨oc7, od7, .func (PySem.W.fnOf "put" "Shop.put" (defArgs sPut) (defBody sPut) (defScope sPut) .none kV7 dc7 pm7 an7 cd7 ct7), sl7⟩)    (c7 : PySem.W.codeIn K cd7 "Shop.put" = true)    (k7 : PySem.W.keepIn K (.ref f7) = true)
    (a8 : PySem.W.findIn K (.ref CShop) "take" = some (some (.ref f8)))    (i8 : PySem.W.isFn K (.ref f8) = true)    (l8 : K.lookup f8 = some ⟨oc8, od8, .func (PySem.W.fnOf "take" "Shop.take" (defArgs sTake) (defBody sTake) (defScope sTake) .none kV8 dc8 pm8 an8 cd8 ct8), sl8⟩)    (c8 : PySem.W.codeIn K cd8 "Shop.take" = true)    (k8 : PySem.W.keepIn K (.ref f8) = true)
    (a9 : PySem.W.findIn K (.ref CShop) "makes" = some (some (.ref f9)))    (i9 : PySem.W.isFn K (.ref f9) = true)    (l9 : K.lookup f9 = some ⟨oc9, od9, .func (PySem.W.fnOf "makes" "Shop.makes" (defArgs sMakes) (defBody sMakes) (defScope sMakes) .none kV9 dc9 pm9 an9 cd9 ct9), sl9⟩)    (c9 : PySem.W.codeIn K cd9 "Shop.makes" = true)    (k9 : PySem.W.keepIn K (.ref f9) = true)
    (a10 : PySem.W.findIn K (.ref CShop) "needs" = some (some (.ref f10)))    (i10 : PySem.W.isFn K (.ref f10) = true)    (l10 : K.lookup f10 = some ⟨oc10, od10, .func (PySem.W.fnOf "needs" "Shop.needs" (defArgs sNeeds) (defBody sNeeds) (defScope sNeeds) .none kV10 dc10 pm10 an10 cd10 ct10), sl10⟩)    (c10 : PySem.W.codeIn K cd10 "Shop.needs" = true)    (k10 : PySem.W.keepIn K (.ref f10) = true)
    (a11 : PySem.W.findIn K (.ref CShop) "_has" = some (some (.ref f11)))    (i11 : PySem.W.isFn K (.ref f11) = true)    (l11 : K.lookup f11 = some ⟨oc11, od11, .func (PySem.W.fnOf "_has" "Shop._has" (defArgs sHas) (defBody sHas) (defScope sHas) .none kV11 dc11 pm11 an11 cd11 ct11), sl11⟩)    (c11 : PySem.W.codeIn K cd11 "Shop._has" = true)    (k11 : PySem.W.keepIn K (.ref f11) = true)
    (a12 : PySem.W.findIn K (.ref CShop) "_has_place" = some (some (.ref f12)))    (i12 : PySem.W.isFn K (.ref f12) = true)    (l12 : K.lookup f12 = some ⟨oc12, od12, .func (PySem.W.fnOf "_has_place" "Shop._has_place" (defArgs sPlace) (defBody sPlace) (defScope sPlace) .none kV12 dc12 pm12 an12 cd12 ct12), sl12⟩)    (c12 : PySem.W.codeIn K cd12 "Shop._has_place" = true)    (k12 : PySem.W.keepIn K (.ref f12) = true)
    (a13 : PySem.W.nsIn K mainGlobals "newer" = some (some (.ref f13)))    (l13 : K.lookup f13 = some ⟨oc13, od13, .func (PySem.W.fnOf "newer" "newer" (defArgs sNewer) (defBody sNewer) (defScope sNewer) .none kV13 dc13 pm13 an13 cd13 ct13), sl13⟩)    (c13 : PySem.W.codeIn K cd13 "newer" = true)    (k13 : PySem.W.keepIn K (.ref f13) = true)
    (a14 : PySem.W.nsIn K mainGlobals "check_wish" = some (some (.ref f14)))    (l14 : K.lookup f14 = some ⟨oc14, od14, .func (PySem.W.fnOf "check_wish" "check_wish" (defArgs sChkW) (defBody sChkW) (defScope sChkW) .none kV14 dc14 pm14 an14 cd14 ct14), sl14⟩)    (c14 : PySem.W.codeIn K cd14 "check_wish" = true)    (k14 : PySem.W.keepIn K (.ref f14) = true)
    (a15 : PySem.W.nsIn K mainGlobals "has_make" = some (some (.ref f15)))    (l15 : K.lookup f15 = some ⟨oc15, od15, .func (PySem.W.fnOf "has_make" "has_make" (defArgs sHasM) (defBody sHasM) (defScope sHasM) .none kV15 dc15 pm15 an15 cd15 ct15), sl15⟩)    (c15 : PySem.W.codeIn K cd15 "has_make" = true)    (k15 : PySem.W.keepIn K (.ref f15) = true)
    (a16 : PySem.W.nsIn K mainGlobals "add_wares" = some (some (.ref f16)))    (l16 : K.lookup f16 = some ⟨oc16, od16, .func (PySem.W.fnOf "add_wares" "add_wares" (defArgs sAddW) (defBody sAddW) (defScope sAddW) .none kV16 dc16 pm16 an16 cd16 ct16), sl16⟩)    (c16 : PySem.W.codeIn K cd16 "add_wares" = true)    (k16 : PySem.W.keepIn K (.ref f16) = true)
    (a17 : PySem.W.nsIn K mainGlobals "_check_pick" = some (some (.ref f17)))    (l17 : K.lookup f17 = some ⟨oc17, od17, .func (PySem.W.fnOf "_check_pick" "_check_pick" (defArgs sChkP) (defBody sChkP) (defScope sChkP) .none kV17 dc17 pm17 an17 cd17 ct17), sl17⟩)    (c17 : PySem.W.codeIn K cd17 "_check_pick" = true)    (k17 : PySem.W.keepIn K (.ref f17) = true)
    (a18 : PySem.W.nsIn K mainGlobals "_agenda_of" = some (some (.ref f18)))    (l18 : K.lookup f18 = some ⟨oc18, od18, .func (PySem.W.fnOf "_agenda_of" "_agenda_of" (defArgs sAgOf) (defBody sAgOf) (defScope sAgOf) .none kV18 dc18 pm18 an18 cd18 ct18), sl18⟩)    (c18 : PySem.W.codeIn K cd18 "_agenda_of" = true)    (k18 : PySem.W.keepIn K (.ref f18) = true)
    (a19 : PySem.W.nsIn K mainGlobals "_meets" = some (some (.ref f19)))    (l19 : K.lookup f19 = some ⟨oc19, od19, .func (PySem.W.fnOf "_meets" "_meets" (defArgs sMeetsU) (defBody sMeetsU) (defScope sMeetsU) .none kV19 dc19 pm19 an19 (.ref cc2) ct19), sl19⟩)    (c19 : PySem.W.codeIn K (.ref cc2) "_meets" = true)    (k19 : PySem.W.keepIn K (.ref f19) = true)
    (a20 : PySem.W.nsIn K mainGlobals "_law_mixed" = some (some (.ref f20)))    (l20 : K.lookup f20 = some ⟨oc20, od20, .func (PySem.W.fnOf "_law_mixed" "_law_mixed" (defArgs sMixed) (defBody sMixed) (defScope sMixed) .none kV20 dc20 pm20 an20 cd20 ct20), sl20⟩)    (c20 : PySem.W.codeIn K cd20 "_law_mixed" = true)    (k20 : PySem.W.keepIn K (.ref f20) = true)
    (a21 : PySem.W.nsIn K mainGlobals "_law_names" = some (some (.ref f21)))    (l21 : K.lookup f21 = some ⟨oc21, od21, .func (PySem.W.fnOf "_law_names" "_law_names" (defArgs sNames) (defBody sNames) (defScope sNames) .none kV21 dc21 pm21 an21 cd21 ct21), sl21⟩)    (c21 : PySem.W.codeIn K cd21 "_law_names" = true)    (k21 : PySem.W.keepIn K (.ref f21) = true)
    (a22 : PySem.W.nsIn K mainGlobals "_law_stretch" = some (some (.ref f22)))    (l22 : K.lookup f22 = some ⟨oc22, od22, .func (PySem.W.fnOf "_law_stretch" "_law_stretch" (defArgs sStretch) (defBody sStretch) (defScope sStretch) .none kV22 dc22 pm22 an22 cd22 ct22), sl22⟩)    (c22 : PySem.W.codeIn K cd22 "_law_stretch" = true)    (k22 : PySem.W.keepIn K (.ref f22) = true)
    (a23 : PySem.W.nsIn K mainGlobals "_law_needs" = some (some (.ref f23)))    (l23 : K.lookup f23 = some ⟨oc23, od23, .func (PySem.W.fnOf "_law_needs" "_law_needs" (defArgs sLNeeds) (defBody sLNeeds) (defScope sLNeeds) .none kV23 dc23 pm23 an23 cd23 ct23), sl23⟩)    (c23 : PySem.W.codeIn K cd23 "_law_needs" = true)    (k23 : PySem.W.keepIn K (.ref f23) = true)
    (a24 : PySem.W.nsIn K mainGlobals "_law_rows" = some (some (.ref f24)))    (l24 : K.lookup f24 = some ⟨oc24, od24, .func (PySem.W.fnOf "_law_rows" "_law_rows" (defArgs sRows) (defBody sRows) (defScope sRows) .none kV24 dc24 pm24 an24 cd24 ct24), sl24⟩)    (c24 : PySem.W.codeIn K cd24 "_law_rows" = true)    (k24 : PySem.W.keepIn K (.ref f24) = true)
    (a25 : PySem.W.nsIn K mainGlobals "_law_wish" = some (some (.ref f25)))    (l25 : K.lookup f25 = some ⟨oc25, od25, .func (PySem.W.fnOf "_law_wish" "_law_wish" (defArgs sWish) (defBody sWish) (defScope sWish) .none kV25 dc25 pm25 an25 cd25 ct25), sl25⟩)    (c25 : PySem.W.codeIn K cd25 "_law_wish" = true)    (k25 : PySem.W.keepIn K (.ref f25) = true)
    (a26 : PySem.W.nsIn K mainGlobals "_law_shop" = some (some (.ref f26)))    (l26 : K.lookup f26 = some ⟨oc26, od26, .func (PySem.W.fnOf "_law_shop" "_law_shop" (defArgs sLShop) (defBody sLShop) (defScope sLShop) .none kV26 dc26 pm26 an26 cd26 ct26), sl26⟩)    (c26 : PySem.W.codeIn K cd26 "_law_shop" = true)    (k26 : PySem.W.keepIn K (.ref f26) = true)
    (a27 : PySem.W.nsIn K mainGlobals "_law_agenda" = some (some (.ref f27)))    (l27 : K.lookup f27 = some ⟨oc27, od27, .func (PySem.W.fnOf "_law_agenda" "_law_agenda" (defArgs sLAg) (defBody sLAg) (defScope sLAg) .none kV27 dc27 pm27 an27 cd27 ct27), sl27⟩)    (c27 : PySem.W.codeIn K cd27 "_law_agenda" = true)    (k27 : PySem.W.keepIn K (.ref f27) = true)
    (a28 : PySem.W.nsIn K mainGlobals "_law_meets" = some (some (.ref f28)))    (l28 : K.lookup f28 = some ⟨oc28, od28, .func (PySem.W.fnOf "_law_meets" "_law_meets" (defArgs sLMeets) (defBody sLMeets) (defScope sLMeets) .none kV28 dc28 pm28 an28 cd28 ct28), sl28⟩)    (c28 : PySem.W.codeIn K cd28 "_law_meets" = true)    (k28 : PySem.W.keepIn K (.ref f28) = true)
    (a29 : PySem.W.nsIn K mainGlobals "_law_all_picks" = some (some (.ref f29)))    (l29 : K.lookup f29 = some ⟨oc29, od29, .func (PySem.W.fnOf "_law_all_picks" "_law_all_picks" (defArgs sAllP) (defBody sAllP) (defScope sAllP) .none kV29 dc29 pm29 an29 cd29 ct29), sl29⟩)    (c29 : PySem.W.codeIn K cd29 "_law_all_picks" = true)    (k29 : PySem.W.keepIn K (.ref f29) = true)
    (a30 : PySem.W.nsIn K mainGlobals "_law_ahead" = some (some (.ref f30)))    (l30 : K.lookup f30 = some ⟨oc30, od30, .func (PySem.W.fnOf "_law_ahead" "_law_ahead" (defArgs sAhead) (defBody sAhead) (defScope sAhead) .none kV30 dc30 pm30 an30 cd30 ct30), sl30⟩)    (c30 : PySem.W.codeIn K cd30 "_law_ahead" = true)    (k30 : PySem.W.keepIn K (.ref f30) = true)
    (a31 : PySem.W.nsIn K mainGlobals "_law_wide_wish" = some (some (.ref f31)))    (l31 : K.lookup f31 = some ⟨oc31, od31, .func (PySem.W.fnOf "_law_wide_wish" "_law_wide_wish" (defArgs sWide) (defBody sWide) (defScope sWide) .none kV31 dc31 pm31 an31 cd31 ct31), sl31⟩)    (c31 : PySem.W.codeIn K cd31 "_law_wide_wish" = true)    (k31 : PySem.W.keepIn K (.ref f31) = true)
    (a32 : PySem.W.nsIn K mainGlobals "_law_shop_changed" = some (some (.ref f32)))    (l32 : K.lookup f32 = some ⟨oc32, od32, .func (PySem.W.fnOf "_law_shop_changed" "_law_shop_changed" (defArgs sSChg) (defBody sSChg) (defScope sSChg) .none kV32 dc32 pm32 an32 cd32 ct32), sl32⟩)    (c32 : PySem.W.codeIn K cd32 "_law_shop_changed" = true)    (k32 : PySem.W.keepIn K (.ref f32) = true)
    (a33 : PySem.W.nsIn K mainGlobals "_law_all_right" = some (some (.ref f33)))    (l33 : K.lookup f33 = some ⟨oc33, od33, .func (PySem.W.fnOf "_law_all_right" "_law_all_right" (defArgs sAllR) (defBody sAllR) (defScope sAllR) .none kV33 dc33 pm33 an33 cd33 ct33), sl33⟩)    (c33 : PySem.W.codeIn K cd33 "_law_all_right" = true)    (k33 : PySem.W.keepIn K (.ref f33) = true)
    (a34 : PySem.W.nsIn K mainGlobals "_law_pair_right" = some (some (.ref f34)))    (l34 : K.lookup f34 = some ⟨oc34, od34, .func (PySem.W.fnOf "_law_pair_right" "_law_pair_right" (defArgs sPairR) (defBody sPairR) (defScope sPairR) .none kV34 dc34 pm34 an34 cd34 ct34), sl34⟩)    (c34 : PySem.W.codeIn K cd34 "_law_pair_right" = true)    (k34 : PySem.W.keepIn K (.ref f34) = true)
    (a35 : PySem.W.nsIn K mainGlobals "law" = some (some (.ref f35)))    (l35 : K.lookup f35 = some ⟨oc35, od35, .func (PySem.W.fnOf "law" "law" (defArgs sLaw) (defBody sLaw) (defScope sLaw) .none kV35 dc35 pm35 an35 cd35 ct35), sl35⟩)    (c35 : PySem.W.codeIn K cd35 "law" = true)    (k35 : PySem.W.keepIn K (.ref f35) = true)
    (gt8 : PySem.W.nsIn K mainGlobals "MOST_SIGNS" = some (some (.int 8 t8)))    (gt1 : PySem.W.nsIn K mainGlobals "LEAST_MAKE" = some (some (.int 1 t1)))    (gt9 : PySem.W.nsIn K mainGlobals "MOST_MAKE" = some (some (.int 999 t9)))    (gt12 : PySem.W.nsIn K mainGlobals "MOST_WARES" = some (some (.int 12 t12)))    (gt88 : PySem.W.nsIn K mainGlobals "MOST_MAKES" = some (some (.int 8 t88)))    (gt6 : PySem.W.nsIn K mainGlobals "MOST_NEEDS" = some (some (.int 6 t6)))    (gtw8 : PySem.W.nsIn K mainGlobals "MOST_WISHES" = some (some (.int 8 tw8)))
    (pgShop : PySem.W.plainGet K CShop Str.empty = true)    (hdShop : PySem.W.hasDictIn K CShop = true)    (poShop : PySem.W.plainOver K CShop = true)    (saShop : PySem.W.findIn K (.ref CShop) "__setattr__" = some (some (.builtin "object.__setattr__")))    (mkShop : PySem.W.makesIn K CShop = true)    (kcShop : PySem.W.keepIn K (.ref CShop) = true)    (nSShop_shelves : PySem.W.findIn K (.ref CShop) "_shelves" = some none)
    (eaBadWare : PySem.W.nsIn K mainGlobals "BadWare" = some (some (.ref EBadWare)))    (exBadWare : PySem.W.excIn K EBadWare [.type "ValueError", .type "Exception", .type "BaseException", .type "object"] "ValueError.__new__" = true)    (ekBadWare : PySem.W.keepIn K (.ref EBadWare) = true)    (ebBadWare : PySem.W.subIn K (.ref EBadWare) (.type "BaseException") = some true)    (etBadWare : PySem.W.typeIn K (.ref EBadWare) = some (.type "type"))
    (eaBadMake : PySem.W.nsIn K mainGlobals "BadMake" = some (some (.ref EBadMake)))    (exBadMake : PySem.W.excIn K EBadMake [.type "ValueError", .type "Exception", .type "BaseException", .type "object"] "ValueError.__new__" = true)    (ekBadMake : PySem.W.keepIn K (.ref EBadMake) = true)    (ebBadMake : PySem.W.subIn K (.ref EBadMake) (.type "BaseException") = some true)    (etBadMake : PySem.W.typeIn K (.ref EBadMake) = some (.type "type"))
    (eaBadNeed : PySem.W.nsIn K mainGlobals "BadNeed" = some (some (.ref EBadNeed)))    (exBadNeed : PySem.W.excIn K EBadNeed [.type "ValueError", .type "Exception", .type "BaseException", .type "object"] "ValueError.__new__" = true)    (ekBadNeed : PySem.W.keepIn K (.ref EBadNeed) = true)    (ebBadNeed : PySem.W.subIn K (.ref EBadNeed) (.type "BaseException") = some true)    (etBadNeed : PySem.W.typeIn K (.ref EBadNeed) = some (.type "type"))
    (eaTwice : PySem.W.nsIn K mainGlobals "Twice" = some (some (.ref ETwice)))    (exTwice : PySem.W.excIn K ETwice [.type "ValueError", .type "Exception", .type "BaseException", .type "object"] "ValueError.__new__" = true)    (ekTwice : PySem.W.keepIn K (.ref ETwice) = true)    (ebTwice : PySem.W.subIn K (.ref ETwice) (.type "BaseException") = some true)    (etTwice : PySem.W.typeIn K (.ref ETwice) = some (.type "type"))
    (eaFull : PySem.W.nsIn K mainGlobals "Full" = some (some (.ref EFull)))    (exFull : PySem.W.excIn K EFull [.type "ValueError", .type "Exception", .type "BaseException", .type "object"] "ValueError.__new__" = true)    (ekFull : PySem.W.keepIn K (.ref EFull) = true)    (ebFull : PySem.W.subIn K (.ref EFull) (.type "BaseException") = some true)    (etFull : PySem.W.typeIn K (.ref EFull) = some (.type "type"))
    (eaNoMake : PySem.W.nsIn K mainGlobals "NoMake" = some (some (.ref ENoMake)))    (exNoMake : PySem.W.excIn K ENoMake [.type "ValueError", .type "Exception", .type "BaseException", .type "object"] "ValueError.__new__" = true)    (ekNoMake : PySem.W.keepIn K (.ref ENoMake) = true)    (ebNoMake : PySem.W.subIn K (.ref ENoMake) (.type "BaseException") = some true)    (etNoMake : PySem.W.typeIn K (.ref ENoMake) = some (.type "type"))
    (eaBadWish : PySem.W.nsIn K mainGlobals "BadWish" = some (some (.ref EBadWish)))    (exBadWish : PySem.W.excIn K EBadWish [.type "ValueError", .type "Exception", .type "BaseException", .type "object"] "ValueError.__new__" = true)    (ekBadWish : PySem.W.keepIn K (.ref EBadWish) = true)    (ebBadWish : PySem.W.subIn K (.ref EBadWish) (.type "BaseException") = some true)    (etBadWish : PySem.W.typeIn K (.ref EBadWish) = some (.type "type"))
    (eaBadPick : PySem.W.nsIn K mainGlobals "BadPick" = some (some (.ref EBadPick)))    (exBadPick : PySem.W.excIn K EBadPick [.type "ValueError", .type "Exception", .type "BaseException", .type "object"] "ValueError.__new__" = true)    (ekBadPick : PySem.W.keepIn K (.ref EBadPick) = true)    (ebBadPick : PySem.W.subIn K (.ref EBadPick) (.type "BaseException") = some true)    (etBadPick : PySem.W.typeIn K (.ref EBadPick) = some (.type "type"))

       (z1 : PySem.W.nsIn K mainGlobals "isinstance" = some none)    (z2 : PySem.W.nsIn K mainGlobals "type" = some none)    (z3 : PySem.W.nsIn K mainGlobals "str" = some none)    (z4 : PySem.W.nsIn K mainGlobals "int" = some none)    (z5 : PySem.W.nsIn K mainGlobals "tuple" = some none)    (z6 : PySem.W.nsIn K mainGlobals "list" = some none)    (z7 : PySem.W.nsIn K mainGlobals "dict" = some none)    (z8 : PySem.W.nsIn K mainGlobals "len" = some none)    (z9 : PySem.W.nsIn K mainGlobals "all" = some none)    (z10 : PySem.W.nsIn K mainGlobals "range" = some none)    (z11 : PySem.W.nsIn K mainGlobals "sorted" = some none)    (z12 : PySem.W.nsIn K mainGlobals "max" = some none)    (z13 : PySem.W.nsIn K mainGlobals "min" = some none)    (z14 : PySem.W.nsIn K mainGlobals "enumerate" = some none)    (z15 : PySem.W.nsIn K mainGlobals "bool" = some none) :
    LamX.LawAtS l w K (L2.CX0) 9 63 "_law_script" mg fa h := by
  have hTabc := hT0 "is_ware" c T hrecc (tabIn_of a1 l1 rfl lcc v11c)
  have hTabcc2 := hT0 "_meets" cc2 TT2 hreccc2 (tabIn_of a19 l19 rfl lccc2 v11cc2)
  have e := hfa.symm.trans (PySem.W.mg_of X G a35)
  cases e
  have mCShop := PySem.W.mg_of X G aCShop
  have F1 := fun_mk (st := sWare) l1 c1 k1
  have b1 := F1.binds (ps := ["thing"]) fun _ _ _ _ _ _ us hl => match us, hl with | [_], _ => rfl
  have m1 := PySem.W.mg_of X G a1
  have F2 := fun_mk (st := sMake) l2 c2 k2
  have b2 := F2.binds (ps := ["thing"]) fun _ _ _ _ _ _ us hl => match us, hl with | [_], _ => rfl
  have m2 := PySem.W.mg_of X G a2
  have F3 := fun_mk (st := sNeed) l3 c3 k3
  have b3 := F3.binds (ps := ["thing"]) fun _ _ _ _ _ _ us hl => match us, hl with | [_], _ => rfl
  have m3 := PySem.W.mg_of X G a3
  have F4 := fun_mk (st := sWithin) l4 c4 k4
  have b4 := F4.binds (ps := ["make", "low", "high"]) fun _ _ _ _ _ _ us hl => match us, hl with | [_, _, _], _ => rfl
  have m4 := PySem.W.mg_of X G a4
  have F5 := fun_mk (st := sMay) l5 c5 k5
  have b5 := F5.binds (ps := ["ware", "thing"]) fun _ _ _ _ _ _ us hl => match us, hl with | [_, _], _ => rfl
  have m5 := PySem.W.mg_of X G a5
  have F6 := fun_mk (st := sInit) l6 c6 k6
  have b6 := F6.binds (ps := ["self"]) fun _ _ _ _ _ _ us hl => match us, hl with | [_], _ => rfl
  have m6 : Meth K CShop "__init__" f6 := ⟨a6, i6, k6⟩
  have F7 := fun_mk (st := sPut) l7 c7 k7
  have b7 := F7.binds (ps := ["self", "ware", "make", "needs"]) fun _ _ _ _ _ _ us hl => match us, hl with | [_, _, _, _], _ => rfl
  have m7 : Meth K CShop "put" f7 := ⟨a7, i7, k7⟩
  have F8 := fun_mk (st := sTake) l8 c8 k8
  have b8 := F8.binds (ps := ["self", "ware", "make"]) fun _ _ _ _ _ _ us hl => match us, hl with | [_, _, _], _ => rfl
  have m8 : Meth K CShop "take" f8 := ⟨a8, i8, k8⟩
  have F9 := fun_mk (st := sMakes) l9 c9 k9
  have b9 := F9.binds (ps := ["self", "ware"]) fun _ _ _ _ _ _ us hl => match us, hl with | [_, _], _ => rfl
  have m9 : Meth K CShop "makes" f9 := ⟨a9, i9, k9⟩
  have F10 := fun_mk (st := sNeeds) l10 c10 k10
  have b10 := F10.binds (ps := ["self", "ware", "make"]) fun _ _ _ _ _ _ us hl => match us, hl with | [_, _, _], _ => rfl
  have m10 : Meth K CShop "needs" f10 := ⟨a10, i10, k10⟩
  have F11 := fun_mk (st := sHas) l11 c11 k11
  have b11 := F11.binds (ps := ["self", "ware", "make"]) fun _ _ _ _ _ _ us hl => match us, hl with | [_, _, _], _ => rfl
  have m11 : Meth K CShop "_has" f11 := ⟨a11, i11, k11⟩
  have F12 := fun_mk (st := sPlace) l12 c12 k12
  have b12 := F12.binds (ps := ["self", "ware"]) fun _ _ _ _ _ _ us hl => match us, hl with | [_, _], _ => rfl
  have m12 : Meth K CShop "_has_place" f12 := ⟨a12, i12, k12⟩
  have F13 := fun_mk (st := sNewer) l13 c13 k13
  have b13 := F13.binds (ps := ["shop", "wish", "one", "other"]) fun _ _ _ _ _ _ us hl => match us, hl with | [_, _, _, _], _ => rfl
  have m13 := PySem.W.mg_of X G a13
  have F14 := fun_mk (st := sChkW) l14 c14 k14
  have b14 := F14.binds (ps := ["thing"]) fun _ _ _ _ _ _ us hl => match us, hl with | [_], _ => rfl
  have m14 := PySem.W.mg_of X G a14
  have F15 := fun_mk (st := sHasM) l15 c15 k15
  have b15 := F15.binds (ps := ["shop", "ware", "make"]) fun _ _ _ _ _ _ us hl => match us, hl with | [_, _, _], _ => rfl
  have m15 := PySem.W.mg_of X G a15
  have F16 := fun_mk (st := sAddW) l16 c16 k16
  have b16 := F16.binds (ps := ["wares", "needs"]) fun _ _ _ _ _ _ us hl => match us, hl with | [_, _], _ => rfl
  have m16 := PySem.W.mg_of X G a16
  have F17 := fun_mk (st := sChkP) l17 c17 k17
  have b17 := F17.binds (ps := ["shop", "thing"]) fun _ _ _ _ _ _ us hl => match us, hl with | [_, _], _ => rfl
  have m17 := PySem.W.mg_of X G a17
  have F18 := fun_mk (st := sAgOf) l18 c18 k18
  have b18 := F18.binds (ps := ["shop", "wish", "pick"]) fun _ _ _ _ _ _ us hl => match us, hl with | [_, _, _], _ => rfl
  have m18 := PySem.W.mg_of X G a18
  have F19 := fun_mk (st := sMeetsU) l19 c19 k19
  have b19 := F19.binds (ps := ["shop", "wish", "pick"]) fun _ _ _ _ _ _ us hl => match us, hl with | [_, _, _], _ => rfl
  have m19 := PySem.W.mg_of X G a19
  have F20 := fun_mk (st := sMixed) l20 c20 k20
  have b20 := F20.binds (ps := ["_law_script", "_law_k"]) fun _ _ _ _ _ _ us hl => match us, hl with | [_, _], _ => rfl
  have m20 := PySem.W.mg_of X G a20
  have F21 := fun_mk (st := sNames) l21 c21 k21
  have b21 := F21.binds (ps := ["_law_script", "_law_many"]) fun _ _ _ _ _ _ us hl => match us, hl with | [_, _], _ => rfl
  have m21 := PySem.W.mg_of X G a21
  have F22 := fun_mk (st := sStretch) l22 c22 k22
  have b22 := F22.binds (ps := ["_law_number", "_law_makes"]) fun _ _ _ _ _ _ us hl => match us, hl with | [_, _], _ => rfl
  have m22 := PySem.W.mg_of X G a22
  have F23 := fun_mk (st := sLNeeds) l23 c23 k23
  have b23 := F23.binds (ps := ["_law_script", "_law_names_here", "_law_makes", "_law_k", "_law_at"]) fun _ _ _ _ _ _ us hl => match us, hl with | [_, _, _, _, _], _ => rfl
  have m23 := PySem.W.mg_of X G a23
  have F24 := fun_mk (st := sRows) l24 c24 k24
  have b24 := F24.binds (ps := ["_law_script", "_law_most", "_law_many_makes"]) fun _ _ _ _ _ _ us hl => match us, hl with | [_, _, _], _ => rfl
  have m24 := PySem.W.mg_of X G a24
  have F25 := fun_mk (st := sWish) l25 c25 k25
  have b25 := F25.binds (ps := ["_law_script", "_law_rows_here", "_law_most"]) fun _ _ _ _ _ _ us hl => match us, hl with | [_, _, _], _ => rfl
  have m25 := PySem.W.mg_of X G a25
  have F26 := fun_mk (st := sLShop) l26 c26 k26
  have b26 := F26.binds (ps := ["_law_rows_here"]) fun _ _ _ _ _ _ us hl => match us, hl with | [_], _ => rfl
  have m26 := PySem.W.mg_of X G a26
  have F27 := fun_mk (st := sLAg) l27 c27 k27
  have b27 := F27.binds (ps := ["_law_rows_here", "_law_wish_here", "_law_pick"]) fun _ _ _ _ _ _ us hl => match us, hl with | [_, _, _], _ => rfl
  have m27 := PySem.W.mg_of X G a27
  have F28 := fun_mk (st := sLMeets) l28 c28 k28
  have b28 := F28.binds (ps := ["_law_rows_here", "_law_wish_here", "_law_pick"]) fun _ _ _ _ _ _ us hl => match us, hl with | [_, _, _], _ => rfl
  have m28 := PySem.W.mg_of X G a28
  have F29 := fun_mk (st := sAllP) l29 c29 k29
  have b29 := F29.binds (ps := ["_law_rows_here", "_law_wish_here"]) fun _ _ _ _ _ _ us hl => match us, hl with | [_, _], _ => rfl
  have m29 := PySem.W.mg_of X G a29
  have F30 := fun_mk (st := sAhead) l30 c30 k30
  have b30 := F30.binds (ps := ["_law_rows_here", "_law_wish_here", "_law_one", "_law_other"]) fun _ _ _ _ _ _ us hl => match us, hl with | [_, _, _, _], _ => rfl
  have m30 := PySem.W.mg_of X G a30
  have F31 := fun_mk (st := sWide) l31 c31 k31
  have b31 := F31.binds (ps := ["_law_script", "_law_rows_here"]) fun _ _ _ _ _ _ us hl => match us, hl with | [_, _], _ => rfl
  have m31 := PySem.W.mg_of X G a31
  have F32 := fun_mk (st := sSChg) l32 c32 k32
  have b32 := F32.binds (ps := ["_law_shop_here", "_law_rows_here", "_law_number"]) fun _ _ _ _ _ _ us hl => match us, hl with | [_, _, _], _ => rfl
  have m32 := PySem.W.mg_of X G a32
  have F33 := fun_mk (st := sAllR) l33 c33 k33
  have b33 := F33.binds (ps := ["_law_shop_here", "_law_rows_here", "_law_wish_here"]) fun _ _ _ _ _ _ us hl => match us, hl with | [_, _, _], _ => rfl
  have m33 := PySem.W.mg_of X G a33
  have F34 := fun_mk (st := sPairR) l34 c34 k34
  have b34 := F34.binds (ps := ["_law_shop_here", "_law_rows_here", "_law_wish_here", "_law_pair"]) fun _ _ _ _ _ _ us hl => match us, hl with | [_, _, _, _], _ => rfl
  have m34 := PySem.W.mg_of X G a34
  have F35 := fun_mk (st := sLaw) l35 c35 k35
  have m35 := PySem.W.mg_of X G a35
  have qt8 := PySem.W.mg_of X G gt8
  have qt1 := PySem.W.mg_of X G gt1
  have qt9 := PySem.W.mg_of X G gt9
  have qt12 := PySem.W.mg_of X G gt12
  have qt88 := PySem.W.mg_of X G gt88
  have qt6 := PySem.W.mg_of X G gt6
  have qtw8 := PySem.W.mg_of X G gtw8
  have y1 := PySem.W.mg_none_of X G z1
  have y2 := PySem.W.mg_none_of X G z2
  have y3 := PySem.W.mg_none_of X G z3
  have y4 := PySem.W.mg_none_of X G z4
  have y5 := PySem.W.mg_none_of X G z5
  have y6 := PySem.W.mg_none_of X G z6
  have y7 := PySem.W.mg_none_of X G z7
  have y8 := PySem.W.mg_none_of X G z8
  have y9 := PySem.W.mg_none_of X G z9
  have y10 := PySem.W.mg_none_of X G z10
  have y11 := PySem.W.mg_none_of X G z11
  have y12 := PySem.W.mg_none_of X G z12
  have y13 := PySem.W.mg_none_of X G z13
  have y14 := PySem.W.mg_none_of X G z14
  have y15 := PySem.W.mg_none_of X G z15
  have XBadWare : ExT K mg "BadWare" EBadWare := ⟨PySem.W.mg_of X G eaBadWare, exBadWare, ekBadWare, ebBadWare, etBadWare⟩
  have XBadMake : ExT K mg "BadMake" EBadMake := ⟨PySem.W.mg_of X G eaBadMake, exBadMake, ekBadMake, ebBadMake, etBadMake⟩
  have XBadNeed : ExT K mg "BadNeed" EBadNeed := ⟨PySem.W.mg_of X G eaBadNeed, exBadNeed, ekBadNeed, ebBadNeed, etBadNeed⟩
  have XTwice : ExT K mg "Twice" ETwice := ⟨PySem.W.mg_of X G eaTwice, exTwice, ekTwice, ebTwice, etTwice⟩
  have XFull : ExT K mg "Full" EFull := ⟨PySem.W.mg_of X G eaFull, exFull, ekFull, ebFull, etFull⟩
  have XNoMake : ExT K mg "NoMake" ENoMake := ⟨PySem.W.mg_of X G eaNoMake, exNoMake, ekNoMake, ebNoMake, etNoMake⟩
  have XBadWish : ExT K mg "BadWish" EBadWish := ⟨PySem.W.mg_of X G eaBadWish, exBadWish, ekBadWish, ebBadWish, etBadWish⟩
  have XBadPick : ExT K mg "BadPick" EBadPick := ⟨PySem.W.mg_of X G eaBadPick, exBadPick, ekBadPick, ebBadPick, etBadPick⟩
  have S : ShopT K mg CShop := ⟨⟨pgShop, hdShop, poShop, saShop⟩, nSShop_shelves, y8, y6, y11⟩
  refine ⟨PySem.W.fnOf "law" "law" (defArgs sLaw) (defBody sLaw) (defScope sLaw) .none kV35 dc35 pm35 an35 cd35 ct35, [(c, T), (cc2, TT2)], spLaw6 K T TT2, ?_, ?_, ?_, fun s v => .of_eq rfl, ?_, fun base hK hN hB => ?_⟩
  · intro p hp
    rcases List.mem_cons.mp hp with hp | hp
    · rw [hp]; exact hTabc.2
    rw [List.mem_singleton.mp hp]
    exact hTabcc2.2
  · intro p hp
    rcases List.mem_cons.mp hp with hp | hp
    · rw [hp]; exact nTc
    rw [List.mem_singleton.mp hp]
    exact nTcc2
  · intro p hp
    rcases List.mem_cons.mp hp with hp | hp
    · rw [hp]; exact hTabc.1
    rw [List.mem_singleton.mp hp]
    exact hTabcc2.1
  · intro H a ns hl _ hH hS
    exact ⟨a, ns, rfl, hS, hl, ⟨#[], hH _ (List.mem_cons_self ..), True.intro⟩, ⟨#[], hH _ (List.mem_cons_of_mem _ (List.mem_singleton.mpr rfl)), True.intro⟩, fun _ => rfl⟩
  · have TBc := hB _ (List.mem_cons_self ..)
    have TBcc2 := hB _ (List.mem_cons_of_mem _ (List.mem_singleton.mpr rfl))
    have G1 := ok_ware (P := l.prog) (w := w) l1 c1 ⟨TBc.code, TBc.bm, TBc.gP⟩ y2 y3 y8 y9 qt8
    have G2 := ok_make (P := l.prog) (w := w) (base := base) F2 F4 b4 m4 y2 y4 qt1 qt9
    have G3 := ok_need (P := l.prog) (w := w) (base := base) F3 G1 F1.kp b1 m1 G2 F2.kp b2 m2 y2 y5 y8
    have G5 := ok_may (P := l.prog) (w := w) (base := base) F5 G3 F3.kp b3 m3 y2 y6 y8 qt6
    have G4 := ok_within (P := l.prog) (w := w) (base := base) (mg := mg) F4 
    have G6 := ok_init (P := l.prog) (w := w) (base := base) F6 S
    have G11 := ok_has (P := l.prog) (w := w) (base := base) F11 S G1 F1.kp b1 m1 G2 F2.kp b2 m2
    have G12 := ok_place (P := l.prog) (w := w) (base := base) F12 S qt88 qt12
    have G8 := ok_take (P := l.prog) (w := w) (base := base) F8 S XNoMake G11 b11 m11
    have G7 := ok_put (P := l.prog) (w := w) (base := base) F7 S XBadWare XBadMake XBadNeed XTwice XFull G1 F1.kp b1 m1 G2 F2.kp b2 m2 G5 F5.kp b5 m5 G11 b11 m11 G12 b12 m12
    have G9 := ok_makes (P := l.prog) (w := w) (base := base) F9 S XBadWare G1 F1.kp b1 m1
    have G10 := ok_needs (P := l.prog) (w := w) (base := base) F10 S XNoMake G11 b11 m11
    have G14 := ok_chkw (P := l.prog) (w := w) (base := base) F14 XBadWish G3 F3.kp b3 m3 y2 y6 y8 qtw8
    have G15 := ok_hasm (P := l.prog) (w := w) (base := base) F15 S G1 F1.kp b1 m1 G2 F2.kp b2 m2 G9 b9 m9
    have G16 := ok_addw (P := l.prog) (w := w) (base := base) (mg := mg) (T := T) F16 
    have G17 := ok_chkp (P := l.prog) (w := w) (base := base) F17 XBadPick G15 F15.kp b15 m15 y2 y7
    have G18 := ok_agof (P := l.prog) (w := w) (base := base) F18 S G16 F16.kp b16 m16 G10 b10 m10
    have G19 := ok_mtu (P := l.prog) (w := w) (base := base) l19 c19 ⟨TBcc2.code, TBcc2.bm, TBcc2.gP⟩ S G18 F18.kp b18 m18 G10 b10 m10 G4 F4.kp b4 m4 y9 y6 y11
    have G13 := ok_newer (P := l.prog) (w := w) (base := base) F13 G14 F14.kp b14 m14 G17 F17.kp b17 m17 G19 F19.kp b19 m19 G18 F18.kp b18 m18
    have G20 := ok_mixed (P := l.prog) (w := w) (base := base) F20 y8
    have G21 := ok_names (P := l.prog) (w := w) (base := base) (T := T) F21 F20 b20 m20 y8 y10
    have G22 := ok_stretch (P := l.prog) (w := w) (base := base) (T := T) F22 y8 y12 y13
    have G23 := ok_lneeds (P := l.prog) (w := w) (base := base) F23 G20 F20.kp b20 m20 G22 F22.kp b22 m22 y8 y12 y10
    have G24 := ok_rows (P := l.prog) (w := w) (base := base) F24 G20 F20.kp b20 m20 G21 F21.kp b21 m21 G23 F23.kp b23 m23 y8 y10
    have G25 := ok_wish (P := l.prog) (w := w) (base := base) F25 G20 F20.kp b20 m20 G21 F21.kp b21 m21 G22 F22.kp b22 m22 y8 y10 y6 y11
    have G26 := ok_lshop (P := l.prog) (w := w) (base := base) F26 S mCShop ⟨mkShop, a6, i6, kcShop⟩ G6 b6 G7 b7 m7 y6
    have G27 := ok_lag (P := l.prog) (w := w) (base := base) (mg := mg) (T := T) F27 
    have G32 := ok_schg (P := l.prog) (w := w) (base := base) F32 S G8 b8 m8 G7 b7 m7 y8 y6
    have G28 := ok_lmt (P := l.prog) (w := w) (base := base) F28 G27 F27.kp b27 m27 y6 y11
    have G29 := ok_allp (P := l.prog) (w := w) (base := base) F29 G28 F28.kp b28 m28 y7
    have G30 := ok_ahead (P := l.prog) (w := w) (base := base) F30 G27 F27.kp b27 m27
    have G31 := ok_wide (P := l.prog) (w := w) (base := base) (T := T) F31 G20 F20.kp b20 m20 y14 y11
    have G33 := ok_allr (P := l.prog) (w := w) (base := base) F33 G29 F29.kp b29 m29 G13 F13.kp b13 m13 G30 F30.kp b30 m30 y6 y8 y10 y1 y15
    have G34 := ok_pairr (P := l.prog) (w := w) (base := base) F34 G13 F13.kp b13 m13 G30 F30.kp b30 m30
    exact ok_law6 F35 G24 F24.kp b24 m24 G20 F20.kp b20 m20 G25 F25.kp b25 m25 G31 F31.kp b31 m31 G26 F26.kp b26 m26 G29 F29.kp b29 m29 G33 F33.kp b33 m33 G34 F34.kp b34 m34 G32 F32.kp b32 m32 y10 y8
end Pk
open PySem PySem.W PyProof.Rows
set_option maxRecDepth 100000 in
set_option maxHeartbeats 0 in
theorem PySem.Challenge.cw_pickfloor_k06_which_is_ahead_holds : PySem.Challenge.rw_pickfloor_k06_which_is_ahead.Holds := by
  w_on; o_law; k_head; (case hw => w_witness2)
  k_fill
  refine Pk.walk_ofD (l := PySem.Challenge.rw_pickfloor_k06_which_is_ahead) (n := 63) (k := 9) (x := "_law_script") (CX := fun _ => L2.CX0) rfl (by decide) rfl ⟨rfl, by decide, by decide⟩ (fun w h Y => PySem.W.kIn_of Y) ?F (fun _ _ _ _ _ h => h)
  case F =>
    intro w mg fa h KX G hmg hTab
    refine' Pk.all_mk KX G hmg hTab (by decide +kernel) (by decide +kernel) ?lcc ?v11c ?nTc ?lccc2 ?v11cc2 ?nTcc2 ?aCShop ?a1 ?l1 ?c1 ?k1 ?a2 ?l2 ?c2 ?k2 ?a3 ?l3 ?c3 ?k3 ?a4 ?l4 ?c4 ?k4 ?a5 ?l5 ?c5 ?k5 ?a6 ?i6 ?l6 ?c6 ?k6 ?a7 ?i7 ?l7 ?c7 ?k7 ?a8 ?i8 ?l8 ?c8 ?k8 ?a9 ?i9 ?l9 ?c9 ?k9 ?a10 ?i10 ?l10 ?c10 ?k10 ?a11 ?i11 ?l11 ?c11 ?k11 ?a12 ?i12 ?l12 ?c12 ?k12 ?a13 ?l13 ?c13 ?k13 ?a14 ?l14 ?c14 ?k14 ?a15 ?l15 ?c15 ?k15 ?a16 ?l16 ?c16 ?k16 ?a17 ?l17 ?c17 ?k17 ?a18 ?l18 ?c18 ?k18 ?a19 ?l19 ?c19 ?k19 ?a20 ?l20 ?c20 ?k20 ?a21 ?l21 ?c21 ?k21 ?a22 ?l22 ?c22 ?k22 ?a23 ?l23 ?c23 ?k23 ?a24 ?l24 ?c24 ?k24 ?a25 ?l25 ?c25 ?k25 ?a26 ?l26 ?c26 ?k26 ?a27 ?l27 ?c27 ?k27 ?a28 ?l28 ?c28 ?k28 ?a29 ?l29 ?c29 ?k29 ?a30 ?l30 ?c30 ?k30 ?a31 ?l31 ?c31 ?k31 ?a32 ?l32 ?c32 ?k32 ?a33 ?l33 ?c33 ?k33 ?a34 ?l34 ?c34 ?k34 ?a35 ?l35 ?c35 ?k35 ?gt8 ?gt1 ?gt9 ?gt12 ?gt88 ?gt6 ?gtw8 ?pgShop ?hdShop ?poShop ?saShop ?mkShop ?kcShop ?nSShop_shelves ?eaBadWare ?exBadWare ?ekBadWare ?ebBadWare ?etBadWare ?eaBadMake ?exBadMake ?ekBadMake ?ebBadMake ?etBadMake ?eaBadNeed ?exBadNeed ?ekBadNeed ?ebBadNeed ?etBadNeed ?eaTwice ?exTwice ?ekTwice ?ebTwice ?etTwice ?eaFull ?exFull ?ekFull ?ebFull ?etFull ?eaNoMake ?exNoMake ?ekNoMake ?ebNoMake ?etNoMake ?eaBadWish ?exBadWish ?ekBadWish ?ebBadWish ?etBadWish ?eaBadPick ?exBadPick ?ekBadPick ?ebBadPick ?etBadPick ?z1 ?z2 ?z3 ?z4 ?z5 ?z6 ?z7 ?z8 ?z9 ?z10 ?z11 ?z12 ?z13 ?z14 ?z15
    (case aCShop => k_is)
    (case a1 => k_is)
    (case l1 => k_is)
    (case c1 => k_is)
    (case k1 => k_is)
    (case a2 => k_is)
    (case l2 => k_is)
    (case c2 => k_is)
    (case k2 => k_is)
    (case a3 => k_is)
    (case l3 => k_is)
    (case c3 => k_is)
    (case k3 => k_is)
    (case a4 => k_is)
    (case l4 => k_is)
    (case c4 => k_is)
    (case k4 => k_is)
    (case a5 => k_is)
    (case l5 => k_is)
    (case c5 => k_is)
    (case k5 => k_is)
    (case a6 => k_is)
    (case i6 => k_is)
    (case l6 => k_is)
    (case c6 => k_is)
    (case k6 => k_is)
    (case a7 => k_is)
    (case i7 => k_is)
    (case l7 => k_is)
    (case c7 => k_is)
    (case k7 => k_is)
    (case a8 => k_is)
    (case i8 => k_is)
    (case l8 => k_is)
    (case c8 => k_is)
    (case k8 => k_is)
    (case a9 => k_is)
    (case i9 => k_is)
    (case l9 => k_is)
    (case c9 => k_is)
    (case k9 => k_is)
    (case a10 => k_is)
    (case i10 => k_is)
    (case l10 => k_is)
    (case c10 => k_is)
    (case k10 => k_is)
    (case a11 => k_is)
    (case i11 => k_is)
    (case l11 => k_is)
    (case c11 => k_is)
    (case k11 => k_is)
    (case a12 => k_is)
    (case i12 => k_is)
    (case l12 => k_is)
    (case c12 => k_is)
    (case k12 => k_is)
    (case a13 => k_is)
    (case l13 => k_is)
    (case c13 => k_is)
    (case k13 => k_is)
    (case a14 => k_is)
    (case l14 => k_is)
    (case c14 => k_is)
    (case k14 => k_is)
    (case a15 => k_is)
    (case l15 => k_is)
    (case c15 => k_is)
    (case k15 => k_is)
    (case a16 => k_is)
    (case l16 => k_is)
    (case c16 => k_is)
    (case k16 => k_is)
    (case a17 => k_is)
    (case l17 => k_is)
    (case c17 => k_is)
    (case k17 => k_is)
    (case a18 => k_is)
    (case l18 => k_is)
    (case c18 => k_is)
    (case k18 => k_is)
    (case a19 => k_is)
    (case l19 => k_is)
    (case c19 => k_is)
    (case k19 => k_is)
    (case a20 => k_is)
    (case l20 => k_is)
    (case c20 => k_is)
    (case k20 => k_is)
    (case a21 => k_is)
    (case l21 => k_is)
    (case c21 => k_is)
    (case k21 => k_is)
    (case a22 => k_is)
    (case l22 => k_is)
    (case c22 => k_is)
    (case k22 => k_is)
    (case a23 => k_is)
    (case l23 => k_is)
    (case c23 => k_is)
    (case k23 => k_is)
    (case a24 => k_is)
    (case l24 => k_is)
    (case c24 => k_is)
    (case k24 => k_is)
    (case a25 => k_is)
    (case l25 => k_is)
    (case c25 => k_is)
    (case k25 => k_is)
    (case a26 => k_is)
    (case l26 => k_is)
    (case c26 => k_is)
    (case k26 => k_is)
    (case a27 => k_is)
    (case l27 => k_is)
    (case c27 => k_is)
    (case k27 => k_is)
    (case a28 => k_is)
    (case l28 => k_is)
    (case c28 => k_is)
    (case k28 => k_is)
    (case a29 => k_is)
    (case l29 => k_is)
    (case c29 => k_is)
    (case k29 => k_is)
    (case a30 => k_is)
    (case l30 => k_is)
    (case c30 => k_is)
    (case k30 => k_is)
    (case a31 => k_is)
    (case l31 => k_is)
    (case c31 => k_is)
    (case k31 => k_is)
    (case a32 => k_is)
    (case l32 => k_is)
    (case c32 => k_is)
    (case k32 => k_is)
    (case a33 => k_is)
    (case l33 => k_is)
    (case c33 => k_is)
    (case k33 => k_is)
    (case a34 => k_is)
    (case l34 => k_is)
    (case c34 => k_is)
    (case k34 => k_is)
    (case a35 => k_is)
    (case l35 => k_is)
    (case c35 => k_is)
    (case k35 => k_is)
    (case gt8 => k_is)
    (case gt1 => k_is)
    (case gt9 => k_is)
    (case gt12 => k_is)
    (case gt88 => k_is)
    (case gt6 => k_is)
    (case gtw8 => k_is)
    (case pgShop => k_is)
    (case hdShop => k_is)
    (case poShop => k_is)
    (case saShop => k_is)
    (case mkShop => k_is)
    (case kcShop => k_is)
    (case nSShop_shelves => k_is)
    (case eaBadWare => k_is)
    (case exBadWare => k_exc)
    (case ekBadWare => k_is)
    (case ebBadWare => k_is)
    (case etBadWare => k_is)
    (case eaBadMake => k_is)
    (case exBadMake => k_exc)
    (case ekBadMake => k_is)
    (case ebBadMake => k_is)
    (case etBadMake => k_is)
    (case eaBadNeed => k_is)
    (case exBadNeed => k_exc)
    (case ekBadNeed => k_is)
    (case ebBadNeed => k_is)
    (case etBadNeed => k_is)
    (case eaTwice => k_is)
    (case exTwice => k_exc)
    (case ekTwice => k_is)
    (case ebTwice => k_is)
    (case etTwice => k_is)
    (case eaFull => k_is)
    (case exFull => k_exc)
    (case ekFull => k_is)
    (case ebFull => k_is)
    (case etFull => k_is)
    (case eaNoMake => k_is)
    (case exNoMake => k_exc)
    (case ekNoMake => k_is)
    (case ebNoMake => k_is)
    (case etNoMake => k_is)
    (case eaBadWish => k_is)
    (case exBadWish => k_exc)
    (case ekBadWish => k_is)
    (case ebBadWish => k_is)
    (case etBadWish => k_is)
    (case eaBadPick => k_is)
    (case exBadPick => k_exc)
    (case ekBadPick => k_is)
    (case ebBadPick => k_is)
    (case etBadPick => k_is)
    (case z1 => k_is)
    (case z2 => k_is)
    (case z3 => k_is)
    (case z4 => k_is)
    (case z5 => k_is)
    (case z6 => k_is)
    (case z7 => k_is)
    (case z8 => k_is)
    (case z9 => k_is)
    (case z10 => k_is)
    (case z11 => k_is)
    (case z12 => k_is)
    (case z13 => k_is)
    (case z14 => k_is)
    (case z15 => k_is)
    (case lcc => k_is); (case v11c => rfl); (case nTc => with_unfolding_all rfl)
    (case lccc2 => k_is); (case v11cc2 => rfl); (case nTcc2 => with_unfolding_all rfl)

