import PyProof.Rows.All
import Wide.All
import OpenK.AllK
import Wide.FinOn
import HandS.ForMost
import HandS.IsInst
import HandS.Style
import HandS.AnyAll
import HandS.EndTab
import HandS.Codes
import HandS.More
import HandS.SetKeys
import HandS.SortInts
import HandS.DictComp
import HandS.Exc
import HandS.TryOnly
import HandS.ExcOwn
import HandS.WordsExc
import HandS.ExcIs
import HandS.ExcCtx
import KE.KRevSl
import HandS.Walk
import HandS.GenList
import KE.KDictCopyH
import KE.KDictWalk
import KE.KDictList
import HandS.Iter
import HandS.Conv
import HandS.SortKw
import HandS.Rev
import KE.KEqNest
import PyProof.NeKinds
import KE.LtData
import PySem.Challenge.RW_pickfloor_k10_by_trying_all
set_option Elab.async false
set_option linter.all false
set_option maxRecDepth 100000
set_option maxHeartbeats 4000000
namespace Pk
open PySem PySem.Spec PyProof.Rows L2

/-! ### heaps: all that was tracked is kept, the table at P may have grown -/
structure Kp (P : Addr) (H H' : Hp) : Prop where
  t0 : GxR.TabG H P
  tab : GxR.TabG H' P
  keep : ∀ b o, b ≠ P → H b = some o → H' b = some o
theorem Kp.refl {P : Addr} {H : Hp} (t : GxR.TabG H P) : Kp P H H := ⟨t, t, fun _ _ _ e => e⟩
theorem Kp.trans {P : Addr} {H H1 H2 : Hp} (a : Kp P H H1) (b : Kp P H1 H2) : Kp P H H2 := ⟨a.t0, b.tab, fun c o n e => b.keep c o n (a.keep c o n e)⟩
theorem tab_ne {P b : Addr} {H : Hp} (t : GxR.TabG H P) {o : HO} (e : H b = some o) (n : ∀ ps, o ≠ .tbl ps) : b ≠ P := fun z => by
  obtain ⟨ps, h, _⟩ := t
  rw [z, h] at e
  exact n ps (Option.some.inj e).symm
theorem tab_nn {P b : Addr} {H : Hp} (t : GxR.TabG H P) (e : H b = none) : b ≠ P := fun z => by
  obtain ⟨ps, h, _⟩ := t
  rw [z, h] at e
  cases e
theorem Kp.of_tabbed {P : Addr} {H H' : Hp} (t : GxR.TabG H P) (h : GxR.Tabbed P H H') : Kp P H H' := ⟨t, h.1, fun b o n e => (h.2 b n).trans e⟩
theorem Kp.new {P p : Addr} {H : Hp} {o : HO} (t : GxR.TabG H P) (np : H p = none) : Kp P H (upd H p o) := by
  have n := tab_nn t np
  refine ⟨t, ?_, fun b u _ e => by rw [upd_ne (ne_of_none e np)]; exact e⟩
  obtain ⟨ps, h, q⟩ := t
  exact ⟨ps, by rw [upd_ne n.symm]; exact h, q⟩
/-- a store at an object that is new since H -/
theorem Kp.set {P p : Addr} {H H1 : Hp} {o : HO} (k : Kp P H H1) (np : H p = none) (hp : p ≠ P) : Kp P H (upd H1 p o) := by
  refine ⟨k.t0, ?_, fun b u n e => by rw [upd_ne (ne_of_none e np)]; exact k.keep b u n e⟩
  obtain ⟨ps, h, q⟩ := k.tab
  exact ⟨ps, by rw [upd_ne hp.symm]; exact h, q⟩
theorem Kp.free {P p : Addr} {H H1 : Hp} (k : Kp P H H1) (np : H1 p = none) : H p = none := by
  cases q : H p with
  | none => rfl
  | some o =>
    have z := k.keep p o (tab_nn k.tab np) q
    rw [np] at z
    cases z
theorem Kp.seq {P : Addr} {K : PySem.W.Frag} {H H' : Hp} {a : Addr} {xs : List V} (k : Kp P H H') (h : SqL K H a xs) : SqL K H' a xs := by
  rcases h with (h | ⟨o, h⟩) | h
  · exact .inl (.inl (k.keep _ _ (tab_ne k.t0 h fun _ z => by cases z) h))
  · exact .inl (.inr ⟨o, k.keep _ _ (tab_ne k.t0 h fun _ z => by cases z) h⟩)
  · exact .inr h
theorem Kp.sqt {P : Addr} {K : PySem.W.Frag} {H H' : Hp} {a : Addr} {xs : List V} (k : Kp P H H') (h : SqT K H a xs) : SqT K H' a xs := by
  rcases h with (h | ⟨o, h⟩) | h
  · exact .inl (.inl (k.keep _ _ (tab_ne k.t0 h fun _ z => by cases z) h))
  · exact .inl (.inr ⟨o, k.keep _ _ (tab_ne k.t0 h fun _ z => by cases z) h⟩)
  · exact .inr h
mutual
theorem Kp.dp {P : Addr} {K : PySem.W.Frag} {H H' : Hp} (k : Kp P H H') : ∀ (d : PyData) (v : V), Dp K H v d → Dp K H' v d
  | .none, _, h => by cases h; exact .non
  | .bool b, _, h => by cases h; exact .bl b
  | .int i, _, h => by cases h; exact .int i
  | .str x, _, h => by cases h; exact .str x
  | .list ds, _, h => by
    cases h with
    | lst a b => exact .lst (k.seq a) (Kp.dpAll k ds _ b)
  | .tuple ds, _, h => by
    cases h with
    | tup a b => exact .tup (k.sqt a) (Kp.dpAll k ds _ b)
  | .dict _, _, h => by cases h
theorem Kp.dpAll {P : Addr} {K : PySem.W.Frag} {H H' : Hp} (k : Kp P H H') : ∀ (ds : List PyData) (vs : List V), DpAll K H vs ds → DpAll K H' vs ds
  | [], _, h => by cases h; exact .nil
  | d :: ds, _, h => by
    cases h with
    | cons a b => exact .cons (Kp.dp k d _ a) (Kp.dpAll k ds _ b)
end
theorem dpAll_get {K : PySem.W.Frag} {H : Hp} : ∀ {ds : List PyData} {vs : List V}, DpAll K H vs ds → ∀ {i : Nat} {d : PyData}, ds[i]? = some d → ∃ v, vs[i]? = some v ∧ Dp K H v d
  | [], _, _, i, d, e => by simp at e
  | x :: r, _, h, i, d, e => by
    cases h with
    | cons a b =>
      cases i with
      | zero => exact ⟨_, rfl, by have e' : x = d := Option.some.inj e; subst e'; exact a⟩
      | succ i => exact dpAll_get b (i := i) (d := d) (by simpa using e)
theorem dpAll_len {K : PySem.W.Frag} {H : Hp} : ∀ {ds : List PyData} {vs : List V}, DpAll K H vs ds → vs.length = ds.length
  | [], _, h => by cases h; rfl
  | x :: r, _, h => by
    cases h with
    | cons a b => simp [dpAll_len b]

/-! ### kinds -/
def tyN : PyData → String
  | .none => "NoneType" | .bool _ => "bool" | .int _ => "int" | .str _ => "str" | .list _ => "list" | .tuple _ => "tuple" | .dict _ => "dict"
theorem tyx_of {K : PySem.W.Frag} {H : Hp} {v : V} {d : PyData} (h : Dp K H v d) : TyX K H v (.type (tyN d)) := by
  cases h with
  | non => exact .base .non
  | bl b => exact .base (.bl b)
  | int i => exact .base (.int i)
  | str x => exact .base (.str x)
  | lst a _ =>
    rcases a with (a | ⟨o, a⟩) | ⟨o, its, n, l, c, _⟩
    · exact .base (.lst a)
    · exact .base (.frz a)
    · exact .kList l c
  | tup a _ =>
    rcases a with (a | ⟨o, a⟩) | ⟨o, its, n, l, c, _⟩
    · exact .base (.tup a)
    · exact .fTuple a
    · exact .kTuple l c
def isStrD : PyData → Bool | .str _ => true | _ => false
def isIntD : PyData → Bool | .int _ => true | .bool _ => true | _ => false
def isBoolD : PyData → Bool | .bool _ => true | _ => false
def isTupD : PyData → Bool | .tuple _ => true | _ => false
def isLstD : PyData → Bool | .list _ => true | _ => false
theorem kit_str (K : PySem.W.Frag) (d : PyData) : PySem.W.kitOne K (.type (tyN d)) (.type "str") = some (isStrD d) := by
  cases d
  · exact kit_ty (a := "NoneType") (b := "str") (r := false) (by decide +kernel)
  · exact kit_ty (a := "bool") (b := "str") (r := false) (by decide +kernel)
  · exact kit_ty (a := "int") (b := "str") (r := false) (by decide +kernel)
  · exact kit_ty (a := "str") (b := "str") (r := true) (by decide +kernel)
  · exact kit_ty (a := "list") (b := "str") (r := false) (by decide +kernel)
  · exact kit_ty (a := "tuple") (b := "str") (r := false) (by decide +kernel)
  · exact kit_ty (a := "dict") (b := "str") (r := false) (by decide +kernel)
theorem kit_int (K : PySem.W.Frag) (d : PyData) : PySem.W.kitOne K (.type (tyN d)) (.type "int") = some (isIntD d) := by
  cases d
  · exact kit_ty (a := "NoneType") (b := "int") (r := false) (by decide +kernel)
  · exact kit_ty (a := "bool") (b := "int") (r := true) (by decide +kernel)
  · exact kit_ty (a := "int") (b := "int") (r := true) (by decide +kernel)
  · exact kit_ty (a := "str") (b := "int") (r := false) (by decide +kernel)
  · exact kit_ty (a := "list") (b := "int") (r := false) (by decide +kernel)
  · exact kit_ty (a := "tuple") (b := "int") (r := false) (by decide +kernel)
  · exact kit_ty (a := "dict") (b := "int") (r := false) (by decide +kernel)
theorem kit_bool (K : PySem.W.Frag) (d : PyData) : PySem.W.kitOne K (.type (tyN d)) (.type "bool") = some (isBoolD d) := by
  cases d
  · exact kit_ty (a := "NoneType") (b := "bool") (r := false) (by decide +kernel)
  · exact kit_ty (a := "bool") (b := "bool") (r := true) (by decide +kernel)
  · exact kit_ty (a := "int") (b := "bool") (r := false) (by decide +kernel)
  · exact kit_ty (a := "str") (b := "bool") (r := false) (by decide +kernel)
  · exact kit_ty (a := "list") (b := "bool") (r := false) (by decide +kernel)
  · exact kit_ty (a := "tuple") (b := "bool") (r := false) (by decide +kernel)
  · exact kit_ty (a := "dict") (b := "bool") (r := false) (by decide +kernel)
theorem kit_tup (K : PySem.W.Frag) (d : PyData) : PySem.W.kitOne K (.type (tyN d)) (.type "tuple") = some (isTupD d) := by
  cases d
  · exact kit_ty (a := "NoneType") (b := "tuple") (r := false) (by decide +kernel)
  · exact kit_ty (a := "bool") (b := "tuple") (r := false) (by decide +kernel)
  · exact kit_ty (a := "int") (b := "tuple") (r := false) (by decide +kernel)
  · exact kit_ty (a := "str") (b := "tuple") (r := false) (by decide +kernel)
  · exact kit_ty (a := "list") (b := "tuple") (r := false) (by decide +kernel)
  · exact kit_ty (a := "tuple") (b := "tuple") (r := true) (by decide +kernel)
  · exact kit_ty (a := "dict") (b := "tuple") (r := false) (by decide +kernel)
theorem kit_lst (K : PySem.W.Frag) (d : PyData) : PySem.W.kitOne K (.type (tyN d)) (.type "list") = some (isLstD d) := by
  cases d
  · exact kit_ty (a := "NoneType") (b := "list") (r := false) (by decide +kernel)
  · exact kit_ty (a := "bool") (b := "list") (r := false) (by decide +kernel)
  · exact kit_ty (a := "int") (b := "list") (r := false) (by decide +kernel)
  · exact kit_ty (a := "str") (b := "list") (r := false) (by decide +kernel)
  · exact kit_ty (a := "list") (b := "list") (r := true) (by decide +kernel)
  · exact kit_ty (a := "tuple") (b := "list") (r := false) (by decide +kernel)
  · exact kit_ty (a := "dict") (b := "list") (r := false) (by decide +kernel)
/-! ### the mirror: wares, makes, needs -/
def azB (c : Nat) : Bool := if (!decide ((⟨#[c]⟩ : Str).cps.toList < ("a" : Str).cps.toList)) = true then !decide (("z" : Str).cps.toList < (⟨#[c]⟩ : Str).cps.toList) else false
def wareB : PyData → Bool
  | .str x => decide (1 ≤ x.length) && decide (x.length ≤ 8) && x.cps.toList.all azB
  | _ => false
def makeB : PyData → Bool
  | .int i => decide (1 ≤ i) && decide (i ≤ 999)
  | _ => false
def leD : PyData → PyData → Bool
  | .int i, .int j => decide (i ≤ j)
  | _, _ => false
def needB : PyData → Bool
  | .tuple [a, b, c] => wareB a && makeB b && makeB c && leD b c
  | _ => false
theorem needB_len {ds : List PyData} (h : ds.length ≠ 3) : needB (.tuple ds) = false := by
  match ds, h with
  | [], _ => rfl
  | [_], _ => rfl
  | [_, _], _ => rfl
  | [_, _, _], h => exact absurd rfl h
  | _ :: _ :: _ :: _ :: _, _ => rfl
theorem makeB_ex {d : PyData} (h : makeB d = true) : ∃ i, d = .int i := by
  cases d <;> first | exact ⟨_, rfl⟩ | cases h
/-- all texts in it are short -/
def okS : PyData → Bool
  | .str x => decide (x.length ≤ 1000) && PyData.strOk x
  | _ => true
/-- and those of a tuple's items -/
def okT : PyData → Bool
  | .str x => decide (x.length ≤ 1000) && PyData.strOk x
  | .tuple ds => ds.all okS && decide (ds.length ≤ 1000)
  | _ => true
theorem okT_s {d : PyData} (h : okT d = true) : okS d = true := by
  cases d <;> first | exact h | rfl
theorem okS_len {x : Str} (h : okS (.str x) = true) : x.length ≤ 1000 := of_decide_eq_true (Bool.and_eq_true_iff.mp h).1
theorem okS_ok {x : Str} (h : okS (.str x) = true) : PyData.strOk x = true := (Bool.and_eq_true_iff.mp h).2
theorem line1000 {n : Nat} (h : n ≤ 1000) : n ≤ sizeLine := Nat.le_of_lt (small1000 h)

/-! ### the element 'a' <= sign <= 'z' of a generator expression -/
theorem elt_az {prog : Program} {w : World} {scope : Scope} {x : Str} {j1 j2 : Nat} {p1 p2 p3 p4 : Pos} (hk : scope.kind = .function) (hl : scope.names.lookup x = some .local) (hd : (x == ("__debug__" : Str)) = false := by decide) :
    GxR.EltP prog w scope x (.Compare (.Constant (.str "a") j1 p1) [.LtE, .LtE] [.Name x p2, .Constant (.str "z") j2 p3] p4) azB := by
  intro cenv A' E' c t s₂ m₂ hs hn hm
  have hk' : cenv.scope.kind = .function := by rw [hs]; exact hk
  have hl' : cenv.scope.names.lookup x = some .local := by rw [hs]; exact hl
  refine Compare_chain (Calls.Constant_str ?_) (by with_unfolding_all rfl)
  refine chain_link (wpAny_Name (wpAny_loadName_local hk' hl' hn hm ?_) hd)
  refine PySem.P.le_str ?_
  refine wpAny_truthy_bool ?_
  cases e : (!decide ((⟨#[c]⟩ : Str).cps.toList < ("a" : Str).cps.toList)) with
  | false => exact ite_ff ⟨by unfold azB; rw [if_neg (by rw [e]; exact Bool.false_ne_true)], GxR.keeps_tok _ _⟩
  | true =>
    refine ite_tt (chain_last (Calls.Constant_str (PySem.P.le_str ⟨?_, GxR.keeps_tok _ _⟩)))
    unfold azB
    rw [if_pos e]

/-! ### lists of booleans and such, as data -/
theorem iteD {p A B : Prop} [Decidable p] (h1 : p → A) (h2 : ¬ p → B) : if decide p = true then A else B := by
  by_cases h : p
  · rw [if_pos (decide_eq_true h)]
    exact h1 h
  · rw [if_neg (by rw [decide_eq_false h]; exact Bool.false_ne_true)]
    exact h2 h
theorem iteN {p A B : Prop} [Decidable p] (h1 : ¬ p → A) (h2 : p → B) : if (!decide p) = true then A else B := by
  by_cases h : p
  · rw [decide_eq_true h]
    exact iteF (h2 h)
  · rw [decide_eq_false h]
    exact iteT (h1 h)
/-! ### type(thing) is not .. -/
def isI (d : PyData) : Bool := match d with | .int _ => true | _ => false
def isDctD (d : PyData) : Bool := match d with | .dict _ => true | _ => false
theorem tyN_str (d : PyData) : decide (tyN d = "str") = isStrD d := by
  cases d
  · exact (by decide +kernel : decide ("NoneType" = "str") = false)
  · exact (by decide +kernel : decide ("bool" = "str") = false)
  · exact (by decide +kernel : decide ("int" = "str") = false)
  · exact (by decide +kernel : decide ("str" = "str") = true)
  · exact (by decide +kernel : decide ("list" = "str") = false)
  · exact (by decide +kernel : decide ("tuple" = "str") = false)
  · exact (by decide +kernel : decide ("dict" = "str") = false)
theorem tyN_int (d : PyData) : decide (tyN d = "int") = isI d := by
  cases d
  · exact (by decide +kernel : decide ("NoneType" = "int") = false)
  · exact (by decide +kernel : decide ("bool" = "int") = false)
  · exact (by decide +kernel : decide ("int" = "int") = true)
  · exact (by decide +kernel : decide ("str" = "int") = false)
  · exact (by decide +kernel : decide ("list" = "int") = false)
  · exact (by decide +kernel : decide ("tuple" = "int") = false)
  · exact (by decide +kernel : decide ("dict" = "int") = false)
theorem tyN_tup (d : PyData) : decide (tyN d = "tuple") = isTupD d := by
  cases d
  · exact (by decide +kernel : decide ("NoneType" = "tuple") = false)
  · exact (by decide +kernel : decide ("bool" = "tuple") = false)
  · exact (by decide +kernel : decide ("int" = "tuple") = false)
  · exact (by decide +kernel : decide ("str" = "tuple") = false)
  · exact (by decide +kernel : decide ("list" = "tuple") = false)
  · exact (by decide +kernel : decide ("tuple" = "tuple") = true)
  · exact (by decide +kernel : decide ("dict" = "tuple") = false)
theorem tyN_lst (d : PyData) : decide (tyN d = "list") = isLstD d := by
  cases d
  · exact (by decide +kernel : decide ("NoneType" = "list") = false)
  · exact (by decide +kernel : decide ("bool" = "list") = false)
  · exact (by decide +kernel : decide ("int" = "list") = false)
  · exact (by decide +kernel : decide ("str" = "list") = false)
  · exact (by decide +kernel : decide ("list" = "list") = true)
  · exact (by decide +kernel : decide ("tuple" = "list") = false)
  · exact (by decide +kernel : decide ("dict" = "list") = false)
theorem tyN_dct (d : PyData) : decide (tyN d = "dict") = isDctD d := by
  cases d
  · exact (by decide +kernel : decide ("NoneType" = "dict") = false)
  · exact (by decide +kernel : decide ("bool" = "dict") = false)
  · exact (by decide +kernel : decide ("int" = "dict") = false)
  · exact (by decide +kernel : decide ("str" = "dict") = false)
  · exact (by decide +kernel : decide ("list" = "dict") = false)
  · exact (by decide +kernel : decide ("tuple" = "dict") = false)
  · exact (by decide +kernel : decide ("dict" = "dict") = true)
theorem tyN_no {a b : String} {c : Bool} {A B : Prop} (h : decide (a = b) = c) (e : c = false) (p : A) : if (!decide (a = b)) = true then A else B := by
  rw [h, e]
  exact iteT p
theorem tyN_yes {a b : String} {c : Bool} {A B : Prop} (h : decide (a = b) = c) (e : c = true) (p : B) : if (!decide (a = b)) = true then A else B := by
  rw [h, e]
  exact iteF p
theorem tyI_no {a b : String} {c : Bool} {A B : Prop} (h : decide (a = b) = c) (e : c = false) (p : B) : if (decide (a = b)) = true then A else B := by
  rw [h, e]
  exact iteF p
theorem tyI_yes {a b : String} {c : Bool} {A B : Prop} (h : decide (a = b) = c) (e : c = true) (p : A) : if (decide (a = b)) = true then A else B := by
  rw [h, e]
  exact iteT p
theorem tyb_of {K : PySem.W.Frag} {H : Hp} {v : V} {d : PyData} (h : Dp K H v d) : TyB K H v (tyN d) := by
  cases h with
  | non => exact .non
  | bl b => exact .bl b
  | int i => exact .int i
  | str x => exact .str x
  | lst a _ => exact .lst a
  | tup a _ => exact .tup a
theorem isI_no {d : PyData} (h : isI d = false) : makeB d = false := by
  cases d <;> first | rfl | cases h
theorem isI_ex {d : PyData} (h : isI d = true) : ∃ i, d = .int i := by
  cases d <;> first | exact ⟨_, rfl⟩ | cases h
/-! ### signs a to z -/
theorem azB_iff (c : Nat) : azB c = (decide (97 ≤ c) && decide (c ≤ 122)) := by
  have e1 : (⟨#[c]⟩ : Str).cps.toList = [c] := rfl
  have e2 : ("a" : Str).cps.toList = [97] := by decide +kernel
  have e3 : ("z" : Str).cps.toList = [122] := by decide +kernel
  unfold azB
  rw [e1, e2, e3]
  by_cases h1 : 97 ≤ c
  · have f1 : ¬ ([c] < [97]) := by
      intro h
      cases h with
      | rel h => omega
      | cons h => cases h
    rw [decide_eq_false f1, decide_eq_true h1, Bool.true_and]
    show (if true = true then _ else _) = _
    rw [if_pos rfl]
    by_cases h2 : c ≤ 122
    · have f2 : ¬ ([122] < [c]) := by
        intro h
        cases h with
        | rel h => omega
        | cons h => cases h
      rw [decide_eq_false f2, decide_eq_true h2] <;> rfl
    · have f2 : [122] < [c] := List.Lex.rel (by omega)
      rw [decide_eq_true f2, decide_eq_false h2] <;> rfl
  · have f1 : [c] < [97] := List.Lex.rel (by omega)
    rw [decide_eq_true f1, decide_eq_false h1]
    rfl
def Az (l : List Nat) : Prop := ∀ c ∈ l, 97 ≤ c ∧ c ≤ 122
def Ok8 (l : List Nat) : Prop := ∀ c ∈ l, c < 0x110000
theorem Az.ok {l : List Nat} (h : Az l) : Ok8 l := fun c hc => by have := h c hc; omega
theorem strOk_S {l : List Nat} (h : Ok8 l) : PyData.strOk (SX.S l) = true := by
  unfold PyData.strOk
  rw [← Array.all_toList, List.all_eq_true]
  intro c hc
  exact decide_eq_true (h c hc)
theorem ok8_of {x : Str} (h : PyData.strOk x = true) : Ok8 x.cps.toList := by
  unfold PyData.strOk at h
  rw [← Array.all_toList, List.all_eq_true] at h
  intro c hc
  exact of_decide_eq_true (h c hc)
theorem okS_S {l : List Nat} (h : Ok8 l) (hl : l.length ≤ 1000) : okS (.str (SX.S l)) = true := by
  show (decide _ && _) = true
  rw [strOk_S h, SX.S_len, decide_eq_true hl] <;> rfl
theorem at_gen {α : Type} {xs : List α} {z : Int} {j : Nat} {v : α} (e : z = (j : Int)) (h : xs[j]? = some v) : atI xs z = some v := by
  rw [e]
  exact atI_nat h
def letters : List Nat := (List.range 26).map (97 + ·)
theorem letters_eq : ("abcdefghijklmnopqrstuvwxyz" : Str) = SX.S letters := by decide +kernel
theorem letters_at {i : Int} (h0 : 0 ≤ i) (h : i < 26) : atI letters i = some (97 + i.toNat) := by
  refine at_gen (j := i.toNat) (by omega) ?_
  unfold letters
  rw [List.getElem?_map, List.getElem?_range (by omega)]
  rfl
/-- an item of a list at a place in it -/
theorem at_pick {α : Type} {xs : List α} {i : Int} {p : α → Prop} (h0 : 0 ≤ i) (h1 : i < (xs.length : Int)) (hp : ∀ x ∈ xs, p x) : ∃ v, atI xs i = some v ∧ p v := by
  have hl : i.toNat < xs.length := by omega
  exact ⟨xs[i.toNat], at_gen (j := i.toNat) (by omega) (List.getElem?_eq_getElem hl), hp _ (List.getElem_mem hl)⟩
theorem cutV_mem {xs : List V} {lo hi : Option Int} {v : V} (h : v ∈ cutV xs lo hi) : v ∈ xs := List.mem_of_mem_drop (List.mem_of_mem_take h)
theorem cutS_S {l : List Nat} {lo hi : Option Int} : ∃ m, cutS (SX.S l) lo hi = SX.S m ∧ m.length ≤ l.length ∧ ∀ c ∈ m, c ∈ l := by
  refine ⟨_, rfl, ?_, fun c hc => List.mem_of_mem_drop (List.mem_of_mem_take hc)⟩
  have e : (SX.S l).cps.toList.length = l.length := by simp
  rw [List.length_take, List.length_drop]
  omega
/-- a comprehension over a text's signs -/
theorem lc_str {x : Str} {g : TG} {tt : TT} {te : TE} {vs : List Nat} {σ : L2.St} {H1 : Hp} {D : Addr} {Qd : Hp → Prop} (Pv : Nat → Hp → Prop) (h0 : Pv 0 (upd H1 D (.lst [])))
    (hs : ∀ i c H, x.cps.toList[i]? = some c → Pv i H → g (.str ⟨#[c]⟩) (wipe σ vs) H fun σ2 H2 => wipe σ2 vs = wipe σ vs ∧ tt σ2 H2 fun b H3 =>
      if b = true then te σ2 H3 fun y H4 => ∃ acc, H4 D = some (.lst acc) ∧ acc.length < sizeLine ∧ Pv (i + 1) (upd H4 D (.lst (acc ++ [y]))) else Pv (i + 1) H3) (hd : ∀ H, Pv x.cps.toList.length H → Qd H) :
    ∃ W : Nat → Nat → Hp → Prop, (∃ m, W 0 m (upd H1 D (.lst []))) ∧ ∀ i m H, W i m H →
      ((Its x).stop i H ∧ Qd H) ∨ ((Its x).go i H ∧ ∃ Nx : Hp → Prop, (∀ H', Nx H' → ∃ m', m' < m ∧ W (i + 1) m' H') ∧ ∀ v H', (Its x).yld i H v H' → g v (wipe σ vs) H' fun σ2 H2 => wipe σ2 vs = wipe σ vs ∧ tt σ2 H2 fun b H3 =>
        if b = true then te σ2 H3 fun y H4 => ∃ acc, H4 D = some (.lst acc) ∧ acc.length < sizeLine ∧ Nx (upd H4 D (.lst (acc ++ [y]))) else Nx H3) := by
  have hsz : x.cps.toList.length = x.cps.size := by simp
  refine ⟨fun i m H => m = x.cps.size - i ∧ i ≤ x.cps.size ∧ Pv i H, ⟨x.cps.size, by simp, Nat.zero_le _, h0⟩, ?_⟩
  rintro i m H ⟨rfl, hi, p⟩
  by_cases hlt : i < x.cps.size
  · refine .inr ⟨hlt, Pv (i + 1), fun H' p' => ⟨x.cps.size - (i + 1), by omega, rfl, hlt, p'⟩, fun v H' y => ?_⟩
    obtain ⟨rfl, c, hc, rfl⟩ := y
    exact hs i c _ (by rw [Array.getElem?_toList]; exact hc) p
  · have e : i = x.cps.size := by omega
    subst e
    exact .inl ⟨Nat.le_refl _, hd H (by rw [hsz]; exact p)⟩
/-! ### lists of flat things as data -/
theorem shaped_flat {ds : List PyData} (h : ∀ d ∈ ds, d.canLay0 = true ∧ d.depth = 0) : SeqAt.shaped (.list ds) = true ∧ SeqAt.shaped (.tuple ds) = true := by
  have h1 : PyData.canLayAll0 ds = true ∧ PyData.depthAll ds = 0 := by
    induction ds with
    | nil => exact ⟨rfl, rfl⟩
    | cons d r ih =>
      obtain ⟨i1, i2⟩ := ih fun x hx => h x (List.mem_cons_of_mem _ hx)
      obtain ⟨j1, j2⟩ := h d (List.mem_cons_self ..)
      constructor
      · show (d.canLay0 && PyData.canLayAll0 r) = true
        rw [i1, j1] <;> rfl
      · show max d.depth (PyData.depthAll r) = 0
        rw [i2, j2] <;> rfl
  constructor
  · show (PyData.canLayAll0 ds && decide (PyData.depthAll ds + 1 ≤ 64)) = true
    rw [h1.1, h1.2] <;> rfl
  · show (PyData.canLayAll0 ds && decide (PyData.depthAll ds + 1 ≤ 64)) = true
    rw [h1.1, h1.2] <;> rfl
theorem canLay_of {d : PyData} (h : SeqAt.shaped d = true) : d.canLay0 = true := SeqAt.canLay_of_shaped h
theorem eqv_self {d : PyData} (h : SeqAt.shaped d = true) : PyData.eqv d d = true := SeqAt.eqv_refl d (canLay_of h)
theorem eqv_nil (ds : List PyData) : PyData.eqv (.list ds) (.list []) = ds.isEmpty := by
  cases ds <;> rfl
theorem okT_tup {ds : List PyData} (h : ∀ d ∈ ds, okS d = true) (hl : ds.length ≤ 1000) : okT (.tuple ds) = true := by
  show (ds.all okS && decide (ds.length ≤ 1000)) = true
  rw [decide_eq_true hl, Bool.and_true, List.all_eq_true]
  exact h
theorem pick_thing {T : Addr} {K : PySem.W.Frag} {H HF : Hp} {xs : List V} {i : Int} (_ks : Kp T H HF) (hall : ∀ x ∈ xs, ∃ d, Dp K HF x d ∧ okT d = true) (h0 : 0 ≤ i) (h1 : i < (xs.length : Int)) :
    ∃ v d, atI xs i = some v ∧ Dp K HF v d ∧ okT d = true := by
  obtain ⟨v, hv, d, h⟩ := at_pick h0 h1 hall
  exact ⟨v, d, hv, h⟩
theorem Kp.lst {P a : Addr} {H H' : Hp} {xs : List V} (k : Kp P H H') (h : H a = some (.lst xs)) : H' a = some (.lst xs) := k.keep _ _ (tab_ne k.t0 h fun _ z => by cases z) h
theorem gens {env : Env} {scope : Scope} {x : Str} (k : scope.kind = .function) (co : scope.isCoroutine = false) (cell : ∀ y ∈ scope.names, y.2 ≠ .cell) (dot : scope.names.lookup (".0" : Str) = some NameKind.local)
    (loc : scope.names.lookup x = some .local) (nf : ∀ y ∈ scope.names, y.2 ≠ .free) : GxR.GenS env scope x := ⟨k, co, cell, dot, loc, fun y hy e => absurd e (nf y hy)⟩
theorem isStrD_ex {d : PyData} (h : isStrD d = true) : ∃ x, d = .str x := by
  cases d <;> first | exact ⟨_, rfl⟩ | cases h
theorem wareB_no {d : PyData} (h : isStrD d = false) : wareB d = false := by
  cases d <;> first | rfl | cases h
theorem tabIn_of {K : PySem.W.Frag} {x : Str} {f c T : Addr} {oc : Value} {od : Option Addr} {osl : Array (Option Value)} {fd : FuncData} {ec : Value} {dc : Option Addr} {vs : Array Value} {sl : Array (Option Value)}
    (a : PySem.W.nsIn K mainGlobals x = some (some (.ref f))) (l : K.lookup f = some ⟨oc, od, .func fd, osl⟩) (hc : fd.code = .ref c) (lc : K.lookup c = some ⟨ec, dc, .fields vs, sl⟩) (v : vs[11]? = some (.ref T)) : PySem.W.tabIn K x = some (c, T) := by
  unfold PySem.W.tabIn
  rw [a]
  simp only [l, hc, lc, v]
/-! ### the end, with the tables of the defs that the view holds -/
theorem walk_ofD {l : PySem.W.OpenLaw} {n k : Nat} {q : Program} {loose : List Str} {XP : (Str → Option Value) → Heap → Prop} {YP : World → Heap → Prop} {d : DefRec} {K : Params → PySem.W.Frag} {CX : World → CXT} {x : Str}
    (hn : l.most = some n) (hn2 : n ≤ sizeLine) (hdf : d.params.defaults = []) (hr : Room k callerA) (hY : ∀ (w : World) (h : Heap), YP w h → (K w.params).In h)
    (F : ∀ (w : World) (mg : Str → Option Value) (fa : Addr) (h : Heap), (K w.params).In h → h.Ns mainGlobals mg → mg d.name = some (.ref fa) →
      (∀ (y : Str) (c T : Addr), ((recsOf q).any fun e => e.name == y) = true → PySem.W.tabIn (K w.params) y = some (c, T) → PySem.W.CodeHd h c T ∧ h.get? T = some (PySem.W.tabObj #[])) → LamX.LawAtS l w (K w.params) (CX w) k n x mg fa h)
    (hCX : ∀ (w : World) (H : Hp) (s : Shared) (e : Value) (s' : Shared), CX w [] H s (fun _ _ _ => False) e s' → False) :
    PySem.W.WalkO q loose XP YP l.row.toRowW d [] (fun f vs => PySem.call f vs) := by
  refine Att.attach_callB hn hdf fun w s0 s1 mg mb fa o pm cd doc a vs ns G Y ho hd hcd hmg hobj hints hlen hbits hg => ?_
  have KX := hY w _ Y
  obtain ⟨fd, cs, sp, hT, nT, C, hb, hsp, hF⟩ := F w mg fa _ KX G.T.g hmg fun y c T hy ht => by
    cases hf : (recsOf q).find? (fun e => e.name == y) with
    | none =>
      rw [List.find?_eq_none] at hf
      obtain ⟨e, he, hz⟩ := List.any_eq_true.mp hy
      exact absurd hz (hf e he)
    | some e => exact PySem.W.tab_of G.T KX hf ht
  exact LamX.law_callTs KX G.T.g G.T.b G.T.builtins G.T.nolimit hg hT nT C G.T.bmain hobj hints (Nat.le_trans hlen hn2) hr hF hb (fun H hH hS => hsp H a ns hlen hbits hH hS) fun H e s' => hCX w H s1 e s'
end Pk

set_option Elab.async false
set_option linter.all false
set_option maxRecDepth 100000
set_option maxHeartbeats 4000000
namespace Pk
open PySem PySem.Spec PyProof.Rows L2

/-! ### parts of a heap hidden; kept but for some addresses -/
def hide (A : List Addr) (H : Hp) : Hp := fun b => if b ∈ A then none else H b
theorem hide_some {A : List Addr} {H : Hp} {b : Addr} {o : HO} (h : hide A H b = some o) : H b = some o ∧ b ∉ A := by
  unfold hide at h
  by_cases hb : b ∈ A
  · rw [if_pos hb] at h; cases h
  · rw [if_neg hb] at h; exact ⟨h, hb⟩
theorem hide_of {A : List Addr} {H : Hp} {b : Addr} {o : HO} (h : H b = some o) (hb : b ∉ A) : hide A H b = some o := by
  unfold hide
  rw [if_neg hb]
  exact h
def isSeqO : HO → Bool
  | .lst _ => true | .tup _ => true | .frz _ (.lst _) => true | .frz _ (.tup _) => true | _ => false
mutual
theorem dp_mono {K : PySem.W.Frag} {H H' : Hp} (k : ∀ b o, isSeqO o = true → H b = some o → H' b = some o) : ∀ (d : PyData) (v : V), Dp K H v d → Dp K H' v d
  | .none, _, h => by cases h; exact .non
  | .bool b, _, h => by cases h; exact .bl b
  | .int i, _, h => by cases h; exact .int i
  | .str x, _, h => by cases h; exact .str x
  | .list ds, _, h => by
    cases h with
    | lst a b =>
      refine .lst ?_ (dpAll_mono k ds _ b)
      rcases a with (a | ⟨o, a⟩) | a
      · exact .inl (.inl (k _ _ rfl a))
      · exact .inl (.inr ⟨o, k _ _ rfl a⟩)
      · exact .inr a
  | .tuple ds, _, h => by
    cases h with
    | tup a b =>
      refine .tup ?_ (dpAll_mono k ds _ b)
      rcases a with (a | ⟨o, a⟩) | a
      · exact .inl (.inl (k _ _ rfl a))
      · exact .inl (.inr ⟨o, k _ _ rfl a⟩)
      · exact .inr a
  | .dict _, _, h => by cases h
theorem dpAll_mono {K : PySem.W.Frag} {H H' : Hp} (k : ∀ b o, isSeqO o = true → H b = some o → H' b = some o) : ∀ (ds : List PyData) (vs : List V), DpAll K H vs ds → DpAll K H' vs ds
  | [], _, h => by cases h; exact .nil
  | d :: ds, _, h => by
    cases h with
    | cons a b => exact .cons (dp_mono k d _ a) (dpAll_mono k ds _ b)
end
theorem dp_show {K : PySem.W.Frag} {A : List Addr} {H : Hp} {d : PyData} {v : V} (h : Dp K (hide A H) v d) : Dp K H v d := dp_mono (fun _ _ _ e => (hide_some e).1) d v h
structure Kx (T : Addr) (A : List Addr) (H H' : Hp) : Prop where
  t0 : GxR.TabG H T
  tab : GxR.TabG H' T
  keep : ∀ b o, b ≠ T → b ∉ A → H b = some o → H' b = some o
theorem Kx.of {T : Addr} {A : List Addr} {H H' : Hp} (k : Kp T H H') : Kx T A H H' := ⟨k.t0, k.tab, fun b o n _ e => k.keep b o n e⟩
theorem Kx.refl {T : Addr} {A : List Addr} {H : Hp} (t : GxR.TabG H T) : Kx T A H H := ⟨t, t, fun _ _ _ _ e => e⟩
theorem Kx.trans {T : Addr} {A : List Addr} {H H1 H2 : Hp} (a : Kx T A H H1) (b : Kx T A H1 H2) : Kx T A H H2 := ⟨a.t0, b.tab, fun c o n m e => b.keep c o n m (a.keep c o n m e)⟩
theorem Kx.mono {T : Addr} {A B : List Addr} {H H' : Hp} (k : Kx T A H H') (h : ∀ a ∈ A, a ∈ B) : Kx T B H H' := ⟨k.t0, k.tab, fun b o n m e => k.keep b o n (fun z => m (h b z)) e⟩
theorem tab_upd {T a : Addr} {H : Hp} {o : HO} (t : GxR.TabG H T) (n : a ≠ T) : GxR.TabG (upd H a o) T := by
  obtain ⟨ps, h, q⟩ := t
  exact ⟨ps, by rw [upd_ne n.symm]; exact h, q⟩
theorem Kx.upd {T a : Addr} {A : List Addr} {H : Hp} {o : HO} (t : GxR.TabG H T) (n : a ≠ T) (m : a ∈ A) : Kx T A H (upd H a o) := by
  refine ⟨t, tab_upd t n, fun b u _ hb e => ?_⟩
  rw [upd_ne (fun z => hb (by rw [z]; exact m))]
  exact e
theorem Kx.free {T p : Addr} {A : List Addr} {H H1 : Hp} (k : Kx T A H H1) (hA : p ∉ A) (np : H1 p = none) : H p = none := by
  cases q : H p with
  | none => rfl
  | some o =>
    have z := k.keep p o (tab_nn k.tab np) hA q
    rw [np] at z
    cases z
theorem isSeq_ne_tab {T b : Addr} {H : Hp} {o : HO} (t : GxR.TabG H T) (hs : isSeqO o = true) (e : H b = some o) : b ≠ T := tab_ne t e fun ps z => by
  rw [z] at hs
  cases hs
/-- data outside A stand where what changes is a dict or hidden -/
theorem Kx.dpA {K : PySem.W.Frag} {T : Addr} {A F : List Addr} {H H' : Hp} (k : Kx T F H H') (hF : ∀ f ∈ F, f ∈ A ∨ ∃ kvs, H f = some (.dK kvs)) {v : V} {d : PyData} (h : Dp K (hide A H) v d) : Dp K (hide A H') v d :=
  dp_mono (fun b o hs e => by
    obtain ⟨e1, e2⟩ := hide_some e
    refine hide_of (k.keep b o (isSeq_ne_tab k.t0 hs e1) (fun z => ?_) e1) e2
    rcases hF b z with z | ⟨kvs, z⟩
    · exact e2 z
    · rw [z] at e1
      cases e1
      cases hs) d v h

theorem hide_upd {A : List Addr} {H : Hp} {a : Addr} {o : HO} (h : a ∈ A) : hide A (upd H a o) = hide A H := by
  funext b
  unfold hide
  by_cases hb : b ∈ A
  · rw [if_pos hb, if_pos hb]
  · rw [if_neg hb, if_neg hb, upd_ne (fun z => hb (by rw [z]; exact h))]
theorem Kx.dropNew {T n : Addr} {H H1 H2 : Hp} (nn : H n = none) (k1 : Kp T H H1) (k : Kx T [n] H1 H2) : Kp T H H2 := ⟨k1.t0, k.tab, fun b o hb e => k.keep b o hb (fun z => by
  rw [List.mem_singleton.mp z, nn] at e
  cases e) (k1.keep b o hb e)⟩
theorem dp_more {K : PySem.W.Frag} {A : List Addr} {H : Hp} {n : Addr} (nn : H n = none) {v : V} {d : PyData} (h : Dp K (hide A H) v d) : Dp K (hide (n :: A) H) v d := dp_mono (fun b o _ e => by
  obtain ⟨e1, e2⟩ := hide_some e
  refine hide_of e1 fun z => ?_
  rcases List.mem_cons.mp z with z | z
  · rw [z, nn] at e1; cases e1
  · exact e2 z) d v h
theorem dp_less {K : PySem.W.Frag} {A : List Addr} {H : Hp} {n : Addr} {v : V} {d : PyData} (h : Dp K (hide (n :: A) H) v d) : Dp K (hide A H) v d := dp_mono (fun b o _ e => by
  obtain ⟨e1, e2⟩ := hide_some e
  exact hide_of e1 fun z => e2 (List.mem_cons_of_mem _ z)) d v h
theorem sqt_kx {K : PySem.W.Frag} {T a : Addr} {A F : List Addr} {H H' : Hp} {xs : List V} (k : Kx T F H H') (hF : ∀ f ∈ F, f ∈ A ∨ ∃ kvs, H f = some (.dK kvs)) (h : SqT K (hide A H) a xs) : SqT K (hide A H') a xs := by
  have st : ∀ o, isSeqO o = true → hide A H a = some o → hide A H' a = some o := fun o hs e => by
    obtain ⟨e1, e2⟩ := hide_some e
    refine hide_of (k.keep a o (isSeq_ne_tab k.t0 hs e1) (fun z => ?_) e1) e2
    rcases hF a z with z | ⟨kvs, z⟩
    · exact e2 z
    · rw [z] at e1
      cases e1
      cases hs
  rcases h with (h | ⟨o, h⟩) | h
  · exact .inl (.inl (st _ rfl h))
  · exact .inl (.inr ⟨o, st _ rfl h⟩)
  · exact .inr h
theorem sqt_show {K : PySem.W.Frag} {A : List Addr} {H : Hp} {a : Addr} {xs : List V} (h : SqT K (hide A H) a xs) : SqT K H a xs := by
  rcases h with (h | ⟨o, h⟩) | h
  · exact .inl (.inl (hide_some h).1)
  · exact .inl (.inr ⟨o, (hide_some h).1⟩)
  · exact .inr h
theorem sqt_less {K : PySem.W.Frag} {A : List Addr} {H : Hp} {n a : Addr} {xs : List V} (h : SqT K (hide (n :: A) H) a xs) : SqT K (hide A H) a xs := by
  have st : ∀ o, hide (n :: A) H a = some o → hide A H a = some o := fun o e => by
    obtain ⟨e1, e2⟩ := hide_some e
    exact hide_of e1 fun z => e2 (List.mem_cons_of_mem _ z)
  rcases h with (h | ⟨o, h⟩) | h
  · exact .inl (.inl (st _ h))
  · exact .inl (.inr ⟨o, st _ h⟩)
  · exact .inr h
/-- a pair of two lists that hold the same data -/
def Told (K : PySem.W.Frag) (A : List Addr) (H : Hp) (v : V) : Prop := ∃ (t f u : Addr) (ds : List PyData), v = .ref t ∧ SqT K (hide A H) t [.ref f, .ref u] ∧ Dp K (hide A H) (.ref f) (.list ds) ∧ Dp K (hide A H) (.ref u) (.list ds) ∧
  SeqAt.shaped (.list ds) = true ∧ (∀ d ∈ ds, isBoolD d = false) ∧ ds.length ≤ 1000
theorem Told.kept {K : PySem.W.Frag} {T : Addr} {A F : List Addr} {H H' : Hp} {v : V} (h : Told K A H v) (k : Kx T F H H') (hF : ∀ f ∈ F, f ∈ A ∨ ∃ kvs, H f = some (.dK kvs)) : Told K A H' v := by
  obtain ⟨t, f, u, ds, e, h1, h2, h3, h4⟩ := h
  exact ⟨t, f, u, ds, e, sqt_kx k hF h1, k.dpA hF h2, k.dpA hF h3, h4⟩
theorem Told.keptP {K : PySem.W.Frag} {T : Addr} {A : List Addr} {H H' : Hp} {v : V} (h : Told K A H v) (k : Kp T H H') : Told K A H' v := h.kept (F := []) (.of k) fun f hf => by cases hf
theorem Told.less {K : PySem.W.Frag} {A : List Addr} {H : Hp} {n : Addr} {v : V} (h : Told K (n :: A) H v) : Told K A H v := by
  obtain ⟨t, f, u, ds, e, h1, h2, h3, h4⟩ := h
  exact ⟨t, f, u, ds, e, sqt_less h1, dp_less h2, dp_less h3, h4⟩
theorem small5000 {n : Nat} (h : n ≤ 5000) : n < sizeLine := Nat.lt_of_le_of_lt h (by decide)
/-! ### sorted texts and numbers -/
def leS (a b : Str) : Prop := ¬ (b.cps.toList < a.cps.toList)
theorem leS_trans {a b c : Str} (h1 : leS a b) (h2 : leS b c) : leS a c := by
  have z1 : a.cps.toList ≤ b.cps.toList := List.not_lt.mp h1
  have z2 : b.cps.toList ≤ c.cps.toList := List.not_lt.mp h2
  exact List.not_lt.mpr (List.le_trans z1 z2)
theorem leS_anti {a b : Str} (h1 : leS a b) (h2 : leS b a) : a = b := by
  have z1 : a.cps.toList ≤ b.cps.toList := List.not_lt.mp h1
  have z2 : b.cps.toList ≤ a.cps.toList := List.not_lt.mp h2
  have e := List.le_antisymm z1 z2
  cases a with
  | mk x =>
    cases b with
    | mk y =>
      have e2 : x = y := Array.toList_inj.mp e
      rw [e2]
theorem rising_pw : ∀ (l : List Str) (p : Str), risingS p l = true → (p :: l).Pairwise leS
  | [], p, _ => List.pairwise_cons.mpr ⟨fun _ h => (by cases h), List.Pairwise.nil⟩
  | x :: r, p, h => by
    have h' : (!ltCps x.cps.toList p.cps.toList && risingS x r) = true := h
    rw [Bool.and_eq_true, Bool.not_eq_true', ltCps_eq] at h'
    have h1 : leS p x := of_decide_eq_false h'.1
    have ih := rising_pw r x h'.2
    refine List.pairwise_cons.mpr ⟨fun y hy => ?_, ih⟩
    rcases List.mem_cons.mp hy with hy | hy
    · rw [hy]; exact h1
    · exact leS_trans h1 ((List.pairwise_cons.mp ih).1 y hy)
theorem sorted_pw : ∀ l : List Str, sortedS l = true → l.Pairwise leS
  | [], _ => List.Pairwise.nil
  | x :: r, h => rising_pw r x h
theorem sorted_same {a b : List Str} (hp : a.Perm b) (ha : sortedS a = true) (hb : sortedS b = true) : a = b :=
  List.Perm.eq_of_pairwise (fun x y _ _ h1 h2 => leS_anti h1 h2) (sorted_pw a ha) (sorted_pw b hb) hp
theorem ints_same {a b : List Int} (hp : a.Perm b) (ha : a.Pairwise (· ≤ ·)) (hb : b.Pairwise (· ≤ ·)) : a = b :=
  List.Perm.eq_of_pairwise (fun x y _ _ h1 h2 => Int.le_antisymm h1 h2) ha hb hp
/-! ### shelves: a dict of dicts of lists -/
structure Shelf where
  ware : Str
  at_ : Addr
  ents : List (Int × Addr × List PyData)
def entK (e : Int × Addr × List PyData) : Key × V := (Sum.inl e.1, V.ref e.2.1)
def keyW (s : Shelf) : Key × V := (Sum.inr s.ware, V.ref s.at_)
def look (st : List Shelf) (w : Str) : Option Shelf := st.find? fun s => decide (s.ware = w)
def lookE (es : List (Int × Addr × List PyData)) (m : Int) : Option (Int × Addr × List PyData) := es.find? fun e => decide (e.1 = m)
def entD (e : Int × Addr × List PyData) : Int × List PyData := (e.1, e.2.2)
def dataOf (st : List Shelf) (w : Str) : List (Int × List PyData) := ((look st w).map fun s => s.ents.map entD).getD []
theorem look_val (w : Str) : ∀ st : List Shelf, valV (st.map keyW) (Sum.inr w : Key) = (look st w).map fun s => V.ref s.at_
  | [] => rfl
  | s :: r => by
    have ih := look_val w r
    by_cases h : s.ware = w
    · rw [List.map_cons, valV_pos (p := keyW s) (by show (Sum.inr s.ware : Key) = Sum.inr w; rw [h])]
      unfold look
      rw [List.find?_cons, decide_eq_true h]
      rfl
    · rw [List.map_cons, valV_neg (p := keyW s) (fun z => h (Sum.inr.inj z)), ih]
      unfold look
      rw [List.find?_cons, decide_eq_false h]
theorem lookE_val (m : Int) : ∀ es : List (Int × Addr × List PyData), valV (es.map entK) (Sum.inl m : Key) = (lookE es m).map fun e => V.ref e.2.1
  | [] => rfl
  | e :: r => by
    have ih := lookE_val m r
    by_cases h : e.1 = m
    · rw [List.map_cons, valV_pos (p := entK e) (by show (Sum.inl e.1 : Key) = Sum.inl m; rw [h])]
      unfold lookE
      rw [List.find?_cons, decide_eq_true h]
      rfl
    · rw [List.map_cons, valV_neg (p := entK e) (fun z => h (Sum.inl.inj z)), ih]
      unfold lookE
      rw [List.find?_cons, decide_eq_false h]
theorem look_mem {st : List Shelf} {w : Str} {s : Shelf} (h : look st w = some s) : s ∈ st ∧ s.ware = w := ⟨List.mem_of_find?_eq_some h, of_decide_eq_true (List.find?_some (p := fun s : Shelf => decide (s.ware = w)) h)⟩
theorem look_none {st : List Shelf} {w : Str} (h : look st w = none) : ∀ s ∈ st, s.ware ≠ w := fun s hs z => by
  have := List.find?_eq_none.mp h s hs
  exact this (decide_eq_true z)
theorem look_of {w : Str} {s : Shelf} : ∀ {st : List Shelf}, (st.map (·.ware)).Nodup → s ∈ st → s.ware = w → look st w = some s
  | [], _, h, _ => by cases h
  | a :: r, nd, h, e => by
    rw [List.map_cons, List.nodup_cons] at nd
    unfold look
    rw [List.find?_cons]
    by_cases ha : a.ware = w
    · rw [decide_eq_true ha]
      rcases List.mem_cons.mp h with rfl | h
      · rfl
      · exact absurd (List.mem_map.mpr ⟨s, h, by rw [e, ha]⟩) nd.1
    · rw [decide_eq_false ha]
      rcases List.mem_cons.mp h with rfl | h
      · exact absurd e ha
      · exact look_of nd.2 h e
theorem lookE_mem {es : List (Int × Addr × List PyData)} {m : Int} {e : Int × Addr × List PyData} (h : lookE es m = some e) : e ∈ es ∧ e.1 = m := ⟨List.mem_of_find?_eq_some h, of_decide_eq_true (List.find?_some (p := fun e : Int × Addr × List PyData => decide (e.1 = m)) h)⟩
theorem lookE_none {es : List (Int × Addr × List PyData)} {m : Int} (h : lookE es m = none) : ∀ e ∈ es, e.1 ≠ m := fun e he z => by
  have := List.find?_eq_none.mp h e he
  exact this (decide_eq_true z)
theorem lookE_of {e : Int × Addr × List PyData} : ∀ {es : List (Int × Addr × List PyData)}, (es.map (·.1)).Nodup → e ∈ es → lookE es e.1 = some e
  | [], _, h => by cases h
  | a :: r, nd, h => by
    rw [List.map_cons, List.nodup_cons] at nd
    unfold lookE
    rw [List.find?_cons]
    by_cases ha : a.1 = e.1
    · rw [decide_eq_true ha]
      rcases List.mem_cons.mp h with h | h
      · rw [h]
      · exact absurd (List.mem_map.mpr ⟨e, h, ha.symm⟩) nd.1
    · rw [decide_eq_false ha]
      rcases List.mem_cons.mp h with h | h
      · exact absurd (by rw [h]) ha
      · exact lookE_of nd.2 h
theorem rep_sub (b : Bool) (xs : List V) : (∀ v ∈ (List.replicate (if b = true then (1 : Int) else 0).toNat xs).flatten, v ∈ xs) ∧ (List.replicate (if b = true then (1 : Int) else 0).toNat xs).flatten.length ≤ xs.length := by
  cases b with
  | true =>
    have e : (List.replicate (if true = true then (1 : Int) else 0).toNat xs).flatten = xs := by
      show (List.replicate 1 xs).flatten = xs
      simp
    rw [e]
    exact ⟨fun v h => h, Nat.le_refl _⟩
  | false =>
    have e : (List.replicate (if false = true then (1 : Int) else 0).toNat xs).flatten = [] := by
      show (List.replicate 0 xs).flatten = []
      simp
    rw [e]
    exact ⟨fun v h => (by cases h), Nat.zero_le _⟩
structure ShelfOk (K : PySem.W.Frag) (A : List Addr) (H : Hp) (s : Shelf) : Prop where
  dc : H s.at_ = some (.dK (s.ents.map entK))
  dp : ∀ e ∈ s.ents, Dp K (hide A H) (.ref e.2.1) (.list e.2.2)
  nd : (s.ents.map (·.1)).Nodup
structure BoxOk (K : PySem.W.Frag) (A : List Addr) (H : Hp) (D : Addr) (st : List Shelf) : Prop where
  dc : H D = some (.dK (st.map keyW))
  sh : ∀ s ∈ st, ShelfOk K A H s
  nd : (st.map (·.ware)).Nodup
  na : (D :: st.map (·.at_)).Nodup
def foot (D : Addr) (st : List Shelf) : List Addr := D :: st.map (·.at_)
theorem BoxOk.foot_dict {K : PySem.W.Frag} {A : List Addr} {H : Hp} {D : Addr} {st : List Shelf} (B : BoxOk K A H D st) : ∀ f ∈ foot D st, ∃ kvs, H f = some (.dK kvs) := fun f hf => by
  rcases List.mem_cons.mp hf with rfl | hf
  · exact ⟨_, B.dc⟩
  · obtain ⟨s, hs, rfl⟩ := List.mem_map.mp hf
    exact ⟨_, (B.sh s hs).dc⟩
theorem BoxOk.foot_ne {K : PySem.W.Frag} {A : List Addr} {H : Hp} {D T : Addr} {st : List Shelf} (B : BoxOk K A H D st) (t : GxR.TabG H T) : ∀ f ∈ foot D st, f ≠ T := fun f hf => by
  obtain ⟨kvs, e⟩ := B.foot_dict f hf
  exact tab_ne t e fun _ z => by cases z
/-- a box stands where what changes lies elsewhere -/
theorem BoxOk.kept {K : PySem.W.Frag} {A F : List Addr} {H H' : Hp} {D T : Addr} {st : List Shelf} (B : BoxOk K A H D st) (k : Kx T F H H') (hF : ∀ f ∈ F, f ∈ A ∨ ∃ kvs, H f = some (.dK kvs)) (dj : ∀ f ∈ foot D st, f ∉ F) : BoxOk K A H' D st := by
  have kd : ∀ f ∈ foot D st, ∀ o, H f = some o → H' f = some o := fun f hf o e => k.keep f o (B.foot_ne k.t0 f hf) (dj f hf) e
  refine ⟨kd D (List.mem_cons_self ..) _ B.dc, fun s hs => ?_, B.nd, B.na⟩
  have S := B.sh s hs
  exact ⟨kd _ (List.mem_cons_of_mem _ (List.mem_map.mpr ⟨s, hs, rfl⟩)) _ S.dc, fun e he => k.dpA hF (S.dp e he), S.nd⟩
theorem BoxOk.keptP {K : PySem.W.Frag} {A : List Addr} {H H' : Hp} {D T : Addr} {st : List Shelf} (B : BoxOk K A H D st) (k : Kp T H H') : BoxOk K A H' D st :=
  B.kept (F := []) (.of k) (fun f hf => by cases hf) (fun f _ hf => by cases hf)
/-- more is hidden: what was not there then -/
theorem BoxOk.hideMore {K : PySem.W.Frag} {A B' : List Addr} {H : Hp} {D : Addr} {st : List Shelf} (B : BoxOk K A H D st) (h : ∀ s ∈ st, ∀ e ∈ s.ents, ∀ d, Dp K (hide A H) (.ref e.2.1) d → Dp K (hide B' H) (.ref e.2.1) d) : BoxOk K B' H D st :=
  ⟨B.dc, fun s hs => ⟨(B.sh s hs).dc, fun e he => h s hs e he _ ((B.sh s hs).dp e he), (B.sh s hs).nd⟩, B.nd, B.na⟩

/-! ### the four changes -/
def setE (st : List Shelf) (w : Str) (es : List (Int × Addr × List PyData)) : List Shelf := st.map fun s => if s.ware = w then { s with ents := es } else s
theorem setE_keys (w : Str) (es : List (Int × Addr × List PyData)) (st : List Shelf) : (setE st w es).map keyW = st.map keyW := by
  unfold setE
  rw [List.map_map]
  refine List.map_congr_left fun s _ => ?_
  show keyW (if s.ware = w then _ else s) = keyW s
  split <;> rfl
theorem setE_wares (w : Str) (es : List (Int × Addr × List PyData)) (st : List Shelf) : (setE st w es).map (·.ware) = st.map (·.ware) := by
  unfold setE
  rw [List.map_map]
  refine List.map_congr_left fun s _ => ?_
  show (if s.ware = w then _ else s : Shelf).ware = s.ware
  split <;> rfl
theorem setE_ats (w : Str) (es : List (Int × Addr × List PyData)) (st : List Shelf) : (setE st w es).map (·.at_) = st.map (·.at_) := by
  unfold setE
  rw [List.map_map]
  refine List.map_congr_left fun s _ => ?_
  show (if s.ware = w then _ else s : Shelf).at_ = s.at_
  split <;> rfl
theorem setE_len (w : Str) (es : List (Int × Addr × List PyData)) (st : List Shelf) : (setE st w es).length = st.length := by
  unfold setE
  rw [List.length_map]
theorem setE_mem {w : Str} {es : List (Int × Addr × List PyData)} {st : List Shelf} {x : Shelf} (h : x ∈ setE st w es) : (∃ s ∈ st, s.ware = w ∧ x = { s with ents := es }) ∨ (x ∈ st ∧ x.ware ≠ w) := by
  obtain ⟨s, hs, rfl⟩ := List.mem_map.mp h
  by_cases hw : s.ware = w
  · exact .inl ⟨s, hs, hw, by rw [if_pos hw]⟩
  · exact .inr ⟨by rw [if_neg hw]; exact hs, by rw [if_neg hw]; exact hw⟩
theorem setE_look {w : Str} {es : List (Int × Addr × List PyData)} (v : Str) : ∀ {st : List Shelf}, look (setE st w es) v = (look st v).map fun s => if v = w then { s with ents := es } else s
  | [] => rfl
  | s :: r => by
    have ih := setE_look (w := w) (es := es) v (st := r)
    show look ((if s.ware = w then { s with ents := es } else s) :: setE r w es) v = _
    unfold look
    rw [List.find?_cons, List.find?_cons]
    have ew : ((if s.ware = w then { s with ents := es } else s : Shelf)).ware = s.ware := by split <;> rfl
    by_cases h : s.ware = v
    · rw [decide_eq_true (by rw [ew]; exact h), decide_eq_true h]
      show some _ = some _
      show some (if s.ware = w then _ else _) = some (if v = w then _ else _)
      simp only [h]
    · rw [decide_eq_false (by rw [ew]; exact h), decide_eq_false h]
      exact ih
theorem setE_data {st : List Shelf} {w : Str} {es : List (Int × Addr × List PyData)} {s : Shelf} (h : look st w = some s) (v : Str) : dataOf (setE st w es) v = if v = w then es.map entD else dataOf st v := by
  unfold dataOf
  rw [setE_look]
  by_cases e : v = w
  · rw [if_pos e, e, h, Option.map_some, Option.map_some, if_pos rfl]
    rfl
  · rw [if_neg e]
    cases look st v with
    | none => rfl
    | some z => rw [Option.map_some, Option.map_some, if_neg e]; rfl
theorem at_inj : ∀ {l : List Shelf} {a b : Shelf}, (l.map (·.at_)).Nodup → a ∈ l → b ∈ l → a.at_ = b.at_ → a = b
  | [], _, _, _, ha, _, _ => by cases ha
  | y :: r, a, b, hn, ha, hb, hab => by
    rw [List.map_cons, List.nodup_cons] at hn
    rcases List.mem_cons.mp ha with ha | ha
    · rcases List.mem_cons.mp hb with hb | hb
      · rw [ha, hb]
      · refine absurd (List.mem_map.mpr ⟨b, hb, ?_⟩) hn.1
        rw [← hab, ha]
    · rcases List.mem_cons.mp hb with hb | hb
      · refine absurd (List.mem_map.mpr ⟨a, ha, ?_⟩) hn.1
        rw [hab, hb]
      · exact at_inj hn.2 ha hb hab
/-- the shelf s of the box is given other entries -/
theorem BoxOk.set {K : PySem.W.Frag} {A : List Addr} {H : Hp} {D T : Addr} {st : List Shelf} {w : Str} {s : Shelf} {es : List (Int × Addr × List PyData)} (B : BoxOk K A H D st) (t : GxR.TabG H T) (h : look st w = some s)
    (dp : ∀ e ∈ es, Dp K (hide A H) (.ref e.2.1) (.list e.2.2)) (nd : (es.map (·.1)).Nodup) : BoxOk K A (upd H s.at_ (.dK (es.map entK))) D (setE st w es) ∧ Kx T (foot D st) H (upd H s.at_ (.dK (es.map entK))) := by
  obtain ⟨hs, hw⟩ := look_mem h
  have hf : s.at_ ∈ foot D st := List.mem_cons_of_mem _ (List.mem_map.mpr ⟨s, hs, rfl⟩)
  have k : Kx T [s.at_] H (L2.upd H s.at_ (.dK (es.map entK))) := Kx.upd t (B.foot_ne t _ hf) (List.mem_singleton.mpr rfl)
  have hF : ∀ f ∈ [s.at_], f ∈ A ∨ ∃ kvs, H f = some (.dK kvs) := fun f z => .inr (by rw [List.mem_singleton.mp z]; exact ⟨_, (B.sh s hs).dc⟩)
  have na := B.na
  rw [List.nodup_cons] at na
  refine ⟨⟨?_, fun x hx => ?_, by rw [setE_wares]; exact B.nd, by rw [setE_ats]; exact B.na⟩, Kx.upd t (B.foot_ne t _ hf) hf⟩
  · rw [upd_ne (fun z => na.1 (by rw [z]; exact List.mem_map.mpr ⟨s, hs, rfl⟩)), setE_keys]
    exact B.dc
  · rcases setE_mem hx with ⟨s', hs', hw', rfl⟩ | ⟨hx, hne⟩
    · have e : s' = s := by
        have a := look_of B.nd hs' hw'
        rw [h] at a
        exact (Option.some.inj a).symm
      subst e
      exact ⟨upd_same, fun e he => k.dpA hF (dp e he), nd⟩
    · have S := B.sh x hx
      refine ⟨?_, fun e he => k.dpA hF (S.dp e he), S.nd⟩
      rw [upd_ne (fun z => ?_)]
      · exact S.dc
      · have q := at_inj na.2 hx hs z
        rw [q] at hne
        exact hne hw
/-- a new, empty shelf -/
theorem BoxOk.new {K : PySem.W.Frag} {A : List Addr} {H : Hp} {D T a : Addr} {st : List Shelf} {w : Str} (B : BoxOk K A H D st) (t : GxR.TabG H T) (h : look st w = none) (ha : H a = none) :
    BoxOk K A (upd (upd H a (.dK [])) D (.dK (putK (st.map keyW) (Sum.inr w) (.ref a)))) D (st ++ [⟨w, a, []⟩]) ∧ Kx T (foot D st) H (upd (upd H a (.dK [])) D (.dK (putK (st.map keyW) (Sum.inr w) (.ref a)))) := by
  have hD : D ∈ foot D st := List.mem_cons_self ..
  have na := B.na
  rw [List.nodup_cons] at na
  have naF : ∀ f ∈ foot D st, f ≠ a := fun f hf z => by
    obtain ⟨kvs, e⟩ := B.foot_dict f hf
    rw [z, ha] at e
    cases e
  have k : Kx T (foot D st) H (L2.upd (L2.upd H a (.dK [])) D (.dK (putK (st.map keyW) (Sum.inr w) (.ref a)))) := by
    refine ⟨t, tab_upd (tab_upd t (tab_nn t ha)) (B.foot_ne t D hD), fun b o _ hb e => ?_⟩
    rw [upd_ne (fun z => hb (by rw [z]; exact hD)), upd_ne (ne_of_none e ha)]
    exact e
  have eput : putK (st.map keyW) (Sum.inr w : Key) (.ref a) = (st ++ [(⟨w, a, []⟩ : Shelf)]).map keyW := by
    rw [putK_new _ (by rw [look_val, h]; rfl), List.map_append]
    rfl
  refine ⟨⟨?_, fun x hx => ?_, ?_, ?_⟩, k⟩
  · rw [upd_same, eput]
  · have kd : ∀ f, f ≠ D → f ≠ a → L2.upd (L2.upd H a (.dK [])) D (.dK (putK (st.map keyW) (Sum.inr w) (.ref a))) f = H f := fun f h1 h2 => by rw [upd_ne h1, upd_ne h2]
    rcases List.mem_append.mp hx with hx | hx
    · have S := B.sh x hx
      have xm : x.at_ ∈ st.map (·.at_) := List.mem_map.mpr ⟨x, hx, rfl⟩
      refine ⟨?_, fun e he => k.dpA (fun f hf => .inr (B.foot_dict f hf)) (S.dp e he), S.nd⟩
      rw [kd _ (fun z => na.1 (by rw [← z]; exact xm)) (naF _ (List.mem_cons_of_mem _ xm))]
      exact S.dc
    · rw [List.mem_singleton.mp hx]
      refine ⟨?_, fun e he => (by cases he), List.nodup_nil⟩
      show L2.upd (L2.upd H a (.dK [])) D _ a = _
      rw [upd_ne (naF D hD).symm, upd_same]
      rfl
  · rw [List.map_append, List.nodup_append]
    refine ⟨B.nd, List.nodup_cons.mpr ⟨List.not_mem_nil, List.nodup_nil⟩, fun x hx y hy => ?_⟩
    obtain ⟨s, hs, rfl⟩ := List.mem_map.mp hx
    rw [List.map_singleton] at hy
    rw [List.mem_singleton.mp hy]
    exact look_none h s hs
  · show (D :: (st ++ [(⟨w, a, []⟩ : Shelf)]).map (fun x => x.at_)).Nodup
    rw [List.map_append, List.map_singleton, ← List.cons_append, List.nodup_append]
    refine ⟨B.na, List.nodup_cons.mpr ⟨List.not_mem_nil, List.nodup_nil⟩, fun x hx y hy => ?_⟩
    rw [List.mem_singleton.mp hy]
    exact naF x hx
theorem look_app {st : List Shelf} {w : Str} {a : Addr} (h : look st w = none) (v : Str) : look (st ++ [⟨w, a, []⟩]) v = if v = w then some ⟨w, a, []⟩ else look st v := by
  unfold look at h ⊢
  rw [List.find?_append, List.find?_cons, List.find?_nil]
  by_cases e : v = w
  · rw [if_pos e, e, h, decide_eq_true rfl]
    rfl
  · rw [if_neg e, decide_eq_false (fun z => e z.symm)]
    cases List.find? (fun s : Shelf => decide (s.ware = v)) st <;> rfl
theorem data_app {st : List Shelf} {w : Str} {a : Addr} (h : look st w = none) (v : Str) : dataOf (st ++ [⟨w, a, []⟩]) v = dataOf st v := by
  unfold dataOf
  rw [look_app h]
  by_cases e : v = w
  · rw [if_pos e, e, h]
    rfl
  · rw [if_neg e]
/-- a shelf leaves the box -/
def delS (st : List Shelf) (w : Str) : List Shelf := st.filter fun s => decide (s.ware ≠ w)
theorem delS_keys (w : Str) : ∀ st : List Shelf, (delS st w).map keyW = dropK (st.map keyW) (Sum.inr w : Key)
  | [] => rfl
  | s :: r => by
    have ih := delS_keys w r
    unfold delS dropK at ih ⊢
    rw [List.map_cons, List.filter_cons, List.filter_cons]
    by_cases h : s.ware = w
    · have h2 : (keyW s).1 = (Sum.inr w : Key) := by show (Sum.inr s.ware : Key) = _; rw [h]
      rw [if_neg (by rw [decide_eq_false (fun z => z h)]; exact Bool.false_ne_true), if_neg (by rw [decide_eq_false (fun z => z h2)]; exact Bool.false_ne_true)]
      exact ih
    · have h2 : (keyW s).1 ≠ (Sum.inr w : Key) := fun z => h (Sum.inr.inj z)
      rw [if_pos (decide_eq_true h), if_pos (decide_eq_true h2), List.map_cons, ih]
theorem delS_mem {st : List Shelf} {w : Str} {x : Shelf} (h : x ∈ delS st w) : x ∈ st ∧ x.ware ≠ w := ⟨(List.mem_filter.mp h).1, of_decide_eq_true (List.mem_filter.mp h).2⟩
theorem delS_look {w : Str} (v : Str) : ∀ {st : List Shelf}, look (delS st w) v = if v = w then none else look st v
  | [] => by unfold delS look; simp
  | s :: r => by
    have ih := delS_look (w := w) v (st := r)
    unfold delS look at ih ⊢
    rw [List.filter_cons]
    by_cases h : s.ware = w
    · rw [if_neg (by rw [decide_eq_false (fun z => z h)]; exact Bool.false_ne_true), ih, List.find?_cons]
      by_cases e : v = w
      · rw [if_pos e, if_pos e]
      · rw [if_neg e, if_neg e, decide_eq_false (fun z => e (by rw [← z, h]))]
    · rw [if_pos (decide_eq_true h), List.find?_cons, List.find?_cons]
      by_cases e : s.ware = v
      · rw [decide_eq_true e, if_neg (fun z => h (by rw [e, z]))]
      · rw [decide_eq_false e]
        exact ih
theorem delS_data {st : List Shelf} {w : Str} (v : Str) : dataOf (delS st w) v = if v = w then [] else dataOf st v := by
  unfold dataOf
  rw [delS_look]
  by_cases e : v = w
  · rw [if_pos e, if_pos e]
    rfl
  · rw [if_neg e, if_neg e]
theorem BoxOk.del {K : PySem.W.Frag} {A : List Addr} {H : Hp} {D T : Addr} {st : List Shelf} {w : Str} (B : BoxOk K A H D st) (t : GxR.TabG H T) :
    BoxOk K A (upd H D (.dK (dropK (st.map keyW) (Sum.inr w)))) D (delS st w) ∧ Kx T (foot D st) H (upd H D (.dK (dropK (st.map keyW) (Sum.inr w)))) := by
  have hD : D ∈ foot D st := List.mem_cons_self ..
  have na := B.na
  rw [List.nodup_cons] at na
  have k : Kx T (foot D st) H (L2.upd H D (.dK (dropK (st.map keyW) (Sum.inr w)))) := Kx.upd t (B.foot_ne t D hD) hD
  have sub : ∀ {α : Type} (f : Shelf → α), ((delS st w).map f).Sublist (st.map f) := fun f => List.Sublist.map f List.filter_sublist
  refine ⟨⟨by rw [upd_same, delS_keys], fun x hx => ?_, (sub _).nodup B.nd, List.nodup_cons.mpr ⟨fun z => na.1 ((sub _).subset z), (sub _).nodup na.2⟩⟩, k⟩
  obtain ⟨hx, _⟩ := delS_mem hx
  have S := B.sh x hx
  refine ⟨?_, fun e he => k.dpA (fun f hf => .inr (B.foot_dict f hf)) (S.dp e he), S.nd⟩
  rw [upd_ne (fun z => na.1 (by rw [← z]; exact List.mem_map.mpr ⟨x, hx, rfl⟩))]
  exact S.dc
/-- entries put, dropped -/
theorem ent_put {es : List (Int × Addr × List PyData)} {m : Int} {l : Addr} {ds : List PyData} (h : lookE es m = none) : putK (es.map entK) (Sum.inl m : Key) (.ref l) = (es ++ [(m, l, ds)]).map entK := by
  rw [putK_new _ (by rw [lookE_val, h]; rfl), List.map_append]
  rfl
def dropE (es : List (Int × Addr × List PyData)) (m : Int) : List (Int × Addr × List PyData) := es.filter fun e => decide (e.1 ≠ m)
theorem ent_drop (m : Int) : ∀ es : List (Int × Addr × List PyData), dropK (es.map entK) (Sum.inl m : Key) = (dropE es m).map entK
  | [] => rfl
  | e :: r => by
    have ih := ent_drop m r
    unfold dropE dropK at ih ⊢
    rw [List.map_cons, List.filter_cons, List.filter_cons]
    by_cases h : e.1 = m
    · have h2 : (entK e).1 = (Sum.inl m : Key) := by show (Sum.inl e.1 : Key) = _; rw [h]
      rw [if_neg (by rw [decide_eq_false (fun z => z h2)]; exact Bool.false_ne_true), if_neg (by rw [decide_eq_false (fun z => z h)]; exact Bool.false_ne_true)]
      exact ih
    · have h2 : (entK e).1 ≠ (Sum.inl m : Key) := fun z => h (Sum.inl.inj z)
      rw [if_pos (decide_eq_true h2), if_pos (decide_eq_true h), List.map_cons, ih]
theorem drop_data (m : Int) : ∀ es : List (Int × Addr × List PyData), (dropE es m).map entD = (es.map entD).filter fun x => decide (x.1 ≠ m)
  | [] => rfl
  | e :: r => by
    have ih := drop_data m r
    unfold dropE at ih ⊢
    rw [List.map_cons, List.filter_cons, List.filter_cons]
    by_cases h : e.1 = m
    · have h2 : (entD e).1 = m := h
      rw [if_neg (by rw [decide_eq_false (fun z => z h)]; exact Bool.false_ne_true), if_neg (by rw [decide_eq_false (fun z => z h2)]; exact Bool.false_ne_true)]
      exact ih
    · have h2 : (entD e).1 ≠ m := h
      rw [if_pos (decide_eq_true h), if_pos (decide_eq_true h2), List.map_cons, ih]
theorem put_nd {es : List (Int × Addr × List PyData)} {m : Int} {l : Addr} {ds : List PyData} (h : lookE es m = none) (nd : (es.map (·.1)).Nodup) : ((es ++ [(m, l, ds)]).map (·.1)).Nodup := by
  rw [List.map_append, List.nodup_append]
  refine ⟨nd, List.nodup_cons.mpr ⟨List.not_mem_nil, List.nodup_nil⟩, fun x hx y hy => ?_⟩
  obtain ⟨e, he, rfl⟩ := List.mem_map.mp hx
  rw [List.map_singleton] at hy
  rw [List.mem_singleton.mp hy]
  exact lookE_none h e he
theorem drop_nd {es : List (Int × Addr × List PyData)} {m : Int} (nd : (es.map (·.1)).Nodup) : ((dropE es m).map (·.1)).Nodup := (List.Sublist.map _ List.filter_sublist).nodup nd

/-! ### a dict compared with {} -/
def rEqE : R2 := fun x y H Q => ∃ a b ks, x = .ref a ∧ y = .ref b ∧ H a = some (.dK ks) ∧ H b = some (.dK []) ∧ Q (.bl ks.isEmpty) H
def rNeE : R2 := fun x y H Q => ∃ a b ks, x = .ref a ∧ y = .ref b ∧ H a = some (.dK ks) ∧ H b = some (.dK []) ∧ Q (.bl (!ks.isEmpty)) H
section
variable {X : Cx}
theorem op_eqE (hu : X.A.units < cLine) : OpR X (compareOp .Eq) rEqE := by
  intro pins s σ H x y v u Q I rx ry h
  obtain ⟨a, b, ks, rfl, rfl, ea, eb, q⟩ := h
  obtain rfl : v = Value.ref a := rx
  obtain rfl : u = Value.ref b := ry
  obtain ⟨_, ya, va, ra, da⟩ := (show ObjOk X.prog X.w H s.heap a (.dK ks) from I.hok a _ ea)
  obtain ⟨_, yb, vb, rb, db⟩ := (show ObjOk X.prog X.w H s.heap b (.dK []) from I.hok b _ eb)
  have lb : vb.length = 0 := rb.length.symm
  have la : va.length = ks.length := ra.length.symm
  refine PySem.W.keq_eq (knd := mixKind X.prog X.w) (r := true) ya yb da db hu (fun e => ?_) (fin_bl I q ?_)
  · have : va = [] := List.eq_nil_of_length_eq_zero (by omega)
    rw [this]
    exact .nil
  · rw [la, lb]
    cases ks <;> rfl
theorem op_neE (hu : X.A.units < cLine) : OpR X (compareOp .NotEq) rNeE := by
  intro pins s σ H x y v u Q I rx ry h
  obtain ⟨a, b, ks, rfl, rfl, ea, eb, q⟩ := h
  obtain rfl : v = Value.ref a := rx
  obtain rfl : u = Value.ref b := ry
  obtain ⟨_, ya, va, ra, da⟩ := (show ObjOk X.prog X.w H s.heap a (.dK ks) from I.hok a _ ea)
  obtain ⟨_, yb, vb, rb, db⟩ := (show ObjOk X.prog X.w H s.heap b (.dK []) from I.hok b _ eb)
  have lb : vb.length = 0 := rb.length.symm
  have la : va.length = ks.length := ra.length.symm
  refine PySem.W.keq_ne (knd := mixKind X.prog X.w) (r := true) ya yb da db hu (fun e => ?_) (fin_bl I q ?_)
  · have : va = [] := List.eq_nil_of_length_eq_zero (by omega)
    rw [this]
    exact .nil
  · rw [la, lb]
    cases ks <;> rfl
end

/-! ### a comprehension over a locked dict's keys -/
theorem lc_keys {d : Addr} {o : Obj} {kvs : List (Key × V)} {g : TG} {tt : TT} {te : TE} {vs : List Nat} {σ : L2.St} {H1 : Hp} {D : Addr} {Qd : Hp → Prop} (Pv : Nat → Hp → Prop) (h0 : Pv 0 (upd H1 D (.lst []))) (hl : ∀ i H, i ≤ kvs.length → Pv i H → H d = some (.frz o (.dK kvs)))
    (hs : ∀ i k v H, kvs[i]? = some (k, v) → Pv i H → g (kV k) (wipe σ vs) H fun σ2 H2 => wipe σ2 vs = wipe σ vs ∧ tt σ2 H2 fun b H3 =>
      if b = true then te σ2 H3 fun y H4 => ∃ acc, H4 D = some (.lst acc) ∧ acc.length < sizeLine ∧ Pv (i + 1) (upd H4 D (.lst (acc ++ [y]))) else Pv (i + 1) H3) (hd : ∀ H, Pv kvs.length H → Qd H) :
    ∃ W : Nat → Nat → Hp → Prop, (∃ m, W 0 m (upd H1 D (.lst []))) ∧ ∀ i m H, W i m H →
      ((Itk d o kvs).stop i H ∧ Qd H) ∨ ((Itk d o kvs).go i H ∧ ∃ Nx : Hp → Prop, (∀ H', Nx H' → ∃ m', m' < m ∧ W (i + 1) m' H') ∧ ∀ x H', (Itk d o kvs).yld i H x H' → g x (wipe σ vs) H' fun σ2 H2 => wipe σ2 vs = wipe σ vs ∧ tt σ2 H2 fun b H3 =>
        if b = true then te σ2 H3 fun y H4 => ∃ acc, H4 D = some (.lst acc) ∧ acc.length < sizeLine ∧ Nx (upd H4 D (.lst (acc ++ [y]))) else Nx H3) := by
  refine ⟨fun i m H => m = kvs.length - i ∧ i ≤ kvs.length ∧ Pv i H, ⟨kvs.length, by simp, Nat.zero_le _, h0⟩, ?_⟩
  rintro i m H ⟨rfl, hi, p⟩
  have q := hl i H hi p
  by_cases hlt : i < kvs.length
  · refine .inr ⟨⟨q, hlt⟩, Pv (i + 1), fun H' p' => ⟨kvs.length - (i + 1), by omega, rfl, hlt, p'⟩, fun x H' y => ?_⟩
    obtain ⟨rfl, k, v, hk, rfl⟩ := y
    exact hs i k v _ hk p
  · have e : i = kvs.length := by omega
    subst e
    exact .inl ⟨⟨q, Nat.le_refl _⟩, hd H p⟩
def fullW (cl : List Shelf) : List Str := (cl.filter fun s => !s.ents.isEmpty).map (·.ware)
theorem fullW_le (cl : List Shelf) : (fullW cl).length ≤ cl.length := by
  unfold fullW
  rw [List.length_map]
  exact List.length_filter_le _ _
/-- the wares whose cell is not empty, in the order of the rows -/
theorem read_full {K : PySem.W.Frag} {A : List Addr} {H : Hp} {T r : Addr} {cl : List Shelf} {i j : Nat} {σ : L2.St} {Q : VK} (B : BoxOk K A H r cl) (t : GxR.TabG H T) (hj : σ[j]? = some (some (.ref r))) (hij : i ≠ j) (hi : i < σ.length) (hl : cl.length ≤ 1000)
    (q : ∀ M H', Kp T H H' → H M = none → H' M = some (.lst ((fullW cl).map V.str)) → Q (.ref M) H') :
    tLockE (tLc (iKeys (tVar j)) (gName i) (tTest (tOp rNeE (tDGet (tVar j) (tVar i)) tDNewK)) (tVar i) [i]) σ H Q := by
  have rT := B.foot_ne t r (List.mem_cons_self ..)
  have na := B.na
  rw [List.nodup_cons] at na
  refine ⟨r, _, B.dc, True.intro, fun od => ?_⟩
  have tL : GxR.TabG (upd H r (.frz od (.dK (cl.map keyW)))) T := tab_upd t rT
  have eqL : ∀ b, b ≠ r → upd H r (.frz od (.dK (cl.map keyW))) b = H b := fun b hb => upd_ne hb
  have hr : upd H r (.frz od (.dK (cl.map keyW))) r = some (.frz od (.dK (cl.map keyW))) := upd_same
  generalize upd H r (.frz od (.dK (cl.map keyW))) = HL at tL eqL hr ⊢
  refine ⟨_, hj, r, od, rfl, .inl ⟨_, hr, fun D nD => ?_⟩⟩
  have DT := tab_nn tL nD
  have Dr : D ≠ r := fun z => by rw [z, hr] at nD; cases nD
  refine lc_keys (d := r) (o := od) (kvs := cl.map keyW) (fun n H' => Kp T HL H' ∧ H' D = some (.lst ((fullW (cl.take n)).map V.str))) ⟨Kp.new tL nD, upd_same⟩
    (fun n H' _ hm => hm.1.keep r _ rT hr) (fun n k v H' hk hm => ?_) (fun H' hm => ?_)
  · obtain ⟨kk, hD⟩ := hm
    have hnl : n < cl.length := by
      have := (List.getElem?_eq_some_iff.mp hk).1
      rw [List.length_map] at this
      exact this
    rw [List.getElem?_map, List.getElem?_eq_getElem hnl] at hk
    have hk' : keyW cl[n] = (k, v) := Option.some.inj hk
    have ek : k = Sum.inr cl[n].ware := (congrArg Prod.fst hk').symm
    subst ek
    have hs := B.sh _ (List.getElem_mem hnl)
    have am : cl[n].at_ ∈ cl.map (·.at_) := List.mem_map.mpr ⟨_, List.getElem_mem hnl, rfl⟩
    have ar : cl[n].at_ ≠ r := fun z => na.1 (by rw [← z]; exact am)
    have aT := B.foot_ne t _ (List.mem_cons_of_mem _ am)
    have ha : H' cl[n].at_ = some (.dK (cl[n].ents.map entK)) := kk.keep _ _ aT (by rw [eqL _ ar]; exact hs.dc)
    have hrr : H' r = some (.frz od (.dK (cl.map keyW))) := kk.keep r _ rT hr
    have w1 : wipe σ [i] = σ.set i none := rfl
    have s2j : ((wipe σ [i]).set i (some (V.str cl[n].ware)))[j]? = some (some (.ref r)) := by rw [w1, List.set_set, List.getElem?_set_ne hij]; exact hj
    have s2i : ((wipe σ [i]).set i (some (V.str cl[n].ware)))[i]? = some (some (.str cl[n].ware)) := by rw [w1, List.set_set, List.getElem?_set_self hi]
    have elook : look cl cl[n].ware = some cl[n] := look_of B.nd (List.getElem_mem hnl) rfl
    have gD : DGet H' r (.str cl[n].ware) (some (.ref cl[n].at_)) := by
      refine .inl ⟨cl.map keyW, Sum.inr cl[n].ware, .inr ⟨od, hrr⟩, rfl, ?_⟩
      rw [look_val, elook]
      rfl
    have etake : cl.take (n + 1) = cl.take n ++ [cl[n]] := by rw [List.take_add_one, List.getElem?_eq_getElem hnl]; rfl
    refine ⟨by show wipe ((wipe σ [i]).set i _) [i] = wipe σ [i]; show ((σ.set i none).set i _).set i none = σ.set i none; rw [List.set_set, List.set_set], ?_⟩
    refine ⟨_, s2j, _, s2i, r, _, rfl, gD, fun d nd => ?_⟩
    have k2 := Kp.new (o := HO.dK []) kk.tab nd
    have ha2 : upd H' d (.dK []) cl[n].at_ = some (.dK (cl[n].ents.map entK)) := by rw [upd_ne (ne_of_none ha nd)]; exact ha
    refine ⟨cl[n].at_, d, _, rfl, rfl, ha2, upd_same, _, rfl, ?_⟩
    have hD2 := k2.lst hD
    cases he : cl[n].ents.isEmpty with
    | true =>
      have e1 : ((cl[n].ents.map entK).isEmpty) = true := by
        rw [List.isEmpty_iff] at he
        rw [he]
        rfl
      rw [e1]
      refine iteF ⟨kk.trans k2, ?_⟩
      have ef : fullW (cl.take (n + 1)) = fullW (cl.take n) := by
        unfold fullW
        rw [etake, List.filter_append, List.filter_cons, if_neg (by rw [he]; decide), List.filter_nil, List.append_nil]
      rw [ef]
      exact hD2
    | false =>
      have e1 : ((cl[n].ents.map entK).isEmpty) = false := by
        cases hz : cl[n].ents with
        | nil => rw [hz] at he; cases he
        | cons a b => rfl
      rw [e1]
      refine iteT ⟨_, s2i, _, hD2, ?_, (kk.trans k2).set nD DT, ?_⟩
      · rw [List.length_map]
        have := fullW_le (cl.take n)
        rw [List.length_take] at this
        exact small1000 (by omega)
      · have ef : fullW (cl.take (n + 1)) = fullW (cl.take n) ++ [cl[n].ware] := by
          unfold fullW
          rw [etake, List.filter_append, List.filter_cons, if_pos (by rw [he]; rfl), List.filter_nil, List.map_append]
          rfl
        rw [upd_same, ef, List.map_append]
        rfl
  · obtain ⟨kk, hD⟩ := hm
    have hrr : H' r = some (.frz od (.dK (cl.map keyW))) := kk.keep r _ rT hr
    rw [List.length_map, List.take_length] at hD
    refine ⟨hrr, q D _ ⟨t, tab_upd kk.tab rT, fun b o hb e => ?_⟩ (by rw [← eqL D Dr]; exact nD) (by rw [upd_ne Dr]; exact hD)⟩
    by_cases hbr : b = r
    · rw [hbr, upd_same, ← B.dc, ← hbr]
      exact e
    · rw [upd_ne hbr]
      exact kk.keep b o hb (by rw [eqL b hbr]; exact e)
end Pk

set_option Elab.async false
set_option linter.all false
set_option maxRecDepth 100000
set_option maxHeartbeats 4000000
namespace Pk
open PySem PySem.Spec PyProof.Rows L2
/-! ### data, or a dict: of a dict only that it is one -/
mutual
inductive Dq (K : PySem.W.Frag) (H : Hp) : V → PyData → Prop
  | non : Dq K H .non .none
  | bl (b : Bool) : Dq K H (.bl b) (.bool b)
  | int (i : Int) : Dq K H (.int i) (.int i)
  | str (x : Str) : Dq K H (.str x) (.str x)
  | lst {a : Addr} {xs : List V} {ds : List PyData} : SqL K H a xs → DqAll K H xs ds → Dq K H (.ref a) (.list ds)
  | tup {a : Addr} {xs : List V} {ds : List PyData} : SqT K H a xs → DqAll K H xs ds → Dq K H (.ref a) (.tuple ds)
  | dct {a : Addr} {kvs : List (Key × V)} : H a = some (.dK kvs) → Dq K H (.ref a) (.dict [])
inductive DqAll (K : PySem.W.Frag) (H : Hp) : List V → List PyData → Prop
  | nil : DqAll K H [] []
  | cons {v : V} {vs : List V} {d : PyData} {ds : List PyData} : Dq K H v d → DqAll K H vs ds → DqAll K H (v :: vs) (d :: ds)
end
mutual
theorem Dq.of {K : PySem.W.Frag} {H : Hp} : ∀ {d : PyData} {v : V}, Dp K H v d → Dq K H v d
  | .none, _, h => by cases h; exact .non
  | .bool b, _, h => by cases h; exact .bl b
  | .int i, _, h => by cases h; exact .int i
  | .str x, _, h => by cases h; exact .str x
  | .list ds, _, h => by
    cases h with
    | lst a b => exact .lst a (DqAll.of b)
  | .tuple ds, _, h => by
    cases h with
    | tup a b => exact .tup a (DqAll.of b)
  | .dict _, _, h => by cases h
theorem DqAll.of {K : PySem.W.Frag} {H : Hp} : ∀ {ds : List PyData} {vs : List V}, DpAll K H vs ds → DqAll K H vs ds
  | [], _, h => by cases h; exact .nil
  | d :: ds, _, h => by
    cases h with
    | cons a b => exact .cons (Dq.of a) (DqAll.of b)
end
mutual
theorem Kp.dq {P : Addr} {K : PySem.W.Frag} {H H' : Hp} (k : Kp P H H') : ∀ (d : PyData) (v : V), Dq K H v d → Dq K H' v d
  | .none, _, h => by cases h; exact .non
  | .bool b, _, h => by cases h; exact .bl b
  | .int i, _, h => by cases h; exact .int i
  | .str x, _, h => by cases h; exact .str x
  | .list ds, _, h => by
    cases h with
    | lst a b => exact .lst (k.seq a) (Kp.dqAll k ds _ b)
  | .tuple ds, _, h => by
    cases h with
    | tup a b => exact .tup (k.sqt a) (Kp.dqAll k ds _ b)
  | .dict _, _, h => by
    cases h with
    | dct e => exact .dct (k.keep _ _ (tab_ne k.t0 e fun _ z => by cases z) e)
theorem Kp.dqAll {P : Addr} {K : PySem.W.Frag} {H H' : Hp} (k : Kp P H H') : ∀ (ds : List PyData) (vs : List V), DqAll K H vs ds → DqAll K H' vs ds
  | [], _, h => by cases h; exact .nil
  | d :: ds, _, h => by
    cases h with
    | cons a b => exact .cons (Kp.dq k d _ a) (Kp.dqAll k ds _ b)
end
theorem dqAll_get {K : PySem.W.Frag} {H : Hp} : ∀ {ds : List PyData} {vs : List V}, DqAll K H vs ds → ∀ {i : Nat} {d : PyData}, ds[i]? = some d → ∃ v, vs[i]? = some v ∧ Dq K H v d
  | [], _, _, i, d, e => by simp at e
  | x :: r, _, h, i, d, e => by
    cases h with
    | cons a b =>
      cases i with
      | zero => exact ⟨_, rfl, by have e' : x = d := Option.some.inj e; subst e'; exact a⟩
      | succ i => exact dqAll_get b (i := i) (d := d) (by simpa using e)
theorem dqAll_len {K : PySem.W.Frag} {H : Hp} : ∀ {ds : List PyData} {vs : List V}, DqAll K H vs ds → vs.length = ds.length
  | [], _, h => by cases h; rfl
  | x :: r, _, h => by
    cases h with
    | cons a b => simp [dqAll_len b]
theorem dqAll_app {K : PySem.W.Frag} {H : Hp} : ∀ {ds es : List PyData} {vs us : List V}, DqAll K H vs ds → DqAll K H us es → DqAll K H (vs ++ us) (ds ++ es)
  | [], _, _, _, h, h2 => by cases h; exact h2
  | x :: r, _, _, _, h, h2 => by
    cases h with
    | cons a b => exact .cons a (dqAll_app b h2)
theorem tyx_ofq {K : PySem.W.Frag} {H : Hp} {v : V} {d : PyData} (h : Dq K H v d) : TyX K H v (.type (tyN d)) := by
  cases h with
  | non => exact .base .non
  | bl b => exact .base (.bl b)
  | int i => exact .base (.int i)
  | str x => exact .base (.str x)
  | lst a _ =>
    rcases a with (a | ⟨o, a⟩) | ⟨o, its, n, l, c, _⟩
    · exact .base (.lst a)
    · exact .base (.frz a)
    · exact .kList l c
  | tup a _ =>
    rcases a with (a | ⟨o, a⟩) | ⟨o, its, n, l, c, _⟩
    · exact .base (.tup a)
    · exact .fTuple a
    · exact .kTuple l c
  | dct e => exact .base (.dK e)
theorem tyb_ofq {K : PySem.W.Frag} {H : Hp} {v : V} {d : PyData} (h : Dq K H v d) : TyB K H v (tyN d) := by
  cases h with
  | non => exact .non
  | bl b => exact .bl b
  | int i => exact .int i
  | str x => exact .str x
  | lst a _ => exact .lst a
  | tup a _ => exact .tup a
  | dct e => exact .dK e
end Pk

set_option Elab.async false
set_option linter.all false
set_option maxRecDepth 100000
set_option maxHeartbeats 4000000
namespace Pk
open PySem PySem.Spec PyProof.Rows L2
/-! ### the text: the statements of the top -/
def topS (i : Nat) : Stmt := PySem.Challenge.pw_pickfloor_k10_by_trying_all.main.body.getD i (.Pass ⟨0, 0, 0, 0⟩)
abbrev sWall : Stmt := topS 0
abbrev sWare : Stmt := topS 14
abbrev sMake : Stmt := topS 15
abbrev sNeed : Stmt := topS 16
abbrev sJoined : Stmt := topS 17
abbrev sWithin : Stmt := topS 18
abbrev sChkW : Stmt := topS 21
abbrev sAddW : Stmt := topS 22
abbrev sShelves : Stmt := topS 24
abbrev sWished : Stmt := topS 25
abbrev sGranting : Stmt := topS 26
abbrev sLeft : Stmt := topS 27
abbrev sSettle : Stmt := topS 29
abbrev sSettled : Stmt := topS 30
abbrev sTried : Stmt := topS 31
abbrev sNone : Stmt := topS 32
abbrev sAgainst : Stmt := topS 33
abbrev sUnasked : Stmt := topS 34
abbrev sAskedOf : Stmt := topS 35
abbrev sFewest : Stmt := topS 36
abbrev sInit : Stmt := inClass (topS 41) 0
abbrev sPut : Stmt := inClass (topS 41) 1
abbrev sTake : Stmt := inClass (topS 41) 2
abbrev sMakes : Stmt := inClass (topS 41) 3
abbrev sNeeds : Stmt := inClass (topS 41) 4
abbrev sWares : Stmt := inClass (topS 41) 5
abbrev sHas : Stmt := inClass (topS 41) 6
abbrev sPlace : Stmt := inClass (topS 41) 7
abbrev sMay : Stmt := topS 42
abbrev sMixed : Stmt := topS 44
abbrev sNames : Stmt := topS 45
abbrev sStretch : Stmt := topS 46
abbrev sLNeeds : Stmt := topS 47
abbrev sRows : Stmt := topS 48
abbrev sWish : Stmt := topS 49
abbrev sLShop : Stmt := topS 50
abbrev sLAg : Stmt := topS 51
abbrev sLMeets : Stmt := topS 52
abbrev sAllP : Stmt := topS 53
abbrev sAhead : Stmt := topS 54
abbrev sLaw : Stmt := topS 55
abbrev nOther : Str := "_law_other"
abbrev nPick : Str := "_law_pick"
end Pk

set_option Elab.async false
set_option linter.all false
set_option maxRecDepth 100000
set_option maxHeartbeats 4000000
namespace Pk
open PySem PySem.Spec PyProof.Rows L2
section
variable {P : Program} {w : World} {K : PySem.W.Frag} {mg : Str → Option Value} {base : Heap}
/-! ### is_ware -/
theorem scWare : FnScope ["thing"] ["thing"] (defScope sWare) := ⟨rfl, rfl, rfl, by decide +kernel, rfl, by decide +kernel, by decide +kernel⟩
def spWare (K : PySem.W.Frag) (T : Addr) : Sp := fun vs H Q _ => ∃ (v : V) (d : PyData), vs = [v] ∧ Dq K H v d ∧ okS d = true ∧ GxR.TabG H T ∧ ∀ H', Kp T H H' → Q (.bl (wareB d)) H'
theorem ok_ware {f c T : Addr} {oc kV doc pm ct : Value} {od an : Option Addr} {osl : Array (Option Value)} {t8 : Tok}
    (lk : K.lookup f = some ⟨oc, od, .func (PySem.W.fnOf "is_ware" "is_ware" (defArgs sWare) (defBody sWare) (defScope sWare) .none kV doc pm an (.ref c) ct), osl⟩) (hcd : PySem.W.codeIn K (.ref c) "is_ware" = true)
    (TB : GxR.TabB base mg c T) (mI : mg "type" = none) (mS : mg "str" = none) (mL : mg "len" = none) (mA : mg "all" = none) (m8 : mg "MOST_SIGNS" = some (.int 8 t8)) :
    FnOk P w K mg base CX0 1 f (PySem.W.fnOf "is_ware" "is_ware" (defArgs sWare) (defBody sWare) (defScope sWare) .none kV doc pm an (.ref c) ct) ["thing"] (spWare K T) := by
  refine fn_of lk hcd scWare (fun vs H Q E h => ?_) fun A outer s H vs Q E hr h => ?_
  · obtain ⟨v, d, rfl, _⟩ := h
    rfl
  · obtain ⟨v, d, rfl, hd, ho, ht, q⟩ := h
    suffices z : ∃ t, PSs (cxOf CX0 P w K mg base ["thing"] "is_ware" (defScope sWare) f (.ref c) A outer s H E).nox (defBody sWare) t ∧ t { nx := fun _ H' => Q .non H', rt := Q } (start ["thing"] [v]) H by
      obtain ⟨t, z1, z2⟩ := z
      exact ⟨t, z1.nox, z2⟩
    refine ⟨_, pss_cons (ps_if (PW.pt (pw_or (pt_cmpR op_notTyB (pe_callTy call_type1 (by rfl) mI boot_type (pa_cons (pv 0) pa_nil)) (pe_bltn (v := .ty "str") (by rfl) mS boot_str rfl) (nomark _))
        (pw_or1 (pt_not (pt_chain op_le op_le pe_int (pe_callB call_len_str (by rfl) mL PySem.boot_len (pa_cons (pv 0) pa_nil)) (pe_glob (v := .int 8) rfl m8 ⟨_, rfl⟩))))))
        (pss_one (ps_ret pe_bl)) pss_nil)
      (pss_one (ps_ret (GxR.pe_allS hr (by rfl) mA (by decide +kernel) TB rfl (x := "sign") (gens rfl rfl (by decide +kernel) (by decide +kernel) (by decide +kernel) (by decide +kernel)) (pv 0) (elt_az rfl (by decide +kernel)) (fun _ => rfl)))), ?_⟩
    cases e : isStrD d with
    | false =>
      refine ⟨v, rfl, v, _, rfl, tyb_ofq hd, _, "str", rfl, rfl, _, rfl, tyN_no (tyN_str d) e ?_⟩
      have z := q H (Kp.refl ht)
      rw [wareB_no e] at z
      exact z
    | true =>
      obtain ⟨x, rfl⟩ := isStrD_ex e
      cases hd
      have hx : x.length ≤ 1000 := okS_len ho
      refine ⟨_, rfl, _, _, rfl, tyb_ofq (.str x), _, "str", rfl, rfl, _, rfl, tyN_yes (tyN_str (.str x)) rfl ?_⟩
      -- not 1 <= len(thing) <= 8
      refine ⟨.str x, rfl, x, rfl, line1000 hx, _, _, rfl, rfl, ?_⟩
      refine ⟨_, rfl, iteD (fun h1 => ?_) (fun h1 => ?_)⟩
      · refine ⟨_, _, rfl, rfl, _, rfl, iteN (fun h8 => ?_) (fun h8 => ?_)⟩
        · have z := q H (Kp.refl ht)
          rw [show wareB (.str x) = false by
            show (decide (1 ≤ x.length) && decide (x.length ≤ 8) && x.cps.toList.all azB) = false
            rw [decide_eq_false (show ¬ x.length ≤ 8 by omega), Bool.and_false, Bool.false_and]] at z
          exact z
        · refine ⟨_, rfl, x, rfl, ht, fun H2 h2 => ?_⟩
          have z := q H2 (Kp.of_tabbed ht h2)
          rw [show wareB (.str x) = x.cps.toList.all azB by
            show (decide (1 ≤ x.length) && decide (x.length ≤ 8) && x.cps.toList.all azB) = _
            rw [decide_eq_true (show x.length ≤ 8 by omega), decide_eq_true (show 1 ≤ x.length by omega), Bool.true_and, Bool.true_and]] at z
          exact z
      · refine ⟨_, rfl, iteT ?_⟩
        have z := q H (Kp.refl ht)
        rw [show wareB (.str x) = false by
          show (decide (1 ≤ x.length) && decide (x.length ≤ 8) && x.cps.toList.all azB) = false
          rw [decide_eq_false (show ¬ 1 ≤ x.length by omega), Bool.false_and, Bool.false_and]] at z
        exact z

/-! ### within -/
theorem scWithin : FnScope ["make", "low", "high"] ["make", "low", "high"] (defScope sWithin) := ⟨rfl, rfl, rfl, by decide +kernel, rfl, by decide +kernel, by decide +kernel⟩
def spWithin : Sp := fun vs H Q _ => ∃ (m a b : Int), vs = [.int m, .int a, .int b] ∧ Q (.bl (decide (a ≤ m) && decide (m ≤ b))) H
theorem ok_within {f : Addr} {fd : FuncData} (F : Fun K "within" "within" sWithin f fd) : FnOk P w K mg base CX0 1 f fd ["make", "low", "high"] spWithin := by
  refine F.ok scWithin (fun vs H Q E h => ?_) (fun cdv A outer s H vs Q E hr h => ?_)
  · obtain ⟨m, a, b, rfl, _⟩ := h
    rfl
  · obtain ⟨m, a, b, rfl, q⟩ := h
    refine ⟨_, pss_one (ps_ret (pe_chain op_le op_le (pv 1) (pv 0) (pv 2))), ?_⟩
    refine ⟨_, rfl, _, rfl, _, _, rfl, rfl, _, rfl, iteD (fun h1 => ?_) (fun h1 => ?_)⟩
    · refine ⟨_, rfl, _, _, rfl, rfl, ?_⟩
      rw [decide_eq_true h1, Bool.true_and] at q
      exact q
    · rw [decide_eq_false h1, Bool.false_and] at q
      exact q
/-! ### is_make -/
theorem scMake : FnScope ["thing"] ["thing"] (defScope sMake) := ⟨rfl, rfl, rfl, by decide +kernel, rfl, by decide +kernel, by decide +kernel⟩
def spMake (K : PySem.W.Frag) : Sp := fun vs H Q _ => ∃ (v : V) (d : PyData), vs = [v] ∧ Dq K H v d ∧ Q (.bl (makeB d)) H
theorem ok_make {f fW : Addr} {fd fdW : FuncData} {t1 t9 : Tok} (F : Fun K "is_make" "is_make" sMake f fd) (FW : Fun K "within" "within" sWithin fW fdW) (bW : Binds K fdW ["make", "low", "high"] []) (gW : mg "within" = some (.ref fW))
    (mI : mg "type" = none) (mN : mg "int" = none) (m1 : mg "LEAST_MAKE" = some (.int 1 t1)) (m9 : mg "MOST_MAKE" = some (.int 999 t9)) : FnOk P w K mg base CX0 2 f fd ["thing"] (spMake K) := by
  have GW : FnOk P w K mg base CX0 1 fW fdW ["make", "low", "high"] spWithin := ok_within FW
  refine F.ok scMake (fun vs H Q E h => ?_) (fun cdv A outer s H vs Q E hr h => ?_)
  · obtain ⟨v, d, rfl, _⟩ := h
    rfl
  · obtain ⟨v, d, rfl, hd, q⟩ := h
    refine ⟨_, pss_one (ps_ret (pe_and (pe_cmpR op_isTyB (pe_callTy call_type1 (by rfl) mI boot_type (pa_cons (pv 0) pa_nil)) (pe_bltn (v := .ty "int") (by rfl) mN boot_int rfl) (nomark _))
      (pe_one (pe_call GW hr (by rfl) gW FW.kp bW .nil pass0 (pa_cons (pv 0) (pa_cons (pe_glob (v := .int 1) rfl m1 ⟨_, rfl⟩) (pa_cons (pe_glob (v := .int 999) rfl m9 ⟨_, rfl⟩) pa_nil))))))), ?_⟩
    refine ⟨v, rfl, v, _, rfl, tyb_ofq hd, _, "int", rfl, rfl, _, rfl, ?_⟩
    cases e : isI d with
    | false =>
      rw [isI_no e] at q
      exact tyI_no (tyN_int d) e q
    | true =>
      obtain ⟨i, rfl⟩ := isI_ex e
      cases hd
      exact tyI_yes (tyN_int (.int i)) rfl ⟨_, rfl, i, 1, 999, rfl, q⟩
/-! ### is_need -/
theorem scNeed : FnScope ["thing", "ware", "low", "high"] ["thing"] (defScope sNeed) := ⟨rfl, rfl, rfl, by decide +kernel, rfl, by decide +kernel, by decide +kernel⟩
def spNeed (K : PySem.W.Frag) (T : Addr) : Sp := fun vs H Q _ => ∃ (v : V) (d : PyData), vs = [v] ∧ Dq K H v d ∧ okT d = true ∧ GxR.TabG H T ∧ ∀ H', Kp T H H' → Q (.bl (needB d)) H'
theorem ok_need {f fW fM T : Addr} {fd fdW fdM : FuncData} (F : Fun K "is_need" "is_need" sNeed f fd)
    (GW : FnOk P w K mg base CX0 1 fW fdW ["thing"] (spWare K T)) (kW : PySem.W.keepIn K (.ref fW) = true) (bW : Binds K fdW ["thing"] []) (gW : mg "is_ware" = some (.ref fW))
    (GM : FnOk P w K mg base CX0 2 fM fdM ["thing"] (spMake K)) (kM : PySem.W.keepIn K (.ref fM) = true) (bM : Binds K fdM ["thing"] []) (gM : mg "is_make" = some (.ref fM))
    (mI : mg "type" = none) (mT : mg "tuple" = none) (mL : mg "len" = none) : FnOk P w K mg base CX0 3 f fd ["thing"] (spNeed K T) := by
  refine F.ok scNeed (fun vs H Q E h => ?_) (fun cdv A outer s H vs Q E hr h => ?_)
  · obtain ⟨v, d, rfl, _⟩ := h
    rfl
  · obtain ⟨v, d, rfl, hd, ho, ht, q⟩ := h
    have hr1 : Room 1 _ := hr.mono (by decide)
    refine ⟨_, pss_cons (ps_if (PW.pt (pw_or (pt_cmpR op_notTyB (pe_callTy call_type1 (by rfl) mI boot_type (pa_cons (pv 0) pa_nil)) (pe_bltn (v := .ty "tuple") (by rfl) mT boot_tuple rfl) (nomark _))
        (pw_or1 (pt_cmpR op_ne (pe_callB call_len_seq (by rfl) mL PySem.boot_len (pa_cons (pv 0) pa_nil)) pe_int (nomark _)))))
        (pss_one (ps_ret pe_bl)) pss_nil)
      (pss_cons (ps_asg (pv 0) (pg_tup (by rfl) (pgs_cons (pg_name (i := 1) scNeed.nd rfl (.inl rfl)) (pgs_cons (pg_name (i := 2) scNeed.nd rfl (.inl rfl)) (pgs_cons (pg_name (i := 3) scNeed.nd rfl (.inl rfl)) pgs_nil)))))
      (pss_one (ps_ret (pe_and (pe_call GW hr1 (by rfl) gW kW bW .nil pass0 (pa_cons (pv 1) pa_nil))
        (pe_and (pe_call GM hr (by rfl) gM kM bM .nil pass0 (pa_cons (pv 2) pa_nil))
        (pe_and (pe_call GM hr (by rfl) gM kM bM .nil pass0 (pa_cons (pv 3) pa_nil))
        (pe_one (pe_cmpR op_le (pv 2) (pv 3) (nomark _))))))))), ?_⟩
    have no : needB d = false → Q (.bl false) H := fun e => by
      have z := q H (Kp.refl ht)
      rw [e] at z
      exact z
    cases e : isTupD d with
    | false =>
      refine ⟨v, rfl, v, _, rfl, tyb_ofq hd, _, "tuple", rfl, rfl, _, rfl, tyN_no (tyN_tup d) e ?_⟩
      exact no (by cases d <;> first | rfl | cases e)
    | true =>
      refine ⟨v, rfl, v, _, rfl, tyb_ofq hd, _, "tuple", rfl, rfl, _, rfl, tyN_yes (tyN_tup d) e ?_⟩
      obtain ⟨ds, rfl⟩ : ∃ ds, d = .tuple ds := by cases d <;> first | exact ⟨_, rfl⟩ | cases e
      cases hd with
      | @tup a xs _ hT hA =>
        have hl := dqAll_len hA
        refine ⟨.ref a, rfl, a, xs, rfl, .inr hT, ?_⟩
        refine ⟨rfl, _, rfl, iteN (fun h3 => ?_) (fun h3 => ?_)⟩
        · refine no (needB_len fun z => h3 ?_)
          show V.int _ = V.int 3
          rw [show xs.length = 3 by omega] <;> rfl
        · have h3' : xs.length = 3 := by
            have z : ((xs.length : Nat) : Int) = 3 := V.int.inj h3
            omega
          obtain ⟨da, db, dc, rfl⟩ : ∃ a b c, ds = [a, b, c] := by
            match ds, hl.symm.trans h3' with
            | [a, b, c], _ => exact ⟨a, b, c, rfl⟩
          have od : okS da = true := by
            have z : (([da, db, dc].all okS) && _) = true := ho
            simp only [List.all_cons, Bool.and_eq_true] at z
            exact z.1.1
          cases hA with
          | @cons x _ _ _ hx hA =>
          cases hA with
          | @cons y _ _ _ hy hA =>
          cases hA with
          | @cons z _ _ _ hz hA =>
          cases hA
          refine ⟨_, rfl, a, [x, y, z], rfl, hT, rfl, x, [y, z], rfl, y, [z], rfl, z, [], rfl, rfl, ?_⟩
          refine ⟨x, rfl, x, da, rfl, hx, od, ht, fun H1 k1 => ⟨_, rfl, ?_⟩⟩
          have fin : ∀ b, needB (.tuple [da, db, dc]) = b → Q (.bl b) H1 := fun b e => by
            have z := q H1 k1
            rw [e] at z
            exact z
          cases ea : wareB da with
          | false => exact iteF (fin false (by show (wareB da && _ && _ && _) = false; rw [ea] <;> rfl))
          | true =>
            refine iteT ⟨y, rfl, y, db, rfl, k1.dq _ _ hy, _, rfl, ?_⟩
            cases eb : makeB db with
            | false => exact iteF (fin false (by show (wareB da && makeB db && _ && _) = false; rw [ea, eb] <;> rfl))
            | true =>
              refine iteT ⟨z, rfl, z, dc, rfl, k1.dq _ _ hz, _, rfl, ?_⟩
              cases ec : makeB dc with
              | false => exact iteF (fin false (by show (wareB da && makeB db && makeB dc && _) = false; rw [ea, eb, ec] <;> rfl))
              | true =>
                obtain ⟨i, rfl⟩ := makeB_ex eb
                obtain ⟨j, rfl⟩ := makeB_ex ec
                cases hy
                cases hz
                exact iteT ⟨_, rfl, _, rfl, _, _, rfl, rfl, fin _ (by show (wareB da && makeB (.int i) && makeB (.int j) && _) = _; rw [ea, eb, ec] <;> rfl)⟩

/-! ### _may_need -/
def wOf : PyData → Str
  | .tuple (.str a :: _) => a
  | _ => ⟨#[]⟩
def mayL (bar : List Str) : List PyData → Bool
  | [] => true
  | x :: r => needB x && !decide (wOf x ∈ bar) && mayL (bar ++ [wOf x]) r
def mayB (w : Str) : PyData → Bool
  | .list ds => decide (ds.length ≤ 6) && mayL [w] ds
  | _ => false
theorem needB_ex {d : PyData} (h : needB d = true) : ∃ a b c, d = .tuple [.str a, b, c] ∧ wareB (.str a) = true := by
  match d with
  | .tuple [a, b, c] =>
    have z : (wareB a && makeB b && makeB c && leD b c) = true := h
    simp only [Bool.and_eq_true] at z
    cases e : isStrD a with
    | false => rw [wareB_no e] at z; exact absurd z.1.1.1 Bool.false_ne_true
    | true =>
      obtain ⟨x, rfl⟩ := isStrD_ex e
      exact ⟨x, b, c, rfl, z.1.1.1⟩
  | .none => cases h
  | .bool _ => cases h
  | .int _ => cases h
  | .str _ => cases h
  | .list _ => cases h
  | .dict _ => cases h
  | .tuple [] => cases h
  | .tuple [_] => cases h
  | .tuple [_, _] => cases h
  | .tuple (_ :: _ :: _ :: _ :: _) => cases h
theorem inV_str (a : Str) : ∀ l : List Str, inV (.str a) (l.map V.str) = decide (a ∈ l)
  | [] => rfl
  | b :: r => by
    have ih := inV_str a r
    unfold inV at ih ⊢
    rw [List.map_cons, List.any_cons, ih]
    by_cases h : a = b
    · rw [decide_eq_true (show a ∈ b :: r by rw [h]; exact List.mem_cons_self ..)]
      have e : eqV (.str b) (.str a) = true := by rw [h]; simp [eqV]
      rw [e] <;> rfl
    · have e : eqV (.str b) (.str a) = false := by
        simp only [eqV]
        exact decide_eq_false (fun z => h z.symm)
      rw [e, Bool.false_or]
      by_cases h2 : a ∈ r
      · rw [decide_eq_true h2, decide_eq_true (List.mem_cons_of_mem _ h2)]
      · rw [decide_eq_false h2, decide_eq_false (fun z => (List.mem_cons.mp z).elim h h2)]
theorem flat_strs (l : List Str) : (l.map V.str).all flatV = true := by
  rw [List.all_eq_true]
  intro v hv
  obtain ⟨x, _, rfl⟩ := List.mem_map.mp hv
  rfl
theorem isLstD_ex {d : PyData} (h : isLstD d = true) : ∃ x, d = .list x := by
  cases d <;> first | exact ⟨_, rfl⟩ | cases h
def okL : PyData → Bool
  | .list ds => ds.all okT && decide (ds.length ≤ 1000)
  | _ => true
theorem scMay : FnScope ["ware", "thing", "barred", "need"] ["ware", "thing"] (defScope sMay) := ⟨rfl, rfl, rfl, by decide +kernel, rfl, by decide +kernel, by decide +kernel⟩
def spMay (K : PySem.W.Frag) (T : Addr) : Sp := fun vs H Q _ => ∃ (wx : Str) (v : V) (d : PyData), vs = [.str wx, v] ∧ Dq K H v d ∧ okL d = true ∧ GxR.TabG H T ∧ ∀ H', Kp T H H' → Q (.bl (mayB wx d)) H'
theorem ok_may {f fN T : Addr} {fd fdN : FuncData} {t6 : Tok} (F : Fun K "_may_need" "_may_need" sMay f fd)
    (GN : FnOk P w K mg base CX0 3 fN fdN ["thing"] (spNeed K T)) (kN : PySem.W.keepIn K (.ref fN) = true) (bN : Binds K fdN ["thing"] []) (gN : mg "is_need" = some (.ref fN))
    (mI : mg "type" = none) (mLi : mg "list" = none) (mL : mg "len" = none) (m6 : mg "MOST_NEEDS" = some (.int 6 t6)) : FnOk P w K mg base CX0 4 f fd ["ware", "thing"] (spMay K T) := by
  refine F.ok scMay (fun vs H Q E h => ?_) (fun cdv A outer s H vs Q E hr h => ?_)
  · obtain ⟨wx, v, d, rfl, _⟩ := h
    rfl
  · obtain ⟨wx, v, d, rfl, hd, ho, ht, q⟩ := h
    refine ⟨_, pss_cons (ps_if (PW.pt (pw_or (pt_cmpR op_notTyB (pe_callTy call_type1 (by rfl) mI boot_type (pa_cons (pv 1) pa_nil)) (pe_bltn (v := .ty "list") (by rfl) mLi boot_list rfl) (nomark _))
        (pw_or1 (pt_cmpR op_gt (pe_callB call_len_seq (by rfl) mL PySem.boot_len (pa_cons (pv 1) pa_nil)) (pe_glob (v := .int 6) rfl m6 ⟨_, rfl⟩) (nomark _)))))
        (pss_one (ps_ret pe_bl)) pss_nil)
      (pss_cons (ps_set (i := 2) scMay.nd rfl (.inl rfl) (pe_lst (pa_cons (pv 0) pa_nil)))
      (pss_cons (ps_for PassesOwn.never rfl (pi_list (pv 1)) (pg_name (i := 3) scMay.nd rfl (.inl rfl))
        (pss_cons (ps_if (PW.pt (pw_or (pt_not (pt_val (pe_call GN hr (by rfl) gN kN bN .nil pass0 (pa_cons (pv 3) pa_nil))))
            (pw_or1 (pt_cmpR op_in_seq (pe_ix ix_tup (pv 3) pe_int (fun _ _ => rfl)) (pv 2) (by rfl))))) (pss_one (ps_ret pe_bl)) pss_nil)
        (pss_one (ps_expr (pe_bm PySem.F.plainAttrs_list PySem.F.slot_list_append PySem.F.type_list_append mt_append (pv 2) (pa_cons (pe_ix ix_tup (pv 3) pe_int (fun _ _ => rfl)) pa_nil))))))
      (pss_one (ps_ret pe_bl)))), ?_⟩
    cases e : isLstD d with
    | false =>
      have z := q H (Kp.refl ht)
      rw [show mayB wx d = false by cases d <;> first | rfl | cases e] at z
      exact ⟨v, rfl, v, _, rfl, tyb_ofq hd, _, "list", rfl, rfl, _, rfl, tyN_no (tyN_lst d) e z⟩
    | true =>
      obtain ⟨ds, rfl⟩ := isLstD_ex e
      cases hd with
      | @lst a xs _ hA hall =>
        have hl := dqAll_len hall
        refine ⟨_, rfl, _, _, rfl, tyb_ofq (.lst hA hall), _, "list", rfl, rfl, _, rfl, tyN_yes (tyN_lst (.list ds)) rfl ?_⟩
        refine ⟨_, rfl, a, xs, rfl, .inl hA, _, _, rfl, rfl, _, rfl, iteD (fun h6 => ?_) (fun h6 => ?_)⟩
        · have z := q H (Kp.refl ht)
          rw [show mayB wx (.list ds) = false by
            show (decide (ds.length ≤ 6) && _) = false
            rw [decide_eq_false (show ¬ ds.length ≤ 6 by omega), Bool.false_and]] at z
          exact z
        · have fin : ∀ H', Kp T H H' → ∀ b, mayL [wx] ds = b → Q (.bl b) H' := fun H' k b eb => by
            have z := q H' k
            rw [show mayB wx (.list ds) = b by
              show (decide (ds.length ≤ 6) && mayL [wx] ds) = b
              rw [decide_eq_true (show ds.length ≤ 6 by omega), Bool.true_and, eb]] at z
            exact z
          have hoT : ∀ x ∈ ds, okT x = true := by
            have z : (ds.all okT && _) = true := ho
            rw [Bool.and_eq_true, List.all_eq_true] at z
            exact z.1
          refine ⟨_, rfl, (by show (1 : Nat) ≤ sizeLine; decide), fun b nb => ?_⟩
          have k1 := Kp.new (o := HO.lst [.str wx]) ht nb
          have bT := tab_nn ht nb
          refine ⟨_, rfl, a, rfl, ⟨_, k1.seq hA⟩, for_list (K := K) (a := a) (xs := xs) (fun i σ' H' => ∃ (x : Option V) (bar : List Str), σ' = [some (.str wx), some (.ref a), some (.ref b), x] ∧ Kp T H H' ∧ H' b = some (.lst (bar.map V.str)) ∧ bar.length = i + 1 ∧ mayL [wx] ds = mayL bar (ds.drop i))
            ⟨none, [wx], rfl, k1, upd_same, rfl, by rw [List.drop_zero]⟩ (fun i σ' H' _ ⟨_, _, _, kk, _⟩ => kk.seq hA) ?_ ?_⟩
          · rintro i x σ' H' hi ⟨x3, bar, rfl, kk, hb, hbl, em⟩
            have hil : i < ds.length := by
              have := (List.getElem?_eq_some_iff.mp hi).1
              omega
            obtain ⟨x', hx', hdx⟩ := dqAll_get (Kp.dqAll kk _ _ hall) (List.getElem?_eq_getElem hil)
            have exx : x' = x := Option.some.inj (hx'.symm.trans hi)
            subst exx
            have edrop : ds.drop i = ds[i] :: ds.drop (i + 1) := List.drop_eq_getElem_cons hil
            rw [edrop] at em
            refine ⟨_, rfl, x', ds[i], rfl, hdx, hoT _ (List.getElem_mem hil), kk.tab, fun H2 k2 => ⟨_, rfl, ?_⟩⟩
            have hb2 := k2.lst hb
            cases en : needB ds[i] with
            | false =>
              refine iteT (fin H2 (kk.trans k2) false ?_)
              rw [em]
              show (needB ds[i] && _ && _) = false
              rw [en] <;> rfl
            | true =>
              refine iteF ?_
              obtain ⟨a0, b0, c0, ed, _⟩ := needB_ex en
              have hdx2 := k2.dq _ _ hdx
              rw [ed] at hdx2
              cases hdx2 with
              | @tup tp ys _ hT hys =>
                cases hys with
                | @cons y0 yr _ _ hy0 hyr =>
                  cases hy0
                  have i0 : atI (V.str a0 :: yr) 0 = some (.str a0) := atI_nat (j := 0) rfl
                  have ew : wOf ds[i] = a0 := by rw [ed]; rfl
                  have em2 : mayL [wx] ds = (!decide (a0 ∈ bar) && mayL (bar ++ [a0]) (ds.drop (i + 1))) := by
                    rw [em]
                    show (needB ds[i] && !decide (wOf ds[i] ∈ bar) && mayL (bar ++ [wOf ds[i]]) (ds.drop (i + 1))) = _
                    rw [en, ew, Bool.true_and]
                  refine ⟨_, rfl, tp, _, 0, _, rfl, rfl, hT, i0, _, rfl, b, _, rfl, .inl (.inl (.inl hb2)), rfl, flat_strs bar, ?_⟩
                  refine ⟨_, rfl, ?_⟩
                  show if (inV (.str a0) (bar.map V.str)) = true then _ else _
                  rw [inV_str]
                  refine iteD (fun hin => ?_) (fun hin => ?_)
                  · refine fin H2 (kk.trans k2) false ?_
                    rw [em2, decide_eq_true hin] <;> rfl
                  · refine ⟨_, rfl, .inl ⟨rfl, _, .inl (.inl hb2)⟩, _, rfl, tp, _, 0, _, rfl, rfl, hT, i0, b, _, _, rfl, rfl, hb2, small1000 (by rw [List.length_map]; omega), ?_⟩
                    refine ⟨_, bar ++ [a0], rfl, (kk.trans k2).set nb bT, ?_, ?_, ?_⟩
                    · rw [upd_same, List.map_append]
                      rfl
                    · rw [List.length_append, List.length_singleton, hbl]
                    · rw [em2, decide_eq_false hin] <;> rfl
          · rintro σ' H' ⟨x3, bar, rfl, kk, hb, hbl, em⟩
            refine fin H' kk true ?_
            rw [em, hl, List.drop_length]
            rfl
end
end Pk

set_option Elab.async false
set_option linter.all false
set_option maxRecDepth 100000
set_option maxHeartbeats 4000000
namespace Pk
open PySem PySem.Spec PyProof.Rows L2
/-! ### a shop -/
def flS (D : Addr) : List (Str × V) := putF "_shelves" (.ref D) []
theorem flS_look (D : Addr) : (flS D).lookup ("_shelves" : Str) = some (.ref D) := by
  unfold flS
  rw [lookup_putF, if_pos rfl]
theorem flS_no (D : Addr) {m : Str} (h : ¬ m = "_shelves") : (flS D).lookup m = none := by
  unfold flS
  rw [lookup_putF, if_neg h]
  rfl
structure ShopAt (K : PySem.W.Frag) (C : Addr) (A : List Addr) (H : Hp) (p D : Addr) (st : List Shelf) : Prop where
  ob : ∃ dx, H p = some (.ins C dx (flS D))
  bx : BoxOk K A H D st
  ne : ∀ s ∈ st, s.ents ≠ []
structure ShopT (K : PySem.W.Frag) (mg : Str → Option Value) (C : Addr) : Prop where
  cl : Cls K C
  nS : NoAttr K C "_shelves"
  len : mg "len" = none
  lst : mg "list" = none
  srt : mg "sorted" = none
def inB (st : List Shelf) : PyData → PyData → Bool
  | .str w, .int m => ((look st w).bind fun s => lookE s.ents m).isSome
  | _, _ => false
def hasB (st : List Shelf) (wd md : PyData) : Bool := wareB wd && makeB md && inB st wd md
def placeB (st : List Shelf) (w : Str) : Bool := match look st w with
  | some s => decide (s.ents.length < 8)
  | none => decide (st.length < 12)
theorem ShopAt.kept {K : PySem.W.Frag} {C T : Addr} {A F : List Addr} {H H' : Hp} {p D : Addr} {st : List Shelf} (S : ShopAt K C A H p D st) (k : Kx T F H H') (hF : ∀ f ∈ F, f ∈ A ∨ ∃ kvs, H f = some (.dK kvs)) (hFp : ∀ f ∈ F, f ∈ A → ∃ xs, H f = some (.lst xs)) (dj : ∀ f ∈ foot D st, f ∉ F) : ShopAt K C A H' p D st := by
  obtain ⟨dx, e⟩ := S.ob
  refine ⟨⟨dx, k.keep p _ (tab_ne k.t0 e fun _ z => by cases z) (fun z => ?_) e⟩, S.bx.kept k hF dj, S.ne⟩
  rcases hF p z with z2 | ⟨kvs, z2⟩
  · obtain ⟨xs, z3⟩ := hFp p z z2
    rw [e] at z3; cases z3
  · rw [e] at z2; cases z2
theorem ShopAt.keptP {K : PySem.W.Frag} {C T : Addr} {A : List Addr} {H H' : Hp} {p D : Addr} {st : List Shelf} (S : ShopAt K C A H p D st) (k : Kp T H H') : ShopAt K C A H' p D st :=
  S.kept (F := []) (.of k) (fun f hf => by cases hf) (fun f hf => by cases hf) (fun f _ hf => by cases hf)
section
variable {P : Program} {w : World} {K : PySem.W.Frag} {mg : Str → Option Value} {base : Heap}
/-! ### __init__ -/
theorem scInit : FnScope ["self"] ["self"] (defScope sInit) := ⟨rfl, rfl, rfl, by decide +kernel, rfl, by decide +kernel, by decide +kernel⟩
def spInit (C : Addr) : Sp := fun vs H Q _ => ∃ (p dx : Addr), vs = [.ref p] ∧ H p = some (.ins C dx []) ∧ ∀ D, H D = none → Q .non (upd (upd H D (.dK [])) p (.ins C dx (flS D)))
theorem ok_init {f C : Addr} {fd : FuncData} (F : Fun K "__init__" "Shop.__init__" sInit f fd) (T : ShopT K mg C) : FnOk P w K mg base CX0 1 f fd ["self"] (spInit C) := by
  refine F.ok scInit (fun vs H Q E h => ?_) (fun cdv A outer s H vs Q E hr h => ?_)
  · obtain ⟨p, dx, rfl, _⟩ := h
    rfl
  · obtain ⟨p, dx, rfl, hp, q⟩ := h
    refine ⟨_, pss_one (ps_fld (pv 0) pe_dnewK rfl), ?_⟩
    intro D hD
    exact ⟨_, rfl, p, C, dx, [], rfl, (by rw [upd_ne (ne_of_none hp hD)]; exact hp), T.cl, T.nS, (by show 0 < 1000; decide), q D hD⟩
/-! ### _has -/
theorem scHas : FnScope ["self", "ware", "make"] ["self", "ware", "make"] (defScope sHas) := ⟨rfl, rfl, rfl, by decide +kernel, rfl, by decide +kernel, by decide +kernel⟩
def spHas (K : PySem.W.Frag) (C Tb : Addr) : Sp := fun vs H Q _ => ∃ (A : List Addr) (p D : Addr) (st : List Shelf) (wv mv : V) (wd md : PyData), vs = [.ref p, wv, mv] ∧ ShopAt K C A H p D st ∧ Dq K H wv wd ∧ okS wd = true ∧ Dq K H mv md ∧ GxR.TabG H Tb ∧
  ∀ H', Kp Tb H H' → Q (.bl (hasB st wd md)) H'
theorem ok_has {f C Tb fW fM : Addr} {fd fdW fdM : FuncData} (F : Fun K "_has" "Shop._has" sHas f fd) (T : ShopT K mg C)
    (GW : FnOk P w K mg base CX0 1 fW fdW ["thing"] (spWare K Tb)) (kW : PySem.W.keepIn K (.ref fW) = true) (bW : Binds K fdW ["thing"] []) (gW : mg "is_ware" = some (.ref fW))
    (GM : FnOk P w K mg base CX0 2 fM fdM ["thing"] (spMake K)) (kM : PySem.W.keepIn K (.ref fM) = true) (bM : Binds K fdM ["thing"] []) (gM : mg "is_make" = some (.ref fM)) :
    FnOk P w K mg base CX0 3 f fd ["self", "ware", "make"] (spHas K C Tb) := by
  refine F.ok scHas (fun vs H Q E h => ?_) (fun cdv A outer s H vs Q E hr h => ?_)
  · obtain ⟨A, p, D, st, wv, mv, wd, md, rfl, _⟩ := h
    rfl
  · obtain ⟨A, p, D, st, wv, mv, wd, md, rfl, S, hw, ho, hm, ht, q⟩ := h
    have hu := hu_of hr
    refine ⟨_, pss_one (ps_ret (pe_and (pe_call GW (hr.mono (by decide)) (by rfl) gW kW bW .nil pass0 (pa_cons (pv 1) pa_nil))
      (pe_and (pe_call GM hr (by rfl) gM kM bM .nil pass0 (pa_cons (pv 2) pa_nil))
      (pe_one (pe_cmp (pc_din hu (pv 2) (pe_dget2 hu (pe_fld (pv 0) rfl) (pv 1) pe_dnewK ⟨rfl, rfl, rfl, rfl⟩)) rfl))))), ?_⟩
    refine ⟨_, rfl, wv, wd, rfl, hw, ho, ht, fun H1 k1 => ⟨_, rfl, ?_⟩⟩
    have fin : ∀ H', Kp Tb H H' → ∀ b, hasB st wd md = b → Q (.bl b) H' := fun H' k b eb => by
      have z := q H' k
      rw [eb] at z
      exact z
    cases ea : wareB wd with
    | false => exact iteF (fin H1 k1 false (by show (wareB wd && _ && _) = false; rw [ea] <;> rfl))
    | true =>
      refine iteT ⟨_, rfl, mv, md, rfl, k1.dq _ _ hm, _, rfl, ?_⟩
      cases eb : makeB md with
      | false => exact iteF (fin H1 k1 false (by show (wareB wd && makeB md && _) = false; rw [ea, eb] <;> rfl))
      | true =>
        obtain ⟨m, rfl⟩ := makeB_ex eb
        obtain ⟨x, rfl⟩ : ∃ x, wd = .str x := by
          cases es : isStrD wd with
          | false => rw [wareB_no es] at ea; cases ea
          | true => exact isStrD_ex es
        have hw1 := hw
        cases hw
        cases hm
        have S1 := S.keptP k1
        obtain ⟨dx, e1⟩ := S1.ob
        refine iteT ⟨_, rfl, _, rfl, p, C, dx, _, _, rfl, e1, T.cl, T.nS, flS_look D, D, rfl, .inl ⟨_, .inl S1.bx.dc⟩, _, rfl, fun d nd => ?_⟩
        have k2 := Kp.new (o := HO.dK []) k1.tab nd
        have S2 := S1.keptP k2
        have eh : hasB st (.str x) (.int m) = ((look st x).bind fun s => lookE s.ents m).isSome := by
          show (wareB (.str x) && makeB (.int m) && _) = _
          rw [ea, eb] <;> rfl
        refine ⟨_, DGet.k (k := Sum.inr x) S2.bx.dc, ?_⟩
        rw [look_val]
        cases el : look st x with
        | none =>
          refine ⟨d, _, rfl, DGet.k (k := Sum.inl m) (kvs := []) upd_same, ?_⟩
          exact fin _ (k1.trans k2) _ (by rw [eh, el]; rfl)
        | some s =>
          have hs := (S2.bx.sh s (look_mem el).1).dc
          refine ⟨s.at_, _, rfl, DGet.k (k := Sum.inl m) hs, ?_⟩
          rw [lookE_val]
          exact fin _ (k1.trans k2) _ (by
            rw [eh, el]
            show (lookE s.ents m).isSome = _
            cases lookE s.ents m <;> rfl)
/-! ### _has_place -/
theorem scPlace : FnScope ["self", "ware"] ["self", "ware"] (defScope sPlace) := ⟨rfl, rfl, rfl, by decide +kernel, rfl, by decide +kernel, by decide +kernel⟩
def spPlace (K : PySem.W.Frag) (C : Addr) : Sp := fun vs H Q _ => ∃ (A : List Addr) (p D : Addr) (st : List Shelf) (x : Str), vs = [.ref p, .str x] ∧ ShopAt K C A H p D st ∧ Q (.bl (placeB st x)) H
theorem ok_place {f C : Addr} {fd : FuncData} {t8 t12 : Tok} (F : Fun K "_has_place" "Shop._has_place" sPlace f fd) (T : ShopT K mg C) (m8 : mg "MOST_MAKES" = some (.int 8 t8)) (m12 : mg "MOST_WARES" = some (.int 12 t12)) :
    FnOk P w K mg base CX0 1 f fd ["self", "ware"] (spPlace K C) := by
  refine F.ok scPlace (fun vs H Q E h => ?_) (fun cdv A outer s H vs Q E hr h => ?_)
  · obtain ⟨A, p, D, st, x, rfl, _⟩ := h
    rfl
  · obtain ⟨A, p, D, st, x, rfl, S, q⟩ := h
    have hu := hu_of hr
    obtain ⟨dx, e1⟩ := S.ob
    refine ⟨_, pss_cons (ps_if (pt_cmp (pc_din hu (pv 1) (pe_fld (pv 0) rfl))) (pss_one (ps_ret (pe_cmpR op_lt (pe_callB call_lenD (by rfl) T.len PySem.boot_len (pa_cons (pe_dget hu (pe_fld (pv 0) rfl) (pv 1) (fun _ _ => rfl)) pa_nil)) (pe_glob (v := .int 8) rfl m8 ⟨_, rfl⟩) (nomark _)))) pss_nil)
      (pss_one (ps_ret (pe_cmpR op_lt (pe_callB call_lenD (by rfl) T.len PySem.boot_len (pa_cons (pe_fld (pv 0) rfl) pa_nil)) (pe_glob (v := .int 12) rfl m12 ⟨_, rfl⟩) (nomark _)))), ?_⟩
    refine ⟨_, rfl, _, rfl, p, C, dx, _, _, rfl, e1, T.cl, T.nS, flS_look D, D, _, rfl, DGet.k (k := Sum.inr x) S.bx.dc, _, rfl, ?_⟩
    rw [look_val]
    cases el : look st x with
    | none =>
      refine iteF ⟨_, rfl, p, C, dx, _, _, rfl, e1, T.cl, T.nS, flS_look D, D, _, rfl, S.bx.dc, _, _, rfl, rfl, ?_⟩
      rw [show placeB st x = decide (((st.map keyW).length : Int) < 12) by
        unfold placeB
        rw [el, List.length_map]
        by_cases h : st.length < 12
        · rw [decide_eq_true h, decide_eq_true (by omega)]
        · rw [decide_eq_false h, decide_eq_false (by omega)]] at q
      exact q
    | some s =>
      have hs := (S.bx.sh s (look_mem el).1).dc
      refine iteT ⟨_, rfl, p, C, dx, _, _, rfl, e1, T.cl, T.nS, flS_look D, _, rfl, D, .ref s.at_, rfl, ?_, s.at_, _, rfl, hs, _, _, rfl, rfl, ?_⟩
      · have z := DGet.k (k := (Sum.inr x : Key)) S.bx.dc
        rw [look_val, el] at z
        exact z
      · rw [show placeB st x = decide (((s.ents.map entK).length : Int) < 8) by
          unfold placeB
          rw [el, List.length_map]
          show decide (s.ents.length < 8) = decide ((s.ents.length : Int) < 8)
          by_cases h : s.ents.length < 8
          · rw [decide_eq_true h, decide_eq_true (by omega)]
          · rw [decide_eq_false h, decide_eq_false (by omega)]] at q
        exact q
end
end Pk

set_option Elab.async false
set_option linter.all false
set_option maxRecDepth 100000
set_option maxHeartbeats 4000000
namespace Pk
open PySem PySem.Spec PyProof.Rows L2
/-! ### what put and take leave -/
def takeS (st : List Shelf) (x : Str) (m : Int) : List Shelf := match look st x with
  | some s => if dropE s.ents m = [] then delS (setE st x (dropE s.ents m)) x else setE st x (dropE s.ents m)
  | none => st
theorem takeS_data {st : List Shelf} {x : Str} {m : Int} (v : Str) : dataOf (takeS st x m) v = if v = x then (dataOf st x).filter (fun e => decide (e.1 ≠ m)) else dataOf st v := by
  unfold takeS
  cases el : look st x with
  | none =>
    by_cases h : v = x
    · rw [if_pos h, h]
      unfold dataOf
      rw [el]
      rfl
    · rw [if_neg h]
  | some s =>
    have e0 : dataOf st x = s.ents.map entD := by unfold dataOf; rw [el]; rfl
    by_cases hd : dropE s.ents m = []
    · show dataOf (if dropE s.ents m = [] then _ else _) v = _
      rw [if_pos hd, delS_data, setE_data el]
      by_cases h : v = x
      · rw [if_pos h, if_pos h, e0, ← drop_data, hd]
        rfl
      · rw [if_neg h, if_neg h, if_neg h]
    · show dataOf (if dropE s.ents m = [] then _ else _) v = _
      rw [if_neg hd, setE_data el]
      by_cases h : v = x
      · rw [if_pos h, if_pos h, e0, drop_data]
      · rw [if_neg h, if_neg h]
theorem takeS_foot {st : List Shelf} {x : Str} {m : Int} {D : Addr} : ∀ f ∈ foot D (takeS st x m), f ∈ foot D st := by
  intro f hf
  unfold takeS at hf
  cases el : look st x with
  | none => rw [el] at hf; exact hf
  | some s =>
    rw [el] at hf
    rcases List.mem_cons.mp hf with rfl | hf
    · exact List.mem_cons_self ..
    · refine List.mem_cons_of_mem _ ?_
      by_cases hd : dropE s.ents m = []
      · have hf : f ∈ (if dropE s.ents m = [] then delS (setE st x (dropE s.ents m)) x else setE st x (dropE s.ents m)).map (fun y => y.at_) := hf
        rw [if_pos hd] at hf
        have z := (List.Sublist.map (fun y : Shelf => y.at_) (List.filter_sublist (p := fun s : Shelf => decide (s.ware ≠ x)) (l := setE st x (dropE s.ents m)))).subset hf
        rw [setE_ats] at z
        exact z
      · have hf : f ∈ (if dropE s.ents m = [] then delS (setE st x (dropE s.ents m)) x else setE st x (dropE s.ents m)).map (fun y => y.at_) := hf
        rw [if_neg hd, setE_ats] at hf
        exact hf
/-! ### defs that may raise, the errors bearing no other one -/
theorem Fun.okN {P : Program} {w : World} {K : PySem.W.Frag} {mg : Str → Option Value} {base : Heap} {x qual : Str} {st : Stmt} {f : Addr} {fd : FuncData} {N ps : List Str} {k : Nat} {sp : Sp} (F : Fun K x qual st f fd) (S : FnScope N ps (defScope st)) (len : ∀ vs H Q E, sp vs H Q E → vs.length = ps.length)
    (body : ∀ (cdv : Value) (A : Around) (outer : List Env) (s : Shared) (H : Hp) (vs : List V) (Q : VK) (E : XK), Room k (A.deeper (envOfC qual (defScope st) s.heap.objs.size f cdv)) → sp vs H Q E →
      ∃ t, PSs (cxOf (L2N.CX P w) P w K mg base N qual (defScope st) f cdv A outer s H E) (defBody st) t ∧ t { nx := fun _ H' => Q .non H', rt := Q } (start N vs) H) : FnOk P w K mg base (L2N.CX P w) (k + 1) f fd ps sp := by
  obtain ⟨oc, od, kV, doc, pm, an, cdv, ct, osl, rfl, lk, hcd⟩ := F.ex
  exact fn_of lk hcd S len fun A outer s H vs Q E hr h => body cdv A outer s H vs Q E hr h
/-! ### errors of the document -/
structure ExT (K : PySem.W.Frag) (mg : Str → Option Value) (x : Str) (C : Addr) : Prop where
  gC : mg x = some (.ref C)
  xP : PySem.W.excIn K C [.type "ValueError", .type "Exception", .type "BaseException", .type "object"] "ValueError.__new__" = true
  kP : PySem.W.keepIn K (.ref C) = true
  bP : PySem.W.subIn K (.ref C) (.type "BaseException") = some true
  tP : PySem.W.typeIn K (.ref C) = some (.type "type")
section
variable {P : Program} {w : World} {K : PySem.W.Frag} {mg : Str → Option Value} {base : Heap}
theorem hasB_kinds {st : List Shelf} {wd md : PyData} (h : hasB st wd md = true) : ∃ x m, wd = .str x ∧ md = .int m := by
  have z : (wareB wd && makeB md && inB st wd md) = true := h
  simp only [Bool.and_eq_true] at z
  obtain ⟨m, rfl⟩ := makeB_ex z.1.2
  cases es : isStrD wd with
  | false => rw [wareB_no es] at z; exact absurd z.1.1 Bool.false_ne_true
  | true =>
    obtain ⟨x, rfl⟩ := isStrD_ex es
    exact ⟨x, m, rfl, rfl⟩
theorem hasB_ex {st : List Shelf} {x : Str} {m : Int} (h : hasB st (.str x) (.int m) = true) : ∃ s e, look st x = some s ∧ lookE s.ents m = some e := by
  have z : (wareB (.str x) && makeB (.int m) && ((look st x).bind fun s => lookE s.ents m).isSome) = true := h
  rw [Bool.and_eq_true] at z
  cases el : look st x with
  | none => rw [el] at z; cases z.2
  | some s =>
    rw [el] at z
    cases ee : lookE s.ents m with
    | none => have z2 : (lookE s.ents m).isSome = true := z.2; rw [ee] at z2; cases z2
    | some e => exact ⟨s, e, rfl, ee⟩
end
end Pk

set_option Elab.async false
set_option linter.all false
set_option maxRecDepth 100000
set_option maxHeartbeats 4000000
namespace Pk
open PySem PySem.Spec PyProof.Rows L2
section
variable {P : Program} {w : World} {K : PySem.W.Frag} {mg : Str → Option Value} {base : Heap}
/-! ### put -/
theorem scPut : FnScope ["self", "ware", "make", "needs"] ["self", "ware", "make", "needs"] (defScope sPut) := ⟨rfl, rfl, rfl, by decide +kernel, rfl, by decide +kernel, by decide +kernel⟩
def spPut (K : PySem.W.Frag) (C Tb BW BM BN TW FU : Addr) : Sp := fun vs H Q E => ∃ (A : List Addr) (p D : Addr) (st : List Shelf) (wv mv nv : V) (wd md nd : PyData), vs = [.ref p, wv, mv, nv] ∧ ShopAt K C A H p D st ∧
  Dq K H wv wd ∧ okS wd = true ∧ Dq K H mv md ∧ Dq K H nv nd ∧ okL nd = true ∧ GxR.TabG H Tb ∧ (∀ a ∈ A, H a ≠ none) ∧ st.length ≤ 100 ∧
  (wareB wd = false → ∀ H', Kp Tb H H' → E (.ref BW) none H') ∧
  (wareB wd = true → makeB md = false → ∀ H', Kp Tb H H' → E (.ref BM) none H') ∧
  (∀ x, wd = .str x → wareB wd = true → makeB md = true → mayB x nd = false → ∀ H', Kp Tb H H' → E (.ref BN) none H') ∧
  (∀ x, wd = .str x → wareB wd = true → makeB md = true → mayB x nd = true → hasB st wd md = true → ∀ H', Kp Tb H H' → E (.ref TW) none H') ∧
  (∀ x, wd = .str x → wareB wd = true → makeB md = true → mayB x nd = true → hasB st wd md = false → placeB st x = false → ∀ H', Kp Tb H H' → E (.ref FU) none H') ∧
  (∀ x m, wd = .str x → md = .int m → wareB wd = true → makeB md = true → mayB x nd = true → hasB st wd md = false → placeB st x = true → ∃ (a : Addr) (xs : List V) (ds : List PyData), nv = .ref a ∧ nd = .list ds ∧ SqL K H a xs ∧ DpAll K (hide A H) xs ds ∧
    ∀ H' st', ShopAt K C A H' p D st' → (∀ v, dataOf st' v = if v = x then dataOf st x ++ [(m, ds)] else dataOf st v) → Kx Tb (foot D st) H H' → (∀ f ∈ foot D st', f ∈ foot D st ∨ H f = none) → Q .non H')
theorem hasB_not {st : List Shelf} {x : Str} {m : Int} (h : hasB st (.str x) (.int m) = false) (hw : wareB (.str x) = true) (hm : makeB (.int m) = true) : ((look st x).bind fun s => lookE s.ents m) = none := by
  have z : (wareB (.str x) && makeB (.int m) && ((look st x).bind fun s => lookE s.ents m).isSome) = false := h
  rw [hw, hm, Bool.true_and, Bool.true_and] at z
  cases e : (look st x).bind fun s => lookE s.ents m with
  | none => rfl
  | some q => rw [e] at z; cases z
theorem ok_put {f C Tb fW fM fY fH fP BW BM BN TW FU : Addr} {fd fdW fdM fdY fdH fdP : FuncData} (F : Fun K "put" "Shop.put" sPut f fd) (T : ShopT K mg C) (X1 : ExT K mg "BadWare" BW) (X2 : ExT K mg "BadMake" BM) (X3 : ExT K mg "BadNeed" BN) (X4 : ExT K mg "Twice" TW) (X5 : ExT K mg "Full" FU)
    (GW : FnOk P w K mg base CX0 1 fW fdW ["thing"] (spWare K Tb)) (kW : PySem.W.keepIn K (.ref fW) = true) (bW : Binds K fdW ["thing"] []) (gW : mg "is_ware" = some (.ref fW))
    (GM : FnOk P w K mg base CX0 2 fM fdM ["thing"] (spMake K)) (kM : PySem.W.keepIn K (.ref fM) = true) (bM : Binds K fdM ["thing"] []) (gM : mg "is_make" = some (.ref fM))
    (GY : FnOk P w K mg base CX0 4 fY fdY ["ware", "thing"] (spMay K Tb)) (kY : PySem.W.keepIn K (.ref fY) = true) (bY : Binds K fdY ["ware", "thing"] []) (gY : mg "_may_need" = some (.ref fY))
    (GH : FnOk P w K mg base CX0 3 fH fdH ["self", "ware", "make"] (spHas K C Tb)) (bH : Binds K fdH ["self", "ware", "make"] []) (mH : Meth K C "_has" fH)
    (GP : FnOk P w K mg base CX0 1 fP fdP ["self", "ware"] (spPlace K C)) (bP : Binds K fdP ["self", "ware"] []) (mP : Meth K C "_has_place" fP) :
    FnOk P w K mg base (L2N.CX P w) 5 f fd ["self", "ware", "make", "needs"] (spPut K C Tb BW BM BN TW FU) := by
  refine Fun.okN F scPut (fun vs H Q E h => ?_) (fun cdv A outer s H vs Q E hr h => ?_)
  · obtain ⟨A, p, D, st, wv, mv, nv, wd, md, nd, rfl, _⟩ := h
    rfl
  · obtain ⟨A, p, D, st, wv, mv, nv, wd, md, ndd, rfl, S, dw, ho, dm, dn, hok, ht, hA, hst, q1, q2, q3, q4, q5, q6⟩ := h
    have hu := hu_of hr
    refine ⟨_, pss_cons (ps_if (pt_not (pt_val (pe_call GW (hr.mono (by decide)) (by rfl) gW kW bW .nil pass0 (pa_cons (pv 1) pa_nil)))) (pss_one (L2N.ps_raise rfl (L2N.takes_of rfl rfl rfl rfl) (L2N.pmk_own PySem.F.excBase_ValueError X1.xP X1.gC X1.kP (raises_own X1.bP X1.tP) rfl))) pss_nil)
      (pss_cons (ps_if (pt_not (pt_val (pe_call GM (hr.mono (by decide)) (by rfl) gM kM bM .nil pass0 (pa_cons (pv 2) pa_nil)))) (pss_one (L2N.ps_raise rfl (L2N.takes_of rfl rfl rfl rfl) (L2N.pmk_own PySem.F.excBase_ValueError X2.xP X2.gC X2.kP (raises_own X2.bP X2.tP) rfl))) pss_nil)
      (pss_cons (ps_if (pt_not (pt_val (pe_call GY hr (by rfl) gY kY bY .nil pass0 (pa_cons (pv 1) (pa_cons (pv 3) pa_nil))))) (pss_one (L2N.ps_raise rfl (L2N.takes_of rfl rfl rfl rfl) (L2N.pmk_own PySem.F.excBase_ValueError X3.xP X3.gC X3.kP (raises_own X3.bP X3.tP) rfl))) pss_nil)
      (pss_cons (ps_if (pt_val (pe_meth (pv 0) T.cl mH GH (hr.mono (by decide)) bH .nil pass0 (pa_cons (pv 1) (pa_cons (pv 2) pa_nil)))) (pss_one (L2N.ps_raise rfl (L2N.takes_of rfl rfl rfl rfl) (L2N.pmk_own PySem.F.excBase_ValueError X4.xP X4.gC X4.kP (raises_own X4.bP X4.tP) rfl))) pss_nil)
      (pss_cons (ps_if (pt_not (pt_val (pe_meth (pv 0) T.cl mP GP (hr.mono (by decide)) bP .nil pass0 (pa_cons (pv 1) pa_nil)))) (pss_one (L2N.ps_raise rfl (L2N.takes_of rfl rfl rfl rfl) (L2N.pmk_own PySem.F.excBase_ValueError X5.xP X5.gC X5.kP (raises_own X5.bP X5.tP) rfl))) pss_nil)
      (PSs.nox (pss_one (ps_dput hu (pe_dsetd (pe_fld (pv 0) rfl) (pv 1) pe_dnewK ⟨rfl, rfl, rfl, rfl⟩) (pv 2) (pe_callTy call_list_of (by rfl) T.lst boot_list (pa_cons (pv 3) pa_nil)) rfl))))))), ?_⟩
    refine ⟨_, rfl, wv, wd, rfl, dw, ho, ht, fun H1 k1 => ⟨_, rfl, ?_⟩⟩
    cases hw : wareB wd with
    | false => exact iteT (q1 hw H1 k1)
    | true =>
    refine iteF ⟨_, rfl, mv, md, rfl, k1.dq _ _ dm, _, rfl, ?_⟩
    cases hm : makeB md with
    | false => exact iteT (q2 hw hm H1 k1)
    | true =>
    obtain ⟨m, rfl⟩ := makeB_ex hm
    obtain ⟨x, rfl⟩ : ∃ x, wd = .str x := by
      cases es : isStrD wd with
      | false => rw [wareB_no es] at hw; cases hw
      | true => exact isStrD_ex es
    have dw0 := dw
    have dm0 := dm
    cases dw
    cases dm
    refine iteF ⟨_, rfl, _, rfl, x, nv, ndd, rfl, k1.dq _ _ dn, hok, k1.tab, fun H2 k2 => ⟨_, rfl, ?_⟩⟩
    have k12 := k1.trans k2
    cases hmay : mayB x ndd with
    | false => exact iteT (q3 x rfl hw hm hmay H2 k12)
    | true =>
    have S2 := S.keptP k12
    obtain ⟨dx2, e2⟩ := S2.ob
    refine iteF ⟨_, rfl, p, dx2, _, rfl, e2, flS_no D (by decide +kernel), _, rfl, _, rfl, A, p, D, st, _, _, _, _, rfl, S2, .str x, ho, .int m, k2.tab, fun H3 k3 => ⟨_, rfl, ?_⟩⟩
    have k13 := k12.trans k3
    cases hhas : hasB st (.str x) (.int m) with
    | true => exact iteT (q4 x rfl hw hm hmay hhas H3 k13)
    | false =>
    have S3 := S2.keptP k3
    obtain ⟨dx3, e3⟩ := S3.ob
    refine iteF ⟨_, rfl, p, dx3, _, rfl, e3, flS_no D (by decide +kernel), _, rfl, A, p, D, st, x, rfl, S3, _, rfl, ?_⟩
    cases hpl : placeB st x with
    | false => exact iteT (q5 x rfl hw hm hmay hhas hpl H3 k13)
    | true =>
    obtain ⟨nd, xs, ds, rfl, rfl, hn, hall, q⟩ := q6 x m rfl rfl hw hm hmay hhas hpl
    refine iteF ⟨_, rfl, nd, xs, rfl, .inl (k13.seq hn), fun l nl => ?_⟩
    -- the new list of needs
    have k4 := Kp.new (o := HO.lst xs) k3.tab nl
    have nlH : H l = none := k13.free nl
    have lA : l ∉ A := fun z => hA l z nlH
    have S4 := S3.keptP k4
    have k14 := k13.trans k4
    have dl : Dp K (hide A (upd H3 l (.lst xs))) (.ref l) (.list ds) := by
      refine .lst (.inl (.inl (hide_of upd_same lA))) (dpAll_mono (fun b o hs e => ?_) ds xs hall)
      obtain ⟨a1, a2⟩ := hide_some e
      exact hide_of (k14.keep b o (isSeq_ne_tab k14.t0 hs a1) a1) a2
    have t4 := k4.tab
    have nn : ∀ b, upd H3 l (.lst xs) b = none → H b = none := fun b z => k14.free z
    generalize upd H3 l (.lst xs) = H4 at S4 k14 dl t4 nn ⊢
    obtain ⟨dx4, e4⟩ := S4.ob
    refine ⟨_, rfl, p, C, dx4, _, _, rfl, e4, T.cl, T.nS, flS_look D, D, rfl, .inl ⟨_, .inl S4.bx.dc⟩, _, rfl, fun a na => ?_⟩
    have k5 := Kp.new (o := HO.dK []) t4 na
    have S5 := S4.keptP k5
    have hnh := hasB_not hhas hw hm
    refine ⟨_, Sum.inr x, S5.bx.dc, rfl, small1000 (by rw [List.length_map]; omega), fun v hv => ?_, fun hv => ?_⟩
    · -- the ware has a shelf
      rw [look_val] at hv
      cases el : look st x with
      | none => rw [el] at hv; cases hv
      | some sh =>
        rw [el] at hv hnh
        have ev : v = .ref sh.at_ := (Option.some.inj hv).symm
        subst ev
        have le : lookE sh.ents m = none := hnh
        have SH := S5.bx.sh sh (look_mem el).1
        have hl8 : sh.ents.length < 8 := by
          unfold placeB at hpl
          rw [el] at hpl
          exact of_decide_eq_true hpl
        refine ⟨_, rfl, sh.at_, _, rfl, DPut.k (k := Sum.inl m) SH.dc (small1000 (by rw [List.length_map]; omega)), ?_⟩
        rw [ent_put (ds := ds) le]
        have dl5 := (Kx.of (A := []) k5).dpA (A := A) (fun f hf => by cases hf) dl
        obtain ⟨B6, k6⟩ := S5.bx.set (es := sh.ents ++ [(m, l, ds)]) k5.tab el (fun e he => by
          rcases List.mem_append.mp he with he | he
          · exact SH.dp e he
          · rw [List.mem_singleton.mp he]; exact dl5) (put_nd le SH.nd)
        obtain ⟨dx5, e5⟩ := S5.ob
        refine q _ _ ⟨⟨dx5, ?_⟩, B6, fun z hz => ?_⟩ (fun v => ?_) ((Kx.of (k14.trans k5)).trans k6) (fun f hf => .inl ?_)
        · rw [upd_ne (fun z => ?_)]
          · exact e5
          · have z2 := SH.dc
            rw [← z, e5] at z2
            cases z2
        · rcases setE_mem hz with ⟨s', _, _, rfl⟩ | ⟨h3, _⟩
          · exact List.append_ne_nil_of_right_ne_nil _ (List.cons_ne_nil _ _)
          · exact S.ne z h3
        · rw [setE_data el, List.map_append]
          have e0 : dataOf st x = sh.ents.map entD := by unfold dataOf; rw [el]; rfl
          rw [e0]
          rfl
        · unfold foot at hf
          rw [setE_ats] at hf
          exact hf
    · -- it has none
      rw [look_val] at hv
      cases el : look st x with
      | some sh => rw [el] at hv; cases hv
      | none =>
        obtain ⟨B6, k6⟩ := S4.bx.new (a := a) t4 el na
        have t6 := k6.tab
        have la := look_app (a := a) el x
        rw [if_pos rfl] at la
        have e6 : upd (upd H4 a (.dK [])) D (.dK (putK (st.map keyW) (Sum.inr x) (.ref a))) p = some (.ins C dx4 (flS D)) := by
          rw [upd_ne (fun z => ?_), upd_ne (fun z => ?_)]
          · exact e4
          · rw [z, na] at e4
            cases e4
          · have z2 := S4.bx.dc
            rw [← z, e4] at z2
            cases z2
        have dl6 := k6.dpA (A := A) (fun f hf => .inr (S4.bx.foot_dict f hf)) dl
        have na' : H a = none := nn a na
        generalize upd (upd H4 a (.dK [])) D (.dK (putK (st.map keyW) (Sum.inr x) (.ref a))) = H6 at B6 k6 t6 e6 dl6 ⊢
        have SH := B6.sh _ (look_mem la).1
        refine ⟨_, rfl, a, _, rfl, DPut.k (k := Sum.inl m) SH.dc (by show 0 < sizeLine; decide), ?_⟩
        show Q .non (upd H6 a (.dK (putK (([] : List (Int × Addr × List PyData)).map entK) (Sum.inl m) (.ref l))))
        rw [ent_put (es := []) (ds := ds) rfl]
        obtain ⟨B7, k7⟩ := B6.set (es := [] ++ [(m, l, ds)]) t6 la (fun e he => by
          rw [List.nil_append] at he
          rw [List.mem_singleton.mp he]
          exact dl6) (by rw [List.nil_append]; exact List.nodup_cons.mpr ⟨List.not_mem_nil, List.nodup_nil⟩)
        have ea : ∀ f ∈ foot D (st ++ [⟨x, a, []⟩]), f ∈ foot D st ∨ H f = none := fun f hf => by
          rcases List.mem_cons.mp hf with rfl | hf
          · exact .inl (List.mem_cons_self ..)
          · rw [List.map_append] at hf
            rcases List.mem_append.mp hf with hf | hf
            · exact .inl (List.mem_cons_of_mem _ hf)
            · rw [List.map_singleton] at hf
              rw [List.mem_singleton.mp hf]
              exact .inr na'
        refine q _ _ ⟨⟨dx4, ?_⟩, B7, fun z hz => ?_⟩ (fun v => ?_) ?_ (fun f hf => ?_)
        · rw [upd_ne (fun z => ?_)]
          · exact e6
          · have z2 := SH.dc
            have z3 : H6 a = some (.dK (([] : List (Int × Addr × List PyData)).map entK)) := z2
            rw [← z, e6] at z3
            cases z3
        · rcases setE_mem hz with ⟨s', _, _, rfl⟩ | ⟨h3, hne⟩
          · exact List.cons_ne_nil _ _
          · rcases List.mem_append.mp h3 with h3 | h3
            · exact S.ne z h3
            · exact absurd (by rw [List.mem_singleton.mp h3]) hne
        · rw [setE_data la]
          have e0 : dataOf st x = [] := by unfold dataOf; rw [el]; rfl
          by_cases hv : v = x
          · rw [if_pos hv, if_pos hv, e0]
            rfl
          · rw [if_neg hv, if_neg hv, data_app el]
        · -- what was kept
          refine ⟨ht, k7.tab, fun b o hb hbF e => ?_⟩
          have h4 := k14.keep b o hb e
          have h6 := k6.keep b o hb hbF h4
          refine k7.keep b o hb (fun z => ?_) h6
          rcases ea b z with z | z
          · exact hbF z
          · rw [e] at z; cases z
        · unfold foot at hf
          rw [setE_ats] at hf
          exact ea f hf
end
end Pk

set_option Elab.async false
set_option linter.all false
set_option maxRecDepth 100000
set_option maxHeartbeats 4000000
namespace Pk
open PySem PySem.Spec PyProof.Rows L2
def findD (l : List (Int × List PyData)) (m : Int) : Option (Int × List PyData) := l.find? fun e => decide (e.1 = m)
theorem findD_ents (m : Int) : ∀ es : List (Int × Addr × List PyData), findD (es.map entD) m = (lookE es m).map entD
  | [] => rfl
  | e :: r => by
    have ih := findD_ents m r
    unfold findD lookE at ih ⊢
    rw [List.map_cons, List.find?_cons, List.find?_cons]
    have e2 : decide ((entD e).1 = m) = decide (e.1 = m) := rfl
    rw [e2]
    cases decide (e.1 = m) with
    | true => rfl
    | false => exact ih
theorem hasB_data {st : List Shelf} {x : Str} {m : Int} (hw : wareB (.str x) = true) (hm : makeB (.int m) = true) : hasB st (.str x) (.int m) = (findD (dataOf st x) m).isSome := by
  show (wareB (.str x) && makeB (.int m) && ((look st x).bind fun s => lookE s.ents m).isSome) = _
  rw [hw, hm, Bool.true_and, Bool.true_and]
  unfold dataOf
  cases look st x with
  | none => rfl
  | some s =>
    show (lookE s.ents m).isSome = (findD (s.ents.map entD) m).isSome
    rw [findD_ents]
    cases lookE s.ents m <;> rfl
section
variable {P : Program} {w : World} {K : PySem.W.Frag} {mg : Str → Option Value} {base : Heap}
/-! ### makes -/
theorem scMakes : FnScope ["self", "ware"] ["self", "ware"] (defScope sMakes) := ⟨rfl, rfl, rfl, by decide +kernel, rfl, by decide +kernel, by decide +kernel⟩
def spMakes (K : PySem.W.Frag) (C Tb BW : Addr) : Sp := fun vs H Q E => ∃ (A : List Addr) (p D : Addr) (st : List Shelf) (wv : V) (wd : PyData), vs = [.ref p, wv] ∧ ShopAt K C A H p D st ∧ Dq K H wv wd ∧ okS wd = true ∧ GxR.TabG H Tb ∧
  (wareB wd = false → ∀ H', Kp Tb H H' → E (.ref BW) none H') ∧
  ∀ x, wd = .str x → wareB wd = true → (dataOf st x).length < 64 ∧ ∀ (ys : List Int) l H', ys.Perm ((dataOf st x).map (·.1)) → ys.Pairwise (· ≤ ·) → Kp Tb H H' → H l = none → H' l = some (.lst (ys.map V.int)) → Q (.ref l) H'
theorem ok_makes {f C Tb fW BW : Addr} {fd fdW : FuncData} (F : Fun K "makes" "Shop.makes" sMakes f fd) (T : ShopT K mg C) (X1 : ExT K mg "BadWare" BW)
    (GW : FnOk P w K mg base CX0 1 fW fdW ["thing"] (spWare K Tb)) (kW : PySem.W.keepIn K (.ref fW) = true) (bW : Binds K fdW ["thing"] []) (gW : mg "is_ware" = some (.ref fW)) :
    FnOk P w K mg base (L2N.CX P w) 2 f fd ["self", "ware"] (spMakes K C Tb BW) := by
  refine Fun.okN F scMakes (fun vs H Q E h => ?_) (fun cdv A outer s H vs Q E hr h => ?_)
  · obtain ⟨A, p, D, st, wv, wd, rfl, _⟩ := h
    rfl
  · obtain ⟨A, p, D, st, wv, wd, rfl, S, dw, ho, ht, q1, q⟩ := h
    have hu := hu_of hr
    refine ⟨_, pss_cons (ps_if (pt_not (pt_val (pe_call GW hr (by rfl) gW kW bW .nil pass0 (pa_cons (pv 1) pa_nil)))) (pss_one (L2N.ps_raise rfl (L2N.takes_of rfl rfl rfl rfl) (L2N.pmk_own PySem.F.excBase_ValueError X1.xP X1.gC X1.kP (raises_own X1.bP X1.tP) rfl))) pss_nil)
      (PSs.nox (pss_one (ps_ret (pe_callB (call_sortedDI rfl) (by rfl) T.srt (by decide +kernel) (pa_cons (pe_dget2 hu (pe_fld (pv 0) rfl) (pv 1) pe_dnewK ⟨rfl, rfl, rfl, rfl⟩) pa_nil))))), ?_⟩
    refine ⟨_, rfl, wv, wd, rfl, dw, ho, ht, fun H1 k1 => ⟨_, rfl, ?_⟩⟩
    cases hw : wareB wd with
    | false => exact iteT (q1 hw H1 k1)
    | true =>
    obtain ⟨x, rfl⟩ : ∃ x, wd = .str x := by
      cases es : isStrD wd with
      | false => rw [wareB_no es] at hw; cases hw
      | true => exact isStrD_ex es
    cases dw
    obtain ⟨h64, q⟩ := q x rfl hw
    have S1 := S.keptP k1
    obtain ⟨dx, e1⟩ := S1.ob
    refine iteF ⟨_, rfl, p, C, dx, _, _, rfl, e1, T.cl, T.nS, flS_look D, D, rfl, .inl ⟨_, .inl S1.bx.dc⟩, _, rfl, fun d nd => ?_⟩
    have k2 := Kp.new (o := HO.dK []) k1.tab nd
    have S2 := S1.keptP k2
    have k12 := k1.trans k2
    refine ⟨_, DGet.k (k := Sum.inr x) S2.bx.dc, ?_⟩
    rw [look_val]
    cases el : look st x with
    | none =>
      have e0 : dataOf st x = [] := by unfold dataOf; rw [el]; rfl
      refine ⟨d, [], [], rfl, .inl upd_same, rfl, by decide, fun ys l hp hs nl => ?_⟩
      have k3 := Kp.new (o := HO.lst (ys.map V.int)) k2.tab nl
      exact q ys l _ (by rw [e0]; exact hp) hs (k12.trans k3) (k12.free nl) upd_same
    | some sh =>
      have e0 : dataOf st x = sh.ents.map entD := by unfold dataOf; rw [el]; rfl
      have SH := S2.bx.sh sh (look_mem el).1
      have e3 : (dataOf st x).map (·.1) = sh.ents.map (·.1) := by
        rw [e0, List.map_map]
        rfl
      refine ⟨sh.at_, _, sh.ents.map (·.1), rfl, .inl SH.dc, ?_, ?_, fun ys l hp hs nl => ?_⟩
      · rw [List.map_map, List.map_map]
        rfl
      · rw [e0, List.length_map] at h64
        rw [List.length_map]
        exact h64
      · have k3 := Kp.new (o := HO.lst (ys.map V.int)) k2.tab nl
        exact q ys l _ (by rw [e3]; exact hp) hs (k12.trans k3) (k12.free nl) upd_same
/-! ### needs -/
theorem scNeeds : FnScope ["self", "ware", "make"] ["self", "ware", "make"] (defScope sNeeds) := ⟨rfl, rfl, rfl, by decide +kernel, rfl, by decide +kernel, by decide +kernel⟩
def spNeeds (K : PySem.W.Frag) (C Tb N : Addr) : Sp := fun vs H Q E => ∃ (A : List Addr) (p D : Addr) (st : List Shelf) (wv mv : V) (wd md : PyData), vs = [.ref p, wv, mv] ∧ ShopAt K C A H p D st ∧ Dq K H wv wd ∧ okS wd = true ∧ Dq K H mv md ∧ GxR.TabG H Tb ∧
  (hasB st wd md = false → ∀ H', Kp Tb H H' → E (.ref N) none H') ∧
  ∀ x m, wd = .str x → md = .int m → hasB st wd md = true → ∀ (xs : List V) (ds : List PyData) l H', findD (dataOf st x) m = some (m, ds) → Kp Tb H H' → H l = none → H' l = some (.lst xs) → DpAll K (hide A H') xs ds → Q (.ref l) H'
theorem ok_needs {f C Tb fH N : Addr} {fd fdH : FuncData} (F : Fun K "needs" "Shop.needs" sNeeds f fd) (T : ShopT K mg C) (XN : ExT K mg "NoMake" N)
    (GH : FnOk P w K mg base CX0 3 fH fdH ["self", "ware", "make"] (spHas K C Tb)) (bH : Binds K fdH ["self", "ware", "make"] []) (mH : Meth K C "_has" fH) :
    FnOk P w K mg base (L2N.CX P w) 4 f fd ["self", "ware", "make"] (spNeeds K C Tb N) := by
  refine Fun.okN F scNeeds (fun vs H Q E h => ?_) (fun cdv A outer s H vs Q E hr h => ?_)
  · obtain ⟨A, p, D, st, wv, mv, wd, md, rfl, _⟩ := h
    rfl
  · obtain ⟨A, p, D, st, wv, mv, wd, md, rfl, S, dw, ho, dm, ht, q1, q⟩ := h
    have hu := hu_of hr
    refine ⟨_, pss_cons (ps_if (pt_not (pt_val (pe_meth (pv 0) T.cl mH GH hr bH .nil pass0 (pa_cons (pv 1) (pa_cons (pv 2) pa_nil))))) (pss_one (L2N.ps_raise rfl (L2N.takes_of rfl rfl rfl rfl) (L2N.pmk_own PySem.F.excBase_ValueError XN.xP XN.gC XN.kP (raises_own XN.bP XN.tP) rfl))) pss_nil)
      (PSs.nox (pss_one (ps_ret (pe_callTy call_list_of (by rfl) T.lst boot_list (pa_cons (pe_dget hu (pe_dget hu (pe_fld (pv 0) rfl) (pv 1) (fun _ _ => rfl)) (pv 2) (fun _ _ => rfl)) pa_nil))))), ?_⟩
    obtain ⟨dx, e1⟩ := S.ob
    refine ⟨_, rfl, p, dx, _, rfl, e1, flS_no D (by decide +kernel), _, rfl, _, rfl, A, p, D, st, _, _, _, _, rfl, S, dw, ho, dm, ht, fun H1 k1 => ⟨_, rfl, ?_⟩⟩
    cases hh : hasB st wd md with
    | false => exact iteT (q1 hh H1 k1)
    | true =>
    obtain ⟨x, m, rfl, rfl⟩ := hasB_kinds hh
    have q := q x m rfl rfl hh
    cases dw
    cases dm
    obtain ⟨sh, e, el, ee⟩ := hasB_ex hh
    have S1 := S.keptP k1
    obtain ⟨dx1, e2⟩ := S1.ob
    have SH := S1.bx.sh sh (look_mem el).1
    have gD : DGet H1 D (.str x) (some (.ref sh.at_)) := by
      have z := DGet.k (k := (Sum.inr x : Key)) S1.bx.dc
      rw [look_val, el] at z
      exact z
    have gE : DGet H1 sh.at_ (.int m) (some (.ref e.2.1)) := by
      have z := DGet.k (k := (Sum.inl m : Key)) SH.dc
      rw [lookE_val, ee] at z
      exact z
    have de := SH.dp e (lookE_mem ee).1
    have em := (lookE_mem ee).2
    cases de with
    | @lst _ xs _ hxs hall =>
      have hx1 : SqL K H1 e.2.1 xs := by
        rcases hxs with (a | ⟨o, a⟩) | a
        · exact .inl (.inl (hide_some a).1)
        · exact .inl (.inr ⟨o, (hide_some a).1⟩)
        · exact .inr a
      refine iteF ⟨_, rfl, p, C, dx1, _, _, rfl, e2, T.cl, T.nS, flS_look D, _, rfl, D, _, rfl, gD, _, rfl, sh.at_, _, rfl, gE, _, xs, rfl, .inl hx1, fun l nl => ?_⟩
      have k2 := Kp.new (o := HO.lst xs) k1.tab nl
      refine q xs e.2.2 l _ ?_ (k1.trans k2) (k1.free nl) upd_same (dpAll_mono (fun b o hs eb => ?_) _ _ hall)
      · have e0 : dataOf st x = sh.ents.map entD := by unfold dataOf; rw [el]; rfl
        rw [e0, findD_ents, ee, ← em]
        rfl
      · obtain ⟨a1, a2⟩ := hide_some eb
        exact hide_of (k2.keep b o (isSeq_ne_tab k2.t0 hs a1) a1) a2
/-! ### wares -/
theorem scWares : FnScope ["self"] ["self"] (defScope sWares) := ⟨rfl, rfl, rfl, by decide +kernel, rfl, by decide +kernel, by decide +kernel⟩
def spWares (K : PySem.W.Frag) (C Tb : Addr) : Sp := fun vs H Q _ => ∃ (A : List Addr) (p D : Addr) (st : List Shelf), vs = [.ref p] ∧ ShopAt K C A H p D st ∧ GxR.TabG H Tb ∧ st.length < 64 ∧
  ∀ (ys : List Str) l H', ys.Perm (st.map (·.ware)) → sortedS ys = true → Kp Tb H H' → H l = none → H' l = some (.lst (ys.map V.str)) → Q (.ref l) H'
theorem ok_wares {f C Tb : Addr} {fd : FuncData} (F : Fun K "wares" "Shop.wares" sWares f fd) (T : ShopT K mg C) : FnOk P w K mg base CX0 1 f fd ["self"] (spWares K C Tb) := by
  refine F.ok scWares (fun vs H Q E h => ?_) (fun cdv A outer s H vs Q E hr h => ?_)
  · obtain ⟨A, p, D, st, rfl, _⟩ := h
    rfl
  · obtain ⟨A, p, D, st, rfl, S, ht, h64, q⟩ := h
    refine ⟨_, pss_one (ps_ret (pe_callB (call_sortedD rfl) (by rfl) T.srt (by decide +kernel) (pa_cons (pe_fld (pv 0) rfl) pa_nil))), ?_⟩
    obtain ⟨dx, e1⟩ := S.ob
    refine ⟨_, rfl, p, C, dx, _, _, rfl, e1, T.cl, T.nS, flS_look D, D, _, st.map (·.ware), rfl, .inl S.bx.dc, ?_, by rw [List.length_map]; exact h64, fun ys l hp hs nl => ?_⟩
    · rw [List.map_map, List.map_map]
      rfl
    · exact q ys l _ hp hs (Kp.new ht nl) nl upd_same
end
end Pk

set_option Elab.async false
set_option linter.all false
set_option maxRecDepth 100000
set_option maxHeartbeats 4000000
namespace Pk
open PySem PySem.Spec PyProof.Rows L2
/-! ### xs[::k], k one or less one -/
def tStepL (K : PySem.W.Frag) (te ts : TE) : TE := fun σ H Q => te σ H fun x H1 => tPart ts σ H1 fun o H2 => ∃ a xs, x = .ref a ∧ SqL K H2 a xs ∧
  ((o = some 1 ∧ ∀ p, H2 p = none → Q (.ref p) (upd H2 p (.lst xs))) ∨ (o = some (-1) ∧ ∀ p, H2 p = none → Q (.ref p) (upd H2 p (.lst xs.reverse))))
theorem cutV_all (xs : List V) : cutV xs none none = xs := by
  unfold cutV
  rw [HT.sIx_none, HT.sIx_none, List.drop_zero, Nat.sub_zero, List.take_length]
section
variable {X : Cx}
theorem pe_stepL {e f : Expr} {te ts : TE} {p3 pos : Pos} (he : PE X e te) (hf : PE X f ts) : PE X (.Subscript e (.Slice none none (some f) p3) pos) (tStepL X.K te ts) := by
  refine ⟨fun pins s σ H Q I h => ?_⟩
  refine Subscript_ (thn (he.run pins s σ H _ I h) fun v s1 ⟨x, H1, I1, r1, q1⟩ => ?_)
  have hst : PO X (some f) (tPart ts) := po_some hf
  refine wpAny_Slice (thn (po_none.run pins s1 σ H1 (fun o H2 => o = none ∧ H2 = H1) I1 ⟨rfl, rfl⟩) fun vl s2 ⟨l, H2, I2, pl, el, e2⟩ => ?_)
  subst el e2
  refine thn (po_none.run pins s2 σ H2 (fun o H3 => o = none ∧ H3 = H2) I2 ⟨rfl, rfl⟩) fun vu s3 ⟨u, H3, I3, pu, eu, e3⟩ => ?_
  subst eu e3
  refine thn (hst.run pins s3 σ H3 _ I3 q1) fun vs s4 ⟨o, H4, I4, ps, q4⟩ => ?_
  obtain ⟨a, xs, ex, hx, q⟩ := q4
  subst ex
  cases r1
  have I5 : Inv X pins σ H4 { s4 with heap := s4.heap.push { cls := .type "slice", data := .fields #[vl, vu, vs] } } := I4.kept (t' := s4.toks) fun b ob q => Heap.get?_push_of_some _ q
  obtain ⟨its, r, ht, hz⟩ := I5.list hx
  have hlen := r.length
  show wpAny (model X.prog X.w) X.A (subscriptTail e (.Slice none none (some f) p3) (.ref a) (.ref s4.heap.objs.size)) (EP X pins σ Q) X.xe { s4 with heap := s4.heap.push { cls := .type "slice", data := .fields #[vl, vu, vs] } }
  refine tail_any (ops := [.ref a, .ref s4.heap.objs.size]) ht.isList.typeIs (PySem.slot_list_getitem.lookup) ?_ (by with_unfolding_all rfl)
  rcases q with ⟨rfl, q⟩ | ⟨rfl, q⟩
  · refine wpAny_getItem_list_slice ht.isList (Heap.IsSliceOf.new _ vl vu vs) pl pu ps (by decide) ?_ (by rw [List.size_toArray]; omega)
    rw [show slicePick its.toArray none none (some 1) = slicePick its.toArray none none none from rfl, slicePick_cut, HT.sIx_none, HT.sIx_none, List.drop_zero, Nat.sub_zero, List.take_length]
    refine ⟨.ref _, _, I5.laid (t' := s4.toks) (o := .lst xs) (fun b ob q => Heap.get?_push_of_some _ q) (Nat.le_refl _) ?_, rfl, q _ (I5.hok.fresh (Nat.le_refl _))⟩
    exact ⟨hz, _, 0, r, Heap.get?_push_size _ rfl⟩
  · refine wpAny_getItem_list_slice ht.isList (Heap.IsSliceOf.new _ vl vu vs) pl pu ps (by decide) ?_ (by rw [List.size_toArray]; omega)
    rw [PySem.W.krv_pick]
    refine ⟨.ref _, _, I5.laid (t' := s4.toks) (o := .lst xs.reverse) (fun b ob q => Heap.get?_push_of_some _ q) (Nat.le_refl _) ?_, rfl, q _ (I5.hok.fresh (Nat.le_refl _))⟩
    exact ⟨by rw [List.length_reverse]; exact hz, _, 0, r.reverse, Heap.get?_push_size _ rfl⟩
end
/-! ### wares by their signs -/
theorem all_az {l : List Nat} (h : Az l) : l.all azB = true := by
  rw [List.all_eq_true]
  intro c hc
  have := h c hc
  rw [azB_iff, decide_eq_true this.1, decide_eq_true this.2] <;> rfl
theorem ware_S {l : List Nat} (h : Az l) (h1 : 1 ≤ l.length) (h8 : l.length ≤ 8) : wareB (.str (SX.S l)) = true := by
  show (decide _ && decide _ && _) = true
  rw [SX.S_len, decide_eq_true h1, decide_eq_true h8, show (SX.S l).cps.toList = l by simp, all_az h] <;> rfl
theorem okS_az {l : List Nat} (h : Az l) (h8 : l.length ≤ 1000) : okS (.str (SX.S l)) = true := okS_S h.ok h8
theorem letters_az : Az letters := fun c hc => by
  obtain ⟨i, hi, rfl⟩ := List.mem_map.mp hc
  have := List.mem_range.mp hi
  omega
theorem cutS_to {l : List Nat} {a : Int} (h0 : 0 ≤ a) : cutS (SX.S l) none (some a) = SX.S (l.take a.toNat) := by
  have e : a = ((a.toNat : Nat) : Int) := by omega
  unfold cutS
  rw [HT.sIx_none, e, HT.sIx_nat, List.drop_zero, Nat.sub_zero, SX.S_len, show (SX.S l).cps.toList = l by simp]
  congr 2
  rw [show ((a.toNat : Nat) : Int).toNat = a.toNat by omega]
  by_cases h : a.toNat ≤ l.length
  · rw [Nat.min_eq_left h]
  · rw [Nat.min_eq_right (by omega), List.take_length, List.take_of_length_le (by omega)]
theorem cutS_from {l : List Nat} {a : Int} (h0 : 0 ≤ a) : cutS (SX.S l) (some a) none = SX.S (l.drop a.toNat) := by
  have e : a = ((a.toNat : Nat) : Int) := by omega
  unfold cutS
  rw [HT.sIx_none, e, HT.sIx_nat, SX.S_len, show (SX.S l).cps.toList = l by simp]
  congr 2
  rw [show ((a.toNat : Nat) : Int).toNat = a.toNat by omega]
  by_cases h : a.toNat ≤ l.length
  · rw [Nat.min_eq_left h, List.take_of_length_le (by rw [List.length_drop]; omega)]
  · rw [Nat.min_eq_right (by omega), List.drop_length, List.drop_eq_nil_of_le (by omega)]
    exact List.take_nil
theorem Az.sub {l m : List Nat} (h : Az l) (hs : ∀ c ∈ m, c ∈ l) : Az m := fun c hc => h c (hs c hc)
theorem Az.app {l m : List Nat} (h : Az l) (h2 : Az m) : Az (l ++ m) := fun c hc => (List.mem_append.mp hc).elim (h c) (h2 c)
section
variable {P : Program} {w : World} {K : PySem.W.Frag} {mg : Str → Option Value} {base : Heap}
/-! ### the law's mixed -/
theorem scMixed : FnScope ["_law_script", "_law_k", "_law_cell", "_law_number"] ["_law_script", "_law_k"] (defScope sMixed) := ⟨rfl, rfl, rfl, by decide +kernel, rfl, by decide +kernel, by decide +kernel⟩
def spMixed (K : PySem.W.Frag) : Sp := fun vs H Q _ => ∃ (a : Addr) (ns : List Int) (k : Nat), vs = [.ref a, .int k] ∧ SqL K H a (ns.map V.int) ∧ k ≤ 1000 ∧ ∀ n : Int, 0 ≤ n → n < 2147483629 → Q (.int n) H
theorem ok_mixed {f : Addr} {fd : FuncData} (F : Fun K "_law_mixed" "_law_mixed" sMixed f fd) (mL : mg "len" = none) : FnOk P w K mg base CX0 1 f fd ["_law_script", "_law_k"] (spMixed K) := by
  refine F.ok scMixed (fun vs H Q E h => ?_) (fun cdv A outer s H vs Q E hr h => ?_)
  · obtain ⟨a, ns, k, rfl, _⟩ := h
    rfl
  · obtain ⟨a, ns, k, rfl, hS, hk, q⟩ := h
    refine ⟨_, pss_cons (ps_set (i := 2) scMixed.nd rfl (.inl rfl) pe_int)
      (C8.pss_cut (ps_if (pt_cmpR op_gt (pe_callB call_len_seq (by rfl) mL PySem.boot_len (pa_cons (pv 0) pa_nil)) pe_int (nomark _)) (pss_one (ps_set (i := 2) scMixed.nd rfl (.inl rfl) (pe_ix ix_list (pv 0) (pe_op op_mod (pv 1) (pe_callB call_len_seq (by rfl) mL PySem.boot_len (pa_cons (pv 0) pa_nil))) (fun _ _ => rfl)))) pss_nil)
      (pss_cons (ps_set (i := 3) scMixed.nd rfl (.inl rfl) (pe_op op_mod (pe_op op_mul (pe_op op_add (pv 2) (pe_op op_mul pe_int (pv 1))) pe_int) pe_int))
      (pss_one (ps_ret (pe_op op_mod (pe_op op_mul (pv 3) (pe_op op_add pe_int (pe_op op_mul (pv 1) (pv 1)))) pe_int))))), ?_⟩
    refine ⟨fun σ' H' => ∃ c : Int, σ' = [some (.ref a), some (.int k), some (.int c), none] ∧ H' = H, ?_, fun σ' H' hm => ?_⟩
    · refine ⟨_, rfl, a, _, rfl, .inl hS, _, _, rfl, rfl, _, rfl, iteD (fun h => ?_) (fun h => ?_)⟩
      · rw [List.length_map] at h
        refine ⟨_, rfl, _, rfl, _, rfl, a, _, rfl, .inl hS, _, _, rfl, rfl, (by rw [List.length_map]; exact h), ?_⟩
        have hm0 : 0 ≤ (k : Int) % (ns.length : Int) := Int.emod_nonneg _ (by omega)
        have hm1 : (k : Int) % (ns.length : Int) < (ns.length : Int) := Int.emod_lt_of_pos _ (by omega)
        obtain ⟨v, hv, c, rfl⟩ := at_pick (xs := ns.map V.int) (i := (k : Int) % ((ns.map V.int).length : Int)) (p := fun v => ∃ c : Int, v = .int c) (by rw [List.length_map]; exact hm0) (by rw [List.length_map]; exact hm1) (fun x hx => by
          obtain ⟨c, _, rfl⟩ := List.mem_map.mp hx
          exact ⟨c, rfl⟩)
        exact ⟨a, _, _, _, rfl, rfl, hS, hv, c, rfl, rfl⟩
      · exact ⟨0, rfl, rfl⟩
    · obtain ⟨c, rfl, rfl⟩ := hm
      refine ⟨_, rfl, _, rfl, 7919, k, rfl, rfl, .inl ⟨by decide, by decide⟩, c, _, rfl, rfl, _, 48271, rfl, rfl, .inr ⟨by decide, by decide⟩, _, 2147483647, rfl, rfl, (by show (0 : Int) < 2147483647; decide), ?_⟩
      have h0 : 0 ≤ (c + 7919 * (k : Int)) * 48271 % 2147483647 := Int.emod_nonneg _ (by decide)
      have h1 : (c + 7919 * (k : Int)) * 48271 % 2147483647 < 2147483647 := Int.emod_lt_of_pos _ (by decide)
      refine ⟨_, rfl, _, rfl, _, rfl, k, k, rfl, rfl, .inl ⟨by omega, by omega⟩, 16807, _, rfl, rfl, _, _, rfl, rfl, .inl ⟨by omega, by omega⟩, _, 2147483629, rfl, rfl, (by show (0 : Int) < 2147483629; decide), ?_⟩
      exact q _ (Int.emod_nonneg _ (by decide)) (Int.emod_lt_of_pos _ (by decide))
end
end Pk

set_option Elab.async false
set_option linter.all false
set_option maxRecDepth 100000
set_option maxHeartbeats 4000000
namespace Pk
open PySem PySem.Spec PyProof.Rows L2
/-- the texts of a comprehension that joins one sign each -/
theorem join_ones2 (l : List Nat) : Txt.join ("" : Str) (l.map fun c => (⟨#[c]⟩ : Str)) = SX.S l := by
  have e1 : ("" : Str) = SX.S [] := by decide +kernel
  have e2 : (l.map fun c => (⟨#[c]⟩ : Str)) = (l.map fun c => [c]).map SX.S := by
    rw [List.map_map]
    rfl
  have e3 : ∀ ls : List (List Nat), TL.joinL [] ls = ls.flatten := by
    intro ls
    induction ls with
    | nil => rfl
    | cons p r ih =>
      cases r with
      | nil => simp [TL.joinL]
      | cons q r =>
        show p ++ ([] ++ TL.joinL [] (q :: r)) = _
        rw [ih, List.nil_append]
        rfl
  rw [e1, e2, SX.join_S, e3]
  congr 1
  induction l with
  | nil => rfl
  | cons x r ih =>
    rw [List.map_cons, List.flatten_cons, ih]
    · rfl
    · rw [List.map_map]
      rfl
theorem sum_ones : ∀ l : List Nat, ((l.map fun c => (⟨#[c]⟩ : Str)).map (·.length)).sum = l.length
  | [] => rfl
  | x :: r => by
    rw [List.map_cons, List.map_cons, List.sum_cons, sum_ones r, List.length_cons]
    show 1 + r.length = r.length + 1
    omega
def frameL (n : Int) : List Nat := (List.range (n / 2 % 8).toNat).map fun (j : Nat) => 97 + ((n / 7 + 5 * (j : Int)) % 26).toNat
theorem frameL_len (n : Int) : (frameL n).length ≤ 7 := by
  unfold frameL
  rw [List.length_map, List.length_range]
  omega
theorem frameL_az (n : Int) : Az (frameL n) := fun x hx => by
  obtain ⟨j, _, rfl⟩ := List.mem_map.mp hx
  omega
def GoodN (x : Str) : Prop := wareB (.str x) = true ∧ okS (.str x) = true
theorem goodN {l : List Nat} (h : Az l) (h1 : 1 ≤ l.length) (h8 : l.length ≤ 8) : GoodN (SX.S l) := ⟨ware_S h h1 h8, okS_az h (by omega)⟩
def nameL (fr : List Nat) (k : Nat) (c : Nat) : List Nat := fr.take k ++ [c] ++ fr.drop k
def nameS (fr : List Nat) (k : Nat) (b st : Int) (j : Nat) : Str := SX.S (nameL fr k (97 + ((b + st * (0 + (j : Int))) % 26).toNat))
theorem S_inj {l m : List Nat} (h : SX.S l = SX.S m) : l = m := by
  have z : (SX.S l).cps.toList = (SX.S m).cps.toList := by rw [h]
  simpa using z
theorem names_nodup {fr : List Nat} {k : Nat} {b st : Int} (hs : st = 3 ∨ st = 23) {m : Nat} (hm : m ≤ 26) : ((List.range m).map (nameS fr k b st)).Nodup := by
  refine (List.pairwise_map).mpr ((List.pairwise_lt_range (n := m)).imp_of_mem ?_)
  intro i j hi hj hlt e
  have hi := List.mem_range.mp hi
  have hj := List.mem_range.mp hj
  have e1 := S_inj e
  unfold nameL at e1
  have e2 := List.append_cancel_left (List.append_cancel_right e1)
  have e3 : 97 + ((b + st * (0 + (i : Int))) % 26).toNat = 97 + ((b + st * (0 + (j : Int))) % 26).toNat := (List.cons.inj e2).1
  rcases hs with rfl | rfl <;> omega
def preS (b : List Nat) (j : Nat) : Str := SX.S (b.take (1 + j))
theorem pre_nodup {b : List Nat} {m : Nat} (h : m ≤ b.length) : ((List.range m).map (preS b)).Nodup := by
  refine (List.pairwise_map).mpr ((List.pairwise_lt_range (n := m)).imp_of_mem ?_)
  intro i j hi hj hlt e
  have hi := List.mem_range.mp hi
  have hj := List.mem_range.mp hj
  have e1 := congrArg List.length (S_inj e)
  rw [List.length_take, List.length_take] at e1
  omega
section
variable {P : Program} {w : World} {K : PySem.W.Frag} {mg : Str → Option Value} {base : Heap}
def namesN : List Str := ["_law_script", "_law_many", "_law_letters", "_law_number", "_law_step", "_law_frame", "_law_at", "_law_names_here", "_law_k", "_law_sign", "_law_j"]
theorem scNames : FnScope namesN ["_law_script", "_law_many"] (defScope sNames) := ⟨rfl, rfl, rfl, by decide +kernel, rfl, by decide +kernel, by decide +kernel⟩
def spNames (K : PySem.W.Frag) (T : Addr) : Sp := fun vs H Q _ => ∃ (a : Addr) (ns : List Int) (k : Nat), vs = [.ref a, .int k] ∧ SqL K H a (ns.map V.int) ∧ (1 ≤ k ∧ k ≤ 26) ∧ GxR.TabG H T ∧ ∀ (names : List Str) l H', names.length = k → (∀ y ∈ names, GoodN y) → names.Nodup → Kp T H H' → H l = none → H' l = some (.lst (names.map V.str)) → Q (.ref l) H'
theorem ok_names {f fX T : Addr} {fd fdX : FuncData} (F : Fun K "_law_names" "_law_names" sNames f fd) (FX : Fun K "_law_mixed" "_law_mixed" sMixed fX fdX) (bX : Binds K fdX ["_law_script", "_law_k"] []) (gX : mg "_law_mixed" = some (.ref fX))
    (mL : mg "len" = none) (mR : mg "range" = none) : FnOk P w K mg base CX0 2 f fd ["_law_script", "_law_many"] (spNames K T) := by
  have GX : FnOk P w K mg base CX0 1 fX fdX ["_law_script", "_law_k"] (spMixed K) := ok_mixed FX mL
  refine F.ok scNames (fun vs H Q E h => ?_) (fun cdv A outer s H vs Q E hr h => ?_)
  · obtain ⟨a, ns, k, rfl, _⟩ := h
    rfl
  · obtain ⟨a, ns, k, rfl, hS, ⟨hk9, hk26⟩, ht, q⟩ := h
    refine ⟨_, pss_cons (ps_set (i := 2) scNames.nd rfl (.inr rfl) pe_str)
      (pss_cons (ps_set (i := 3) scNames.nd rfl (.inr rfl) (pe_call GX hr (by rfl) gX FX.kp bX .nil pass0 (pa_cons (pv 0) (pa_cons pe_int pa_nil))))
      (pss_cons (ps_set (i := 4) scNames.nd rfl (.inl rfl) (pe_ix ix_list (pe_lst (pa_cons pe_int (pa_cons pe_int pa_nil))) (pe_op op_mod (pv 3) pe_int) (fun _ _ => rfl)))
      (pss_cons (ps_set (i := 5) scNames.nd rfl (.inr rfl) (pe_join pe_str (pe_lc (own := [("_law_j", 10)]) (g := gName 10) (tt := tYes) rfl scNames.nd (pi_range1 (by rfl) mR (pa_cons (pe_op op_mod (pe_op op_fdiv (pv 3) pe_int) pe_int) pa_nil))
          (blkOk_by (own := [("_law_j", 10)]) (N := namesN) (sc := defScope sNames) (by decide +kernel)) (fun _ _ _ _ _ => pg_name (i := 10) scNames.nd rfl (Or.inl rfl)) (fun _ _ _ _ _ => pts_nil)
          (fun _ _ _ _ _ => pe_ix ix_str (pv 2) (pe_op op_mod (pe_op op_add (pe_op op_fdiv (pv 3) pe_int) (pe_op op_mul pe_int (pv 10))) pe_int) (fun _ _ => rfl)))))
      (pss_cons (ps_set (i := 6) scNames.nd rfl (.inl rfl) (pe_op op_mod (pe_op op_fdiv (pv 3) pe_int) (pe_op op_add (pe_callB call_len_str (by rfl) mL PySem.boot_len (pa_cons (pv 5) pa_nil)) pe_int)))
      (pss_cons (ps_set (i := 7) scNames.nd rfl (.inl rfl) (pe_lst pa_nil))
      (pss_cons (ps_for PassesOwn.never rfl (pi_range1 (by rfl) mR (pa_cons (pv 1) pa_nil)) (pg_name (i := 8) scNames.nd rfl (.inl rfl))
        (pss_cons (ps_set (i := 9) scNames.nd rfl (.inl rfl) (pe_ix ix_str (pv 2) (pe_op op_mod (pe_op op_add (pe_op op_fdiv (pv 3) pe_int) (pe_op op_mul (pv 4) (pv 8))) pe_int) (fun _ _ => rfl)))
        (pss_one (ps_expr (pe_bm PySem.F.plainAttrs_list PySem.F.slot_list_append PySem.F.type_list_append mt_append (pv 7) (pa_cons (pe_op op_add_str (pe_op op_add_str (pe_slice sl_str (pv 5) po_none (po_some (pv 6))) (pv 9)) (pe_slice sl_str (pv 5) (po_some (pv 6)) po_none)) pa_nil))))))
      (C8.pss_cut (ps_if (PW.pt (pw_and (pt_cmpR op_eq (pe_op op_mod (pe_op op_fdiv (pv 3) pe_int) pe_int) pe_int (nomark _)) (pw_and1 (pt_cmpR op_lt (pv 1) pe_int (nomark _)))))
        (pss_one (ps_setLc (i := 7) (own := [("_law_k", 8)]) (g := gName 8) (tt := tYes) rfl scNames.nd rfl rfl (sw_true rfl rfl rfl (by decide +kernel)) (pi_range1 (by rfl) mR (pa_cons (pv 1) pa_nil))
          (blkOk_by (own := [("_law_k", 8)]) (N := namesN) (sc := defScope sNames) (by decide +kernel)) (fun _ _ _ _ _ => pg_name (i := 8) scNames.nd rfl (Or.inl rfl)) (fun _ _ _ _ _ => pts_nil)
          (fun _ _ _ _ _ => pe_slice sl_str (pe_op op_add_str (pe_op op_add_str (pv 5) (pe_slice sl_str (pv 2) (po_some (pe_op op_mod (pe_op op_fdiv (pv 3) pe_int) pe_int)) po_none)) (pv 2)) po_none (po_some (pe_op op_add pe_int (pv 8)))))) pss_nil)
      (pss_one (ps_ret (pe_stepL (pv 7) (pe_ix ix_list (pe_lst (pa_cons pe_int (pa_cons (pe_un un_neg pe_int) pa_nil))) (pe_op op_mod (pe_op op_fdiv (pv 3) pe_int) pe_int) (fun _ _ => rfl)))))))))))), ?_⟩
    refine ⟨_, rfl, a, ns, 1, rfl, hS, (by decide), fun n h0 hmax => ?_⟩
    -- step
    refine ⟨(by show (2 : Nat) ≤ sizeLine; decide), fun p1 np1 => ?_⟩
    have k1 := Kp.new (o := HO.lst [.int 3, .int 23]) ht np1
    obtain ⟨v, hv, st, rfl, hst⟩ := at_pick (xs := [V.int 3, .int 23]) (i := n % 2) (p := fun v => ∃ s : Int, v = .int s ∧ (s = 3 ∨ s = 23)) (by omega) (by show n % 2 < ((2 : Nat) : Int); omega) (fun x hx => by
      simp only [List.mem_cons, List.not_mem_nil, or_false] at hx
      rcases hx with rfl | rfl
      · exact ⟨_, rfl, .inl rfl⟩
      · exact ⟨_, rfl, .inr rfl⟩)
    refine ⟨_, rfl, n, 2, rfl, rfl, (by show (0 : Int) < 2; decide), p1, _, _, _, rfl, rfl, .inl (.of upd_same), hv, ?_⟩
    have t1 := k1.tab
    generalize upd H p1 (.lst [.int 3, .int 23]) = H1 at k1 t1 ⊢
    -- frame
    refine ⟨⟨_, rfl⟩, _, rfl, n, 2, rfl, rfl, ⟨by decide, by decide⟩, _, 8, rfl, rfl, (by show (0 : Int) < 8; decide), n / 2 % 8, rfl, (by omega), (by omega), fun D nD => ?_⟩
    refine lc_range (lo := 0) (n := (n / 2 % 8).toNat) (fun i H' => H' = upd H1 D (.lst (((frameL n).take i).map fun x => V.str ⟨#[x]⟩))) rfl (fun i H' hi e => ?_) (fun H' e => ?_)
    · subst e
      refine ⟨rfl, ?_⟩
      refine ⟨_, rfl, _, rfl, n, 7, rfl, rfl, ⟨by decide, by decide⟩, _, rfl, 5, 0 + (i : Int), rfl, rfl, .inl ⟨by decide, by decide⟩, _, _, rfl, rfl, _, _, rfl, rfl, (by show (0 : Int) < 26; decide), ?_⟩
      refine ⟨_, _, 97 + ((n / 7 + 5 * (0 + (i : Int))) % 26).toNat, rfl, rfl, (by rw [letters_eq, SX.S_len]; exact line1000 (by decide)), ?_, _, upd_same, ?_, ?_⟩
      · rw [letters_eq]
        exact letters_at (by omega) (by omega)
      · rw [List.length_map, List.length_take]
        exact small1000 (by have := frameL_len n; omega)
      · rw [upd_upd]
        have e1 : (frameL n)[i]? = some (97 + ((n / 7 + 5 * (0 + (i : Int))) % 26).toNat) := by
          unfold frameL
          rw [List.getElem?_map, List.getElem?_range hi, Int.zero_add]
          rfl
        rw [List.take_add_one, e1, List.map_append]
        rfl
    subst e
    have el : (frameL n).length = (n / 2 % 8).toNat := by
      unfold frameL
      rw [List.length_map, List.length_range]
    have hfl := frameL_len n
    have hfa := frameL_az n
    have k2 := Kp.new (o := HO.lst (((frameL n).take (n / 2 % 8).toNat).map fun x => V.str ⟨#[x]⟩)) t1 nD
    refine ⟨_, D, (frameL n).map fun x => ⟨#[x]⟩, rfl, rfl, .inl (.of (by
      rw [upd_same, List.take_of_length_le (by omega), List.map_map]
      rfl)), ?_, ?_⟩
    · rw [sum_ones]
      have e5 : (("" : Str)).length = 0 := by decide +kernel
      rw [e5]
      omega
    rw [join_ones2]
    have k12 := k1.trans k2
    have t2 := k2.tab
    generalize upd H1 D (.lst (((frameL n).take (n / 2 % 8).toNat).map fun x => V.str ⟨#[x]⟩)) = H2 at k12 t2 ⊢
    clear k2 nD k1 t1
    generalize hF : frameL n = fr at hfl hfa ⊢
    have hfS : (SX.S fr).length = fr.length := SX.S_len _
    -- at
    refine ⟨_, rfl, n, 56, rfl, rfl, ⟨by decide, by decide⟩, _, rfl, _, rfl, line1000 (by omega), _, 1, rfl, rfl, n / 56, _, rfl, rfl, (by show (0 : Int) < ((SX.S fr).length : Int) + 1; omega), ?_⟩
    have hat0 : 0 ≤ n / 56 % (((SX.S fr).length : Int) + 1) := Int.emod_nonneg _ (by omega)
    -- the names
    refine ⟨(by show (0 : Nat) ≤ sizeLine; decide), fun L nL => ?_⟩
    have k3 := Kp.new (o := HO.lst []) t2 nL
    have nLH := k12.free nL
    have LT := tab_nn t2 nL
    refine ⟨_, rfl, k, rfl, (by omega), (by omega), for_range (lo := 0) (n := (k : Int).toNat) (fun i σ' H' => ∃ (x8 x9 : Option V) (names : List Str), σ' = [some (.ref a), some (.int k), some (.str "abcdefghijklmnopqrstuvwxyz"), some (.int n), some (.int st), some (.str (SX.S fr)), some (.int (n / 56 % (((SX.S fr).length : Int) + 1))), some (.ref L), x8, x9, none] ∧
        Kp T H H' ∧ H' L = some (.lst (names.map V.str)) ∧ names = (List.range i).map (nameS fr (n / 56 % (((SX.S fr).length : Int) + 1)).toNat (n / 504) st) ∧ ∀ y ∈ names, GoodN y)
      ⟨none, none, [], rfl, k12.trans k3, upd_same, rfl, fun y hy => by cases hy⟩ (fun i σ' H' hi hm => ?_) (fun σ' H' hm => ?_)⟩
    · obtain ⟨x8, x9, names, rfl, kk, hL, hnm, hgd⟩ := hm
      have hln : names.length = i := by rw [hnm, List.length_map, List.length_range]
      have hik : i < k := by omega
      have hstb : 0 ≤ st ∧ st ≤ 23 := by rcases hst with rfl | rfl <;> omega
      refine ⟨_, rfl, _, rfl, n, 504, rfl, rfl, ⟨by decide, by decide⟩, _, rfl, _, rfl, st, 0 + (i : Int), rfl, rfl, .inl ⟨by omega, by omega⟩, _, _, rfl, rfl, _, 26, rfl, rfl, (by show (0 : Int) < 26; decide), ?_⟩
      refine ⟨_, _, 97 + ((n / 504 + st * (0 + (i : Int))) % 26).toNat, rfl, rfl, (by rw [letters_eq, SX.S_len]; exact line1000 (by decide)), (by rw [letters_eq]; exact letters_at (by omega) (by omega)), ?_⟩
      have e1 := cutS_to (l := fr) hat0
      have e2 := cutS_from (l := fr) hat0
      have ha1 : (fr.take (n / 56 % (((SX.S fr).length : Int) + 1)).toNat).length + (fr.drop (n / 56 % (((SX.S fr).length : Int) + 1)).toNat).length = fr.length := by
        rw [← List.length_append, List.take_append_drop]
      have l1 : (cutS (SX.S fr) none (some (n / 56 % (((SX.S fr).length : Int) + 1)))).length ≤ 7 := by rw [e1, SX.S_len]; omega
      have l2 : (cutS (SX.S fr) (some (n / 56 % (((SX.S fr).length : Int) + 1))) none).length ≤ 7 := by rw [e2, SX.S_len]; omega
      have ec : (⟨#[97 + ((n / 504 + st * (0 + (i : Int))) % 26).toNat]⟩ : Str) = SX.S [97 + ((n / 504 + st * (0 + (i : Int))) % 26).toNat] := rfl
      have l3 : (cutS (SX.S fr) none (some (n / 56 % (((SX.S fr).length : Int) + 1))) ++ (⟨#[97 + ((n / 504 + st * (0 + (i : Int))) % 26).toNat]⟩ : Str)).length ≤ 8 := by
        rw [e1, ec, SX.S_cat, SX.S_len, List.length_append, List.length_singleton]; omega
      have l4 : ((⟨#[97 + ((n / 504 + st * (0 + (i : Int))) % 26).toNat]⟩ : Str)).length = 1 := rfl
      refine ⟨_, rfl, .inl ⟨rfl, _, .inl (.inl hL)⟩, _, rfl, _, rfl, _, rfl, _, rfl, line1000 (by omega), _, rfl, _, _, rfl, rfl, line1000 (by omega), _, rfl, _, rfl, _, rfl, _, rfl, line1000 (by omega), _, _, rfl, rfl, line1000 (by omega), ?_⟩
      refine ⟨L, _, _, rfl, rfl, hL, small1000 (by rw [List.length_map]; omega), ?_⟩
      refine ⟨_, _, names ++ [SX.S (fr.take (n / 56 % (((SX.S fr).length : Int) + 1)).toNat ++ [97 + ((n / 504 + st * (0 + (i : Int))) % 26).toNat] ++ fr.drop (n / 56 % (((SX.S fr).length : Int) + 1)).toNat)], rfl, kk.set nLH LT, ?_, ?_, ?_⟩
      · rw [upd_same, List.map_append, List.map_singleton, e1, e2, ec, SX.S_cat, SX.S_cat]
      · rw [List.range_succ, List.map_append, ← hnm]
        rfl
      · intro y hy
        rcases List.mem_append.mp hy with hy | hy
        · exact hgd y hy
        · rw [List.mem_singleton.mp hy]
          refine goodN ((Az.app (hfa.sub fun c hc => List.mem_of_mem_take hc) (fun c hc => ?_)).app (hfa.sub fun c hc => List.mem_of_mem_drop hc)) ?_ ?_
          · rw [List.mem_singleton.mp hc]; omega
          · rw [List.length_append, List.length_append, List.length_singleton]; omega
          · rw [List.length_append, List.length_append, List.length_singleton]; omega
    -- perhaps other names
    obtain ⟨x8, x9, names, rfl, kk, hL, hnm, hgd⟩ := hm
    have hln' : names.length = k := by rw [hnm, List.length_map, List.length_range]; omega
    have hnd : names.Nodup := by rw [hnm]; exact names_nodup hst (by omega)
    clear hnm
    refine ⟨fun σ2 H3 => ∃ (x8 x9 : Option V) (M : Addr) (names : List Str), σ2 = [some (.ref a), some (.int k), some (.str "abcdefghijklmnopqrstuvwxyz"), some (.int n), some (.int st), some (.str (SX.S fr)), some (.int (n / 56 % (((SX.S fr).length : Int) + 1))), some (.ref M), x8, x9, none] ∧
        Kp T H H3 ∧ H3 M = some (.lst (names.map V.str)) ∧ names.length = k ∧ (∀ y ∈ names, GoodN y) ∧ names.Nodup, ?_, fun σ2 H3 hm => ?_⟩
    · refine ⟨_, rfl, n, 16, rfl, rfl, ⟨by decide, by decide⟩, _, 3, rfl, rfl, (by show (0 : Int) < 3; decide), rfl, _, rfl, iteD (fun hz => ?_) (fun hz => ⟨x8, x9, L, names, rfl, kk, hL, hln', hgd, hnd⟩)⟩
      refine ⟨_, rfl, k, 9, rfl, rfl, _, rfl, iteD (fun hz2 => ?_) (fun hz2 => ⟨x8, x9, L, names, rfl, kk, hL, hln', hgd, hnd⟩)⟩
      refine ⟨_, rfl, k, rfl, (by omega), (by omega), fun M nM => ?_⟩
      have kM := fun o => Kp.new (o := o) kk.tab nM
      refine lc_range (lo := 0) (n := (k : Int).toNat) (fun i H3 => ∃ ys : List Str, H3 = upd H' M (.lst (ys.map V.str)) ∧ ys.length = i ∧ (∀ y ∈ ys, GoodN y) ∧ ys = (List.range i).map (preS (fr ++ letters.drop (n / 504 % 26).toNat ++ letters))) ⟨[], rfl, rfl, (fun y hy => by cases hy), rfl⟩ (fun i H3 hi hm3 => ?_) (fun H3 hm3 => ?_)
      · obtain ⟨ys, rfl, hly, hgy, hyy⟩ := hm3
        refine ⟨rfl, ?_⟩
        have hb0 : 0 ≤ n / 504 % 26 := Int.emod_nonneg _ (by decide)
        have e2 := cutS_from (l := letters) hb0
        have e3 : cutS ("abcdefghijklmnopqrstuvwxyz" : Str) (some (n / 504 % 26)) none = SX.S (letters.drop (n / 504 % 26).toNat) := by rw [letters_eq]; exact e2
        have ll : letters.length = 26 := by decide
        have l1 : (cutS ("abcdefghijklmnopqrstuvwxyz" : Str) (some (n / 504 % 26)) none).length ≤ 26 := by rw [e3, SX.S_len, List.length_drop]; omega
        have l2 : (("abcdefghijklmnopqrstuvwxyz" : Str)).length = 26 := by rw [letters_eq, SX.S_len, ll]
        have e4 : SX.S fr ++ cutS ("abcdefghijklmnopqrstuvwxyz" : Str) (some (n / 504 % 26)) none = SX.S (fr ++ letters.drop (n / 504 % 26).toNat) := by rw [e3, SX.S_cat]
        have l4 : (SX.S fr ++ cutS ("abcdefghijklmnopqrstuvwxyz" : Str) (some (n / 504 % 26)) none).length ≤ 40 := by rw [e4, SX.S_len, List.length_append, List.length_drop]; omega
        have e5 : SX.S fr ++ cutS ("abcdefghijklmnopqrstuvwxyz" : Str) (some (n / 504 % 26)) none ++ ("abcdefghijklmnopqrstuvwxyz" : Str) = SX.S (fr ++ letters.drop (n / 504 % 26).toNat ++ letters) := by rw [e4, letters_eq, SX.S_cat]
        have l5 : (SX.S fr ++ cutS ("abcdefghijklmnopqrstuvwxyz" : Str) (some (n / 504 % 26)) none ++ ("abcdefghijklmnopqrstuvwxyz" : Str)).length ≤ 100 := by rw [e5, SX.S_len, List.length_append, List.length_append, List.length_drop]; omega
        refine ⟨_, rfl, _, rfl, _, rfl, n, 504, rfl, rfl, ⟨by decide, by decide⟩, _, 26, rfl, rfl, (by show (0 : Int) < 26; decide), _, rfl, _, rfl, line1000 (by omega), _, _, rfl, rfl, line1000 (by omega), _, rfl, _, _, rfl, rfl, line1000 (by omega), ?_⟩
        refine ⟨_, rfl, 1, _, rfl, rfl, _, rfl, _, rfl, line1000 (by omega), _, upd_same, small1000 (by rw [List.length_map]; omega), ?_⟩
        have e6 := cutS_to (l := fr ++ letters.drop (n / 504 % 26).toNat ++ letters) (a := 1 + (0 + (i : Int))) (by omega)
        refine ⟨ys ++ [SX.S ((fr ++ letters.drop (n / 504 % 26).toNat ++ letters).take (1 + (0 + (i : Int))).toNat)], ?_, ?_, ?_, ?_⟩
        · rw [upd_upd, List.map_append, List.map_singleton, e5, e6]
        · rw [List.length_append, List.length_singleton, hly]
        · intro y hy
          rcases List.mem_append.mp hy with hy | hy
          · exact hgy y hy
          · rw [List.mem_singleton.mp hy]
            have lt : ((fr ++ letters.drop (n / 504 % 26).toNat ++ letters).take (1 + (0 + (i : Int))).toNat).length = (1 + (0 + (i : Int))).toNat := by
              rw [List.length_take, List.length_append, ll]
              omega
            refine goodN (Az.sub (l := fr ++ letters.drop (n / 504 % 26).toNat ++ letters) ((hfa.app (letters_az.sub fun c hc => List.mem_of_mem_drop hc)).app letters_az) fun c hc => List.mem_of_mem_take hc) ?_ ?_
            · rw [lt]; omega
            · rw [lt]; omega
        · rw [List.range_succ, List.map_append, ← hyy]
          have ei : (1 + (0 + (i : Int))).toNat = 1 + i := by omega
          rw [ei]
          rfl
      · obtain ⟨ys, rfl, hly, hgy, hyy⟩ := hm3
        exact ⟨x8, x9, M, ys, rfl, kk.trans (kM _), upd_same, by omega, hgy, by rw [hyy]; exact pre_nodup (by rw [List.length_append, show letters.length = 26 from by decide]; omega)⟩
    · obtain ⟨x8, x9, M, names, rfl, kk, hL, hln, hgd, hnd⟩ := hm
      refine ⟨_, rfl, 1, rfl, (by show (2 : Nat) ≤ sizeLine; decide), fun p2 np2 => ?_⟩
      have k4 := Kp.new (o := HO.lst [.int 1, .int (-1)]) kk.tab np2
      have pk : ∃ v, atI [V.int 1, .int (-1)] (n / 48 % 2) = some v ∧ (v = .int 1 ∨ v = .int (-1)) := at_pick (by omega) (by show n / 48 % 2 < ((2 : Nat) : Int); omega) (fun x hx => by
        simp only [List.mem_cons, List.not_mem_nil, or_false] at hx
        exact hx)
      obtain ⟨v, hv, hv2⟩ := pk
      have hM := k4.lst hL
      rcases hv2 with rfl | rfl
      · refine ⟨_, rfl, n, 48, rfl, rfl, ⟨by decide, by decide⟩, _, 2, rfl, rfl, (by show (0 : Int) < 2; decide), p2, _, _, _, rfl, rfl, .inl (.of upd_same), hv, 1, rfl, M, _, rfl, .inl (.of hM), .inl ⟨rfl, fun r nr => ?_⟩⟩
        have k5 := Kp.new (o := HO.lst (names.map V.str)) k4.tab nr
        have k6 := kk.trans k4
        exact q names r _ hln hgd hnd (k6.trans k5) (k6.free nr) upd_same
      · refine ⟨_, rfl, n, 48, rfl, rfl, ⟨by decide, by decide⟩, _, 2, rfl, rfl, (by show (0 : Int) < 2; decide), p2, _, _, _, rfl, rfl, .inl (.of upd_same), hv, -1, rfl, M, _, rfl, .inl (.of hM), .inr ⟨rfl, fun r nr => ?_⟩⟩
        have k5 := Kp.new (o := HO.lst (names.map V.str).reverse) k4.tab nr
        have k6 := kk.trans k4
        exact q names.reverse r _ (by rw [List.length_reverse]; exact hln) (fun y hy => hgd y (List.mem_reverse.mp hy)) ((List.reverse_perm names).nodup_iff.mpr hnd) (k6.trans k5) (k6.free nr) (by rw [upd_same, List.map_reverse])
end
end Pk

set_option Elab.async false
set_option linter.all false
set_option maxRecDepth 100000
set_option maxHeartbeats 4000000
namespace Pk
open PySem PySem.Spec PyProof.Rows L2
def ND (d : PyData) : Prop := ∃ y i j, d = .tuple [.str y, .int i, .int j] ∧ GoodN y ∧ makeB (.int i) = true ∧ makeB (.int j) = true ∧ i ≤ j
theorem ND.need {d : PyData} (h : ND d) : needB d = true := by
  obtain ⟨y, i, j, rfl, g, hi, hj, hij⟩ := h
  show (wareB (.str y) && makeB (.int i) && makeB (.int j) && decide (i ≤ j)) = true
  rw [g.1, hi, hj, decide_eq_true hij] <;> rfl
theorem ND.okT {d : PyData} (h : ND d) : okT d = true := by
  obtain ⟨y, i, j, rfl, g, _⟩ := h
  exact okT_tup (fun d hd => by
    simp only [List.mem_cons, List.not_mem_nil, or_false] at hd
    rcases hd with rfl | rfl | rfl
    · exact g.2
    · rfl
    · rfl) (by simp)
theorem ND.lay {d : PyData} (h : ND d) : d.canLay0 = true ∧ d.depth = 1 := by
  obtain ⟨y, i, j, rfl, g, _⟩ := h
  have e := okS_ok g.2
  constructor
  · show (PyData.strOk y && (true && (true && true))) = true
    rw [e] <;> rfl
  · rfl
theorem shaped_nd {ds : List PyData} (h : ∀ d ∈ ds, ND d) : SeqAt.shaped (.list ds) = true := by
  have h1 : PyData.canLayAll0 ds = true ∧ PyData.depthAll ds ≤ 1 := by
    induction ds with
    | nil => exact ⟨rfl, Nat.zero_le _⟩
    | cons d r ih =>
      obtain ⟨i1, i2⟩ := ih fun x hx => h x (List.mem_cons_of_mem _ hx)
      obtain ⟨j1, j2⟩ := (h d (List.mem_cons_self ..)).lay
      constructor
      · show (d.canLay0 && PyData.canLayAll0 r) = true
        rw [i1, j1] <;> rfl
      · show max d.depth (PyData.depthAll r) ≤ 1
        rw [j2]
        omega
  show (PyData.canLayAll0 ds && decide (PyData.depthAll ds + 1 ≤ 64)) = true
  rw [h1.1, decide_eq_true (by omega)] <;> rfl
theorem nx_in {a b : TS} {D D' : Ends} {σ : L2.St} {H : Hp} (h : tSeq a b D' σ H) : ({ D with nx := tSeq a b D' } : Ends).nx σ H := h
theorem tRet_in {te : TE} {D : Ends} {σ : L2.St} {H : Hp} (h : te σ H D.rt) : tRet te D σ H := h
theorem gName_in {i : Nat} {v : V} {σ : L2.St} {H : Hp} {Q : L2.St → Hp → Prop} (h : Q (σ.set i (some v)) H) : gName i v σ H Q := h
theorem tYes_if {σ : L2.St} {H : Hp} {a b : Hp → Prop} (h : a H) : tYes σ H (fun c H3 => if c = true then a H3 else b H3) := by
  show (if true = true then a H else b H)
  rw [if_pos rfl]
  exact h
theorem new_shop {K : PySem.W.Frag} {C T x dx D : Addr} {H : Hp} (t : GxR.TabG H T) (nx : H x = none) (ndx : H dx = none) (ne : dx ≠ x) (nD : (upd (upd H dx (.own x)) x (.ins C dx [])) D = none) :
    Kp T H (upd (upd (upd (upd H dx (.own x)) x (.ins C dx [])) D (.dK [])) x (.ins C dx (flS D))) ∧ (∀ A, ShopAt K C A (upd (upd (upd (upd H dx (.own x)) x (.ins C dx [])) D (.dK [])) x (.ins C dx (flS D))) x D []) ∧ H D = none := by
  have k1 := Kp.new (o := HO.own x) t ndx
  have nx1 : upd H dx (.own x) x = none := by rw [upd_ne ne.symm]; exact nx
  have k2 := Kp.new (o := HO.ins C dx []) k1.tab nx1
  have k3 := Kp.new (o := HO.dK []) k2.tab nD
  have xT := tab_nn t nx
  have Dx : D ≠ x := fun z => by rw [z, upd_same] at nD; cases nD
  refine ⟨((k1.trans k2).trans k3).set nx xT, fun A => ⟨⟨dx, upd_same⟩, ⟨?_, fun s hs => (by cases hs), List.nodup_nil, List.nodup_cons.mpr ⟨List.not_mem_nil, List.nodup_nil⟩⟩, fun s hs => (by cases hs)⟩, (k1.trans k2).free nD⟩
  rw [upd_ne Dx, upd_same]
  rfl
theorem data_ne {st : List Shelf} {s : Shelf} (nd : (st.map (·.ware)).Nodup) (hs : s ∈ st) (ne : s.ents ≠ []) : dataOf st s.ware ≠ [] := by
  unfold dataOf
  rw [look_of nd hs rfl]
  show s.ents.map entD ≠ []
  exact fun z => ne (List.map_eq_nil_iff.mp z)
theorem data_look {cl : List Shelf} {v : Str} (h : dataOf cl v ≠ []) : ∃ s, look cl v = some s ∧ s.ents ≠ [] := by
  unfold dataOf at h
  cases el : look cl v with
  | none => rw [el] at h; exact absurd rfl h
  | some s =>
    rw [el] at h
    exact ⟨s, rfl, fun z => h (by show s.ents.map entD = []; rw [z]; rfl)⟩
theorem passN {X : Cx} : Passes (L2N.CX X.prog X.w) X E0 := fun _ _ _ _ _ _ _ h => by
  obtain ⟨_, _, _, _, _, _, _, _, _, _, _, _, z⟩ := h
  exact z.elim
theorem nodup_len {l m : List Str} (nd : l.Nodup) (nm : m.Nodup) (h : ∀ x ∈ l, x ∈ m) : l.length ≤ m.length := by
  have p : l.Perm (m.filter fun x => decide (x ∈ l)) := (List.perm_ext_iff_of_nodup nd (List.Sublist.nodup List.filter_sublist nm)).mpr fun x =>
    ⟨fun hx => List.mem_filter.mpr ⟨h x hx, decide_eq_true hx⟩, fun hx => of_decide_eq_true (List.mem_filter.mp hx).2⟩
  rw [p.length_eq]
  exact List.length_filter_le _ _
theorem dpAll_kx {K : PySem.W.Frag} {T : Addr} {A F : List Addr} {H H' : Hp} (k : Kx T F H H') (hF : ∀ f ∈ F, f ∈ A ∨ ∃ kvs, H f = some (.dK kvs)) {xs : List V} {ds : List PyData} (h : DpAll K (hide A H) xs ds) : DpAll K (hide A H') xs ds :=
  dpAll_mono (fun b o hs e => by
    obtain ⟨e1, e2⟩ := hide_some e
    refine hide_of (k.keep b o (isSeq_ne_tab k.t0 hs e1) (fun z => ?_) e1) e2
    rcases hF b z with z | ⟨kvs, z⟩
    · exact e2 z
    · rw [z] at e1
      cases e1
      cases hs) ds xs h
theorem dp_strs {K : PySem.W.Frag} {H : Hp} : ∀ l : List Str, DpAll K H (l.map V.str) (l.map PyData.str)
  | [] => .nil
  | x :: r => .cons (.str x) (dp_strs r)
theorem dpAll_app {K : PySem.W.Frag} {H : Hp} : ∀ {ds es : List PyData} {vs us : List V}, DpAll K H vs ds → DpAll K H us es → DpAll K H (vs ++ us) (ds ++ es)
  | [], _, _, _, h, h2 => by cases h; exact h2
  | x :: r, _, _, _, h, h2 => by
    cases h with
    | cons a b => exact .cons a (dpAll_app b h2)
def Lay (n : Nat) (d : PyData) : Prop := d.canLay0 = true ∧ d.depth ≤ n
theorem lay_all {n : Nat} : ∀ {ds : List PyData}, (∀ d ∈ ds, Lay n d) → PyData.canLayAll0 ds = true ∧ PyData.depthAll ds ≤ n
  | [], _ => ⟨rfl, Nat.zero_le _⟩
  | d :: r, h => by
    obtain ⟨i1, i2⟩ := lay_all fun x hx => h x (List.mem_cons_of_mem _ hx)
    obtain ⟨j1, j2⟩ := h d (List.mem_cons_self ..)
    constructor
    · show (d.canLay0 && PyData.canLayAll0 r) = true
      rw [i1, j1] <;> rfl
    · show max d.depth (PyData.depthAll r) ≤ n
      omega
theorem lay_list {n : Nat} {ds : List PyData} (h : ∀ d ∈ ds, Lay n d) : Lay (n + 1) (.list ds) := by
  obtain ⟨a, b⟩ := lay_all h
  exact ⟨a, by show PyData.depthAll ds + 1 ≤ n + 1; omega⟩
theorem lay_tup {n : Nat} {ds : List PyData} (h : ∀ d ∈ ds, Lay n d) : Lay (n + 1) (.tuple ds) := by
  obtain ⟨a, b⟩ := lay_all h
  exact ⟨a, by show PyData.depthAll ds + 1 ≤ n + 1; omega⟩
theorem lay_shaped {n : Nat} {ds : List PyData} (h : Lay n (.list ds)) (hn : n ≤ 64) : SeqAt.shaped (.list ds) = true := by
  have h1 : PyData.canLayAll0 ds = true := h.1
  have h2 : PyData.depthAll ds + 1 ≤ n := h.2
  show (PyData.canLayAll0 ds && decide (PyData.depthAll ds + 1 ≤ 64)) = true
  rw [h1, decide_eq_true (by omega)] <;> rfl
theorem Lay.mono {n m : Nat} {d : PyData} (h : Lay n d) (hm : n ≤ m) : Lay m d := ⟨h.1, Nat.le_trans h.2 hm⟩
theorem lay_str {x : Str} (h : GoodN x) : Lay 0 (.str x) := ⟨okS_ok h.2, Nat.le_refl _⟩
theorem lay_int (i : Int) : Lay 0 (.int i) := ⟨rfl, Nat.le_refl _⟩
theorem ShopAt.more {K : PySem.W.Frag} {C : Addr} {A : List Addr} {H : Hp} {p D n : Addr} {st : List Shelf} (S : ShopAt K C A H p D st) (nn : H n = none) : ShopAt K C (n :: A) H p D st :=
  ⟨S.ob, S.bx.hideMore fun _ _ _ _ _ h => dp_more nn h, S.ne⟩
theorem findD_mem {l : List (Int × List PyData)} {m : Int} (h : m ∈ l.map (·.1)) : ∃ e, findD l m = some e ∧ e ∈ l ∧ e.1 = m := by
  unfold findD
  cases hf : l.find? fun e => decide (e.1 = m) with
  | none =>
    obtain ⟨e, he, rfl⟩ := List.mem_map.mp h
    rw [List.find?_eq_none] at hf
    exact absurd (decide_eq_true rfl) (hf e he)
  | some e => exact ⟨e, rfl, List.mem_of_find?_eq_some hf, of_decide_eq_true (List.find?_some (p := fun e : Int × List PyData => decide (e.1 = m)) hf)⟩
theorem keyE_iff {es : List (Int × Addr × List PyData)} {m : Int} : (lookE es m).isSome = decide (m ∈ (es.map entD).map (·.1)) := by
  cases h : lookE es m with
  | none =>
    rw [decide_eq_false]
    · rfl
    · intro z
      rw [List.map_map] at z
      obtain ⟨e, he, e2⟩ := List.mem_map.mp z
      exact lookE_none h e he e2
  | some e =>
    rw [decide_eq_true]
    · rfl
    · obtain ⟨h1, h2⟩ := lookE_mem h
      rw [List.map_map]
      exact List.mem_map.mpr ⟨e, h1, h2⟩
theorem inB_data (st : List Shelf) (x : Str) (m : Int) : inB st (.str x) (.int m) = decide (m ∈ (dataOf st x).map (·.1)) := by
  show ((look st x).bind fun s => lookE s.ents m).isSome = _
  unfold dataOf
  cases h : look st x with
  | none => rfl
  | some s => exact keyE_iff
theorem hasB_keys (st : List Shelf) (x : Str) (m : Int) : hasB st (.str x) (.int m) = (wareB (.str x) && makeB (.int m) && decide (m ∈ (dataOf st x).map (·.1))) := by
  unfold hasB
  rw [inB_data]
theorem look_data {st : List Shelf} {x : Str} {s : Shelf} (h : look st x = some s) : dataOf st x = s.ents.map entD := by
  unfold dataOf
  rw [h]
  rfl
theorem look_nil {st : List Shelf} (ne : ∀ s ∈ st, s.ents ≠ []) {x : Str} (h : dataOf st x = []) : look st x = none := by
  cases el : look st x with
  | none => rfl
  | some s =>
    rw [look_data el] at h
    exact absurd (List.map_eq_nil_iff.mp h) (ne s (look_mem el).1)
theorem look_cons {st : List Shelf} {x : Str} (h : dataOf st x ≠ []) : ∃ s, look st x = some s := by
  cases el : look st x with
  | none => exact absurd (by unfold dataOf; rw [el]; rfl) h
  | some s => exact ⟨s, rfl⟩
theorem len_gone {st st' : List Shelf} {x : Str} (nd : (st.map (·.ware)).Nodup) (nd' : (st'.map (·.ware)).Nodup) (ne' : ∀ s ∈ st', s.ents ≠ []) (hx : dataOf st x ≠ []) (hd : ∀ v, dataOf st' v = if v = x then [] else dataOf st v) : st'.length < st.length := by
  obtain ⟨s, hs⟩ := look_cons hx
  obtain ⟨h1, h2⟩ := look_mem hs
  have sub : ∀ y ∈ x :: st'.map (·.ware), y ∈ st.map (·.ware) := fun y hy => by
    rcases List.mem_cons.mp hy with rfl | hy
    · exact List.mem_map.mpr ⟨s, h1, h2⟩
    · obtain ⟨t, ht, rfl⟩ := List.mem_map.mp hy
      have z := data_ne nd' ht (ne' t ht)
      rw [hd] at z
      by_cases e : t.ware = x
      · rw [if_pos e] at z; exact absurd rfl z
      · rw [if_neg e] at z
        obtain ⟨s2, hs2⟩ := look_cons z
        obtain ⟨g1, g2⟩ := look_mem hs2
        exact List.mem_map.mpr ⟨s2, g1, g2⟩
  have nn : (x :: st'.map (·.ware)).Nodup := List.nodup_cons.mpr ⟨fun z => by
    obtain ⟨t, ht, e⟩ := List.mem_map.mp z
    have z2 := data_ne nd' ht (ne' t ht)
    rw [hd, if_pos e] at z2
    exact z2 rfl, nd'⟩
  have z := nodup_len nn nd sub
  rw [List.length_cons, List.length_map, List.length_map] at z
  omega
theorem place_after {st st' : List Shelf} {W y : Str} {D' : List (Int × List PyData)} (nd : (st.map (·.ware)).Nodup) (nd' : (st'.map (·.ware)).Nodup) (ne' : ∀ s ∈ st', s.ents ≠ []) (hW : dataOf st W ≠ []) (h12 : st.length ≤ 12)
    (hd : ∀ v, dataOf st' v = if v = W then D' else dataOf st v) (hl : (dataOf st' y).length < 8) (hn : dataOf st' y = [] → D' = []) : placeB st' y = true := by
  unfold placeB
  cases el : look st' y with
  | none =>
    have e0 : D' = [] := hn (by unfold dataOf; rw [el]; rfl)
    subst e0
    exact decide_eq_true (Nat.lt_of_lt_of_le (len_gone nd nd' ne' hW hd) h12)
  | some s =>
    have e1 := look_data el
    rw [e1, List.length_map] at hl
    exact decide_eq_true hl
theorem Kx.step {T : Addr} {F F2 : List Addr} {H H1 H2 : Hp} (a : Kx T F H H1) (h : ∀ f ∈ F2, f ∈ F ∨ H1 f = none) (b : Kx T F2 H1 H2) : Kx T F H H2 := ⟨a.t0, b.tab, fun c o n m e => by
  have e1 := a.keep c o n m e
  exact b.keep c o n (fun z => by
    rcases h c z with z | z
    · exact m z
    · rw [e1] at z; cases z) e1⟩
theorem okL_nil : okL (.list []) = true := by decide +kernel
theorem mayB_nil (x : Str) : mayB x (.list []) = true := rfl
theorem okL_list {ds : List PyData} (h : ∀ d ∈ ds, okT d = true) (hl : ds.length ≤ 1000) : okL (.list ds) = true := by
  show (ds.all okT && decide (ds.length ≤ 1000)) = true
  rw [decide_eq_true hl, Bool.and_true, List.all_eq_true]
  exact h
section
variable {K : PySem.W.Frag} {mg : Str → Option Value}
theorem put_nil {C T BW BM BN TW FU p D e : Addr} {H : Hp} {st : List Shelf} {x : Str} {m : Int} {Q : VK} {E : XK} (S : ShopAt K C [] H p D st) (hx : GoodN x) (hm : makeB (.int m) = true) (he : H e = some (.lst [])) (ht : GxR.TabG H T) (h100 : st.length ≤ 100)
    (hh : hasB st (.str x) (.int m) = false) (hp : placeB st x = true)
    (q : ∀ H' st', ShopAt K C [] H' p D st' → (∀ v, dataOf st' v = if v = x then dataOf st x ++ [(m, [])] else dataOf st v) → Kx T (foot D st) H H' → (∀ f ∈ foot D st', f ∈ foot D st ∨ H f = none) → Q .non H') :
    spPut K C T BW BM BN TW FU [.ref p, .str x, .int m, .ref e] H Q E := by
  refine ⟨[], p, D, st, _, _, _, .str x, .int m, .list [], rfl, S, .str x, hx.2, .int m, .lst (.inl (.inl he)) .nil, okL_nil, ht, fun a ha => (by cases ha), h100, fun z => ?_, fun _ z => ?_, fun _ _ _ _ z => ?_, fun _ _ _ _ _ z => ?_, fun _ e _ _ _ _ z => ?_, fun x' m' e1 e2 _ _ _ _ _ => ?_⟩
  · rw [hx.1] at z; cases z
  · rw [hm] at z; cases z
  · cases z
  · rw [hh] at z; cases z
  · cases e; rw [hp] at z; cases z
  · cases e1; cases e2
    exact ⟨e, [], [], rfl, rfl, .inl (.inl he), .nil, q⟩
theorem flat_ints (ks : List Int) : ∀ d ∈ ks.map PyData.int, d.canLay0 = true ∧ d.depth = 0 := fun d hd => by
  obtain ⟨i, _, rfl⟩ := List.mem_map.mp hd
  exact ⟨rfl, rfl⟩
theorem shaped_ints (ks : List Int) : SeqAt.shaped (.list (ks.map .int)) = true := (shaped_flat (flat_ints ks)).1
theorem eqv_ints : ∀ ks ls : List Int, PyData.eqv (.list (ks.map .int)) (.list (ls.map .int)) = decide (ks = ls)
  | [], [] => rfl
  | [], _ :: _ => rfl
  | _ :: _, [] => rfl
  | a :: r, b :: t => by
    have ih := eqv_ints r t
    have e1 : PyData.eqv (.list ((a :: r).map .int)) (.list ((b :: t).map .int)) = (PyData.eqv (.int a) (.int b) && PyData.eqv (.list (r.map .int)) (.list (t.map .int))) := rfl
    have e2 : PyData.eqv (.int a) (.int b) = decide (a = b) := rfl
    rw [e1, e2, ih]
    by_cases h1 : a = b
    · by_cases h2 : r = t
      · rw [decide_eq_true h1, decide_eq_true h2, h1, h2, decide_eq_true rfl] <;> rfl
      · rw [decide_eq_true h1, decide_eq_false h2, decide_eq_false (fun z => h2 (List.cons.inj z).2)] <;> rfl
    · rw [decide_eq_false h1, decide_eq_false (fun z => h1 (List.cons.inj z).1)] <;> rfl
theorem dp_ints {K : PySem.W.Frag} {H : Hp} : ∀ ks : List Int, DpAll K H (ks.map V.int) (ks.map .int)
  | [] => .nil
  | k :: r => .cons (.int k) (dp_ints r)
theorem dp_lst {K : PySem.W.Frag} {H : Hp} {a : Addr} {xs : List V} {ds : List PyData} (h : H a = some (.lst xs)) (h2 : DpAll K H xs ds) : Dp K H (.ref a) (.list ds) := .lst (.inl (.inl h)) h2
theorem eq_lit {T u : Addr} {i : Nat} {σ : L2.St} {H : Hp} {ks ls : List Int} {tl : TA} {Q : V → Hp → Prop} (hi : σ[i]? = some (some (.ref u))) (hu : H u = some (.lst (ks.map V.int))) (ht : GxR.TabG H T)
    (hl : ls.length ≤ 100) (hlit : ∀ H Q, Q (ls.map V.int) H → tl σ H Q) (q : ∀ H', Kp T H H' → Q (.bl (decide (ks = ls))) H') : tOp (rEqD K) (tVar i) (tLst tl) σ H Q := by
  refine ⟨_, hi, hlit _ _ ⟨by rw [List.length_map]; exact Nat.le_trans hl (by decide), fun l nl => ?_⟩⟩
  have k := Kp.new (o := HO.lst (ls.map V.int)) ht nl
  refine ⟨.list (ks.map .int), .list (ls.map .int), dp_lst (k.lst hu) (dp_ints ks), dp_lst upd_same (dp_ints ls), shaped_ints ks, shaped_ints ls, ?_⟩
  rw [eqv_ints]
  exact q _ k
theorem ne_lit {T u : Addr} {i : Nat} {σ : L2.St} {H : Hp} {ks ls : List Int} {tl : TA} {Q : V → Hp → Prop} (hi : σ[i]? = some (some (.ref u))) (hu : H u = some (.lst (ks.map V.int))) (ht : GxR.TabG H T)
    (hl : ls.length ≤ 100) (hlit : ∀ H Q, Q (ls.map V.int) H → tl σ H Q) (q : ∀ H', Kp T H H' → Q (.bl (!decide (ks = ls))) H') : tOp (rNeD K) (tVar i) (tLst tl) σ H Q := by
  refine ⟨_, hi, hlit _ _ ⟨by rw [List.length_map]; exact Nat.le_trans hl (by decide), fun l nl => ?_⟩⟩
  have k := Kp.new (o := HO.lst (ls.map V.int)) ht nl
  refine ⟨.list (ks.map .int), .list (ls.map .int), dp_lst (k.lst hu) (dp_ints ks), dp_lst upd_same (dp_ints ls), shaped_ints ks, shaped_ints ls, ?_⟩
  rw [eqv_ints]
  exact q _ k
theorem eq_litT {T u : Addr} {i : Nat} {σ : L2.St} {H : Hp} {ks ls : List Int} {tl : TA} {Q : Bool → Hp → Prop} (hi : σ[i]? = some (some (.ref u))) (hu : H u = some (.lst (ks.map V.int))) (ht : GxR.TabG H T)
    (hl : ls.length ≤ 100) (hlit : ∀ H Q, Q (ls.map V.int) H → tl σ H Q) (q : ∀ H', Kp T H H' → Q (decide (ks = ls)) H') : tB (tOp (rEqD K) (tVar i) (tLst tl)) σ H Q :=
  eq_lit hi hu ht hl hlit fun H' k => ⟨_, rfl, q H' k⟩
theorem ne_litT {T u : Addr} {i : Nat} {σ : L2.St} {H : Hp} {ks ls : List Int} {tl : TA} {Q : Bool → Hp → Prop} (hi : σ[i]? = some (some (.ref u))) (hu : H u = some (.lst (ks.map V.int))) (ht : GxR.TabG H T)
    (hl : ls.length ≤ 100) (hlit : ∀ H Q, Q (ls.map V.int) H → tl σ H Q) (q : ∀ H', Kp T H H' → Q (!decide (ks = ls)) H') : tB (tOp (rNeD K) (tVar i) (tLst tl)) σ H Q :=
  ne_lit hi hu ht hl hlit fun H' k => ⟨_, rfl, q H' k⟩
theorem Kx.at0 {T : Addr} {F : List Addr} {H H' : Hp} {a : Addr} {o : HO} (k : Kx T F H H') (hF : ∀ f ∈ F, ∃ kvs, H f = some (.dK kvs)) (h : H a = some o) (nd : ∀ kvs, o ≠ .dK kvs) (nt : ∀ ps, o ≠ .tbl ps) : H' a = some o :=
  k.keep a o (tab_ne k.t0 h nt) (fun z => by
    obtain ⟨kvs, e⟩ := hF a z
    rw [h] at e
    exact nd kvs (Option.some.inj e)) h
theorem Kx.lst0 {T : Addr} {F : List Addr} {H H' : Hp} {a : Addr} {xs : List V} (k : Kx T F H H') (hF : ∀ f ∈ F, ∃ kvs, H f = some (.dK kvs)) (h : H a = some (.lst xs)) : H' a = some (.lst xs) := k.at0 hF h (fun _ z => by cases z) (fun _ z => by cases z)
theorem Kx.seq0 {T : Addr} {F : List Addr} {H H' : Hp} {a : Addr} {xs : List V} (k : Kx T F H H') (hF : ∀ f ∈ F, ∃ kvs, H f = some (.dK kvs)) (h : SqL K H a xs) : SqL K H' a xs := by
  rcases h with (h | ⟨o, h⟩) | h
  · exact .inl (.inl (k.lst0 hF h))
  · exact .inl (.inr ⟨o, k.at0 hF h (fun _ z => by cases z) (fun _ z => by cases z)⟩)
  · exact .inr h
theorem Kx.sqt0 {T : Addr} {F : List Addr} {H H' : Hp} {a : Addr} {xs : List V} (k : Kx T F H H') (hF : ∀ f ∈ F, ∃ kvs, H f = some (.dK kvs)) (h : SqT K H a xs) : SqT K H' a xs := by
  rcases h with (h | ⟨o, h⟩) | h
  · exact .inl (.inl (k.at0 hF h (fun _ z => by cases z) (fun _ z => by cases z)))
  · exact .inl (.inr ⟨o, k.at0 hF h (fun _ z => by cases z) (fun _ z => by cases z)⟩)
  · exact .inr h
theorem Kx.dp0 {T : Addr} {F : List Addr} {H H' : Hp} (k : Kx T F H H') (hF : ∀ f ∈ F, ∃ kvs, H f = some (.dK kvs)) {v : V} {d : PyData} (h : Dp K H v d) : Dp K H' v d :=
  dp_mono (fun b o hs e => k.keep b o (isSeq_ne_tab k.t0 hs e) (fun z => by
    obtain ⟨kvs, e2⟩ := hF b z
    rw [e] at e2
    cases e2
    cases hs) e) d v h
theorem Kx.step0 {T : Addr} {F F2 : List Addr} {H H1 H2 : Hp} (a : Kx T F H H1) (h : ∀ f ∈ F2, f ∈ F ∨ H f = none) (b : Kx T F2 H1 H2) : Kx T F H H2 := ⟨a.t0, b.tab, fun c o n m e => b.keep c o n (fun z => by
    rcases h c z with z | z
    · exact m z
    · rw [e] at z; cases z) (a.keep c o n m e)⟩
theorem findD_last {l : List (Int × List PyData)} {m : Int} {ds es : List PyData} (h : m ∉ l.map (·.1)) (e : findD (l ++ [(m, es)]) m = some (m, ds)) : ds = es := by
  unfold findD at e
  rw [List.find?_append] at e
  have e0 : l.find? (fun e => decide (e.1 = m)) = none := by
    rw [List.find?_eq_none]
    intro x hx z
    exact h (List.mem_map.mpr ⟨x, hx, of_decide_eq_true z⟩)
  rw [e0, Option.none_or, List.find?_cons_of_pos (by exact decide_eq_true rfl)] at e
  exact (Prod.mk.inj (Option.some.inj e)).2.symm
theorem data_nd {C p D : Addr} {A : List Addr} {H : Hp} {st : List Shelf} (S : ShopAt K C A H p D st) (x : Str) : ((dataOf st x).map (·.1)).Nodup := by
  unfold dataOf
  cases el : look st x with
  | none => exact List.nodup_nil
  | some s =>
    have z := (S.bx.sh s (look_mem el).1).nd
    show ((s.ents.map entD).map (·.1)).Nodup
    rw [List.map_map]
    exact z
theorem makes_read {C T BW p D : Addr} {A : List Addr} {H : Hp} {st : List Shelf} {x : Str} {σ : L2.St} {Q : VK} {targ : TE} (S : ShopAt K C A H p D st) (h64 : (dataOf st x).length < 64) (hx : GoodN x) (t : GxR.TabG H T) (h0 : σ[0]? = some (some (.ref p)))
    (harg : ∀ Q : VK, Q (.str x) H → targ σ H Q) (q : ∀ (ys : List Int) l H', ys.Perm ((dataOf st x).map (·.1)) → ys.Pairwise (· ≤ ·) → Kp T H H' → H l = none → H' l = some (.lst (ys.map V.int)) → Q (.ref l) H') :
    tMeth C "makes" (spMakes K C T BW) [] E0 (tVar 0) (tCons targ tNil) σ H Q := by
  obtain ⟨dx, o⟩ := S.ob
  exact ⟨_, h0, p, dx, _, rfl, o, flS_no D (by decide +kernel), harg _ ⟨A, p, D, st, _, _, rfl, S, .str x, hx.2, t, fun z => absurd (hx.1.symm.trans z) (by decide), fun y e _ => by cases e; exact ⟨h64, q⟩⟩⟩
theorem wares_read {C T p D : Addr} {A : List Addr} {H : Hp} {st : List Shelf} {σ : L2.St} {Q : VK} (S : ShopAt K C A H p D st) (h64 : st.length < 64) (t : GxR.TabG H T) (h0 : σ[0]? = some (some (.ref p)))
    (q : ∀ (ys : List Str) l H', ys.Perm (st.map (·.ware)) → sortedS ys = true → Kp T H H' → H l = none → H' l = some (.lst (ys.map V.str)) → Q (.ref l) H') :
    tMeth C "wares" (spWares K C T) [] E0 (tVar 0) tNil σ H Q := by
  obtain ⟨dx, o⟩ := S.ob
  exact ⟨_, h0, p, dx, _, rfl, o, flS_no D (by decide +kernel), A, p, D, st, rfl, S, t, h64, q⟩
theorem ixt_read {H : Hp} {dd : Addr} {xs : List V} {i : Nat} {n : Int} {j : Nat} {v : V} {σ : L2.St} {Q : VK} (hd : SqT K H dd xs) (hi : σ[i]? = some (some (.ref dd))) (en : n = (j : Int)) (ev : xs[j]? = some v) (q : Q v H) : tOp (rIxT K) (tVar i) (tC (.int n)) σ H Q :=
  ⟨_, hi, dd, xs, n, v, rfl, rfl, hd, at_gen en ev, q⟩
theorem or_litT {T u : Addr} {i : Nat} {σ : L2.St} {H : Hp} {ks l1 l2 : List Int} {t1 t2 : TA} {Q : Bool → Hp → Prop} (hi : σ[i]? = some (some (.ref u))) (hu : H u = some (.lst (ks.map V.int))) (ht : GxR.TabG H T)
    (hl1 : l1.length ≤ 100) (hl2 : l2.length ≤ 100) (h1 : ∀ H Q, Q (l1.map V.int) H → t1 σ H Q) (h2 : ∀ H Q, Q (l2.map V.int) H → t2 σ H Q) (q : ∀ H', Kp T H H' → Q (decide (ks = l1) || decide (ks = l2)) H') :
    tOr (tB (tOp (rEqD K) (tVar i) (tLst t1))) (tB (tOp (rEqD K) (tVar i) (tLst t2))) σ H Q := by
  refine eq_litT hi hu ht hl1 h1 fun H1 k1 => ?_
  by_cases h : ks = l1
  · rw [decide_eq_true h]
    refine iteT ?_
    have z := q H1 k1
    rw [decide_eq_true h, Bool.true_or] at z
    exact z
  · rw [decide_eq_false h]
    refine iteF (eq_litT hi (k1.lst hu) k1.tab hl2 h2 fun H2 k2 => ?_)
    have z := q H2 (k1.trans k2)
    rw [decide_eq_false h, Bool.false_or] at z
    exact z
theorem needs_read {C T NM p D : Addr} {H : Hp} {st : List Shelf} {x : Str} {m : Int} {σ : L2.St} {Q : VK} {ta tb : TE} (S : ShopAt K C [] H p D st) (hx : GoodN x) (hh : hasB st (.str x) (.int m) = true) (ht : GxR.TabG H T) (h0 : σ[0]? = some (some (.ref p))) (ha : ∀ Q : VK, Q (.str x) H → ta σ H Q) (hb : ∀ Q : VK, Q (.int m) H → tb σ H Q)
    (q : ∀ (xs : List V) (ds : List PyData) l H', findD (dataOf st x) m = some (m, ds) → Kp T H H' → H l = none → H' l = some (.lst xs) → DpAll K (hide [] H') xs ds → Q (.ref l) H') :
    tMeth C "needs" (spNeeds K C T NM) [] E0 (tVar 0) (tCons ta (tCons tb tNil)) σ H Q := by
  obtain ⟨dx, o⟩ := S.ob
  exact ⟨_, h0, p, dx, _, rfl, o, flS_no D (by decide +kernel), ha _ (hb _ ⟨[], p, D, st, _, _, .str x, .int m, rfl, S, .str x, hx.2, .int m, ht, fun z => (by rw [hh] at z; cases z), fun x' m' ex em _ => by cases ex; cases em; exact q⟩)⟩
end
end Pk

set_option Elab.async false
set_option linter.all false
set_option maxRecDepth 100000
set_option maxHeartbeats 4000000
namespace Pk
open PySem PySem.Spec PyProof.Rows L2
/-! ### agendas -/
/-- the names put behind, each unless it stands there -/
def addW (ws : List Str) : List Str → List Str
  | [] => ws
  | x :: r => addW (if x ∈ ws then ws else ws ++ [x]) r
theorem addW_app (ws xs ys : List Str) : addW ws (xs ++ ys) = addW (addW ws xs) ys := by
  induction xs generalizing ws with
  | nil => rfl
  | cons x r ih => exact ih _
theorem addW_nodup {ws : List Str} (h : ws.Nodup) (xs : List Str) : (addW ws xs).Nodup := by
  induction xs generalizing ws with
  | nil => exact h
  | cons x r ih =>
    refine ih ?_
    by_cases hx : x ∈ ws
    · rw [if_pos hx]; exact h
    · rw [if_neg hx]
      exact List.nodup_append.mpr ⟨h, List.nodup_cons.mpr ⟨List.not_mem_nil, List.nodup_nil⟩, fun a ha b hb e => hx (by rw [List.mem_singleton.mp hb] at e; exact e ▸ ha)⟩
theorem addW_mem {ws : List Str} {xs : List Str} {y : Str} : y ∈ addW ws xs ↔ y ∈ ws ∨ y ∈ xs := by
  induction xs generalizing ws with
  | nil => exact ⟨.inl, fun h => h.elim id fun z => absurd z List.not_mem_nil⟩
  | cons x r ih =>
    show y ∈ addW (if x ∈ ws then ws else ws ++ [x]) r ↔ _
    rw [ih, List.mem_cons]
    by_cases hx : x ∈ ws
    · rw [if_pos hx]
      exact ⟨fun h => h.elim .inl fun z => .inr (.inr z), fun h => h.elim .inl fun z => z.elim (fun e => .inl (by rw [e]; exact hx)) .inr⟩
    · rw [if_neg hx, List.mem_append, List.mem_singleton]
      exact ⟨fun h => h.elim (fun z => z.elim .inl fun e => .inr (.inl e)) fun z => .inr (.inr z), fun h => h.elim (fun z => .inl (.inl z)) fun z => z.elim (fun e => .inl (.inr e)) .inr⟩
theorem addW_pre (ws xs : List Str) : ∃ r, addW ws xs = ws ++ r := by
  induction xs generalizing ws with
  | nil => exact ⟨[], (List.append_nil _).symm⟩
  | cons x r ih =>
    show ∃ q, addW (if x ∈ ws then ws else ws ++ [x]) r = ws ++ q
    by_cases hx : x ∈ ws
    · rw [if_pos hx]; exact ih ws
    · rw [if_neg hx]
      obtain ⟨q, e⟩ := ih (ws ++ [x])
      exact ⟨[x] ++ q, by rw [e, List.append_assoc]⟩
theorem addW_skip {ws : List Str} {x : Str} (h : x ∈ ws) (xs : List Str) : addW ws (x :: xs) = addW ws xs := by
  show addW (if x ∈ ws then ws else ws ++ [x]) xs = _
  rw [if_pos h]
theorem addW_new {ws : List Str} {x : Str} (h : x ∉ ws) (xs : List Str) : addW ws (x :: xs) = addW (ws ++ [x]) xs := by
  show addW (if x ∈ ws then ws else ws ++ [x]) xs = _
  rw [if_neg h]
/-- the agenda told, from a place on: f gives the wares that a ware's picked make needs -/
inductive AgOf (f : Str → List Str) : List Str → Nat → List Str → Prop
  | done {ws : List Str} {at_ : Nat} (h : ws[at_]? = none) : AgOf f ws at_ ws
  | step {ws out : List Str} {at_ : Nat} {w : Str} (h : ws[at_]? = some w) (r : AgOf f (addW ws (f w)) (at_ + 1) out) : AgOf f ws at_ out
theorem AgOf.det {f : Str → List Str} {ws : List Str} {n : Nat} {a b : List Str} (h1 : AgOf f ws n a) (h2 : AgOf f ws n b) : a = b := by
  induction h1 with
  | done h =>
    cases h2 with
    | done => rfl
    | step g => rw [h] at g; cases g
  | step h _ ih =>
    cases h2 with
    | done g => rw [h] at g; cases g
    | step g r =>
      rw [h] at g
      cases g
      exact ih r
theorem AgOf.congr {f g : Str → List Str} {ws : List Str} {n : Nat} {a : List Str} (h : AgOf f ws n a) (e : ∀ w, f w = g w) : AgOf g ws n a := by
  induction h with
  | done h => exact .done h
  | step h _ ih => exact .step h (by rw [← e]; exact ih)
theorem AgOf.nodup {f : Str → List Str} {ws : List Str} {n : Nat} {a : List Str} (h : AgOf f ws n a) (nd : ws.Nodup) : a.Nodup := by
  induction h with
  | done _ => exact nd
  | step _ _ ih => exact ih (addW_nodup nd _)
/-! ### picks -/
def pkD (pk : List (Str × Int)) : List (Key × V) := pk.map fun e => (Sum.inr e.1, V.int e.2)
def lkP (pk : List (Str × Int)) (w : Str) : Option Int := (pk.find? fun e => decide (e.1 = w)).map (·.2)
theorem pkD_val (w : Str) : ∀ pk : List (Str × Int), valV (pkD pk) (Sum.inr w : Key) = (lkP pk w).map V.int
  | [] => rfl
  | e :: r => by
    have ih := pkD_val w r
    unfold valV lkP pkD at ih ⊢
    rw [List.map_cons, List.find?_cons, List.find?_cons]
    by_cases h : e.1 = w
    · rw [show decide ((Sum.inr e.1 : Key) = Sum.inr w) = true by rw [h]; exact decide_eq_true rfl, show decide (e.1 = w) = true from decide_eq_true h]
      rfl
    · rw [show decide ((Sum.inr e.1 : Key) = Sum.inr w) = false from decide_eq_false (fun z => h (Sum.inr.inj z)), show decide (e.1 = w) = false from decide_eq_false h]
      exact ih
def needsD (D : Str → List (Int × List PyData)) (w : Str) (m : Int) : List PyData := ((findD (D w) m).map (·.2)).getD []
/-- the wares that the picked make of w needs -/
def needW (D : Str → List (Int × List PyData)) (pk : List (Str × Int)) (w : Str) : List Str := match lkP pk w with
  | some m => (needsD D w m).map wOf
  | none => []
theorem lkP_mem {pk : List (Str × Int)} {w : Str} {m : Int} (h : lkP pk w = some m) : (w, m) ∈ pk := by
  unfold lkP at h
  obtain ⟨e, he, rfl⟩ := Option.map_eq_some_iff.mp h
  have h1 := List.mem_of_find?_eq_some he
  have h2 := of_decide_eq_true (List.find?_some (p := fun e : Str × Int => decide (e.1 = w)) he)
  rw [← h2]
  exact h1
theorem lkP_none {pk : List (Str × Int)} {w : Str} (h : lkP pk w = none) : w ∉ pk.map (·.1) := fun z => by
  unfold lkP at h
  rw [Option.map_eq_none_iff, List.find?_eq_none] at h
  obtain ⟨e, he, rfl⟩ := List.mem_map.mp z
  exact h e he (decide_eq_true rfl)
theorem lkP_of {pk : List (Str × Int)} (nd : (pk.map (·.1)).Nodup) {w : Str} {m : Int} (h : (w, m) ∈ pk) : lkP pk w = some m := by
  cases e : lkP pk w with
  | none => exact absurd (List.mem_map.mpr ⟨_, h, rfl⟩) (lkP_none e)
  | some k =>
    have h2 := lkP_mem e
    congr 1
    induction pk with
    | nil => cases h
    | cons a r ih =>
      rw [List.map_cons, List.nodup_cons] at nd
      rcases List.mem_cons.mp h with h | h
      · rcases List.mem_cons.mp h2 with h2 | h2
        · rw [← h] at h2
          exact (Prod.mk.inj h2).2
        · exact absurd (List.mem_map.mpr ⟨_, h2, by rw [← h]⟩) nd.1
      · rcases List.mem_cons.mp h2 with h2 | h2
        · exact absurd (List.mem_map.mpr ⟨_, h, by rw [← h2]⟩) nd.1
        · refine ih nd.2 h ?_ h2
          unfold lkP at e ⊢
          rw [List.find?_cons] at e
          by_cases hw : a.1 = w
          · exact absurd (List.mem_map.mpr ⟨_, h, rfl⟩) (by rw [← hw]; exact nd.1)
          · rw [show decide (a.1 = w) = false from decide_eq_false hw] at e
            exact e
/-! ### locked dicts -/
theorem lockX {T d : Addr} {H : Hp} {od : Obj} {u : HO} (t : GxR.TabG H T) (h : H d = some u) (n : d ≠ T) : Kx T [d] H (upd H d (.frz od u)) := Kx.upd t n (List.mem_singleton.mpr rfl)
theorem unlockP {T d : Addr} {H H' : Hp} {od : Obj} {u : HO} (t : GxR.TabG H T) (h : H d = some u) (n : d ≠ T) (k : Kp T (upd H d (.frz od u)) H') : Kp T H (upd H' d u) := by
  refine ⟨t, tab_upd k.tab n, fun b o hb e => ?_⟩
  by_cases hd : b = d
  · rw [hd] at e ⊢
    rw [h] at e
    rw [upd_same]
    exact e
  · rw [upd_ne hd]
    exact k.keep b o hb (by rw [upd_ne hd]; exact e)
theorem unlockX {T d : Addr} {F : List Addr} {H H' : Hp} {od : Obj} {u : HO} (t : GxR.TabG H T) (h : H d = some u) (n : d ≠ T) (k : Kx T F (upd H d (.frz od u)) H') : Kx T F H (upd H' d u) := by
  refine ⟨t, tab_upd k.tab n, fun b o hb hF e => ?_⟩
  by_cases hd : b = d
  · rw [hd] at e ⊢
    rw [h] at e
    rw [upd_same]
    exact e
  · rw [upd_ne hd]
    exact k.keep b o hb hF (by rw [upd_ne hd]; exact e)
end Pk

set_option Elab.async false
set_option linter.all false
set_option maxRecDepth 100000
set_option maxHeartbeats 4000000
namespace Pk
open PySem PySem.Spec PyProof.Rows L2
theorem nd_read {K : PySem.W.Frag} {H : Hp} {v : V} {d : PyData} (h : Dp K H v d) (n : ND d) : ∃ a y i j, v = .ref a ∧ SqT K H a [.str y, .int i, .int j] ∧ d = .tuple [.str y, .int i, .int j] ∧ GoodN y ∧ makeB (.int i) = true ∧ makeB (.int j) = true ∧ i ≤ j := by
  obtain ⟨y, i, j, rfl, g, hi, hj, hl⟩ := n
  cases h with
  | @tup a xs _ hT hA =>
    cases hA with
    | cons h1 hA =>
      cases hA with
      | cons h2 hA =>
        cases hA with
        | cons h3 hA =>
          cases hA
          cases h1
          cases h2
          cases h3
          exact ⟨a, y, i, j, rfl, hT, rfl, g, hi, hj, hl⟩
theorem nd_needB {d : PyData} (n : ND d) : needB d = true := ND.need n
def wishB : PyData → Bool
  | .list ds => decide (ds.length ≤ 8) && ds.all needB
  | _ => false
theorem Kx.seqH {K : PySem.W.Frag} {T a : Addr} {A F : List Addr} {H H' : Hp} {xs : List V} (k : Kx T F H H') (hF : ∀ f ∈ F, f ∈ A ∨ ∃ kvs, H f = some (.dK kvs)) (h : SqL K (hide A H) a xs) : SqL K (hide A H') a xs := by
  have key : ∀ o, isSeqO o = true → hide A H a = some o → hide A H' a = some o := fun o hs e => by
    obtain ⟨e1, e2⟩ := hide_some e
    refine hide_of (k.keep a o (isSeq_ne_tab k.t0 hs e1) (fun z => ?_) e1) e2
    rcases hF a z with z | ⟨kvs, z⟩
    · exact e2 z
    · rw [z] at e1; cases e1; cases hs
  rcases h with (h | ⟨o, h⟩) | h
  · exact .inl (.inl (key _ rfl h))
  · exact .inl (.inr ⟨o, key _ rfl h⟩)
  · exact .inr h
theorem seq_show {K : PySem.W.Frag} {A : List Addr} {H : Hp} {a : Addr} {xs : List V} (h : SqL K (hide A H) a xs) : SqL K H a xs := by
  rcases h with (h | ⟨o, h⟩) | h
  · exact .inl (.inl (hide_some h).1)
  · exact .inl (.inr ⟨o, (hide_some h).1⟩)
  · exact .inr h
theorem dpAll_show {K : PySem.W.Frag} {A : List Addr} {H : Hp} {xs : List V} {ds : List PyData} (h : DpAll K (hide A H) xs ds) : DpAll K H xs ds := dpAll_mono (fun _ _ _ e => (hide_some e).1) ds xs h
section
variable {P : Program} {w : World} {K : PySem.W.Frag} {mg : Str → Option Value} {base : Heap}
/-! ### check_wish -/
theorem scChkW : FnScope ["thing", "need"] ["thing"] (defScope sChkW) := ⟨rfl, rfl, rfl, by decide +kernel, rfl, by decide +kernel, by decide +kernel⟩
def spChkW (K : PySem.W.Frag) (T BI : Addr) : Sp := fun vs H Q E => ∃ (v : V) (d : PyData), vs = [v] ∧ Dq K H v d ∧ okL d = true ∧ GxR.TabG H T ∧ (wishB d = false → ∀ H', Kp T H H' → E (.ref BI) none H') ∧ (wishB d = true → ∀ H', Kp T H H' → Q .non H')
theorem ok_chkw {f fN T BI : Addr} {fd fdN : FuncData} {t8 : Tok} (F : Fun K "check_wish" "check_wish" sChkW f fd) (XI : ExT K mg "BadWish" BI)
    (GN : FnOk P w K mg base CX0 3 fN fdN ["thing"] (spNeed K T)) (kN : PySem.W.keepIn K (.ref fN) = true) (bN : Binds K fdN ["thing"] []) (gN : mg "is_need" = some (.ref fN))
    (mI : mg "type" = none) (mLi : mg "list" = none) (mL : mg "len" = none) (m8 : mg "MOST_WISHES" = some (.int 8 t8)) : FnOk P w K mg base (L2N.CX P w) 4 f fd ["thing"] (spChkW K T BI) := by
  refine Fun.okN F scChkW (fun vs H Q E h => ?_) (fun cdv A outer s H vs Q E hr h => ?_)
  · obtain ⟨v, d, rfl, _⟩ := h
    rfl
  · obtain ⟨v, d, rfl, hd, ho, ht, qe, q⟩ := h
    refine ⟨_, pss_cons (ps_if (PW.pt (pw_or (pt_cmpR op_notTyB (pe_callTy call_type1 (by rfl) mI boot_type (pa_cons (pv 0) pa_nil)) (pe_bltn (v := .ty "list") (by rfl) mLi boot_list rfl) (nomark _))
        (pw_or1 (pt_cmpR op_gt (pe_callB call_len_seq (by rfl) mL PySem.boot_len (pa_cons (pv 0) pa_nil)) (pe_glob (v := .int 8) rfl m8 ⟨_, rfl⟩) (nomark _)))))
        (pss_one (L2N.ps_raise rfl (L2N.takes_of rfl rfl rfl rfl) (L2N.pmk_own PySem.F.excBase_ValueError XI.xP XI.gC XI.kP (raises_own XI.bP XI.tP) rfl))) pss_nil)
      (pss_one (ps_for (passes_of rfl) rfl (pi_list (pv 0)) (pg_name (i := 1) scChkW.nd rfl (.inl rfl))
        (pss_one (ps_if (pt_not (pt_val (pe_call GN hr (by rfl) gN kN bN .nil pass0 (pa_cons (pv 1) pa_nil)))) (pss_one (L2N.ps_raise rfl (L2N.takes_of rfl rfl rfl rfl) (L2N.pmk_own PySem.F.excBase_ValueError XI.xP XI.gC XI.kP (raises_own XI.bP XI.tP) rfl))) pss_nil)))), ?_⟩
    cases e : isLstD d with
    | false =>
      refine ⟨v, rfl, v, _, rfl, tyb_ofq hd, _, "list", rfl, rfl, _, rfl, tyN_no (tyN_lst d) e ?_⟩
      exact qe (by cases d <;> first | rfl | (cases e; done)) H (.refl ht)
    | true =>
      obtain ⟨ds, rfl⟩ := isLstD_ex e
      cases hd with
      | @lst a xs _ hA hall =>
        have hl := dqAll_len hall
        refine ⟨_, rfl, _, _, rfl, tyb_ofq (.lst hA hall), _, "list", rfl, rfl, _, rfl, tyN_yes (tyN_lst (.list ds)) rfl ?_⟩
        refine ⟨_, rfl, a, xs, rfl, .inl hA, _, _, rfl, rfl, _, rfl, iteD (fun h8 => ?_) (fun h8 => ?_)⟩
        · refine qe ?_ H (.refl ht)
          show (decide (ds.length ≤ 8) && _) = false
          rw [decide_eq_false (by omega), Bool.false_and]
        · have hoT : ∀ x ∈ ds, okT x = true := by
            have z : (ds.all okT && _) = true := ho
            rw [Bool.and_eq_true, List.all_eq_true] at z
            exact z.1
          have ew : wishB (.list ds) = ds.all needB := by
            show (decide (ds.length ≤ 8) && _) = _
            rw [decide_eq_true (by omega), Bool.true_and]
          refine ⟨_, rfl, a, rfl, ⟨_, hA⟩, for_list (K := K) (a := a) (xs := xs) (fun i σ' H' => ∃ x1, σ' = [some (.ref a), x1] ∧ Kp T H H' ∧ (ds.take i).all needB = true) ⟨none, rfl, .refl ht, rfl⟩ (fun i σ' H' _ ⟨_, _, kk, _⟩ => kk.seq hA) ?_ ?_⟩
          · rintro i x σ' H' hi ⟨x1, rfl, kk, ha⟩
            have hil : i < ds.length := by
              have := (List.getElem?_eq_some_iff.mp hi).1
              omega
            obtain ⟨x', hx', hdx⟩ := dqAll_get (Kp.dqAll kk _ _ hall) (List.getElem?_eq_getElem hil)
            have exx : x' = x := Option.some.inj (hx'.symm.trans hi)
            subst exx
            refine ⟨_, rfl, x', ds[i], rfl, hdx, hoT _ (List.getElem_mem hil), kk.tab, fun H2 k2 => ⟨_, rfl, ?_⟩⟩
            cases en : needB ds[i] with
            | false =>
              refine iteT (qe ?_ H2 (kk.trans k2))
              rw [ew]
              cases z : ds.all needB with
              | false => rfl
              | true =>
                rw [List.all_eq_true] at z
                rw [z _ (List.getElem_mem hil)] at en
                cases en
            | true =>
              refine iteF ⟨_, rfl, kk.trans k2, ?_⟩
              rw [List.take_succ, List.getElem?_eq_getElem hil, List.all_append, ha]
              show (true && (needB ds[i] && true)) = true
              rw [en] <;> rfl
          · rintro σ' H' ⟨x1, rfl, kk, ha⟩
            rw [hl, List.take_length] at ha
            exact q (by rw [ew, ha]) H' kk
/-! ### has_make -/
def spHasM (K : PySem.W.Frag) (C T : Addr) : Sp := fun vs H Q _ => ∃ (A : List Addr) (p D : Addr) (st : List Shelf) (wv mv : V) (wd md : PyData), vs = [.ref p, wv, mv] ∧ ShopAt K C A H p D st ∧ (∀ v, (dataOf st v).length < 64) ∧ Dq K H wv wd ∧ okS wd = true ∧ Dq K H mv md ∧ GxR.TabG H T ∧
  ∀ H', Kp T H H' → Q (.bl (hasB st wd md)) H'
theorem inV_int (a : Int) : ∀ l : List Int, inV (.int a) (l.map V.int) = decide (a ∈ l)
  | [] => rfl
  | b :: r => by
    have ih := inV_int a r
    unfold inV at ih ⊢
    rw [List.map_cons, List.any_cons, ih]
    have e : eqV (.int b) (.int a) = decide (b = a) := rfl
    rw [e]
    by_cases h : b = a
    · rw [decide_eq_true h, decide_eq_true (show a ∈ b :: r by rw [h]; exact List.mem_cons_self ..)] <;> rfl
    · rw [decide_eq_false h, Bool.false_or]
      by_cases h2 : a ∈ r
      · rw [decide_eq_true h2, decide_eq_true (List.mem_cons_of_mem _ h2)]
      · rw [decide_eq_false h2, decide_eq_false (fun z => (List.mem_cons.mp z).elim (fun e => h e.symm) h2)]
theorem flat_int (l : List Int) : (l.map V.int).all flatV = true := by
  rw [List.all_eq_true]
  intro v hv
  obtain ⟨i, _, rfl⟩ := List.mem_map.mp hv
  rfl
/-! ### add_wares -/
theorem scAddW : FnScope ["wares", "needs", "need"] ["wares", "needs"] (defScope sAddW) := ⟨rfl, rfl, rfl, by decide +kernel, rfl, by decide +kernel, by decide +kernel⟩
def spAddW (K : PySem.W.Frag) (T : Addr) : Sp := fun vs H Q _ => ∃ (l q : Addr) (ws : List Str) (xs : List V) (ds : List PyData), vs = [.ref l, .ref q] ∧ H l = some (.lst (ws.map V.str)) ∧ SqL K (hide [l] H) q xs ∧ DpAll K (hide [l] H) xs ds ∧ (∀ d ∈ ds, ND d) ∧ ws.length + ds.length ≤ 900 ∧ GxR.TabG H T ∧
  ∀ H', Kx T [l] H H' → H' l = some (.lst ((addW ws (ds.map wOf)).map V.str)) → Q .non H'
theorem addW_len (ws xs : List Str) : (addW ws xs).length ≤ ws.length + xs.length := by
  induction xs generalizing ws with
  | nil => exact Nat.le_refl _
  | cons x r ih =>
    show (addW (if x ∈ ws then ws else ws ++ [x]) r).length ≤ _
    refine Nat.le_trans (ih _) ?_
    rw [List.length_cons]
    by_cases hx : x ∈ ws
    · rw [if_pos hx]; omega
    · rw [if_neg hx, List.length_append, List.length_singleton]; omega
theorem ok_addw {f T : Addr} {fd : FuncData} (F : Fun K "add_wares" "add_wares" sAddW f fd) : FnOk P w K mg base CX0 1 f fd ["wares", "needs"] (spAddW K T) := by
  refine F.ok scAddW (fun vs H Q E h => ?_) (fun cdv A outer s H vs Q E hr h => ?_)
  · obtain ⟨l, q, ws, xs, ds, rfl, _⟩ := h
    rfl
  · obtain ⟨l, q, ws, xs, ds, rfl, hl, hq, hds, hnd, hlen, ht, fin⟩ := h
    refine ⟨_, pss_one (ps_for PassesOwn.never rfl (pi_list (pv 1)) (pg_name (i := 2) scAddW.nd rfl (.inl rfl))
      (pss_one (ps_if (pt_cmpR op_notIn_seq (pe_ix ix_tup (pv 2) pe_int (fun _ _ => rfl)) (pv 0) (by rfl))
        (pss_one (ps_expr (pe_bm PySem.F.plainAttrs_list PySem.F.slot_list_append PySem.F.type_list_append mt_append (pv 0) (pa_cons (pe_ix ix_tup (pv 2) pe_int (fun _ _ => rfl)) pa_nil)))) pss_nil))), ?_⟩
    have lT := tab_ne ht hl (fun _ z => by cases z)
    have hF : ∀ f ∈ [l], f ∈ [l] ∨ ∃ kvs, H f = some (.dK kvs) := fun f hf => .inl hf
    have dl := dpAll_len hds
    refine ⟨_, rfl, q, rfl, ⟨_, seq_show hq⟩, for_list (K := K) (a := q) (xs := xs) (fun i σ' H' => ∃ x2, σ' = [some (.ref l), some (.ref q), x2] ∧ Kx T [l] H H' ∧ H' l = some (.lst ((addW ws ((ds.take i).map wOf)).map V.str)))
      ⟨none, rfl, .refl ht, hl⟩ (fun i σ' H' _ ⟨_, _, kk, _⟩ => seq_show (kk.seqH hF hq)) ?_ ?_⟩
    · rintro i x σ' H' hi ⟨x2, rfl, kk, hl'⟩
      have hil : i < ds.length := by
        have := (List.getElem?_eq_some_iff.mp hi).1
        omega
      obtain ⟨x', hx', hdx⟩ := dpAll_get (dpAll_show (dpAll_kx kk hF hds)) (List.getElem?_eq_getElem hil)
      have exx : x' = x := Option.some.inj (hx'.symm.trans hi)
      subst exx
      obtain ⟨a, y, lo, hi2, rfl, hT, ed, _⟩ := nd_read hdx (hnd _ (List.getElem_mem hil))
      have ew : wOf ds[i] = y := by rw [ed]; rfl
      have i0 : atI [V.str y, .int lo, .int hi2] 0 = some (.str y) := atI_nat (j := 0) rfl
      have et : (ds.take (i + 1)).map wOf = (ds.take i).map wOf ++ [y] := by
        rw [List.take_succ, List.getElem?_eq_getElem hil, List.map_append]
        show _ ++ [wOf ds[i]] = _
        rw [ew]
      have eS : addW ws ((ds.take (i + 1)).map wOf) = if y ∈ addW ws ((ds.take i).map wOf) then addW ws ((ds.take i).map wOf) else addW ws ((ds.take i).map wOf) ++ [y] := by
        rw [et, addW_app]
        rfl
      refine ⟨_, rfl, a, _, 0, _, rfl, rfl, hT, i0, _, rfl, l, _, rfl, .inl (.inl (.inl hl')), rfl, flat_strs _, _, rfl, ?_⟩
      show if (!inV (.str y) ((addW ws ((ds.take i).map wOf)).map V.str)) = true then _ else _
      rw [inV_str]
      refine iteN (fun hn => ?_) (fun hn => ?_)
      · refine ⟨_, rfl, .inl ⟨rfl, _, .inl (.inl hl')⟩, _, rfl, a, _, 0, _, rfl, rfl, hT, i0, l, _, _, rfl, rfl, hl', small1000 (by have := addW_len ws ((ds.take i).map wOf); rw [List.length_map, List.length_take] at this; rw [List.length_map]; omega), ?_⟩
        refine ⟨_, rfl, kk.trans (Kx.upd kk.tab lT (List.mem_singleton.mpr rfl)), ?_⟩
        rw [upd_same, eS, if_neg hn, List.map_append]
        rfl
      · refine ⟨_, rfl, kk, ?_⟩
        rw [eS, if_pos hn]
        exact hl'
    · rintro σ' H' ⟨x2, rfl, kk, hl'⟩
      rw [dl, List.take_length] at hl'
      exact fin H' kk hl'
end
end Pk

set_option Elab.async false
set_option linter.all false
set_option maxRecDepth 100000
set_option maxHeartbeats 4000000
namespace Pk
open PySem PySem.Spec PyProof.Rows L2
/-- what all shelves hold -/
structure GoodSh (D : Str → List (Int × List PyData)) : Prop where
  len : ∀ v, (D v).length ≤ 8
  gd : ∀ v, ∀ e ∈ D v, makeB (.int e.1) = true ∧ e.2.length ≤ 6 ∧ ∀ d ∈ e.2, ND d
/-- a pick of makes that are there -/
structure PickOk (D : Str → List (Int × List PyData)) (pk : List (Str × Int)) : Prop where
  nd : (pk.map (·.1)).Nodup
  len : pk.length ≤ 100
  gd : ∀ e ∈ pk, GoodN e.1
  in_ : ∀ e ∈ pk, e.2 ∈ (D e.1).map (·.1)
theorem GoodSh.make {D : Str → List (Int × List PyData)} (G : GoodSh D) {v : Str} {m : Int} (h : m ∈ (D v).map (·.1)) : makeB (.int m) = true := by
  obtain ⟨e, he, rfl⟩ := List.mem_map.mp h
  exact (G.gd v e he).1
theorem pick_has {st : List Shelf} {w : Str} {m : Int} (G : GoodSh (dataOf st)) (hw : GoodN w) (h : m ∈ (dataOf st w).map (·.1)) : hasB st (.str w) (.int m) = true := by
  rw [hasB_keys, hw.1, G.make h, decide_eq_true h] <;> rfl
theorem needsD_of {D : Str → List (Int × List PyData)} {w : Str} {m : Int} {ds : List PyData} (h : findD (D w) m = some (m, ds)) : needsD D w m = ds := by
  unfold needsD
  rw [h]
  rfl
theorem needsD_good {D : Str → List (Int × List PyData)} (G : GoodSh D) (w : Str) (m : Int) : (needsD D w m).length ≤ 6 ∧ ∀ d ∈ needsD D w m, ND d := by
  unfold needsD
  cases h : findD (D w) m with
  | none => exact ⟨Nat.zero_le _, fun d hd => by cases hd⟩
  | some e =>
    have he : e ∈ D w := List.mem_of_find?_eq_some h
    exact (G.gd w e he).2
theorem sub_len : ∀ {ws U : List Str}, ws.Nodup → (∀ y ∈ ws, y ∈ U) → ws.length ≤ U.length
  | [], _, _, _ => Nat.zero_le _
  | x :: r, U, nd, h => by
    rw [List.nodup_cons] at nd
    have hx := h x (List.mem_cons_self ..)
    have ih := sub_len (U := U.erase x) nd.2 fun y hy => (List.mem_erase_of_ne (fun e => nd.1 (by rw [← e]; exact hy))).mpr (h y (List.mem_cons_of_mem _ hy))
    rw [List.length_erase_of_mem hx] at ih
    have := List.length_pos_of_mem hx
    rw [List.length_cons]
    omega
theorem newHide {T n : Addr} {H H1 : Hp} (nn : H n = none) (k : Kp T H H1) : ∀ b o, isSeqO o = true → H b = some o → hide [n] H1 b = some o := fun b o hs e =>
  hide_of (k.keep b o (isSeq_ne_tab k.t0 hs e) e) (fun z => by rw [List.mem_singleton.mp z, nn] at e; cases e)
theorem seq_mono {K : PySem.W.Frag} {H H' : Hp} (k : ∀ b o, isSeqO o = true → H b = some o → H' b = some o) {a : Addr} {xs : List V} (h : SqL K H a xs) : SqL K H' a xs := by
  rcases h with (h | ⟨o, h⟩) | h
  · exact .inl (.inl (k _ _ rfl h))
  · exact .inl (.inr ⟨o, k _ _ rfl h⟩)
  · exact .inr h
theorem hide_sub {A B : List Addr} (h : ∀ x ∈ B, x ∈ A) {H : Hp} : ∀ b o, isSeqO o = true → hide A H b = some o → hide B H b = some o := fun b o _ e => by
  obtain ⟨e1, e2⟩ := hide_some e
  exact hide_of e1 fun z => e2 (h b z)
theorem Kx.list1 {K : PySem.W.Frag} {C T p D l : Addr} {A : List Addr} {H H' : Hp} {st : List Shelf} (S : ShopAt K C A H p D st) (k : Kx T [l] H H') (hl : ∃ xs, H l = some (.lst xs)) (hA : l ∈ A) : ShopAt K C A H' p D st :=
  S.kept k (fun f hf => by rw [List.mem_singleton.mp hf]; exact .inl hA) (fun f hf _ => by rw [List.mem_singleton.mp hf]; exact hl) (fun f hf z => by
    obtain ⟨kvs, e⟩ := S.bx.foot_dict f hf
    rw [List.mem_singleton.mp z] at e
    obtain ⟨xs, e2⟩ := hl
    rw [e] at e2
    cases e2)
section
variable {P : Program} {w : World} {K : PySem.W.Frag} {mg : Str → Option Value} {base : Heap}
/-! ### _check_pick, of a good one -/
def spChkP (K : PySem.W.Frag) (C T : Addr) : Sp := fun vs H Q _ => ∃ (A : List Addr) (p D a : Addr) (st : List Shelf) (pk : List (Str × Int)), vs = [.ref p, .ref a] ∧ ShopAt K C A H p D st ∧ GoodSh (dataOf st) ∧ (∀ x ∈ A, ∃ ys, H x = some (.lst ys)) ∧ H a = some (.dK (pkD pk)) ∧ a ∉ foot D st ∧ PickOk (dataOf st) pk ∧ GxR.TabG H T ∧
  ∀ H', Kp T H H' → Q .non H'
/-! ### _agenda_of -/
def spAgOf (K : PySem.W.Frag) (C T : Addr) : Sp := fun vs H Q _ => ∃ (A : List Addr) (p D q a : Addr) (st : List Shelf) (xs : List V) (ds : List PyData) (pk : List (Str × Int)), vs = [.ref p, .ref q, .ref a] ∧ ShopAt K C A H p D st ∧ GoodSh (dataOf st) ∧ SqL K H q xs ∧ DpAll K H xs ds ∧ (∀ d ∈ ds, ND d) ∧ ds.length ≤ 8 ∧
  H a = some (.dK (pkD pk)) ∧ PickOk (dataOf st) pk ∧ GxR.TabG H T ∧ ∀ out l H', AgOf (needW (dataOf st) pk) (addW [] (ds.map wOf)) 0 out → (∀ y ∈ out, GoodN y) → out.Nodup → out.length ≤ 700 → Kp T H H' → H l = none → H' l = some (.lst (out.map V.str)) → Q (.ref l) H'
/-! ### agenda -/
theorem wish_good {ds : List PyData} (h : ∀ d ∈ ds, ND d) (h8 : ds.length ≤ 8) : wishB (.list ds) = true := by
  show (decide (ds.length ≤ 8) && ds.all needB) = true
  rw [decide_eq_true h8, Bool.true_and, List.all_eq_true]
  exact fun d hd => nd_needB (h d hd)
theorem wish_okL {ds : List PyData} (h : ∀ d ∈ ds, ND d) (h8 : ds.length ≤ 8) : okL (.list ds) = true := okL_list (fun d hd => ND.okT (h d hd)) (by omega)
def spAgenda (K : PySem.W.Frag) (C T : Addr) : Sp := fun vs H Q _ => ∃ (A : List Addr) (p D q a : Addr) (st : List Shelf) (xs : List V) (ds : List PyData) (pk : List (Str × Int)), vs = [.ref p, .ref q, .ref a] ∧ ShopAt K C A H p D st ∧ GoodSh (dataOf st) ∧ (∀ x ∈ A, ∃ ys, H x = some (.lst ys)) ∧ SqL K H q xs ∧ DpAll K H xs ds ∧ (∀ d ∈ ds, ND d) ∧ ds.length ≤ 8 ∧
  H a = some (.dK (pkD pk)) ∧ a ∉ foot D st ∧ PickOk (dataOf st) pk ∧ GxR.TabG H T ∧ ∀ out l H', AgOf (needW (dataOf st) pk) (addW [] (ds.map wOf)) 0 out → (∀ y ∈ out, GoodN y) → out.Nodup → out.length ≤ 700 → Kp T H H' → H l = none → H' l = some (.lst (out.map V.str)) → Q (.ref l) H'
end
end Pk

set_option Elab.async false
set_option linter.all false
set_option maxRecDepth 100000
set_option maxHeartbeats 4000000
namespace Pk
open PySem PySem.Spec PyProof.Rows L2
def MakeI (m : Int) : Prop := 1 ≤ m ∧ m ≤ 999
theorem MakeI.b {m : Int} (h : MakeI m) : makeB (.int m) = true := by
  show (decide (1 ≤ m) && decide (m ≤ 999)) = true
  rw [decide_eq_true h.1, decide_eq_true h.2] <;> rfl
theorem makeI {m : Int} (h : makeB (.int m) = true) : MakeI m := by
  have z : (decide (1 ≤ m) && decide (m ≤ 999)) = true := h
  rw [Bool.and_eq_true] at z
  exact ⟨of_decide_eq_true z.1, of_decide_eq_true z.2⟩
theorem at_make {ms : List Int} {i : Int} (h0 : 0 ≤ i) (h1 : i < (ms.length : Int)) (hg : ∀ m ∈ ms, MakeI m) : ∃ m, atI (ms.map V.int) i = some (.int m) ∧ MakeI m := by
  obtain ⟨v, hv, m, rfl, hm⟩ := at_pick (xs := ms.map V.int) (p := fun v => ∃ m, v = V.int m ∧ MakeI m) h0 (by rw [List.length_map]; exact h1) (fun x hx => by
    obtain ⟨m, hm, rfl⟩ := List.mem_map.mp hx
    exact ⟨m, rfl, hg m hm⟩)
  exact ⟨m, hv, hm⟩
section
variable {P : Program} {w : World} {K : PySem.W.Frag} {mg : Str → Option Value} {base : Heap}
def stretchN : List Str := ["_law_number", "_law_makes", "_law_one", nOther, "_law_way"]
theorem scStretch : FnScope stretchN ["_law_number", "_law_makes"] (defScope sStretch) := ⟨rfl, rfl, rfl, by decide +kernel, rfl, by decide +kernel, by decide +kernel⟩
def spStretch (K : PySem.W.Frag) (T : Addr) : Sp := fun vs H Q _ => ∃ (n : Int) (q : Addr) (ms : List Int), vs = [.int n, .ref q] ∧ SqL K H q (ms.map V.int) ∧ ms ≠ [] ∧ ms.length ≤ 1000 ∧ (∀ m ∈ ms, MakeI m) ∧ GxR.TabG H T ∧
  ∀ lo hi r H', MakeI lo → MakeI hi → lo ≤ hi → Kp T H H' → H r = none → H' r = some (.tup [.int lo, .int hi]) → Q (.ref r) H'
theorem ok_stretch {f T : Addr} {fd : FuncData} (F : Fun K "_law_stretch" "_law_stretch" sStretch f fd) (y_len : mg "len" = none) (y_max : mg "max" = none) (y_min : mg "min" = none) : FnOk P w K mg base CX0 1 f fd ["_law_number", "_law_makes"] (spStretch K T) := by
  refine F.ok scStretch (fun vs H Q E h => ?_) (fun cdv A outer s H vs Q E hr h => ?_)
  · obtain ⟨n, q, ms, rfl, _⟩ := h
    rfl
  · obtain ⟨n, q, ms, rfl, hS, hne, h1000, hg, ht, fin⟩ := h
    refine ⟨_, (pss_cons (ps_set (i := 2) scStretch.nd rfl (by first | exact .inl rfl | exact .inr rfl) (pe_ix ix_list (pv 1) (pe_op op_mod (pe_op op_fdiv (pv 0) pe_int) (pe_callB call_len_seq (by rfl) y_len PySem.boot_len (pa_cons (pv 1) pa_nil))) (fun _ _ => rfl)))
      (pss_cons (ps_set (i := 3) scStretch.nd rfl (by first | exact .inl rfl | exact .inr rfl) (pe_ix ix_list (pv 1) (pe_op op_mod (pe_op op_fdiv (pv 0) pe_int) (pe_callB call_len_seq (by rfl) y_len PySem.boot_len (pa_cons (pv 1) pa_nil))) (fun _ _ => rfl)))
      (pss_cons (ps_set (i := 4) scStretch.nd rfl (by first | exact .inl rfl | exact .inr rfl) (pe_ix ix_list (pe_lst (pa_cons pe_int (pa_cons pe_int (pa_cons pe_int (pa_cons pe_int (pa_cons pe_int (pa_cons pe_int (pa_cons pe_int (pa_cons pe_int (pa_cons pe_int (pa_cons pe_int pa_nil))))))))))) (pe_op op_mod (pv 0) pe_int) (fun _ _ => rfl)))
      (pss_cons (ps_if (pt_cmpR op_eq (pv 4) pe_int (nomark _)) (pss_one (ps_ret (pe_tup (pa_cons (pv 2) (pa_cons (pv 2) pa_nil))))) pss_nil)
      (pss_cons (ps_if (pt_cmpR op_eq (pv 4) pe_int (nomark _)) (pss_one (ps_ret (pe_tup (pa_cons (pe_callB (call_min2 rfl) (by rfl) y_min (by decide +kernel) (pa_cons (pv 2) (pa_cons (pv 3) pa_nil))) (pa_cons (pe_callB (call_max2 rfl) (by rfl) y_max boot_max (pa_cons (pv 2) (pa_cons (pv 3) pa_nil))) pa_nil))))) pss_nil)
      (pss_cons (ps_if (pt_cmpR op_eq (pv 4) pe_int (nomark _)) (pss_one (ps_ret (pe_tup (pa_cons (pv 2) (pa_cons pe_int pa_nil))))) pss_nil)
      (pss_cons (ps_if (pt_cmpR op_eq (pv 4) pe_int (nomark _)) (pss_one (ps_ret (pe_tup (pa_cons pe_int (pa_cons (pv 2) pa_nil))))) pss_nil)
      (pss_cons (ps_if (pt_cmpR op_eq (pv 4) pe_int (nomark _)) (pss_one (ps_ret (pe_tup (pa_cons pe_int (pa_cons pe_int pa_nil))))) pss_nil)
      (pss_one (ps_ret (pe_tup (pa_cons (pe_callB (call_min2 rfl) (by rfl) y_min (by decide +kernel) (pa_cons pe_int (pa_cons (pe_op op_add (pv 2) pe_int) pa_nil))) (pa_cons (pe_callB (call_min2 rfl) (by rfl) y_min (by decide +kernel) (pa_cons pe_int (pa_cons (pe_op op_add (pv 2) pe_int) pa_nil))) pa_nil))))))))))))), ?_⟩
    have hpos : (0 : Int) < ((ms.map V.int).length : Int) := by
      rw [List.length_map]
      have := List.length_pos_iff.mpr hne
      omega
    have lt : ∀ z : Int, z % ((ms.map V.int).length : Int) < (ms.length : Int) := fun z => by
      have := Int.emod_lt_of_pos z hpos
      rw [List.length_map] at this ⊢
      exact this
    obtain ⟨a, ea, ga⟩ := at_make (ms := ms) (Int.emod_nonneg (n / 10) (by omega)) (lt (n / 10)) hg
    obtain ⟨b, eb, gb⟩ := at_make (ms := ms) (Int.emod_nonneg (n / 60) (by omega)) (lt (n / 60)) hg
    refine ⟨_, rfl, _, rfl, n, 10, rfl, rfl, ⟨by decide, by decide⟩, _, rfl, q, _, rfl, .inl hS, _, _, rfl, rfl, hpos, q, _, _, _, rfl, rfl, hS, ea, ?_⟩
    refine ⟨_, rfl, _, rfl, n, 60, rfl, rfl, ⟨by decide, by decide⟩, _, rfl, q, _, rfl, .inl hS, _, _, rfl, rfl, hpos, q, _, _, _, rfl, rfl, hS, eb, ?_⟩
    refine ⟨(by show (10 : Nat) ≤ sizeLine; decide), fun l nl => ?_⟩
    have k1 := Kp.new (o := HO.lst [.int 0, .int 1, .int 2, .int 3, .int 4, .int 4, .int 2, .int 1, .int 4, .int 5]) ht nl
    obtain ⟨v, ev, wy, rfl⟩ := at_pick (xs := [V.int 0, .int 1, .int 2, .int 3, .int 4, .int 4, .int 2, .int 1, .int 4, .int 5]) (i := n % 10) (p := fun v => ∃ w : Int, v = .int w) (by omega) (by show n % 10 < ((10 : Nat) : Int); omega) (fun x hx => by
      simp only [List.mem_cons, List.not_mem_nil, or_false] at hx
      rcases hx with rfl | rfl | rfl | rfl | rfl | rfl | rfl | rfl | rfl | rfl <;> exact ⟨_, rfl⟩)
    refine ⟨_, rfl, n, 10, rfl, rfl, (by show (0 : Int) < 10; decide), l, _, _, _, rfl, rfl, .inl (.inl upd_same), ev, ?_⟩
    have t1 := k1.tab
    have nr1 := fun r => k1.free (p := r)
    generalize upd H l (.lst [.int 0, .int 1, .int 2, .int 3, .int 4, .int 4, .int 2, .int 1, .int 4, .int 5]) = H1 at k1 t1 nr1 ⊢
    have out : ∀ lo hi r, MakeI lo → MakeI hi → lo ≤ hi → H1 r = none → Q (.ref r) (upd H1 r (.tup [.int lo, .int hi])) := fun lo hi r g1 g2 g3 nr => fin lo hi r _ g1 g2 g3 (k1.trans (Kp.new t1 nr)) (nr1 r nr) upd_same
    have sz : (2 : Nat) ≤ sizeLine := by decide
    have m1 : MakeI 1 := ⟨by decide, by decide⟩
    have m9 : MakeI 999 := ⟨by decide, by decide⟩
    refine ⟨_, rfl, rfl, _, rfl, iteD (fun _ => ⟨_, rfl, _, rfl, sz, fun r nr => out a a r ga ga (Int.le_refl _) nr⟩) (fun _ => ?_)⟩
    refine ⟨_, rfl, rfl, _, rfl, iteD (fun _ => ⟨_, rfl, _, rfl, a, b, rfl, _, rfl, _, rfl, a, b, rfl, sz, fun r nr => ?_⟩) (fun _ => ?_)⟩
    · obtain ⟨h1, h2⟩ := ga
      obtain ⟨h3, h4⟩ := gb
      refine out _ _ r ?_ ?_ ?_ nr
      · by_cases h : b < a
        · rw [if_pos h]; exact ⟨h3, h4⟩
        · rw [if_neg h]; exact ⟨h1, h2⟩
      · by_cases h : b > a
        · rw [if_pos h]; exact ⟨h3, h4⟩
        · rw [if_neg h]; exact ⟨h1, h2⟩
      · by_cases h : b < a
        · rw [if_pos h, if_neg (by omega)]; omega
        · rw [if_neg h]
          by_cases h' : b > a
          · rw [if_pos h']; omega
          · rw [if_neg h']; omega
    refine ⟨_, rfl, rfl, _, rfl, iteD (fun _ => ⟨_, rfl, sz, fun r nr => out a 999 r ga m9 ga.2 nr⟩) (fun _ => ?_)⟩
    refine ⟨_, rfl, rfl, _, rfl, iteD (fun _ => ⟨_, rfl, sz, fun r nr => out 1 a r m1 ga ga.1 nr⟩) (fun _ => ?_)⟩
    refine ⟨_, rfl, rfl, _, rfl, iteD (fun _ => ⟨sz, fun r nr => out 1 999 r m1 m9 (by decide) nr⟩) (fun _ => ?_)⟩
    refine ⟨_, rfl, a, 1, rfl, rfl, 999, a + 1, rfl, _, rfl, a, 1, rfl, rfl, 999, a + 1, rfl, sz, fun r nr => ?_⟩
    have hz : MakeI (if a + 1 < 999 then a + 1 else 999) := by
      obtain ⟨h1, h2⟩ := ga
      by_cases h : a + 1 < 999
      · rw [if_pos h]; exact ⟨by omega, by omega⟩
      · rw [if_neg h]; exact m9
    exact out _ _ r hz hz (Int.le_refl _) nr
end
end Pk

set_option Elab.async false
set_option linter.all false
set_option maxRecDepth 100000
set_option maxHeartbeats 4000000
namespace Pk
open PySem PySem.Spec PyProof.Rows L2
theorem mayL_of : ∀ {ds : List PyData} {bar : List Str}, (∀ d ∈ ds, needB d = true) → (bar ++ ds.map wOf).Nodup → mayL bar ds = true
  | [], _, _, _ => rfl
  | d :: r, bar, hn, nd => by
    have e : bar ++ (d :: r).map wOf = (bar ++ [wOf d]) ++ r.map wOf := by rw [List.map_cons, List.append_assoc]; rfl
    rw [e] at nd
    have h1 : wOf d ∉ bar := fun z => (List.nodup_append.mp (List.nodup_append.mp nd).1).2.2 _ z _ (List.mem_singleton.mpr rfl) rfl
    show (needB d && !decide (wOf d ∈ bar) && mayL (bar ++ [wOf d]) r) = true
    rw [hn d (List.mem_cons_self ..), decide_eq_false h1, mayL_of (fun x hx => hn x (List.mem_cons_of_mem _ hx)) nd] <;> rfl
theorem mayB_of {w : Str} {ds : List PyData} (hl : ds.length ≤ 6) (hn : ∀ d ∈ ds, needB d = true) (nd : (ds.map wOf).Nodup) (hw : w ∉ ds.map wOf) : mayB w (.list ds) = true := by
  show (decide (ds.length ≤ 6) && mayL [w] ds) = true
  rw [decide_eq_true hl, mayL_of hn (by rw [List.singleton_append, List.nodup_cons]; exact ⟨hw, nd⟩)] <;> rfl
/-- a list of lists of makes -/
def MkL (K : PySem.W.Frag) (H : Hp) : V → List Int → Prop := fun v ms => ∃ q, v = .ref q ∧ SqL K H q (ms.map V.int) ∧ ms ≠ [] ∧ ms.length ≤ 100 ∧ ∀ m ∈ ms, MakeI m
theorem MkL.kept {K : PySem.W.Frag} {T : Addr} {H H' : Hp} (k : Kp T H H') {v : V} {ms : List Int} (h : MkL K H v ms) : MkL K H' v ms := by
  obtain ⟨q, e, hq, h⟩ := h
  exact ⟨q, e, k.seq hq, h⟩
theorem paired_get {α β : Type} {R : α → β → Prop} : ∀ {a : List α} {b : List β}, Paired R a b → ∀ {i : Nat} {y : β}, b[i]? = some y → ∃ x, a[i]? = some x ∧ R x y
  | _, _, .nil, i, y, e => by simp at e
  | _, _, .cons h t, i, y, e => by
    cases i with
    | zero => exact ⟨_, rfl, by have e' := Option.some.inj e; subst e'; exact h⟩
    | succ i => exact paired_get t (i := i) (by simpa using e)
theorem paired_len {α β : Type} {R : α → β → Prop} : ∀ {a : List α} {b : List β}, Paired R a b → a.length = b.length
  | _, _, .nil => rfl
  | _, _, .cons _ t => by rw [List.length_cons, List.length_cons, paired_len t]
theorem paired_mono {α β : Type} {R S : α → β → Prop} (h : ∀ x y, R x y → S x y) : ∀ {a : List α} {b : List β}, Paired R a b → Paired S a b
  | _, _, .nil => .nil
  | _, _, .cons p t => .cons (h _ _ p) (paired_mono h t)
theorem nd_idx {α : Type} : ∀ {l : List α}, l.Nodup → ∀ {i j : Nat} {y : α}, l[i]? = some y → l[j]? = some y → i = j
  | [], _, i, j, y, h, _ => by simp at h
  | a :: r, nd, i, j, y, h1, h2 => by
    rw [List.nodup_cons] at nd
    cases i with
    | zero =>
      cases j with
      | zero => rfl
      | succ j =>
        have e : a = y := Option.some.inj h1
        rw [e] at nd
        exact absurd (List.mem_of_getElem? (show r[j]? = some y by simpa using h2)) nd.1
    | succ i =>
      cases j with
      | zero =>
        have e : a = y := Option.some.inj h2
        rw [e] at nd
        exact absurd (List.mem_of_getElem? (show r[i]? = some y by simpa using h1)) nd.1
      | succ j => rw [nd_idx nd.2 (i := i) (j := j) (by simpa using h1) (by simpa using h2)]
theorem paired_app2 {α β : Type} {R : α → β → Prop} {a c : List α} {b d : List β} (h : Paired R a b) (h2 : Paired R c d) : Paired R (a ++ c) (b ++ d) := by
  induction h with
  | nil => exact h2
  | cons h1 _ ih => exact .cons h1 ih
section
variable {P : Program} {w : World} {K : PySem.W.Frag} {mg : Str → Option Value} {base : Heap}
def lNeedsN : List Str := ["_law_script", "_law_names_here", "_law_makes", "_law_k", "_law_at", "_law_found", "_law_first", "_law_turn", "_law_number", nOther, "_law_low", "_law_high", "_law_need"]
theorem scLNeeds : FnScope lNeedsN ["_law_script", "_law_names_here", "_law_makes", "_law_k", "_law_at"] (defScope sLNeeds) := ⟨rfl, rfl, rfl, by decide +kernel, rfl, by decide +kernel, by decide +kernel⟩
def spLNeeds (K : PySem.W.Frag) (T : Addr) : Sp := fun vs H Q _ => ∃ (A : List Addr) (a pn qm : Addr) (ns : List Int) (names : List Str) (mv : List V) (mks : List (List Int)) (k at_ : Nat) (x : Str), vs = [.ref a, .ref pn, .ref qm, .int k, .int at_] ∧ SqL K H a (ns.map V.int) ∧ SqL K H pn (names.map V.str) ∧ names.Nodup ∧ (∀ y ∈ names, GoodN y) ∧
  H qm = some (.lst mv) ∧ Paired (MkL K H) mv mks ∧ names.length = mks.length + 1 ∧ names[k]? = some x ∧ k < mks.length ∧ mks.length ≤ 12 ∧ at_ ≤ 900 ∧ (∀ y ∈ A, H y ≠ none) ∧ GxR.TabG H T ∧
  ∀ (xs : List V) (ds : List PyData) l H', Kp T H H' → H l = none → H' l = some (.lst xs) → DpAll K (hide (l :: A) H') xs ds → (∀ d ∈ ds, ND d) → mayB x (.list ds) = true → ds.length ≤ 6 → Q (.ref l) H'
theorem ok_lneeds {f fX fS T : Addr} {fd fdX fdS : FuncData} (F : Fun K "_law_needs" "_law_needs" sLNeeds f fd)
    (GX : FnOk P w K mg base CX0 1 fX fdX ["_law_script", "_law_k"] (spMixed K)) (kX : PySem.W.keepIn K (.ref fX) = true) (bX : Binds K fdX ["_law_script", "_law_k"] []) (gX : mg "_law_mixed" = some (.ref fX))
    (GS : FnOk P w K mg base CX0 1 fS fdS ["_law_number", "_law_makes"] (spStretch K T)) (kS : PySem.W.keepIn K (.ref fS) = true) (bS : Binds K fdS ["_law_number", "_law_makes"] []) (gS : mg "_law_stretch" = some (.ref fS))
    (y_len : mg "len" = none) (y_max : mg "max" = none) (y_range : mg "range" = none) : FnOk P w K mg base CX0 2 f fd ["_law_script", "_law_names_here", "_law_makes", "_law_k", "_law_at"] (spLNeeds K T) := by
  refine F.ok scLNeeds (fun vs H Q E h => ?_) (fun cdv A0 outer s H vs Q E hr h => ?_)
  · obtain ⟨A, a, pn, qm, ns, names, mv, mks, k, at_, x, rfl, _⟩ := h
    rfl
  · obtain ⟨A, a, pn, qm, ns, names, mv, mks, k, at_, x, rfl, hS, hN, nn, hgd, hM, hP, hl, hx, hk, h12, h900, hA, ht, fin⟩ := h
    refine ⟨_, (pss_cons (ps_set (i := 5) scLNeeds.nd rfl (by first | exact .inl rfl | exact .inr rfl) (pe_lst pa_nil))
      (pss_cons (ps_set (i := 6) scLNeeds.nd rfl (by first | exact .inl rfl | exact .inr rfl) (pe_call GX (hr.mono (by decide)) (by rfl) gX kX bX .nil pass0 (pa_cons (pv 0) (pa_cons (pv 4) pa_nil))))
      (pss_cons (ps_for PassesOwn.never rfl (pi_range1 (by rfl) y_range (pa_cons (pe_ix ix_list (pe_lst (pa_cons pe_int (pa_cons pe_int (pa_cons pe_int (pa_cons pe_int (pa_cons pe_int (pa_cons pe_int pa_nil))))))) (pe_op op_mod (pv 6) pe_int) (fun _ _ => rfl)) pa_nil)) (pg_name (i := 7) scLNeeds.nd rfl (by first | exact .inl rfl | exact .inr rfl)) (pss_cons (ps_set (i := 8) scLNeeds.nd rfl (by first | exact .inl rfl | exact .inr rfl) (pe_call GX (hr.mono (by decide)) (by rfl) gX kX bX .nil pass0 (pa_cons (pv 0) (pa_cons (pe_op op_add (pe_op op_add (pv 4) pe_int) (pv 7)) pa_nil))))
      (pss_cons (ps_set (i := 9) scLNeeds.nd rfl (by first | exact .inl rfl | exact .inr rfl) (pe_op op_mod (pe_op op_add (pe_op op_add (pv 3) pe_int) (pe_op op_mod (pe_op op_add (pe_op op_fdiv (pv 6) pe_int) (pv 7)) (pe_callB (call_max2 rfl) (by rfl) y_max boot_max (pa_cons pe_int (pa_cons (pe_op op_sub (pe_callB call_len_seq (by rfl) y_len PySem.boot_len (pa_cons (pv 2) pa_nil)) pe_int) pa_nil))))) (pe_callB call_len_seq (by rfl) y_len PySem.boot_len (pa_cons (pv 2) pa_nil))))
      (C8.pss_cut (ps_if (pt_cmpR op_eq (pe_op op_mod (pv 8) pe_int) pe_int (nomark _)) (pss_one (ps_set (i := 9) scLNeeds.nd rfl (by first | exact .inl rfl | exact .inr rfl) (pe_callB call_len_seq (by rfl) y_len PySem.boot_len (pa_cons (pv 2) pa_nil)))) pss_nil)
      (pss_one (ps_if (PW.pt (pw_and (pt_cmpR op_ne (pv 9) (pv 3) (nomark _)) (pw_and1 (pt_cmpR op_notIn_seq (pe_ix ix_list (pv 1) (pv 9) (fun _ _ => rfl)) (pe_lc (own := [("_law_need", 12)]) (g := (gName 12)) (tt := tYes) rfl scLNeeds.nd (pi_list (pv 5)) (blkOk_by (own := [("_law_need", 12)]) (N := lNeedsN) (sc := defScope sLNeeds) (by decide +kernel)) (fun _ _ _ _ _ => (pg_name (i := 12) scLNeeds.nd rfl (by first | exact Or.inl rfl | exact Or.inr rfl))) (fun _ _ _ _ _ => pts_nil) (fun _ _ _ _ _ => (pe_ix (r := rIxT K) ix_tup (pv 12) pe_int (fun _ _ => rfl)))) (by rfl))))) (pss_cons (ps_asg (pe_call GS (hr.mono (by decide)) (by rfl) gS kS bS .nil pass0 (pa_cons (pe_op op_fdiv (pv 8) pe_int) (pa_cons (pe_ix ix_list (pe_op op_cat (pv 2) (pe_lst (pa_cons (pe_lst (pa_cons pe_int pa_nil)) pa_nil))) (pv 9) (fun _ _ => rfl)) pa_nil))) (pg_tup (by rfl) (pgs_cons (pg_name (i := 10) scLNeeds.nd rfl (by first | exact .inl rfl | exact .inr rfl)) (pgs_cons (pg_name (i := 11) scLNeeds.nd rfl (by first | exact .inl rfl | exact .inr rfl)) pgs_nil))))
      (pss_one (ps_expr (pe_bm PySem.F.plainAttrs_list PySem.F.slot_list_append PySem.F.type_list_append mt_append (pv 5) (pa_cons (pe_tup (pa_cons (pe_ix ix_list (pv 1) (pv 9) (fun _ _ => rfl)) (pa_cons (pv 10) (pa_cons (pv 11) pa_nil)))) pa_nil))))) pss_nil))))))
      (pss_one (ps_ret (pv 5)))))), ?_⟩
    have lmv := paired_len hP
    refine ⟨(by show (0 : Nat) ≤ sizeLine; decide), fun L nL => ?_⟩
    have k0 := Kp.new (o := HO.lst []) ht nL
    have LT := tab_nn ht nL
    have eL0 : upd H L (.lst []) L = some (.lst ([] : List V)) := upd_same
    have t0 := k0.tab
    have hS0 := k0.seq hS
    generalize upd H L (.lst []) = H0 at k0 eL0 t0 hS0 ⊢
    refine ⟨_, rfl, _, rfl, a, ns, at_, rfl, hS0, by omega, fun n0 hn0 _ => ?_⟩
    refine ⟨(by show (6 : Nat) ≤ sizeLine; decide), fun l1 nl1 => ?_⟩
    have k1 := Kp.new (o := HO.lst [.int 0, .int 1, .int 1, .int 2, .int 2, .int 6]) t0 nl1
    obtain ⟨v, ev, m, rfl, hm6⟩ := at_pick (xs := [V.int 0, .int 1, .int 1, .int 2, .int 2, .int 6]) (i := n0 % 6) (p := fun v => ∃ m : Nat, v = .int (m : Int) ∧ m ≤ 6) (by omega) (by show n0 % 6 < ((6 : Nat) : Int); omega) (fun v hv => by
      simp only [List.mem_cons, List.not_mem_nil, or_false] at hv
      rcases hv with rfl | rfl | rfl | rfl | rfl | rfl
      · exact ⟨0, rfl, by decide⟩
      · exact ⟨1, rfl, by decide⟩
      · exact ⟨1, rfl, by decide⟩
      · exact ⟨2, rfl, by decide⟩
      · exact ⟨2, rfl, by decide⟩
      · exact ⟨6, rfl, by decide⟩)
    have eL1 := k1.lst eL0
    have kk1 := k0.trans k1
    refine ⟨_, rfl, n0, 6, rfl, rfl, (by show (0 : Int) < 6; decide), l1, _, _, _, rfl, rfl, .inl (.inl upd_same), ev, ?_⟩
    generalize upd H0 l1 (.lst [.int 0, .int 1, .int 1, .int 2, .int 2, .int 6]) = H1 at k1 eL1 kk1 ⊢
    refine ⟨m, rfl, (by omega), (by omega), for_range (lo := 0) (n := ((m : Nat) : Int).toNat) (fun i σ' H' => ∃ (x7 x8 x9 x10 x11 : Option V) (acc : List V) (ds : List PyData), σ' = [some (.ref a), some (.ref pn), some (.ref qm), some (.int k), some (.int at_), some (.ref L), some (.int n0), x7, x8, x9, x10, x11, none] ∧
        Kp T H H' ∧ H' L = some (.lst acc) ∧ DpAll K (hide (L :: A) H') acc ds ∧ (∀ d ∈ ds, ND d) ∧ (ds.map wOf).Nodup ∧ x ∉ ds.map wOf ∧ ds.length ≤ i)
      ⟨none, none, none, none, none, [], [], rfl, kk1, eL1, .nil, (fun d hd => by cases hd), List.nodup_nil, List.not_mem_nil, Nat.le_refl _⟩ ?_ ?_⟩
    · rintro i σ' H2 hi ⟨x7, x8, x9, x10, x11, acc, ds, rfl, k2, eL, hd, hnd, dn, dx, dl⟩
      have i6 : i < 6 := by omega
      have e4 : (at_ : Int) + 1 + (0 + (i : Int)) = ((at_ + 1 + i : Nat) : Int) := by omega
      have hS2 := k2.seq hS
      have hN2 := k2.seq hN
      have hM2r := k2.lst hM
      have hM2 : SqL K H2 qm mv := .inl (.inl hM2r)
      have hP2 : Paired (MkL K H2) mv mks := paired_mono (fun _ _ => MkL.kept k2) hP
      have t2 := k2.tab
      have la : acc.length = ds.length := dpAll_len hd
      refine ⟨_, rfl, _, rfl, _, _, rfl, rfl, _, rfl, _, _, rfl, rfl, a, ns, at_ + 1 + i, by rw [← e4] <;> rfl, hS2, by omega, fun n1 hn1 _ => ?_⟩
      have mpos : (0 : Int) < (if ((mv.length : Int) - 1) > 1 then ((mv.length : Int) - 1) else 1) := by
        by_cases h : ((mv.length : Int) - 1) > 1
        · rw [if_pos h]; omega
        · rw [if_neg h]; decide
      refine ⟨_, rfl, _, _, rfl, rfl, _, rfl, n0, 6, rfl, rfl, ⟨by decide, by decide⟩, _, rfl, _, _, rfl, rfl, _, rfl, qm, mv, rfl, .inl hM2, _, _, rfl, rfl, 1, _, rfl, _, _, rfl, rfl, mpos, _, _, rfl, rfl, _, rfl, qm, mv, rfl, .inl hM2, _, _, rfl, rfl, (by show (0 : Int) < (mv.length : Int); omega), ?_⟩
      obtain ⟨o, eo, ho⟩ : ∃ o : Nat, ((k : Int) + 1 + (n0 / 6 + (0 + (i : Int))) % (if ((mv.length : Int) - 1) > 1 then ((mv.length : Int) - 1) else 1)) % (mv.length : Int) = (o : Int) ∧ o ≤ mv.length := by
        have z1 := Int.emod_nonneg ((k : Int) + 1 + (n0 / 6 + (0 + (i : Int))) % (if ((mv.length : Int) - 1) > 1 then ((mv.length : Int) - 1) else 1)) (show (mv.length : Int) ≠ 0 by omega)
        have z2 := Int.emod_lt_of_pos ((k : Int) + 1 + (n0 / 6 + (0 + (i : Int))) % (if ((mv.length : Int) - 1) > 1 then ((mv.length : Int) - 1) else 1)) (show (0 : Int) < (mv.length : Int) by omega)
        exact ⟨_, (Int.toNat_of_nonneg z1).symm, by omega⟩
      refine ⟨fun σ' H' => ∃ o : Nat, o ≤ mv.length ∧ H' = H2 ∧ σ' = [some (.ref a), some (.ref pn), some (.ref qm), some (.int k), some (.int at_), some (.ref L), some (.int n0), some (.int (0 + (i : Int))), some (.int n1), some (.int o), x10, x11, none], ?_, ?_⟩
      · refine ⟨_, rfl, n1, 12, rfl, rfl, (by show (0 : Int) < 12; decide), rfl, _, rfl, iteD (fun _ => ?_) (fun _ => ⟨o, ho, rfl, by rw [← eo] <;> rfl⟩)⟩
        exact ⟨_, rfl, qm, mv, rfl, .inl hM2, mv.length, Nat.le_refl _, rfl, rfl⟩
      · rintro σ' H2' ⟨o, ho, rfl, rfl⟩
        have same : ∀ x7 x8 x9 x10 x11, ∀ H3, Kp T H2' H3 → (∃ (x7' x8' x9' x10' x11' : Option V) (acc : List V) (ds : List PyData), [some (V.ref a), some (.ref pn), some (.ref qm), some (.int k), some (.int at_), some (.ref L), some (.int n0), x7, x8, x9, x10, x11, none] = [some (V.ref a), some (.ref pn), some (.ref qm), some (.int k), some (.int at_), some (.ref L), some (.int n0), x7', x8', x9', x10', x11', none] ∧
            Kp T H H3 ∧ H3 L = some (.lst acc) ∧ DpAll K (hide (L :: A) H3) acc ds ∧ (∀ d ∈ ds, ND d) ∧ (ds.map wOf).Nodup ∧ x ∉ ds.map wOf ∧ ds.length ≤ i + 1) := fun x7 x8 x9 x10 x11 H3 k3 =>
          ⟨_, _, _, _, _, acc, ds, rfl, k2.trans k3, k3.lst eL, dpAll_kx (F := []) (.of k3) (fun f hf => by cases hf) hd, hnd, dn, dx, by omega⟩
        refine ⟨_, rfl, _, rfl, rfl, _, rfl, iteN (fun hok => ?_) (fun _ => same _ _ _ _ _ H2' (.refl t2))⟩
        have ok : o ≠ k := fun z => hok (by rw [z])
        have hol : o < names.length := by omega
        have eo1 : atI (names.map V.str) (o : Int) = some (.str names[o]) := atI_nat (by rw [List.getElem?_map, List.getElem?_eq_getElem hol]; rfl)
        have gy := hgd _ (List.getElem_mem hol)
        have xy : names[o] ≠ x := fun z => by
          exact ok (nd_idx nn (List.getElem?_eq_getElem hol) (by rw [hx, z]))
        generalize names[o] = y at eo1 gy xy ⊢
        refine ⟨_, rfl, _, rfl, pn, _, _, _, rfl, rfl, hN2, eo1, _, rfl, L, rfl, ⟨_, .inl (.inl eL)⟩, fun D nD => ?_⟩
        refine lc_list (K := K) (a := L) (xs := acc) (fun j H' => Kp T H2' H' ∧ H' D = some (.lst (((ds.take j).map wOf).map V.str))) ⟨Kp.new t2 nD, upd_same⟩ (fun j H' _ ⟨kk, _⟩ => .inl (.inl (kk.lst eL))) (fun j v H' hj hv => ?_) (fun H3 hv => ?_)
        · obtain ⟨kk, eD⟩ := hv
          have hjl : j < ds.length := by
            have := (List.getElem?_eq_some_iff.mp hj).1
            omega
          obtain ⟨v', hv', hdv⟩ := dpAll_get (kk.dpAll _ _ (dpAll_show hd)) (List.getElem?_eq_getElem hjl)
          have evv : v' = v := Option.some.inj (hv'.symm.trans hj)
          subst evv
          obtain ⟨b, y', lo, hi', rfl, hT, ed, _⟩ := nd_read hdv (hnd _ (List.getElem_mem hjl))
          refine ⟨rfl, tYes_if ?_⟩
          refine ⟨_, rfl, b, _, 0, _, rfl, rfl, hT, atI_nat (j := 0) rfl, _, eD, small1000 (by rw [List.length_map, List.length_map, List.length_take]; omega), kk.set nD (tab_nn t2 nD), ?_⟩
          rw [upd_same, List.take_succ, List.getElem?_eq_getElem hjl, List.map_append, List.map_append, ed]
          rfl
        · obtain ⟨k3, eD⟩ := hv
          rw [la, List.take_length] at eD
          refine ⟨D, _, rfl, .inl (.inl (.inl eD)), rfl, flat_strs _, _, rfl, ?_⟩
          show if (!inV (.str y) ((ds.map wOf).map V.str)) = true then _ else _
          rw [inV_str]
          refine iteN (fun hny => ?_) (fun _ => same _ _ _ _ _ H3 k3)
          -- the stretch
          have k23 := k2.trans k3
          refine ⟨_, rfl, n1, 12, rfl, rfl, ⟨by decide, by decide⟩, _, rfl, (by show (1 : Nat) ≤ sizeLine; decide), fun l5 nl5 => ⟨(by show (1 : Nat) ≤ sizeLine; decide), fun l6 nl6 => ?_⟩⟩
          have k4 := Kp.new (o := HO.lst [.int 5]) k3.tab nl5
          have k5 := Kp.new (o := HO.lst [.ref l5]) k4.tab nl6
          have e5 := k5.lst (a := l5) (xs := [.int 5]) upd_same
          have k25 := (k2.trans k3).trans (k4.trans k5)
          have k35 := k3.trans (k4.trans k5)
          have hM5 := k25.lst hM
          have e6 : upd (upd H3 l5 (.lst [.int 5])) l6 (.lst [.ref l5]) l6 = some (.lst [.ref l5]) := upd_same
          generalize upd (upd H3 l5 (.lst [.int 5])) l6 (.lst [.ref l5]) = H5 at k5 e5 k25 k35 hM5 e6 ⊢
          refine ⟨qm, l6, mv, _, rfl, rfl, hM5, e6, (by show mv.length + 1 ≤ sizeLine; exact Nat.le_of_lt (small1000 (by omega))), fun l7 nl7 => ?_⟩
          have k6 := Kp.new (o := HO.lst (mv ++ [.ref l5])) k25.tab nl7
          have k26 := k25.trans k6
          have k36 := k35.trans k6
          have e7 : upd H5 l7 (.lst (mv ++ [.ref l5])) l7 = some (.lst (mv ++ [.ref l5])) := upd_same
          have e56 := k6.lst e5
          have hP6 : Paired (MkL K (upd H5 l7 (.lst (mv ++ [.ref l5])))) (mv ++ [.ref l5]) (mks ++ [[5]]) := paired_app2 (paired_mono (fun _ _ => MkL.kept k26) hP) (.cons ⟨l5, rfl, .inl (.inl e56), List.cons_ne_nil _ _, by decide, fun m hm => by rw [List.mem_singleton.mp hm]; exact ⟨by decide, by decide⟩⟩ .nil)
          generalize upd H5 l7 (.lst (mv ++ [.ref l5])) = H6 at k6 k26 k36 e7 e56 hP6 ⊢
          have hoq : o < (mks ++ [[5]]).length := by rw [List.length_append, List.length_singleton]; omega
          obtain ⟨v, hv, q, rfl, hq, hne, h100, hmg⟩ := paired_get hP6 (List.getElem?_eq_getElem hoq)
          refine ⟨_, rfl, l7, _, _, _, rfl, rfl, .inl (.inl e7), atI_nat hv, _, q, _, rfl, hq, hne, by omega, hmg, k26.tab, fun lo hi' r H7 glo ghi hle k7 nr er => ?_⟩
          have k27 := k26.trans k7
          have k37 := k36.trans k7
          refine ⟨r, _, rfl, .inl (.inl er), rfl, _, _, rfl, _, _, rfl, rfl, ?_⟩
          have eL7 := k37.lst eL
          have hN7 := k27.seq hN
          refine ⟨_, rfl, .inl ⟨rfl, _, .inl (.inl eL7)⟩, _, rfl, _, rfl, pn, _, _, _, rfl, rfl, hN7, eo1, _, rfl, _, rfl, (by show (3 : Nat) ≤ sizeLine; decide), fun tp ntp => ?_⟩
          have k8 := Kp.new (o := HO.tup [.str y, .int lo, .int hi']) k27.tab ntp
          have eL8 := k8.lst eL7
          have kk8 := k27.trans k8
          have tpL : tp ≠ L := fun z => by rw [z, eL7] at ntp; cases ntp
          have tpA : tp ∉ A := fun z => hA tp z (k27.free ntp)
          refine ⟨L, _, _, rfl, rfl, eL8, small1000 (by omega), ?_⟩
          refine ⟨_, _, _, _, _, acc ++ [.ref tp], ds ++ [.tuple [.str y, .int lo, .int hi']], rfl, kk8.set nL LT, upd_same, ?_, ?_, ?_, ?_, ?_⟩
          · have hz : hide (L :: A) (upd (upd H7 tp (.tup [.str y, .int lo, .int hi'])) L (.lst (acc ++ [.ref tp]))) = hide (L :: A) (upd H7 tp (.tup [.str y, .int lo, .int hi'])) := hide_upd (List.mem_cons_self ..)
            rw [hz]
            refine dpAll_app (dpAll_kx (F := []) (.of (k37.trans k8)) (fun f hf => by cases hf) hd) (.cons (.tup (.inl (.inl (hide_of upd_same (fun z => (List.mem_cons.mp z).elim tpL tpA)))) (.cons (.str y) (.cons (.int lo) (.cons (.int hi') .nil)))) .nil)
          · intro d hd'
            rcases List.mem_append.mp hd' with hd' | hd'
            · exact hnd d hd'
            · rw [List.mem_singleton.mp hd']
              exact ⟨y, lo, hi', rfl, gy, glo.b, ghi.b, hle⟩
          · rw [List.map_append]
            refine List.nodup_append.mpr ⟨dn, List.nodup_cons.mpr ⟨List.not_mem_nil, List.nodup_nil⟩, fun a ha b hb e => hny ?_⟩
            have : b = y := List.mem_singleton.mp hb
            rw [← this, ← e]
            exact ha
          · rw [List.map_append]
            intro z
            rcases List.mem_append.mp z with z | z
            · exact dx z
            · exact xy (List.mem_singleton.mp z).symm
          · rw [List.length_append, List.length_singleton]
            omega
    · rintro σ' H2 ⟨x7, x8, x9, x10, x11, acc, ds, rfl, k2, eL, hd, hnd, dn, dx, dl⟩
      have hl6 : ds.length ≤ 6 := by omega
      exact ⟨_, rfl, fin acc ds L H2 k2 nL eL hd hnd (mayB_of hl6 (fun d hd => nd_needB (hnd d hd)) dn dx) hl6⟩
end
end Pk

set_option Elab.async false
set_option linter.all false
set_option maxRecDepth 100000
set_option maxHeartbeats 4000000
namespace Pk
open PySem PySem.Spec PyProof.Rows L2
/-- what a row of the law's holds -/
structure RowG (mm : Nat) (s : Shelf) : Prop where
  w : GoodN s.ware
  ne : s.ents ≠ []
  len : s.ents.length ≤ mm
  mki : ∀ e ∈ s.ents, MakeI e.1
  may : ∀ e ∈ s.ents, mayB s.ware (.list e.2.2) = true
  nd : ∀ e ∈ s.ents, ∀ d ∈ e.2.2, ND d
/-- the needs of each make stand in a list of their own -/
def RawC (K : PySem.W.Frag) (H : Hp) (es : List (Int × Addr × List PyData)) : Prop := ∀ e ∈ es, ∃ xs, H e.2.1 = some (.lst xs) ∧ DpAll K H xs e.2.2
def RawB (K : PySem.W.Frag) (H : Hp) (cl : List Shelf) : Prop := ∀ s ∈ cl, RawC K H s.ents
theorem dpAll_kx0 {K : PySem.W.Frag} {T : Addr} {F : List Addr} {H H' : Hp} (k : Kx T F H H') (hF : ∀ f ∈ F, ∃ kvs, H f = some (.dK kvs)) {xs : List V} {ds : List PyData} (h : DpAll K H xs ds) : DpAll K H' xs ds :=
  dpAll_mono (fun b o hs e => k.keep b o (isSeq_ne_tab k.t0 hs e) (fun z => by obtain ⟨kvs, q⟩ := hF b z; rw [q] at e; cases e; cases hs) e) _ _ h
theorem RawB.kx {K : PySem.W.Frag} {T : Addr} {F : List Addr} {H H' : Hp} {cl : List Shelf} (h : RawB K H cl) (k : Kx T F H H') (hF : ∀ f ∈ F, ∃ kvs, H f = some (.dK kvs)) : RawB K H' cl := fun s hs e he => (h s hs e he).imp fun _ q => ⟨k.lst0 hF q.1, dpAll_kx0 k hF q.2⟩
theorem RawB.kp {K : PySem.W.Frag} {T : Addr} {H H' : Hp} {cl : List Shelf} (h : RawB K H cl) (k : Kp T H H') : RawB K H' cl := fun s hs e he => (h s hs e he).imp fun _ q => ⟨k.lst q.1, k.dpAll _ _ q.2⟩
theorem RawB.app {K : PySem.W.Frag} {H : Hp} {cl : List Shelf} {s : Shelf} (h : RawB K H cl) (h2 : RawC K H s.ents) : RawB K H (cl ++ [s]) := fun t ht => by
  rcases List.mem_append.mp ht with ht | ht
  · exact h t ht
  · rw [List.mem_singleton.mp ht]; exact h2
theorem Kx.dropNews {T : Addr} {F : List Addr} {H H1 H2 : Hp} (nn : ∀ f ∈ F, H f = none) (k1 : Kp T H H1) (k : Kx T F H1 H2) : Kp T H H2 := ⟨k1.t0, k.tab, fun b o hb e => k.keep b o hb (fun z => by rw [nn b z] at e; cases e) (k1.keep b o hb e)⟩
theorem Kp.dom {T y : Addr} {H H' : Hp} (k : Kp T H H') (h : H y ≠ none) : H' y ≠ none := by
  cases e : H y with
  | none => exact absurd e h
  | some o =>
    by_cases ht : y = T
    · obtain ⟨ps, h2, _⟩ := k.tab
      rw [ht, h2]
      exact fun z => by cases z
    · rw [k.keep y o ht e]
      exact fun z => by cases z
theorem foot_app {D : Addr} {st : List Shelf} {s : Shelf} {f : Addr} (h : f ∈ foot D (st ++ [s])) : f ∈ foot D st ∨ f = s.at_ := by
  rcases List.mem_cons.mp h with h | h
  · exact .inl (by rw [h]; exact List.mem_cons_self ..)
  · obtain ⟨s', hs, rfl⟩ := List.mem_map.mp h
    rcases List.mem_append.mp hs with hs | hs
    · exact .inl (List.mem_cons_of_mem _ (List.mem_map.mpr ⟨s', hs, rfl⟩))
    · rw [List.mem_singleton.mp hs]; exact .inr rfl
theorem foot_set {D : Addr} {st : List Shelf} {w : Str} {es : List (Int × Addr × List PyData)} : foot D (setE st w es) = foot D st := by
  unfold foot
  rw [setE_ats]
theorem setE_last {st : List Shelf} {w : Str} {a : Addr} {es fs : List (Int × Addr × List PyData)} (h : ∀ s ∈ st, s.ware ≠ w) : setE (st ++ [⟨w, a, es⟩]) w fs = st ++ [⟨w, a, fs⟩] := by
  unfold setE
  rw [List.map_append]
  congr 1
  · have e : st.map (fun s => if s.ware = w then { s with ents := fs } else s) = st.map id := List.map_congr_left fun s hs => by
      rw [if_neg (h s hs)]
      rfl
    rw [e, List.map_id]
  · show [if w = w then _ else _] = _
    rw [if_pos rfl]
theorem look_last {st : List Shelf} {w : Str} {a : Addr} {es : List (Int × Addr × List PyData)} (h : ∀ s ∈ st, s.ware ≠ w) : look (st ++ [⟨w, a, es⟩]) w = some ⟨w, a, es⟩ := by
  unfold look
  rw [List.find?_append]
  have e0 : st.find? (fun s => decide (s.ware = w)) = none := by
    rw [List.find?_eq_none]
    intro s hs z
    exact h s hs (of_decide_eq_true z)
  rw [e0, Option.none_or, List.find?_cons_of_pos (by exact decide_eq_true rfl)]
theorem cell_get {K : PySem.W.Frag} {A : List Addr} {H : Hp} {D : Addr} {st : List Shelf} {w : Str} {s : Shelf} (B : BoxOk K A H D st) (h : look st w = some s) : DGet H D (.str w) (some (.ref s.at_)) := by
  have z := DGet.k (k := (Sum.inr w : Key)) B.dc
  rw [look_val, h] at z
  exact z
section
variable {P : Program} {w : World} {K : PySem.W.Frag} {mg : Str → Option Value} {base : Heap}
def rowsN : List Str := ["_law_script", "_law_most", "_law_many_makes", "_law_many", "_law_names_here", "_law_makes", "_law_k", "_law_number", "_law_first", "_law_rows_here", "_law_j"]
theorem scRows : FnScope rowsN ["_law_script", "_law_most", "_law_many_makes"] (defScope sRows) := ⟨rfl, rfl, rfl, by decide +kernel, rfl, by decide +kernel, by decide +kernel⟩
def MkR (K : PySem.W.Frag) (mm : Nat) (H : Hp) : V → List Int → Prop := fun v ms => MkL K H v ms ∧ ms.Nodup ∧ ms.length ≤ mm
theorem MkR.kept {T : Addr} {mm : Nat} {H H' : Hp} (k : Kp T H H') {v : V} {ms : List Int} (h : MkR K mm H v ms) : MkR K mm H' v ms := ⟨MkL.kept k h.1, h.2⟩
theorem MkR.mono {mm : Nat} {H H' : Hp} (k : ∀ b o, isSeqO o = true → H b = some o → H' b = some o) {v : V} {ms : List Int} (h : MkR K mm H v ms) : MkR K mm H' v ms := by
  obtain ⟨⟨q, e, hq, h2⟩, h3⟩ := h
  exact ⟨⟨q, e, seq_mono k hq, h2⟩, h3⟩
def spRows (K : PySem.W.Frag) (T : Addr) : Sp := fun vs H Q _ => ∃ (A : List Addr) (a : Addr) (ns : List Int) (most mm : Nat), vs = [.ref a, .int most, .int mm] ∧ SqL K H a (ns.map V.int) ∧ 1 ≤ most ∧ most ≤ 12 ∧ 1 ≤ mm ∧ mm ≤ 8 ∧ (∀ y ∈ A, H y ≠ none) ∧ GxR.TabG H T ∧
  ∀ r cl H', Kp T H H' → BoxOk K A H' r cl → cl ≠ [] → cl.length ≤ most → (∀ s ∈ cl, RowG mm s) → (∀ f ∈ foot r cl, H f = none) → RawB K H' cl → Q (.ref r) H'
theorem ok_rows {f fX fA fN T : Addr} {fd fdX fdA fdN : FuncData} (F : Fun K "_law_rows" "_law_rows" sRows f fd)
    (GX : FnOk P w K mg base CX0 1 fX fdX ["_law_script", "_law_k"] (spMixed K)) (kX : PySem.W.keepIn K (.ref fX) = true) (bX : Binds K fdX ["_law_script", "_law_k"] []) (gX : mg "_law_mixed" = some (.ref fX))
    (GA : FnOk P w K mg base CX0 2 fA fdA ["_law_script", "_law_many"] (spNames K T)) (kA : PySem.W.keepIn K (.ref fA) = true) (bA : Binds K fdA ["_law_script", "_law_many"] []) (gA : mg "_law_names" = some (.ref fA))
    (GN : FnOk P w K mg base CX0 2 fN fdN ["_law_script", "_law_names_here", "_law_makes", "_law_k", "_law_at"] (spLNeeds K T)) (kN : PySem.W.keepIn K (.ref fN) = true) (bN : Binds K fdN ["_law_script", "_law_names_here", "_law_makes", "_law_k", "_law_at"] []) (gN : mg "_law_needs" = some (.ref fN))
    (y_len : mg "len" = none) (y_range : mg "range" = none) : FnOk P w K mg base CX0 3 f fd ["_law_script", "_law_most", "_law_many_makes"] (spRows K T) := by
  refine F.ok scRows (fun vs H Q E h => ?_) (fun cdv A0 outer s H vs Q E hr h => ?_)
  · obtain ⟨A, a, ns, most, mm, rfl, _⟩ := h
    rfl
  · obtain ⟨A, a, ns, most, mm, rfl, hS, hm1, hm12, hmm1, hmm8, hA, ht, fin⟩ := h
    have hu := hu_of hr
    refine ⟨_, (pss_cons (ps_set (i := 3) scRows.nd rfl (by first | exact .inl rfl | exact .inr rfl) (pe_op op_add pe_int (pe_op op_mod (pe_call GX (hr.mono (by decide)) (by rfl) gX kX bX .nil pass0 (pa_cons (pv 0) (pa_cons pe_int pa_nil))) (pv 1))))
      (pss_cons (ps_set (i := 4) scRows.nd rfl (by first | exact .inl rfl | exact .inr rfl) (pe_call GA (hr.mono (by decide)) (by rfl) gA kA bA .nil pass0 (pa_cons (pv 0) (pa_cons (pe_op op_add (pv 3) pe_int) pa_nil))))
      (pss_cons (ps_set (i := 5) scRows.nd rfl (by first | exact .inl rfl | exact .inr rfl) (pe_lst pa_nil))
      (pss_cons (ps_for PassesOwn.never rfl (pi_range1 (by rfl) y_range (pa_cons (pv 3) pa_nil)) (pg_name (i := 6) scRows.nd rfl (by first | exact .inl rfl | exact .inr rfl)) (pss_cons (ps_set (i := 7) scRows.nd rfl (by first | exact .inl rfl | exact .inr rfl) (pe_call GX (hr.mono (by decide)) (by rfl) gX kX bX .nil pass0 (pa_cons (pv 0) (pa_cons (pe_op op_add pe_int (pv 6)) pa_nil))))
      (pss_cons (ps_set (i := 8) scRows.nd rfl (by first | exact .inl rfl | exact .inr rfl) (pe_ix ix_list (pe_lst (pa_cons pe_int (pa_cons (pe_op op_sub pe_int (pe_op op_mul pe_int (pv 2))) (pa_cons (pe_op op_add pe_int (pe_op op_mod (pe_op op_fdiv (pv 7) pe_int) pe_int)) (pa_cons (pe_op op_add pe_int (pe_op op_mod (pe_op op_fdiv (pv 7) pe_int) pe_int)) pa_nil))))) (pe_op op_mod (pv 7) pe_int) (fun _ _ => rfl)))
      (pss_one (ps_expr (pe_bm PySem.F.plainAttrs_list PySem.F.slot_list_append PySem.F.type_list_append mt_append (pv 5) (pa_cons (pe_lc (own := [("_law_j", 10)]) (g := (gName 10)) (tt := tYes) rfl scRows.nd (pi_range1 (by rfl) y_range (pa_cons (pe_op op_add pe_int (pe_op op_mod (pe_op op_fdiv (pv 7) pe_int) (pv 2))) pa_nil)) (blkOk_by (own := [("_law_j", 10)]) (N := rowsN) (sc := defScope sRows) (by decide +kernel)) (fun _ _ _ _ _ => (pg_name (i := 10) scRows.nd rfl (by first | exact Or.inl rfl | exact Or.inr rfl))) (fun _ _ _ _ _ => pts_nil) (fun _ _ _ _ _ => (pe_op op_add (pv 8) (pe_op op_mul (pv 10) (pe_op op_add pe_int (pe_op op_mod (pe_op op_fdiv (pv 7) pe_int) pe_int)))))) pa_nil)))))))
      (pss_cons (ps_set (i := 9) scRows.nd rfl (by first | exact .inl rfl | exact .inr rfl) pe_dnewK)
      (pss_cons (ps_for PassesOwn.never rfl (pi_range1 (by rfl) y_range (pa_cons (pv 3) pa_nil)) (pg_name (i := 6) scRows.nd rfl (by first | exact .inl rfl | exact .inr rfl)) (pss_cons (ps_dput hu (pv 9) (pe_ix ix_list (pv 4) (pv 6) (fun _ _ => rfl)) pe_dnewK rfl)
      (pss_one (ps_for PassesOwn.never rfl (pi_range1 (by rfl) y_range (pa_cons (pe_callB call_len_seq (by rfl) y_len PySem.boot_len (pa_cons (pe_ix ix_list (pv 5) (pv 6) (fun _ _ => rfl)) pa_nil)) pa_nil)) (pg_name (i := 10) scRows.nd rfl (by first | exact .inl rfl | exact .inr rfl)) (pss_one (ps_dput hu (pe_dget hu (pv 9) (pe_ix ix_list (pv 4) (pv 6) (fun _ _ => rfl)) (fun _ _ => rfl)) (pe_ix ix_list (pe_ix ix_list (pv 5) (pv 6) (fun _ _ => rfl)) (pv 10) (fun _ _ => rfl)) (pe_call GN (hr.mono (by decide)) (by rfl) gN kN bN .nil pass0 (pa_cons (pv 0) (pa_cons (pv 4) (pa_cons (pv 5) (pa_cons (pv 6) (pa_cons (pe_op op_add (pe_op op_add pe_int (pe_op op_mul pe_int (pv 6))) (pe_op op_mul pe_int (pv 10))) pa_nil)))))) rfl))))))
      (pss_one (ps_ret (pv 9))))))))), ?_⟩
    refine ⟨_, rfl, a, ns, 0, rfl, hS, by decide, fun n0 hn0 _ => ⟨_, rfl, n0, most, rfl, rfl, (by show (0 : Int) < (most : Int); omega), 1, _, rfl, rfl, ?_⟩⟩
    obtain ⟨mn, emn, hmn1, hmn⟩ : ∃ m : Nat, 1 + n0 % (most : Int) = (m : Int) ∧ 1 ≤ m ∧ m ≤ most := by
      have z1 := Int.emod_nonneg n0 (show (most : Int) ≠ 0 by omega)
      have z2 := Int.emod_lt_of_pos n0 (show (0 : Int) < (most : Int) by omega)
      exact ⟨(1 + n0 % (most : Int)).toNat, by omega, by omega, by omega⟩
    refine ⟨_, rfl, _, rfl, _, _, rfl, rfl, a, ns, mn + 1, (by show [V.ref a, V.int (1 + n0 % (most : Int) + 1)] = [V.ref a, V.int ((mn + 1 : Nat) : Int)]; rw [emn]; rfl), hS, ⟨by omega, by omega⟩, ht, fun names pn H1 hln hgd nn k1 _ hpn => ?_⟩
    -- the makes
    refine ⟨(by show (0 : Nat) ≤ sizeLine; decide), fun qm nqm => ?_⟩
    have k2 := Kp.new (o := HO.lst []) k1.tab nqm
    have qT := tab_nn k1.tab nqm
    have nqH := k1.free nqm
    have k12 := k1.trans k2
    refine ⟨_, rfl, 1 + n0 % (most : Int), rfl, (by omega), (by omega), for_range (lo := 0) (n := (1 + n0 % (most : Int)).toNat) (fun i σ' H' => ∃ (x6 x7 x8 : Option V) (mv : List V) (mks : List (List Int)), σ' = [some (.ref a), some (.int most), some (.int mm), some (.int (1 + n0 % (most : Int))), some (.ref pn), some (.ref qm), x6, x7, x8, none, none] ∧
        Kp T H1 H' ∧ H' qm = some (.lst mv) ∧ Paired (MkR K mm (hide [qm] H')) mv mks ∧ mks.length = i)
      ⟨none, none, none, [], [], rfl, k2, upd_same, .nil, rfl⟩ ?_ ?_⟩
    · rintro i σ' H2 hi ⟨x6, x7, x8, mv, mks, rfl, k3, eq, hP, hml⟩
      have e10 : (10 : Int) + (0 + (i : Int)) = ((10 + i : Nat) : Int) := by omega
      have kk := k1.trans k3
      refine ⟨_, rfl, _, rfl, _, _, rfl, rfl, a, ns, 10 + i, (by show [V.ref a, V.int (10 + (0 + (i : Int)))] = _; rw [e10] <;> rfl), kk.seq hS, by omega, fun n1 _ _ => ?_⟩
      refine ⟨_, rfl, 3, (mm : Int), rfl, rfl, .inl ⟨by decide, by decide⟩, 999, _, rfl, rfl, _, rfl, n1, 12, rfl, rfl, ⟨by decide, by decide⟩, n1 / 12, 900, rfl, rfl, (by show (0 : Int) < 900; decide), 1, _, rfl, rfl, _, rfl, n1, 12, rfl, rfl, ⟨by decide, by decide⟩, n1 / 12, 20, rfl, rfl, (by show (0 : Int) < 20; decide), 1, _, rfl, rfl, (by show (4 : Nat) ≤ sizeLine; decide), fun l1 nl1 => ?_⟩
      have k4 := Kp.new (o := HO.lst [.int 1, .int (999 - 3 * (mm : Int)), .int (1 + n1 / 12 % 900), .int (1 + n1 / 12 % 20)]) kk.tab nl1
      obtain ⟨v, ev, fs, rfl, hf1, hf2⟩ := at_pick (xs := [V.int 1, .int (999 - 3 * (mm : Int)), .int (1 + n1 / 12 % 900), .int (1 + n1 / 12 % 20)]) (i := n1 % 4) (p := fun v => ∃ m : Int, v = .int m ∧ 1 ≤ m ∧ m ≤ 999 - 3 * (mm : Int)) (by omega) (by show n1 % 4 < ((4 : Nat) : Int); omega) (fun v hv => by
        simp only [List.mem_cons, List.not_mem_nil, or_false] at hv
        rcases hv with rfl | rfl | rfl | rfl
        · exact ⟨_, rfl, by omega, by omega⟩
        · exact ⟨_, rfl, by omega, by omega⟩
        · exact ⟨_, rfl, by omega, by omega⟩
        · exact ⟨_, rfl, by omega, by omega⟩)
      have eq4 := k4.lst eq
      have k14 := k3.trans k4
      refine ⟨_, rfl, n1, 4, rfl, rfl, (by show (0 : Int) < 4; decide), l1, _, _, _, rfl, rfl, .inl (.inl upd_same), ev, ?_⟩
      generalize upd H2 l1 (.lst [.int 1, .int (999 - 3 * (mm : Int)), .int (1 + n1 / 12 % 900), .int (1 + n1 / 12 % 20)]) = H3 at k4 eq4 k14 ⊢
      obtain ⟨c, ec, hc⟩ : ∃ c : Int, 1 + n1 / 24 % 3 = c ∧ 1 ≤ c ∧ c ≤ 3 := ⟨_, rfl, by omega, by omega⟩
      have cnt : 1 ≤ 1 + n1 / 72 % (mm : Int) ∧ 1 + n1 / 72 % (mm : Int) ≤ mm := by
        have z1 := Int.emod_nonneg (n1 / 72) (show (mm : Int) ≠ 0 by omega)
        have z2 := Int.emod_lt_of_pos (n1 / 72) (show (0 : Int) < (mm : Int) by omega)
        omega
      refine ⟨_, rfl, .inl ⟨rfl, _, .inl (.inl eq4)⟩, _, rfl, n1, 72, rfl, rfl, ⟨by decide, by decide⟩, _, rfl, n1 / 72, (mm : Int), rfl, rfl, (by show (0 : Int) < (mm : Int); omega), 1, _, rfl, rfl, 1 + n1 / 72 % (mm : Int), rfl, (by omega), (by omega), fun D nD => ?_⟩
      have k4t := k14.tab
      refine lc_range (lo := 0) (n := (1 + n1 / 72 % (mm : Int)).toNat) (fun j H' => Kp T H3 H' ∧ H' D = some (.lst (((List.range j).map fun t : Nat => fs + (0 + (t : Int)) * c).map V.int))) ⟨Kp.new k4t nD, upd_same⟩ (fun j H' hj hv => ?_) (fun H4 hv => ?_)
      · obtain ⟨k5, eD⟩ := hv
        refine ⟨rfl, tYes_if ?_⟩
        refine ⟨_, rfl, _, rfl, _, rfl, n1, 24, rfl, rfl, ⟨by decide, by decide⟩, n1 / 24, 3, rfl, rfl, (by show (0 : Int) < 3; decide), 1, _, rfl, rfl, 0 + (j : Int), _, rfl, rfl, .inl ⟨by omega, by omega⟩, fs, _, rfl, rfl, _, eD, small1000 (by rw [List.length_map, List.length_map, List.length_range]; omega), k5.set nD (tab_nn k4t nD), ?_⟩
        rw [upd_same, List.range_succ, List.map_append, List.map_append, ← ec]
        rfl
      · obtain ⟨k5, eD⟩ := hv
        have eq5 := k5.lst eq4
        have k15 := k14.trans k5
        refine ⟨qm, _, _, rfl, rfl, eq5, small1000 (by rw [paired_len hP]; omega), ?_⟩
        have nqH1 := nqm
        obtain ⟨row, erow⟩ : ∃ row : List Int, row = (List.range (1 + n1 / 72 % (mm : Int)).toNat).map fun t : Nat => fs + (0 + (t : Int)) * c := ⟨_, rfl⟩
        rw [← erow] at eD
        have gr : ∀ m ∈ row, MakeI m := fun m hm => by
          rw [erow] at hm
          obtain ⟨t, ht', rfl⟩ := List.mem_map.mp hm
          have ht2 := List.mem_range.mp ht'
          have h1 : (0 + (t : Int)) * c ≤ 3 * (t : Int) := by
            rw [Int.zero_add, Int.mul_comm]
            exact Int.mul_le_mul_of_nonneg_right hc.2 (by omega)
          have h2 : 0 ≤ (0 + (t : Int)) * c := Int.mul_nonneg (by omega) (by omega)
          exact ⟨by omega, by omega⟩
        have rl : row.length = (1 + n1 / 72 % (mm : Int)).toNat := by rw [erow, List.length_map, List.length_range]
        have rn : row.Nodup := by
          rw [erow]
          refine (List.pairwise_map).mpr ((List.pairwise_lt_range (n := _)).imp_of_mem ?_)
          intro i j _ _ hlt e
          have h3 : (i : Int) * c < (j : Int) * c := Int.mul_lt_mul_of_pos_right (by omega) (by omega)
          rw [Int.zero_add, Int.zero_add] at e
          omega
        have kq := k15.set nqm qT (o := HO.lst (mv ++ [.ref D]))
        have Dq : D ≠ qm := fun z => by rw [z, eq4] at nD; cases nD
        refine ⟨_, _, _, mv ++ [.ref D], mks ++ [row], rfl, kq, upd_same, ?_, ?_⟩
        · rw [hide_upd (List.mem_singleton.mpr rfl)]
          have mono : ∀ b o, isSeqO o = true → hide [qm] H2 b = some o → hide [qm] H4 b = some o := fun b o hs e => by
            obtain ⟨e1, e2⟩ := hide_some e
            exact hide_of ((k4.trans k5).keep b o (isSeq_ne_tab k4.t0 hs e1) e1) e2
          refine paired_app2 (paired_mono (fun _ _ h => MkR.mono mono h) hP) (.cons ⟨⟨D, rfl, .inl (.inl (hide_of eD (fun z => Dq (List.mem_singleton.mp z)))), fun z => ?_, by omega, gr⟩, rn, by omega⟩ .nil)
          rw [z] at rl
          simp at rl
          omega
        · rw [List.length_append, List.length_singleton, hml]
    · rintro σ' H2 ⟨x6, x7, x8, mv, mks, rfl, k3, eq, hP0, hml⟩
      have hP : Paired (MkR K mm H2) mv mks := paired_mono (fun _ _ h => MkR.mono (fun _ _ _ e => (hide_some e).1) h) hP0
      clear hP0
      have hmm : mks.length = mn := by omega
      have lmv := paired_len hP
      have k02 := k1.trans k3
      have hS2 := k02.seq hS
      have hN2 : SqL K H2 pn (names.map V.str) := .inl (.inl (k3.lst hpn))
      have t2 := k3.tab
      have hA2 : ∀ y ∈ A, H2 y ≠ none := fun y hy => k02.dom (hA y hy)
      clear hpn k3 nqm nqH k2 k12 qT
      -- the rows
      intro r nr
      have kr := Kp.new (o := HO.dK []) t2 nr
      have rT := tab_nn t2 nr
      have er : upd H2 r (.dK []) r = some (.dK []) := upd_same
      have B0 : BoxOk K A (upd H2 r (.dK [])) r [] := ⟨er, fun s hs => (by cases hs), List.nodup_nil, List.nodup_cons.mpr ⟨List.not_mem_nil, List.nodup_nil⟩⟩
      have f0 : ∀ f ∈ foot r [], H2 f = none := fun f hf => by
        rcases List.mem_cons.mp hf with rfl | hf
        · exact nr
        · cases hf
      generalize upd H2 r (.dK []) = H3 at kr er B0 ⊢
      clear er
      refine ⟨_, rfl, 1 + n0 % (most : Int), rfl, (by omega), (by omega), for_range (lo := 0) (n := (1 + n0 % (most : Int)).toNat) (fun i σ' H' => ∃ (x6 x10 : Option V) (cl : List Shelf), σ' = [some (.ref a), some (.int most), some (.int mm), some (.int (1 + n0 % (most : Int))), some (.ref pn), some (.ref qm), x6, x7, x8, some (.ref r), x10] ∧
          Kp T H2 H' ∧ BoxOk K A H' r cl ∧ (∀ f ∈ foot r cl, H2 f = none) ∧ cl.map (·.ware) = names.take i ∧ (∀ s ∈ cl, RowG mm s) ∧ RawB K H' cl)
        ⟨x6, none, [], rfl, kr, B0, f0, rfl, (fun s hs => by cases hs), fun s hs => by cases hs⟩ ?_ ?_⟩
      · rintro i σ' H4 hi ⟨x6, x10, cl, rfl, k4, B, fn, ew, hG, hR⟩
        have hil : i < mks.length := by omega
        have hin : i < names.length := by omega
        have en : atI (names.map V.str) (0 + (i : Int)) = some (.str names[i]) := by rw [Int.zero_add]; exact atI_nat (by rw [List.getElem?_map, List.getElem?_eq_getElem hin]; rfl)
        have gy := hgd _ (List.getElem_mem hin)
        have enx : names[i]? = some names[i] := List.getElem?_eq_getElem hin
        have fresh : ∀ s ∈ cl, s.ware ≠ names[i] := fun s hs e => by
          have h1 : s.ware ∈ names.take i := by rw [← ew]; exact List.mem_map.mpr ⟨s, hs, rfl⟩
          obtain ⟨j, hj⟩ := List.mem_iff_getElem?.mp h1
          have hjl : j < i := by
            have := (List.getElem?_eq_some_iff.mp hj).1
            rw [List.length_take] at this
            omega
          rw [List.getElem?_take, if_pos hjl, e] at hj
          exact absurd (nd_idx nn hj enx) (by omega)
        have etk : names.take (i + 1) = names.take i ++ [names[i]] := by rw [List.take_succ, enx]; rfl
        generalize names[i] = y at en gy enx fresh etk
        have ln : look cl y = none := by
          cases e : look cl y with
          | none => rfl
          | some s => exact absurd (look_mem e).2 (fresh s (look_mem e).1)
        obtain ⟨vq, evq, ⟨q, rfl, hq, hne, h100, hmg⟩, hmn2, hml2⟩ := paired_get hP (List.getElem?_eq_getElem hil)
        have evq' : atI mv (0 + (i : Int)) = some (.ref q) := by rw [Int.zero_add]; exact atI_nat evq
        generalize mks[i] = ms at hq hne h100 hmg hmn2 hml2
        -- rows[names[k]] = {}
        intro na nna
        have k5 := Kp.new (o := HO.dK []) k4.tab nna
        have nar : r ≠ na := fun z => by have := B.dc; rw [z, nna] at this; cases this
        have B5 := B.new (w := y) k4.tab ln nna
        have dr5 : upd H4 na (.dK []) r = some (.dK (cl.map keyW)) := by rw [upd_ne nar]; exact B.dc
        refine ⟨_, rfl, _, rfl, _, rfl, pn, _, _, _, rfl, rfl, (k4.trans k5).seq hN2, en, r, _, rfl, DPut.k (k := Sum.inr y) dr5 (small1000 (by rw [List.length_map]; have := congrArg List.length ew; rw [List.length_map, List.length_take] at this; omega)), ?_⟩
        obtain ⟨B5, kx5⟩ := B5
        have nna2 : H2 na = none := k4.free nna
        have hR5 := (hR.kx kx5 (fun f hf => B.foot_dict f hf)).app (s := ⟨y, na, []⟩) fun e he => by cases he
        have f5 : ∀ f ∈ foot r (cl ++ [⟨y, na, []⟩]), H2 f = none := fun f hf => by
          rcases foot_app hf with hf | rfl
          · exact fn f hf
          · exact nna2
        have k25 := Kx.dropNews fn k4 kx5
        generalize upd (upd H4 na (.dK [])) r (.dK (putK (cl.map keyW) (Sum.inr y) (.ref na))) = H5 at B5 kx5 k25 hR5 ⊢
        clear k5 dr5
        have eqm5 : H5 qm = some (.lst mv) := k25.lst eq
        refine ⟨_, rfl, _, rfl, qm, _, _, _, rfl, rfl, .inl (.inl eqm5), evq', q, _, rfl, .inl (k25.seq hq), (ms.map V.int).length, rfl, (by rw [List.length_map]; omega), (by rw [List.length_map]; omega), ?_⟩
        rw [List.length_map]
        refine for_range (lo := 0) (n := ((ms.length : Nat) : Int).toNat) (fun j σ' H' => ∃ (x10 : Option V) (es : List (Int × Addr × List PyData)), σ' = [some (.ref a), some (.int most), some (.int mm), some (.int (1 + n0 % (most : Int))), some (.ref pn), some (.ref qm), some (.int (0 + (i : Int))), x7, x8, some (.ref r), x10] ∧
            Kp T H2 H' ∧ BoxOk K A H' r (cl ++ [⟨y, na, es⟩]) ∧ es.map (·.1) = ms.take j ∧ (∀ e ∈ es, mayB y (.list e.2.2) = true) ∧ (∀ e ∈ es, ∀ d ∈ e.2.2, ND d) ∧ RawB K H' (cl ++ [⟨y, na, es⟩]))
          ⟨x10, [], rfl, k25, B5, rfl, (fun e he => by cases he), (fun e he => by cases he), hR5⟩ ?_ ?_
        · rintro j σ' H6 hj ⟨x10, es, rfl, k6, B6, ems, hmay, hnd, hR6⟩
          have hjl : j < ms.length := by omega
          have h12 : mks.length ≤ 12 := by omega
          have e9 : (20 : Int) + 9 * (0 + (i : Int)) + 3 * (0 + (j : Int)) = ((20 + 9 * i + 3 * j : Nat) : Int) := by omega
          have j8 : j < 8 := by omega
          have emj : atI (ms.map V.int) (0 + (j : Int)) = some (.int ms[j]) := by rw [Int.zero_add]; exact atI_nat (by rw [List.getElem?_map, List.getElem?_eq_getElem hjl]; rfl)
          have etj : ms.take (j + 1) = ms.take j ++ [ms[j]] := by rw [List.take_succ, List.getElem?_eq_getElem hjl]; rfl
          have gm := hmg _ (List.getElem_mem hjl)
          have mnew : ms[j] ∉ ms.take j := fun z => by
            obtain ⟨t, ht'⟩ := List.mem_iff_getElem?.mp z
            have htl : t < j := by
              have := (List.getElem?_eq_some_iff.mp ht').1
              rw [List.length_take] at this
              omega
            rw [List.getElem?_take, if_pos htl] at ht'
            exact absurd (nd_idx hmn2 ht' (List.getElem?_eq_getElem hjl)) (by omega)
          generalize ms[j] = m at emj etj gm mnew
          refine ⟨_, rfl, _, rfl, _, rfl, _, rfl, _, rfl, 9, _, rfl, rfl, .inl ⟨by decide, by decide⟩, 20, _, rfl, rfl, _, rfl, 3, _, rfl, rfl, .inl ⟨by decide, by decide⟩, _, _, rfl, rfl, ?_⟩
          have hP6 : Paired (MkL K H6) mv mks := paired_mono (fun _ _ h => MkL.kept k6 h.1) hP
          have d9 : DGet H6 r (.str y) (some (.ref na)) := cell_get B6 (look_last fresh)
          refine ⟨A, a, pn, qm, ns, names, mv, mks, i, 20 + 9 * i + 3 * j, y, (by show [V.ref a, V.ref pn, V.ref qm, V.int (0 + (i : Int)), V.int (20 + 9 * (0 + (i : Int)) + 3 * (0 + (j : Int)))] = _; rw [e9, Int.zero_add] <;> rfl), k6.seq hS2, k6.seq hN2, nn, hgd, k6.lst eq, hP6, by omega, enx, hil, h12, by omega, fun z hz => k6.dom (hA2 z hz), k6.tab, fun xs ds l H7 k7 nl el hds hdn hmy h6 => ?_⟩
          have eqm7 : H7 qm = some (.lst mv) := (k6.trans k7).lst eq
          have B7 := B6.keptP k7
          have LS : look (cl ++ [⟨y, na, es⟩]) y = some ⟨y, na, es⟩ := look_last fresh
          have SH := (B7.sh _ (look_mem LS).1).dc
          have lA : l ∉ A := fun z => k6.dom (hA2 l z) nl
          have me : lookE es m = none := by
            cases e : lookE es m with
            | none => rfl
            | some x =>
              obtain ⟨h1, h2⟩ := lookE_mem e
              exact absurd (by rw [← ems, ← h2]; exact List.mem_map.mpr ⟨x, h1, rfl⟩) mnew
          refine ⟨_, rfl, _, rfl, _, rfl, pn, _, _, _, rfl, rfl, (k6.trans k7).seq hN2, en, r, _, rfl, cell_get B7 LS, _, rfl, _, rfl, qm, _, _, _, rfl, rfl, .inl (.inl eqm7), evq', _, rfl, q, _, _, _, rfl, rfl, (k6.trans k7).seq hq, emj, na, _, rfl, DPut.k (k := Sum.inl m) SH (small1000 (by rw [List.length_map]; show es.length ≤ 1000; have := congrArg List.length ems; rw [List.length_map, List.length_take] at this; omega)), ?_⟩
          have dpl : Dp K (hide A H7) (.ref l) (.list ds) := .lst (.inl (.inl (hide_of el lA))) (dpAll_mono (hide_sub fun x hx => List.mem_cons_of_mem _ hx) _ _ hds)
          have nd2 := put_nd (l := l) (ds := ds) me (B7.sh _ (look_mem LS).1).nd
          have BS := B7.set (es := es ++ [(m, l, ds)]) k7.tab LS (fun e he => by
            rcases List.mem_append.mp he with he | he
            · exact (B7.sh _ (look_mem LS).1).dp e he
            · rw [List.mem_singleton.mp he]; exact dpl) nd2
          rw [setE_last fresh] at BS
          have ep : putK (es.map entK) (Sum.inl m : Key) (.ref l) = (es ++ [(m, l, ds)]).map entK := ent_put me
          rw [ep]
          refine ⟨_, es ++ [(m, l, ds)], rfl, Kx.dropNews (fun f hf => ?_) (k6.trans k7) BS.2, BS.1, ?_, ?_, ?_, ?_⟩
          · rcases foot_app hf with hf | rfl
            · exact fn f hf
            · exact nna2
          · rw [List.map_append, ems, etj]
            rfl
          · intro e he
            rcases List.mem_append.mp he with he | he
            · exact hmay e he
            · rw [List.mem_singleton.mp he]; exact hmy
          · intro e he
            rcases List.mem_append.mp he with he | he
            · exact hnd e he
            · rw [List.mem_singleton.mp he]; exact hdn
          · have hR7 := (hR6.kp k7).kx BS.2 (fun f hf => B7.foot_dict f hf)
            have el8 := BS.2.lst0 (fun f hf => B7.foot_dict f hf) el
            refine RawB.app (fun s hs => hR7 s (List.mem_append_left _ hs)) fun e he => ?_
            rcases List.mem_append.mp he with he | he
            · exact hR7 _ (List.mem_append_right _ (List.mem_singleton.mpr rfl)) e he
            · rw [List.mem_singleton.mp he]; exact ⟨_, el8, dpAll_kx0 BS.2 (fun f hf => B7.foot_dict f hf) (dpAll_show hds)⟩
        · rintro σ' H6 ⟨x10, es, rfl, k6, B6, ems, hmay, hnd, hR6⟩
          have ems2 : es.map (·.1) = ms := by
            rw [ems, List.take_of_length_le (by omega)]
          refine ⟨_, x10, cl ++ [⟨y, na, es⟩], rfl, k6, B6, ?_, ?_, ?_, hR6⟩
          · intro f hf
            rcases foot_app hf with hf | rfl
            · exact fn f hf
            · exact nna2
          · rw [List.map_append, ew, etk]
            rfl
          · intro s hs
            rcases List.mem_append.mp hs with hs | hs
            · exact hG s hs
            · rw [List.mem_singleton.mp hs]
              refine ⟨gy, fun z => hne ?_, ?_, fun e he => hmg _ (by rw [← ems2]; exact List.mem_map.mpr ⟨e, he, rfl⟩), hmay, hnd⟩
              · have z : es = [] := z
                rw [← ems2, z]
                rfl
              · have := congrArg List.length ems2
                rw [List.length_map] at this
                show es.length ≤ mm
                omega
      · rintro σ' H4 ⟨x6, x10, cl, rfl, k4, B, fn, ew, hG, hR⟩
        have lcl : cl.length = mn := by
          have := congrArg List.length ew
          rw [List.length_map, List.length_take] at this
          omega
        refine ⟨_, rfl, fin r cl H4 (k02.trans k4) B (fun z => ?_) (by omega) hG (fun f hf => k02.free (fn f hf)) hR⟩
        rw [z] at lcl
        simp at lcl
        omega
end
end Pk

set_option Elab.async false
set_option linter.all false
set_option maxRecDepth 100000
set_option maxHeartbeats 4000000
namespace Pk
open PySem PySem.Spec PyProof.Rows L2
theorem strs_of {names : List Str} : ∀ {xs : List V}, (∀ v ∈ xs, v ∈ names.map V.str) → ∃ zs : List Str, xs = zs.map V.str ∧ ∀ z ∈ zs, z ∈ names
  | [], _ => ⟨[], rfl, fun z hz => by cases hz⟩
  | v :: r, h => by
    obtain ⟨z, hz, rfl⟩ := List.mem_map.mp (h v (List.mem_cons_self ..))
    obtain ⟨zs, e, hzs⟩ := strs_of fun u hu => h u (List.mem_cons_of_mem _ hu)
    refine ⟨z :: zs, by rw [e]; rfl, fun y hy => ?_⟩
    rcases List.mem_cons.mp hy with rfl | hy
    · exact hz
    · exact hzs y hy
theorem keys_strs (cl : List Shelf) : (cl.map keyW).map (fun kv : Key × V => kV kv.1) = (cl.map (·.ware)).map V.str := by
  rw [List.map_map, List.map_map]
  rfl
theorem keys_ints (es : List (Int × Addr × List PyData)) : (es.map entK).map (fun kv : Key × V => kV kv.1) = (es.map (·.1)).map V.int := by
  rw [List.map_map, List.map_map]
  rfl
theorem at_str {hs : List Str} {i : Int} (h0 : 0 ≤ i) (h1 : i < (hs.length : Int)) (hg : ∀ y ∈ hs, GoodN y) : ∃ y, atI (hs.map V.str) i = some (.str y) ∧ GoodN y ∧ y ∈ hs := by
  obtain ⟨v, hv, y, rfl, hy⟩ := at_pick (xs := hs.map V.str) (p := fun v => ∃ y, v = V.str y ∧ GoodN y ∧ y ∈ hs) h0 (by rw [List.length_map]; exact h1) (fun x hx => by
    obtain ⟨y, hy, rfl⟩ := List.mem_map.mp hx
    exact ⟨y, rfl, hg y hy, hy⟩)
  exact ⟨y, hv, hy⟩
theorem at_lastS {hs : List Str} (h : hs ≠ []) (hg : ∀ y ∈ hs, GoodN y) : ∃ y, atI (hs.map V.str) (-1) = some (.str y) ∧ GoodN y ∧ y ∈ hs := by
  have e : hs.map V.str = hs.dropLast.map V.str ++ [.str (hs.getLast h)] := by
    conv => lhs; rw [← List.dropLast_concat_getLast h]
    rw [List.map_append]
    rfl
  exact ⟨_, by rw [e]; exact atI_last _ _, hg _ (List.getLast_mem h), List.getLast_mem h⟩
/-- what is asked of the law's rows -/
structure RowsG (mm : Nat) (cl : List Shelf) : Prop where
  len : cl.length ≤ 12
  w : ∀ s ∈ cl, GoodN s.ware
  el : ∀ s ∈ cl, s.ents.length ≤ mm
  mki : ∀ s ∈ cl, ∀ e ∈ s.ents, MakeI e.1
  may : ∀ s ∈ cl, ∀ e ∈ s.ents, mayB s.ware (.list e.2.2) = true
  nd : ∀ s ∈ cl, ∀ e ∈ s.ents, ∀ d ∈ e.2.2, ND d
theorem RowsG.of {mm : Nat} {cl : List Shelf} (hl : cl.length ≤ 12) (h : ∀ s ∈ cl, RowG mm s) : RowsG mm cl := ⟨hl, fun s hs => (h s hs).w, fun s hs => (h s hs).len, fun s hs => (h s hs).mki, fun s hs => (h s hs).may, fun s hs => (h s hs).nd⟩
theorem mayB_len {w : Str} {ds : List PyData} (h : mayB w (.list ds) = true) : ds.length ≤ 6 := by
  have z : (decide (ds.length ≤ 6) && mayL [w] ds) = true := h
  rw [Bool.and_eq_true] at z
  exact of_decide_eq_true z.1
section
variable {P : Program} {w : World} {K : PySem.W.Frag} {mg : Str → Option Value} {base : Heap}
def wishN : List Str := ["_law_script", "_law_rows_here", "_law_most", "_law_names_here", "_law_found", "_law_number", "_law_turn", "_law_name", "_law_low", "_law_high"]
theorem scWish : FnScope wishN ["_law_script", "_law_rows_here", "_law_most"] (defScope sWish) := ⟨rfl, rfl, rfl, by decide +kernel, rfl, by decide +kernel, by decide +kernel⟩
def spWish (K : PySem.W.Frag) (T : Addr) : Sp := fun vs H Q _ => ∃ (A : List Addr) (a r : Addr) (ns : List Int) (cl : List Shelf) (most mm : Nat), vs = [.ref a, .ref r, .int most] ∧ SqL K H a (ns.map V.int) ∧ BoxOk K A H r cl ∧ RowsG mm cl ∧ mm ≤ 8 ∧ cl ≠ [] ∧ (∀ s ∈ cl, s.ents ≠ []) ∧ 1 ≤ most ∧ most ≤ 8 ∧ (∀ y ∈ A, H y ≠ none) ∧ GxR.TabG H T ∧
  ∀ (xs : List V) (ds : List PyData) l H', Kp T H H' → H l = none → H' l = some (.lst xs) → DpAll K (hide (l :: A) H') xs ds → (∀ d ∈ ds, ND d) → ds.length ≤ 8 → Q (.ref l) H'
theorem ok_wish {f fX fA fS T : Addr} {fd fdX fdA fdS : FuncData} (F : Fun K "_law_wish" "_law_wish" sWish f fd)
    (GX : FnOk P w K mg base CX0 1 fX fdX ["_law_script", "_law_k"] (spMixed K)) (kX : PySem.W.keepIn K (.ref fX) = true) (bX : Binds K fdX ["_law_script", "_law_k"] []) (gX : mg "_law_mixed" = some (.ref fX))
    (GA : FnOk P w K mg base CX0 2 fA fdA ["_law_script", "_law_many"] (spNames K T)) (kA : PySem.W.keepIn K (.ref fA) = true) (bA : Binds K fdA ["_law_script", "_law_many"] []) (gA : mg "_law_names" = some (.ref fA))
    (GS : FnOk P w K mg base CX0 1 fS fdS ["_law_number", "_law_makes"] (spStretch K T)) (kS : PySem.W.keepIn K (.ref fS) = true) (bS : Binds K fdS ["_law_number", "_law_makes"] []) (gS : mg "_law_stretch" = some (.ref fS))
    (y_len : mg "len" = none) (y_range : mg "range" = none) (y_list : mg "list" = none) (y_sorted : mg "sorted" = none) : FnOk P w K mg base CX0 3 f fd ["_law_script", "_law_rows_here", "_law_most"] (spWish K T) := by
  refine F.ok scWish (fun vs H Q E h => ?_) (fun cdv A0 outer s H vs Q E hr h => ?_)
  · obtain ⟨A, a, r, ns, cl, most, mm, rfl, _⟩ := h
    rfl
  · obtain ⟨A, a, r, ns, cl, most, mm, rfl, hS, B, G, hmm, hcl, hne, hm1, hm8, hA, ht, fin⟩ := h
    have hu := hu_of hr
    refine ⟨_, (pss_cons (ps_set (i := 3) scWish.nd rfl (by first | exact .inl rfl | exact .inr rfl) (pe_op op_cat (pe_callTy (call_listD rfl) (by rfl) y_list boot_list (pa_cons (pv 1) pa_nil)) (pe_slice sl_list (pe_call GA (hr.mono (by decide)) (by rfl) gA kA bA .nil pass0 (pa_cons (pv 0) (pa_cons (pe_op op_add (pe_callB call_lenD (by rfl) y_len PySem.boot_len (pa_cons (pv 1) pa_nil)) pe_int) pa_nil))) (po_some (pe_un un_neg pe_int)) po_none)))
      (pss_cons (ps_set (i := 4) scWish.nd rfl (by first | exact .inl rfl | exact .inr rfl) (pe_lst pa_nil))
      (pss_cons (ps_set (i := 5) scWish.nd rfl (by first | exact .inl rfl | exact .inr rfl) (pe_call GX (hr.mono (by decide)) (by rfl) gX kX bX .nil pass0 (pa_cons (pv 0) (pa_cons pe_int pa_nil))))
      (pss_cons (ps_for PassesOwn.never rfl (pi_range1 (by rfl) y_range (pa_cons (pe_ix ix_list (pe_lst (pa_cons (pe_op op_add pe_int (pe_op op_mod (pe_op op_fdiv (pv 5) pe_int) (pv 2))) (pa_cons pe_int (pa_cons pe_int pa_nil)))) (pe_ix ix_list (pe_lst (pa_cons pe_int (pa_cons pe_int (pa_cons pe_int (pa_cons pe_int (pa_cons pe_int (pa_cons pe_int (pa_cons pe_int (pa_cons pe_int (pa_cons pe_int pa_nil)))))))))) (pe_op op_mod (pv 5) pe_int) (fun _ _ => rfl)) (fun _ _ => rfl)) pa_nil)) (pg_name (i := 6) scWish.nd rfl (by first | exact .inl rfl | exact .inr rfl)) (pss_cons (ps_set (i := 5) scWish.nd rfl (by first | exact .inl rfl | exact .inr rfl) (pe_call GX (hr.mono (by decide)) (by rfl) gX kX bX .nil pass0 (pa_cons (pv 0) (pa_cons (pe_op op_add pe_int (pv 6)) pa_nil))))
      (pss_cons (ps_set (i := 7) scWish.nd rfl (by first | exact .inl rfl | exact .inr rfl) (pe_ix ix_list (pv 3) (pe_op op_mod (pv 5) (pe_callB call_lenD (by rfl) y_len PySem.boot_len (pa_cons (pv 1) pa_nil))) (fun _ _ => rfl)))
      (C8.pss_cut (ps_if (pt_cmpR op_eq (pe_op op_mod (pe_op op_fdiv (pv 5) pe_int) pe_int) pe_int (nomark _)) (pss_one (ps_set (i := 7) scWish.nd rfl (by first | exact .inl rfl | exact .inr rfl) (pe_ix ix_list (pv 3) (pe_un un_neg pe_int) (fun _ _ => rfl)))) pss_nil)
      (pss_cons (ps_asg (pe_call GS (hr.mono (by decide)) (by rfl) gS kS bS .nil pass0 (pa_cons (pe_op op_fdiv (pv 5) pe_int) (pa_cons (pe_callB (call_sortedDI rfl) (by rfl) y_sorted (by decide +kernel) (pa_cons (pe_dget2 hu (pv 1) (pv 7) (pe_disp (pps_cons pe_int (pe_lst pa_nil) pps_nil) (by rfl) (by rfl) (fun z => by cases z) (by decide)) ⟨rfl, rfl, rfl, rfl⟩) pa_nil)) pa_nil))) (pg_tup (by rfl) (pgs_cons (pg_name (i := 8) scWish.nd rfl (by first | exact .inl rfl | exact .inr rfl)) (pgs_cons (pg_name (i := 9) scWish.nd rfl (by first | exact .inl rfl | exact .inr rfl)) pgs_nil))))
      (pss_one (ps_expr (pe_bm PySem.F.plainAttrs_list PySem.F.slot_list_append PySem.F.type_list_append mt_append (pv 4) (pa_cons (pe_tup (pa_cons (pv 7) (pa_cons (pv 8) (pa_cons (pv 9) pa_nil)))) pa_nil)))))))))
      (pss_one (ps_ret (pv 4))))))), ?_⟩
    have h12 := G.len
    have hcl1 := List.length_pos_iff.mpr hcl
    -- the names
    refine ⟨_, rfl, r, _, rfl, .inl B.dc, fun l1 nl1 => ?_⟩
    rw [keys_strs]
    have k1 := Kp.new (o := HO.lst ((cl.map (·.ware)).map V.str)) ht nl1
    have e1 : upd H l1 (.lst ((cl.map (·.ware)).map V.str)) l1 = some (.lst ((cl.map (·.ware)).map V.str)) := upd_same
    have B1 := B.keptP k1
    generalize upd H l1 (.lst ((cl.map (·.ware)).map V.str)) = H1 at k1 e1 B1 ⊢
    refine ⟨_, rfl, _, rfl, r, _, rfl, B1.dc, _, _, rfl, rfl, a, ns, cl.length + 1, (by rw [List.length_map] <;> rfl), k1.seq hS, ⟨by omega, by omega⟩, k1.tab, fun names pn H2 hln hgd nn k2 _ hpn => ⟨1, rfl, -1, rfl, pn, _, rfl, .inl (.inl hpn), fun l2 nl2 => ?_⟩⟩
    obtain ⟨zs, ezs, hzs⟩ := strs_of (names := names) (xs := cutV (names.map V.str) (some (-1)) none) (fun v hv => cutV_mem hv)
    have lzs : zs.length ≤ 26 := by
      have h1 : (cutV (names.map V.str) (some (-1)) none).length ≤ (names.map V.str).length := by
        show (List.take _ (List.drop _ _)).length ≤ _
        rw [List.length_take, List.length_drop]
        omega
      rw [ezs, List.length_map, List.length_map] at h1
      omega
    have k3 := Kp.new (o := HO.lst (cutV (names.map V.str) (some (-1)) none)) k2.tab nl2
    have e3 : upd H2 l2 (.lst (cutV (names.map V.str) (some (-1)) none)) l2 = some (.lst (zs.map V.str)) := by rw [upd_same, ezs]
    have k23 := k2.trans k3
    have e1' := k23.lst e1
    generalize upd H2 l2 (.lst (cutV (names.map V.str) (some (-1)) none)) = H3 at k3 e3 k23 e1' ⊢
    refine ⟨l1, l2, _, _, rfl, rfl, e1', e3, Nat.le_of_lt (small1000 (by rw [List.length_map, List.length_map, List.length_map]; omega)), fun l3 nl3 => ?_⟩
    obtain ⟨hs, ehs⟩ : ∃ hs : List Str, hs = cl.map (·.ware) ++ zs := ⟨_, rfl⟩
    have ghs : ∀ y ∈ hs, GoodN y := fun y hy => by
      rw [ehs] at hy
      rcases List.mem_append.mp hy with hy | hy
      · obtain ⟨s, hs', rfl⟩ := List.mem_map.mp hy
        exact G.w s hs'
      · exact hgd y (hzs y hy)
    have lhs : cl.length ≤ hs.length := by rw [ehs, List.length_append, List.length_map]; omega
    have k4 := Kp.new (o := HO.lst ((cl.map (·.ware)).map V.str ++ zs.map V.str)) k23.tab nl3
    have e4 : upd H3 l3 (.lst ((cl.map (·.ware)).map V.str ++ zs.map V.str)) l3 = some (.lst (hs.map V.str)) := by rw [upd_same, ehs, List.map_append]
    have kk4 := (k1.trans k23).trans k4
    generalize upd H3 l3 (.lst ((cl.map (·.ware)).map V.str ++ zs.map V.str)) = H4 at k4 e4 kk4 ⊢
    clear k1 k2 k3 k23 k4 e1 e3 e1' B1 ehs hzs ezs
    have t4 := kk4.tab
    -- found
    refine ⟨(by show (0 : Nat) ≤ sizeLine; decide), fun L nL => ?_⟩
    have k5 := Kp.new (o := HO.lst []) t4 nL
    have LT := tab_nn t4 nL
    have eL5 : upd H4 L (.lst []) L = some (.lst ([] : List V)) := upd_same
    have nLH := kk4.free nL
    have LTH := LT
    have L3 : l3 ≠ L := fun z => by rw [← z, e4] at nL; cases nL
    have kk5 := kk4.trans k5
    have e45 := k5.lst e4
    generalize upd H4 L (.lst []) = H5 at k5 eL5 kk5 e45 ⊢
    refine ⟨_, rfl, a, ns, 170, rfl, kk5.seq hS, by decide, fun n0 hn0 _ => ?_⟩
    refine ⟨_, rfl, n0, 9, rfl, rfl, ⟨by decide, by decide⟩, _, rfl, n0 / 9, (most : Int), rfl, rfl, (by show (0 : Int) < (most : Int); omega), 1, _, rfl, rfl, (by show (3 : Nat) ≤ sizeLine; decide), fun l6 nl6 => ?_⟩
    have k6 := Kp.new (o := HO.lst [.int (1 + n0 / 9 % (most : Int)), .int 8, .int 0]) kk5.tab nl6
    refine ⟨(by show (9 : Nat) ≤ sizeLine; decide), fun l7 nl7 => ?_⟩
    have k7 := Kp.new (o := HO.lst [.int 0, .int 0, .int 0, .int 0, .int 2, .int 0, .int 1, .int 0, .int 0]) k6.tab nl7
    obtain ⟨v, ev, w7, rfl, hw7⟩ := at_pick (xs := [V.int 0, .int 0, .int 0, .int 0, .int 2, .int 0, .int 1, .int 0, .int 0]) (i := n0 % 9) (p := fun v => ∃ m : Int, v = .int m ∧ (m = 0 ∨ m = 1 ∨ m = 2)) (by omega) (by show n0 % 9 < ((9 : Nat) : Int); omega) (fun v hv => by
      simp only [List.mem_cons, List.not_mem_nil, or_false] at hv
      rcases hv with rfl | rfl | rfl | rfl | rfl | rfl | rfl | rfl | rfl
      · exact ⟨_, rfl, .inl rfl⟩
      · exact ⟨_, rfl, .inl rfl⟩
      · exact ⟨_, rfl, .inl rfl⟩
      · exact ⟨_, rfl, .inl rfl⟩
      · exact ⟨_, rfl, .inr (.inr rfl)⟩
      · exact ⟨_, rfl, .inl rfl⟩
      · exact ⟨_, rfl, .inr (.inl rfl)⟩
      · exact ⟨_, rfl, .inl rfl⟩
      · exact ⟨_, rfl, .inl rfl⟩)
    have hmo : 0 ≤ n0 / 9 % (most : Int) ∧ n0 / 9 % (most : Int) < (most : Int) := ⟨Int.emod_nonneg _ (by omega), Int.emod_lt_of_pos _ (by omega)⟩
    obtain ⟨v2, ev2, m, rfl, hm88⟩ := at_pick (xs := [V.int (1 + n0 / 9 % (most : Int)), .int 8, .int 0]) (i := w7) (p := fun v => ∃ m : Nat, v = .int (m : Int) ∧ m ≤ 8) (by omega) (by show w7 < ((3 : Nat) : Int); omega) (fun v hv => by
      simp only [List.mem_cons, List.not_mem_nil, or_false] at hv
      rcases hv with rfl | rfl | rfl
      · exact ⟨(1 + n0 / 9 % (most : Int)).toNat, by congr 1; omega, by omega⟩
      · exact ⟨8, rfl, by decide⟩
      · exact ⟨0, rfl, by decide⟩)
    have e67 := k7.lst (a := l6) (xs := [.int (1 + n0 / 9 % (most : Int)), .int 8, .int 0]) upd_same
    refine ⟨_, rfl, n0, 9, rfl, rfl, (by show (0 : Int) < 9; decide), l7, _, _, _, rfl, rfl, .inl (.inl upd_same), ev, l6, _, _, _, rfl, rfl, .inl (.inl e67), ev2, ?_⟩
    have k57 := k6.trans k7
    have eL7 := k57.lst eL5
    have e47 := k57.lst e45
    have kk7 := kk5.trans k57
    generalize upd (upd H5 l6 _) l7 _ = H7 at k7 k57 eL7 e47 kk7 ⊢
    clear k5 k6 k7 k57 eL5 e45 e67
    refine ⟨m, rfl, (by omega), (by omega), for_range (lo := 0) (n := ((m : Nat) : Int).toNat) (fun i σ' H' => ∃ (x5 x7 x8 x9 x10 : Option V) (acc : List V) (ds : List PyData), σ' = [some (.ref a), some (.ref r), some (.int most), some (.ref l3), some (.ref L), x5, x7, x8, x9, x10] ∧
        Kp T H H' ∧ H' l3 = some (.lst (hs.map V.str)) ∧ H' L = some (.lst acc) ∧ DpAll K (hide (L :: A) H') acc ds ∧ (∀ d ∈ ds, ND d) ∧ ds.length = i)
      ⟨_, _, _, _, _, [], [], rfl, kk7, e47, eL7, .nil, (fun d hd => by cases hd), rfl⟩ ?_ ?_⟩
    · rintro i σ' H8 hi ⟨x5, x7, x8, x9, x10, acc, ds, rfl, k8, el3, eL, hd, hnd, dl⟩
      have la : acc.length = ds.length := dpAll_len hd
      have e171 : (171 : Int) + (0 + (i : Int)) = ((171 + i : Nat) : Int) := by omega
      have B8 := B.keptP k8
      refine ⟨_, rfl, _, rfl, _, _, rfl, rfl, a, ns, 171 + i, (by show [V.ref a, V.int (171 + (0 + (i : Int)))] = _; rw [e171] <;> rfl), k8.seq hS, (by show 171 + i ≤ 1000; omega), fun n1 _ _ => ?_⟩
      have lkw : (cl.map keyW).length = cl.length := List.length_map _
      have hcp : (0 : Int) < (((cl.map keyW).length : Nat) : Int) := by omega
      obtain ⟨y, ey, gy, _⟩ := at_str (hs := hs) (i := n1 % (((cl.map keyW).length : Nat) : Int)) (Int.emod_nonneg n1 (Int.ne_of_gt hcp)) (by have z := Int.emod_lt_of_pos n1 hcp; have z2 : (cl.map keyW).length = cl.length := List.length_map _; omega) ghs
      refine ⟨_, rfl, _, rfl, _, rfl, r, _, rfl, B8.dc, n1, _, rfl, rfl, hcp, l3, _, _, _, rfl, rfl, .inl (.inl el3), ey, ?_⟩
      refine ⟨fun σ' H' => ∃ y, GoodN y ∧ H' = H8 ∧ σ' = [some (.ref a), some (.ref r), some (.int most), some (.ref l3), some (.ref L), some (.int n1), some (.int (0 + (i : Int))), some (.str y), x9, x10], ?_, ?_⟩
      · refine ⟨_, rfl, n1, 7, rfl, rfl, ⟨by decide, by decide⟩, _, 24, rfl, rfl, (by show (0 : Int) < 24; decide), rfl, _, rfl, iteD (fun _ => ?_) (fun _ => ⟨y, gy, rfl, rfl⟩)⟩
        obtain ⟨z, ez, gz, _⟩ := at_lastS (hs := hs) (fun z => by have z2 := congrArg List.length z; rw [List.length_nil] at z2; omega) ghs
        exact ⟨_, rfl, 1, rfl, l3, _, _, _, rfl, rfl, .inl (.inl el3), ez, z, gz, rfl, rfl⟩
      · rintro σ' H8' ⟨y, gy, rfl, rfl⟩
        -- the makes of that name, or 7
        refine ⟨_, rfl, n1, 168, rfl, rfl, ⟨by decide, by decide⟩, _, rfl, r, rfl, .inl ⟨_, .inl B8.dc⟩, _, rfl, fun d nd => ?_⟩
        have k9 := Kp.new (o := HO.dK []) k8.tab nd
        refine ⟨(by show (0 : Nat) ≤ sizeLine; decide), fun l9 nl9 => ?_⟩
        have k10 := Kp.new (o := HO.lst []) k9.tab nl9
        have ed10 : upd (upd H8' d (.dK [])) l9 (.lst []) d = some (.dK []) := k10.keep _ _ (tab_nn k8.tab nd) upd_same
        have k810 := k9.trans k10
        generalize upd (upd H8' d (.dK [])) l9 (.lst []) = H10 at k10 ed10 k810 ⊢
        refine ⟨ed10, [(Sum.inl 7, V.ref l9)], rfl, (by show (1 : Nat) ≤ 15; decide), ?_⟩
        have em : mergeK [] [((Sum.inl 7 : Key), V.ref l9)] = [((Sum.inl 7 : Key), V.ref l9)] := rfl
        rw [em]
        have k11 : Kp T H8' (upd H10 d (.dK [((Sum.inl 7 : Key), V.ref l9)])) := k810.set nd (tab_nn k8.tab nd)
        have ed11 : upd H10 d (.dK [((Sum.inl 7 : Key), V.ref l9)]) d = some (.dK [((Sum.inl 7 : Key), V.ref l9)]) := upd_same
        generalize upd H10 d (.dK [((Sum.inl 7 : Key), V.ref l9)]) = H11 at k11 ed11 ⊢
        clear k9 k10 k810 ed10
        have k8b := k8.trans k11
        have B11 := B.keptP k8b
        refine ⟨_, DGet.k (k := Sum.inr y) B11.dc, ?_⟩
        rw [look_val]
        -- what is sorted
        obtain ⟨da, kvs, ms, eda, hda, ekv, hlt, hne2, hmg⟩ : ∃ (da : Addr) (kvs : List (Key × V)) (ms : List Int), (((look cl y).map fun s => V.ref s.at_).getD (V.ref d)) = V.ref da ∧ H11 da = some (.dK kvs) ∧ kvs.map (·.1) = ms.map (Sum.inl : Int → Key) ∧ ms.length < 64 ∧ ms ≠ [] ∧ ∀ m ∈ ms, MakeI m := by
          cases el : look cl y with
          | none => exact ⟨d, _, [7], rfl, ed11, rfl, by decide, List.cons_ne_nil _ _, fun m hm => by rw [List.mem_singleton.mp hm]; exact ⟨by decide, by decide⟩⟩
          | some s =>
            have hs := (look_mem el).1
            refine ⟨s.at_, _, s.ents.map (·.1), rfl, (B11.sh s hs).dc, by rw [List.map_map, List.map_map]; rfl, by rw [List.length_map]; have := G.el s hs; omega, fun z => hne s hs (List.map_eq_nil_iff.mp z), fun m hm => ?_⟩
            obtain ⟨e, he, rfl⟩ := List.mem_map.mp hm
            exact G.mki s hs e he
        refine ⟨da, kvs, ms, by rw [← eda] <;> rfl, .inl hda, ekv, hlt, fun ys l hp _ nl => ?_⟩
        have k12 := Kp.new (o := HO.lst (ys.map V.int)) k8b.tab nl
        have el12 : upd H11 l (.lst (ys.map V.int)) l = some (.lst (ys.map V.int)) := upd_same
        generalize upd H11 l (.lst (ys.map V.int)) = H12 at k12 el12 ⊢
        refine ⟨n1 / 168, l, ys, rfl, .inl (.inl el12), fun z => hne2 ?_, by rw [hp.length_eq]; omega, fun m hm => hmg m (hp.mem_iff.mp hm), k12.tab, fun lo hi' tr H13 glo ghi hle k13 nr er => ?_⟩
        · rw [z] at hp
          exact List.nil_perm.mp hp
        · have kk := (k11.trans k12).trans k13
          have k813 := k8.trans kk
          refine ⟨tr, _, rfl, .inl (.inl er), rfl, _, _, rfl, _, _, rfl, rfl, ?_⟩
          have eL13 := kk.lst eL
          refine ⟨_, rfl, .inl ⟨rfl, _, .inl (.inl eL13)⟩, _, rfl, _, rfl, _, rfl, (by show (3 : Nat) ≤ sizeLine; decide), fun tp ntp => ?_⟩
          have k14 := Kp.new (o := HO.tup [.str y, .int lo, .int hi']) k813.tab ntp
          have eL14 := k14.lst eL13
          have k814 := k813.trans k14
          have el3' := (kk.trans k14).lst el3
          have tpL : tp ≠ L := fun z => by rw [z, eL13] at ntp; cases ntp
          have tpA : tp ∉ A := fun z => hA tp z (k813.free ntp)
          refine ⟨L, _, _, rfl, rfl, eL14, small1000 (by omega), ?_⟩
          refine ⟨_, _, _, _, _, acc ++ [.ref tp], ds ++ [.tuple [.str y, .int lo, .int hi']], rfl, k814.set nLH LTH, ?_, upd_same, ?_, ?_, ?_⟩
          · rw [upd_ne L3]; exact el3'
          · have hz : hide (L :: A) (upd (upd H13 tp (.tup [.str y, .int lo, .int hi'])) L (.lst (acc ++ [.ref tp]))) = hide (L :: A) (upd H13 tp (.tup [.str y, .int lo, .int hi'])) := hide_upd (List.mem_cons_self ..)
            rw [hz]
            refine dpAll_app (dpAll_kx (F := []) (.of (kk.trans k14)) (fun f hf => by cases hf) hd) (.cons (.tup (.inl (.inl (hide_of upd_same (fun z => (List.mem_cons.mp z).elim tpL tpA)))) (.cons (.str y) (.cons (.int lo) (.cons (.int hi') .nil)))) .nil)
          · intro d hd'
            rcases List.mem_append.mp hd' with hd' | hd'
            · exact hnd d hd'
            · rw [List.mem_singleton.mp hd']
              exact ⟨y, lo, hi', rfl, gy, glo.b, ghi.b, hle⟩
          · rw [List.length_append, List.length_singleton, dl]
    · rintro σ' H8 ⟨x5, x7, x8, x9, x10, acc, ds, rfl, k8, el3, eL, hd, hnd, dl⟩
      exact ⟨_, rfl, fin acc ds L H8 k8 nLH eL hd hnd (by omega)⟩
end
end Pk

set_option Elab.async false
set_option linter.all false
set_option maxRecDepth 100000
set_option maxHeartbeats 4000000
namespace Pk
open PySem PySem.Spec PyProof.Rows L2
/-! ### boxes that may be locked -/
structure BoxR (K : PySem.W.Frag) (A : List Addr) (H : Hp) (D : Addr) (st : List Shelf) : Prop where
  dc : Rd H D (.dK (st.map keyW))
  sc : ∀ s ∈ st, Rd H s.at_ (.dK (s.ents.map entK))
  dp : ∀ s ∈ st, ∀ e ∈ s.ents, Dp K (hide A H) (.ref e.2.1) (.list e.2.2)
  sn : ∀ s ∈ st, (s.ents.map (·.1)).Nodup
  nd : (st.map (·.ware)).Nodup
  na : (D :: st.map (·.at_)).Nodup
theorem BoxR.of {K : PySem.W.Frag} {A : List Addr} {H : Hp} {D : Addr} {st : List Shelf} (B : BoxOk K A H D st) : BoxR K A H D st := ⟨.inl B.dc, fun s hs => .inl (B.sh s hs).dc, fun s hs => (B.sh s hs).dp, fun s hs => (B.sh s hs).nd, B.nd, B.na⟩
theorem rd_kept {T a : Addr} {H H' : Hp} {u : HO} (k : Kp T H H') (h : Rd H a u) (n : ∀ ps, u ≠ .tbl ps) : Rd H' a u := by
  rcases h with h | ⟨o, h⟩
  · exact .inl (k.keep _ _ (tab_ne k.t0 h n) h)
  · exact .inr ⟨o, k.keep _ _ (tab_ne k.t0 h fun _ z => by cases z) h⟩
theorem BoxR.keptP {K : PySem.W.Frag} {T : Addr} {A : List Addr} {H H' : Hp} {D : Addr} {st : List Shelf} (B : BoxR K A H D st) (k : Kp T H H') : BoxR K A H' D st :=
  ⟨rd_kept k B.dc (fun _ z => by cases z), fun s hs => rd_kept k (B.sc s hs) (fun _ z => by cases z), fun s hs e he => (Kx.of (A := []) k).dpA (fun f hf => by cases hf) (B.dp s hs e he), B.sn, B.nd, B.na⟩
theorem rd_lock {a d : Addr} {H : Hp} {u v : HO} {od : Obj} (h : Rd H a u) (hd : H d = some v) (nf : ∀ o x, v ≠ .frz o x) : Rd (upd H d (.frz od v)) a u := by
  by_cases e : a = d
  · subst e
    rcases h with h | ⟨o, h⟩
    · rw [hd] at h
      cases h
      exact .inr ⟨od, upd_same⟩
    · rw [hd] at h
      exact absurd (Option.some.inj h) (nf o u)
  · rcases h with h | ⟨o, h⟩
    · exact .inl (by rw [upd_ne e]; exact h)
    · exact .inr ⟨o, by rw [upd_ne e]; exact h⟩
theorem dp_swap {K : PySem.W.Frag} {A : List Addr} {H : Hp} {d : Addr} {o' : HO} (hd : ∀ o, H d = some o → isSeqO o = false) {v : V} {x : PyData} (h : Dp K (hide A H) v x) : Dp K (hide A (upd H d o')) v x :=
  dp_mono (fun b o hs e => by
    obtain ⟨e1, e2⟩ := hide_some e
    refine hide_of ?_ e2
    rw [upd_ne (fun z => by rw [z] at e1; rw [hd o e1] at hs; cases hs)]
    exact e1) x v h
theorem BoxR.lock {K : PySem.W.Frag} {A : List Addr} {H : Hp} {D d : Addr} {kvs : List (Key × V)} {st : List Shelf} {od : Obj} (B : BoxR K A H D st) (hd : H d = some (.dK kvs)) : BoxR K A (upd H d (.frz od (.dK kvs))) D st :=
  ⟨rd_lock B.dc hd (fun _ _ z => by cases z), fun s hs => rd_lock (B.sc s hs) hd (fun _ _ z => by cases z), fun s hs e he => dp_swap (fun o z => by rw [hd] at z; cases z; rfl) (B.dp s hs e he), B.sn, B.nd, B.na⟩
theorem BoxOk.swap {K : PySem.W.Frag} {A : List Addr} {H : Hp} {D d : Addr} {o' : HO} {st : List Shelf} (B : BoxOk K A H D st) (hd : ∀ o, H d = some o → isSeqO o = false) (hf : d ∉ foot D st) : BoxOk K A (upd H d o') D st := by
  refine ⟨?_, fun s hs => ⟨?_, fun e he => dp_swap hd ((B.sh s hs).dp e he), (B.sh s hs).nd⟩, B.nd, B.na⟩
  · rw [upd_ne (fun z => hf (by rw [← z]; exact List.mem_cons_self ..))]
    exact B.dc
  · rw [upd_ne (fun z => hf (by rw [← z]; exact List.mem_cons_of_mem _ (List.mem_map.mpr ⟨s, hs, rfl⟩)))]
    exact (B.sh s hs).dc
theorem ShopAt.swap {K : PySem.W.Frag} {C : Addr} {A : List Addr} {H : Hp} {p D d : Addr} {o' : HO} {st : List Shelf} (S : ShopAt K C A H p D st) (hd : ∀ o, H d = some o → isSeqO o = false) (hp : d ≠ p) (hf : d ∉ foot D st) : ShopAt K C A (upd H d o') p D st := by
  obtain ⟨dx, e⟩ := S.ob
  exact ⟨⟨dx, by rw [upd_ne hp.symm]; exact e⟩, S.bx.swap hd hf, S.ne⟩
theorem Kp.both {T d : Addr} {H H' : Hp} {o : HO} (k : Kp T H H') (n : d ≠ T) : Kp T (L2.upd H d o) (L2.upd H' d o) := by
  refine ⟨tab_upd k.t0 n, tab_upd k.tab n, fun b u hb e => ?_⟩
  by_cases h : b = d
  · rw [h, upd_same] at e
    rw [h, upd_same]
    exact e
  · rw [upd_ne h] at e
    rw [upd_ne h]
    exact k.keep b u hb e
theorem cell_rd {K : PySem.W.Frag} {A : List Addr} {H : Hp} {D : Addr} {st : List Shelf} (B : BoxR K A H D st) (w : Str) : DGet H D (.str w) ((look st w).map fun s => V.ref s.at_) := .inl ⟨_, Sum.inr w, B.dc, rfl, (look_val w st).symm⟩
theorem ent_rd {K : PySem.W.Frag} {A : List Addr} {H : Hp} {D : Addr} {st : List Shelf} {s : Shelf} (B : BoxR K A H D st) (hs : s ∈ st) (m : Int) : DGet H s.at_ (.int m) ((lookE s.ents m).map fun e => V.ref e.2.1) := .inl ⟨_, Sum.inl m, B.sc s hs, rfl, (lookE_val m s.ents).symm⟩
theorem new_foot {H : Hp} {x dx D : Addr} {C : Addr} (nD : (upd (upd H dx (.own x)) x (.ins C dx [])) D = none) : H D = none := by
  have z := nD
  have z2 : D ≠ x := fun e => by rw [e, upd_same] at z; cases z
  rw [upd_ne z2] at z
  have z3 : D ≠ dx := fun e => by rw [e, upd_same] at z; cases z
  rw [upd_ne z3] at z
  exact z
section
variable {K : PySem.W.Frag} {mg : Str → Option Value}
/-! ### a put that is not refused -/
theorem put_ok {C T BW BM BN TW FU p D a : Addr} {A : List Addr} {H : Hp} {st : List Shelf} {x : Str} {m : Int} {xs : List V} {ds : List PyData} {Q : VK} {E : XK} (S : ShopAt K C A H p D st) (hx : GoodN x) (hm : makeB (.int m) = true) (hl : SqL K H a xs) (hds : DpAll K (hide A H) xs ds) (hnd : ∀ d ∈ ds, ND d)
    (may : mayB x (.list ds) = true) (ht : GxR.TabG H T) (h100 : st.length ≤ 100) (hA : ∀ y ∈ A, H y ≠ none) (hh : hasB st (.str x) (.int m) = false) (hp : placeB st x = true)
    (q : ∀ H' st', ShopAt K C A H' p D st' → (∀ v, dataOf st' v = if v = x then dataOf st x ++ [(m, ds)] else dataOf st v) → Kx T (foot D st) H H' → (∀ f ∈ foot D st', f ∈ foot D st ∨ H f = none) → Q .non H') :
    spPut K C T BW BM BN TW FU [.ref p, .str x, .int m, .ref a] H Q E := by
  have h6 := mayB_len may
  refine ⟨A, p, D, st, _, _, _, .str x, .int m, .list ds, rfl, S, .str x, hx.2, .int m, .lst hl (DqAll.of (dpAll_show hds)), okL_list (fun d hd => ND.okT (hnd d hd)) (by omega), ht, hA, h100, fun z => ?_, fun _ z => ?_, fun y e _ _ z => ?_, fun _ _ _ _ _ z => ?_, fun _ e _ _ _ _ z => ?_, fun x' m' e1 e2 _ _ _ _ _ => ?_⟩
  · rw [hx.1] at z; cases z
  · rw [hm] at z; cases z
  · cases e; rw [may] at z; cases z
  · rw [hh] at z; cases z
  · cases e; rw [hp] at z; cases z
  · cases e1; cases e2
    exact ⟨a, xs, ds, rfl, rfl, hl, hds, q⟩
theorem put_readN {C T BW BM BN TW FU p D : Addr} {A : List Addr} {H : Hp} {st : List Shelf} {x : Str} {m : Int} {ds : List PyData} {σ : L2.St} {Q : VK} {ta tb tc : TE} (S : ShopAt K C A H p D st) (hx : GoodN x) (hm : makeB (.int m) = true) (hnd : ∀ d ∈ ds, ND d) (may : mayB x (.list ds) = true) (ht : GxR.TabG H T) (h100 : st.length ≤ 100)
    (hA : ∀ y ∈ A, H y ≠ none) (hh : hasB st (.str x) (.int m) = false) (hp : placeB st x = true) {i : Nat} (hi : σ[i]? = some (some (.ref p))) (ha : ∀ Q : VK, Q (.str x) H → ta σ H Q) (hb : ∀ Q : VK, Q (.int m) H → tb σ H Q)
    (hc : ∀ Q : VK, (∀ a xs H1, Kp T H H1 → SqL K H1 a xs → DpAll K (hide A H1) xs ds → Q (.ref a) H1) → tc σ H Q)
    (q : ∀ H' st', ShopAt K C A H' p D st' → (∀ v, dataOf st' v = if v = x then dataOf st x ++ [(m, ds)] else dataOf st v) → Kx T (foot D st) H H' → (∀ f ∈ foot D st', f ∈ foot D st ∨ H f = none) → Q .non H') :
    tMeth C "put" (spPut K C T BW BM BN TW FU) [] E0 (tVar i) (tCons ta (tCons tb (tCons tc tNil))) σ H Q := by
  obtain ⟨dx, o⟩ := S.ob
  refine ⟨_, hi, p, dx, _, rfl, o, flS_no D (by decide +kernel), ha _ (hb _ (hc _ fun a xs H1 k1 hl hds => ?_))⟩
  exact put_ok (S.keptP k1) hx hm hl hds hnd may k1.tab h100 (fun y hy => k1.dom (hA y hy)) hh hp fun H' st' S' d' k' f' => q H' st' S' d' ((Kx.of k1).trans k') fun f hf => by
    rcases f' f hf with z | z
    · exact .inl z
    · exact .inr (k1.free z)
end
end Pk

set_option Elab.async false
set_option linter.all false
set_option maxRecDepth 100000
set_option maxHeartbeats 4000000
namespace Pk
open PySem PySem.Spec PyProof.Rows L2
section
variable {P : Program} {w : World} {K : PySem.W.Frag} {mg : Str → Option Value} {base : Heap}
def lShopN : List Str := ["_law_rows_here", "_law_shop_here", "_law_ware", "_law_make"]
theorem scLShop : FnScope lShopN ["_law_rows_here"] (defScope sLShop) := ⟨rfl, rfl, rfl, by decide +kernel, rfl, by decide +kernel, by decide +kernel⟩
def spLShop (K : PySem.W.Frag) (C T : Addr) : Sp := fun vs H Q _ => ∃ (A : List Addr) (r : Addr) (cl : List Shelf) (mm : Nat), vs = [.ref r] ∧ BoxOk K A H r cl ∧ RowsG mm cl ∧ mm ≤ 8 ∧ (∀ y ∈ A, H y ≠ none) ∧ GxR.TabG H T ∧
  ∀ p D st H', Kp T H H' → ShopAt K C A H' p D st → (∀ v, dataOf st v = dataOf cl v) → (∀ f ∈ foot D st, H f = none) → H p = none → Q (.ref p) H'
/-- what of the rows is in the shop yet: n rows, and of the next one k makes -/
def PartD (cl : List Shelf) (n k : Nat) (v : Str) : List (Int × List PyData) := dataOf (cl.take n) v ++ ((cl[n]?.map fun s => if s.ware = v then (s.ents.map entD).take k else []).getD [])
theorem data_take {cl : List Shelf} (nd : (cl.map (·.ware)).Nodup) {n : Nat} {s : Shelf} (h : cl[n]? = some s) (v : Str) : dataOf (cl.take (n + 1)) v = dataOf (cl.take n) v ++ (if s.ware = v then s.ents.map entD else []) := by
  have e : cl.take (n + 1) = cl.take n ++ [s] := by rw [List.take_succ, h]; rfl
  have fresh : ∀ t ∈ cl.take n, t.ware ≠ s.ware := fun t ht z => by
    have h2 : ((cl.take n ++ [s]).map (·.ware)).Nodup := by rw [← e]; exact List.Sublist.nodup (List.Sublist.map _ (List.take_sublist _ _)) nd
    rw [List.map_append, List.nodup_append] at h2
    exact h2.2.2 _ (List.mem_map.mpr ⟨t, ht, rfl⟩) _ (List.mem_singleton.mpr rfl) z
  rw [e]
  unfold dataOf look
  rw [List.find?_append]
  by_cases hv : s.ware = v
  · have e0 : (cl.take n).find? (fun t => decide (t.ware = v)) = none := by
      rw [List.find?_eq_none]
      intro t ht z
      exact fresh t ht (by rw [hv]; exact of_decide_eq_true z)
    rw [e0, if_pos hv, Option.none_or, List.find?_cons_of_pos (by exact decide_eq_true hv)]
    rfl
  · rw [if_neg hv, List.append_nil, List.find?_cons_of_neg (by rw [decide_eq_true_iff]; exact hv), List.find?_nil, Option.or_none]
theorem PartD_zero (cl : List Shelf) (n : Nat) (v : Str) : PartD cl n 0 v = dataOf (cl.take n) v := by
  unfold PartD
  cases cl[n]? with
  | none => exact List.append_nil _
  | some s =>
    show _ ++ (if s.ware = v then [] else []) = _
    by_cases h : s.ware = v
    · rw [if_pos h, List.append_nil]
    · rw [if_neg h, List.append_nil]
theorem PartD_full {cl : List Shelf} (nd : (cl.map (·.ware)).Nodup) {n : Nat} {s : Shelf} (h : cl[n]? = some s) (v : Str) : PartD cl n s.ents.length v = PartD cl (n + 1) 0 v := by
  rw [PartD_zero, data_take nd h]
  unfold PartD
  rw [h]
  show _ ++ (if s.ware = v then (s.ents.map entD).take s.ents.length else []) = _
  have e : (s.ents.map entD).take s.ents.length = s.ents.map entD := List.take_of_length_le (by rw [List.length_map]; exact Nat.le_refl _)
  rw [e]
theorem PartD_step {cl : List Shelf} {n k : Nat} {s : Shelf} (h : cl[n]? = some s) {e : Int × Addr × List PyData} (he : s.ents[k]? = some e) (v : Str) : PartD cl n (k + 1) v = if v = s.ware then PartD cl n k s.ware ++ [(e.1, e.2.2)] else PartD cl n k v := by
  unfold PartD
  rw [h]
  show _ ++ (if s.ware = v then (s.ents.map entD).take (k + 1) else []) = if v = s.ware then (_ ++ (if s.ware = s.ware then (s.ents.map entD).take k else [])) ++ _ else _ ++ (if s.ware = v then (s.ents.map entD).take k else [])
  by_cases hv : v = s.ware
  · rw [if_pos hv, if_pos hv.symm, if_pos rfl, hv, List.append_assoc]
    congr 1
    rw [List.take_succ, List.getElem?_map, he]
    rfl
  · rw [if_neg hv, if_neg (fun z => hv z.symm), if_neg (fun z => hv z.symm)]
theorem data_fresh {cl : List Shelf} (nd : (cl.map (·.ware)).Nodup) {n : Nat} {s : Shelf} (h : cl[n]? = some s) : dataOf (cl.take n) s.ware = [] := by
  unfold dataOf
  cases e : look (cl.take n) s.ware with
  | none => rfl
  | some t =>
    obtain ⟨h1, h2⟩ := look_mem e
    obtain ⟨j, hj⟩ := List.mem_iff_getElem?.mp h1
    have hjn : j < n := by
      have := (List.getElem?_eq_some_iff.mp hj).1
      rw [List.length_take] at this
      omega
    rw [List.getElem?_take, if_pos hjn] at hj
    have e1 : (cl.map (·.ware))[j]? = some s.ware := by rw [List.getElem?_map, hj, ← h2]; rfl
    have e2 : (cl.map (·.ware))[n]? = some s.ware := by rw [List.getElem?_map, h]; rfl
    exact absurd (nd_idx nd e1 e2) (by omega)
/-- wares with makes are wares of the rows -/
theorem part_len {st cl : List Shelf} {n k : Nat} (nd : (st.map (·.ware)).Nodup) (ne : ∀ s ∈ st, s.ents ≠ []) (h : ∀ v, dataOf st v = PartD cl n k v) : ∀ s ∈ st, s.ware ∈ (cl.take (n + 1)).map (·.ware) := fun s hs => by
  have z := data_ne nd hs (ne s hs)
  rw [h] at z
  unfold PartD at z
  by_cases h1 : dataOf (cl.take n) s.ware = []
  · rw [h1, List.nil_append] at z
    cases e : cl[n]? with
    | none => rw [e] at z; exact absurd rfl z
    | some t =>
      rw [e] at z
      have z : (if t.ware = s.ware then (t.ents.map entD).take k else []) ≠ [] := z
      by_cases h2 : t.ware = s.ware
      · rw [List.take_succ, e, List.map_append]
        exact List.mem_append_right _ (List.mem_singleton.mpr h2.symm)
      · rw [if_neg h2] at z; exact absurd rfl z
  · obtain ⟨t, ht⟩ := look_cons h1
    obtain ⟨g1, g2⟩ := look_mem ht
    exact List.mem_map.mpr ⟨t, (List.take_sublist_take_left (Nat.le_succ n)).subset g1, g2⟩
theorem ok_lshop {f C T fI fP BW BM BN TW FU : Addr} {fd fdI fdP : FuncData} (F : Fun K "_law_shop" "_law_shop" sLShop f fd) (X : ShopT K mg C) (gC_Shop : mg "Shop" = some (.ref C)) (M_Shop : Mk K C fI)
    (GI : FnOk P w K mg base CX0 1 fI fdI ["self"] (spInit C)) (bI : Binds K fdI ["self"] [])
    (GP : FnOk P w K mg base (L2N.CX P w) 5 fP fdP ["self", "ware", "make", "needs"] (spPut K C T BW BM BN TW FU)) (bP : Binds K fdP ["self", "ware", "make", "needs"] []) (mP : Meth K C "put" fP)
    (y_list : mg "list" = none) : FnOk P w K mg base CX0 6 f fd ["_law_rows_here"] (spLShop K C T) := by
  refine F.ok scLShop (fun vs H Q E h => ?_) (fun cdv A0 outer s H vs Q E hr h => ?_)
  · obtain ⟨A, r, cl, mm, rfl, _⟩ := h
    rfl
  · obtain ⟨A, r, cl, mm, rfl, B, G, hmm, hA, ht, fin⟩ := h
    have hu := hu_of hr
    refine ⟨_, (pss_cons (ps_set (i := 1) scLShop.nd rfl (by first | exact .inl rfl | exact .inr rfl) (pe_make0 M_Shop GI (hr.mono (by decide)) (by rfl) gC_Shop bI .nil pass0))
      (pss_cons (ps_lock (ps_for PassesOwn.never rfl (pi_keys (pv 0)) (pg_name (i := 2) scLShop.nd rfl (by first | exact .inl rfl | exact .inr rfl)) (pss_one (ps_lock (ps_for PassesOwn.never rfl (pi_keys (pe_dget hu (pv 0) (pv 2) (fun _ _ => rfl))) (pg_name (i := 3) scLShop.nd rfl (by first | exact .inl rfl | exact .inr rfl)) (pss_one (ps_expr (pe_meth (E := E0) (pv 1) X.cl mP GP (hr.mono (by decide)) bP .nil passN (pa_cons (pv 2) (pa_cons (pv 3) (pa_cons (pe_callTy call_list_of (by rfl) y_list boot_list (pa_cons (pe_dget hu (pe_dget hu (pv 0) (pv 2) (fun _ _ => rfl)) (pv 3) (fun _ _ => rfl)) pa_nil)) pa_nil)))))))))))
      (pss_one (ps_ret (pv 1))))), ?_⟩
    have h12 := G.len
    refine fun x0 dx0 nx0 ndx0 ne0 => ⟨x0, dx0, rfl, upd_same, fun D nD => ⟨rfl, ?_⟩⟩
    obtain ⟨k1, S0, _⟩ := new_shop (K := K) ht nx0 ndx0 ne0 nD
    have nDH := new_foot nD
    have S1 := S0 A
    generalize upd (upd (upd (upd H dx0 (.own x0)) x0 (.ins C dx0 [])) D (.dK [])) x0 (.ins C dx0 (flS D)) = H1 at k1 S1 ⊢
    clear S0 nD
    have B1 := B.keptP k1
    have rT := B.foot_ne ht r (List.mem_cons_self ..)
    have rx : r ≠ x0 := fun z => by have := B.dc; rw [z, nx0] at this; cases this
    have rD : r ≠ D := fun z => by have := B.dc; rw [z, nDH] at this; cases this
    refine ⟨r, _, B1.dc, True.intro, fun od => ?_⟩
    have kb : Kp T (upd H r (.frz od (.dK (cl.map keyW)))) (upd H1 r (.frz od (.dK (cl.map keyW)))) := Kp.both k1 rT
    have S2 := S1.swap (o' := .frz od (.dK (cl.map keyW))) (fun o z => by rw [B1.dc] at z; cases z; rfl) rx (fun z => by rw [List.mem_singleton.mp z] at rD; exact rD rfl)
    have eb : upd H r (.frz od (.dK (cl.map keyW))) r = some (.frz od (.dK (cl.map keyW))) := upd_same
    have BR := (BoxR.of B).lock (od := od) B.dc
    have un : ∀ H', Kp T (upd H r (.frz od (.dK (cl.map keyW)))) H' → Kp T H (upd H' r (.dK (cl.map keyW))) := fun H' k => unlockP ht B.dc rT k
    have fr0 : ∀ f, H f = none → upd H r (.frz od (.dK (cl.map keyW))) f = none := fun f hf => by
      rw [upd_ne (fun z => by rw [z, B.dc] at hf; cases hf)]
      exact hf
    have frb : ∀ f, upd H r (.frz od (.dK (cl.map keyW))) f = none → H f = none := fun f hf => by
      rw [upd_ne (fun z => by rw [z, upd_same] at hf; cases hf)] at hf
      exact hf
    have dcb : ∀ s ∈ cl, upd H r (.frz od (.dK (cl.map keyW))) s.at_ = some (.dK (s.ents.map entK)) := fun s hs => by
      have na := B.na
      rw [List.nodup_cons] at na
      rw [upd_ne (fun z => na.1 (by rw [← z]; exact List.mem_map.mpr ⟨s, hs, rfl⟩))]
      exact (B.sh s hs).dc
    have hAb : ∀ y ∈ A, upd H r (.frz od (.dK (cl.map keyW))) y ≠ none := fun y hy => by
      by_cases z : y = r
      · rw [z, upd_same]; exact fun z => by cases z
      · rw [upd_ne z]; exact hA y hy
    generalize upd H r (.frz od (.dK (cl.map keyW))) = HB at kb eb BR un fr0 frb dcb hAb ⊢
    generalize upd H1 r (.frz od (.dK (cl.map keyW))) = H2 at kb S2 ⊢
    have d0 : ∀ v, dataOf [] v = PartD cl 0 0 v := fun v => by rw [PartD_zero] <;> rfl
    refine ⟨_, rfl, r, od, rfl, .inl ⟨_, kb.keep _ _ rT eb, for_it walk_keys (fun i σ' H' => ∃ (x2 x3 : Option V) (st : List Shelf), σ' = [some (.ref r), some (.ref x0), x2, x3] ∧ Kp T HB H' ∧ ShopAt K C A H' x0 D st ∧ (∀ v, dataOf st v = PartD cl i 0 v) ∧ ∀ f ∈ foot D st, H f = none)
      ⟨none, none, [], rfl, kb, S2, d0, fun f hf => by rw [List.mem_singleton.mp hf]; exact nDH⟩ (fun i σ' H' _ ⟨_, _, _, _, kk, _⟩ => kk.keep _ _ rT eb) ?_ ?_⟩⟩
    · rintro i v σ' H3 H3' hi ⟨x2, x3, st, rfl, k3, S3, d3, f3⟩ ⟨rfl, kk0, vv, hk, rfl⟩
      have hil : i < cl.length := by rw [List.length_map] at hi; exact hi
      rw [List.getElem?_map, List.getElem?_eq_getElem hil] at hk
      have hk := Option.some.inj hk
      have ek : kk0 = Sum.inr cl[i].ware := (congrArg Prod.fst hk).symm
      subst ek
      have hs := List.getElem_mem hil
      have es : cl[i]? = some cl[i] := List.getElem?_eq_getElem hil
      generalize cl[i] = s at hk hs es ⊢
      show tLock _ _ _ _
      have sT := B.foot_ne ht s.at_ (List.mem_cons_of_mem _ (List.mem_map.mpr ⟨s, hs, rfl⟩))
      have lk : look cl s.ware = some s := look_of B.nd hs rfl
      have ed := k3.keep _ _ sT (dcb s hs)
      refine ⟨s.at_, _, ed, True.intro, fun od2 => ?_⟩
      have sH : H s.at_ ≠ none := by rw [(B.sh s hs).dc]; exact fun z => by cases z
      have sx : s.at_ ≠ x0 := fun z => sH (by rw [z]; exact nx0)
      have S4 := S3.swap (o' := .frz od2 (.dK (s.ents.map entK))) (fun o z => by rw [ed] at z; cases z; rfl) sx (fun z => sH (f3 _ z))
      have kb2 : Kp T (upd HB s.at_ (.frz od2 (.dK (s.ents.map entK)))) (upd H3' s.at_ (.frz od2 (.dK (s.ents.map entK)))) := Kp.both k3 sT
      have eb2 : upd HB s.at_ (.frz od2 (.dK (s.ents.map entK))) s.at_ = some (.frz od2 (.dK (s.ents.map entK))) := upd_same
      have BR2 := BR.lock (od := od2) (dcb s hs)
      have un2 : ∀ H', Kp T (upd HB s.at_ (.frz od2 (.dK (s.ents.map entK)))) H' → Kp T HB (upd H' s.at_ (.dK (s.ents.map entK))) := fun H' k => unlockP k3.t0 (dcb s hs) sT k
      have fr2 : ∀ f, H f = none → upd HB s.at_ (.frz od2 (.dK (s.ents.map entK))) f = none := fun f hf => by
        rw [upd_ne (fun z => sH (by rw [← z]; exact hf))]
        exact fr0 f hf
      have frb2 : ∀ f, upd HB s.at_ (.frz od2 (.dK (s.ents.map entK))) f = none → H f = none := fun f hf => by
        rw [upd_ne (fun z => by rw [z, upd_same] at hf; cases hf)] at hf
        exact frb f hf
      have hA2 : ∀ y ∈ A, upd HB s.at_ (.frz od2 (.dK (s.ents.map entK))) y ≠ none := fun y hy => by
        by_cases z : y = s.at_
        · rw [z, upd_same]; exact fun z => by cases z
        · rw [upd_ne z]; exact hAb y hy
      generalize upd HB s.at_ (.frz od2 (.dK (s.ents.map entK))) = HB2 at kb2 eb2 BR2 un2 fr2 frb2 hA2 ⊢
      generalize upd H3' s.at_ (.frz od2 (.dK (s.ents.map entK))) = H4 at kb2 S4 ⊢
      have gw := G.w s hs
      have c1 := cell_rd (BR2.keptP kb2) s.ware
      rw [lk] at c1
      refine ⟨_, rfl, _, rfl, r, _, rfl, c1, s.at_, od2, rfl, .inl ⟨_, kb2.keep _ _ sT eb2, for_it walk_keys (fun j σ' H' => ∃ (x3 : Option V) (st : List Shelf), σ' = [some (.ref r), some (.ref x0), some (.str s.ware), x3] ∧ Kp T HB2 H' ∧ ShopAt K C A H' x0 D st ∧ (∀ v, dataOf st v = PartD cl i j v) ∧ ∀ f ∈ foot D st, H f = none)
        ⟨x3, st, rfl, kb2, S4, d3, f3⟩ (fun j σ' H' _ ⟨_, _, _, kk, _⟩ => kk.keep _ _ sT eb2) ?_ ?_⟩⟩
      · rintro j v σ' H5 H5' hj ⟨x3, st, rfl, k5, S5, d5, f5⟩ ⟨rfl, kk1, vv, hk2, rfl⟩
        have hjl : j < s.ents.length := by rw [List.length_map] at hj; exact hj
        rw [List.getElem?_map, List.getElem?_eq_getElem hjl] at hk2
        have hk2 := Option.some.inj hk2
        have ek2 : kk1 = Sum.inl s.ents[j].1 := (congrArg Prod.fst hk2).symm
        subst ek2
        have he := List.getElem_mem hjl
        have ee : s.ents[j]? = some s.ents[j] := List.getElem?_eq_getElem hjl
        generalize s.ents[j] = e at hk2 he ee ⊢
        have gm := G.mki s hs e he
        have B5 := BR2.keptP k5
        have c2 := cell_rd B5 s.ware
        rw [lk] at c2
        have c3 := ent_rd B5 hs e.1
        rw [lookE_of (B.sh s hs).nd he] at c3
        have hd := B5.dp s hs e he
        -- not there yet
        have dcur : dataOf st s.ware = (s.ents.map entD).take j := by
          rw [d5]
          unfold PartD
          rw [es, data_fresh B.nd es]
          show (if s.ware = s.ware then _ else []) = _
          rw [if_pos rfl]
        have hnot : e.1 ∉ (dataOf st s.ware).map (·.1) := by
          rw [dcur, ← List.map_take, List.map_map]
          intro z
          obtain ⟨x, hx, ex⟩ := List.mem_map.mp z
          obtain ⟨t, ht2⟩ := List.mem_iff_getElem?.mp hx
          have htj : t < j := by
            have := (List.getElem?_eq_some_iff.mp ht2).1
            rw [List.length_take] at this
            omega
          rw [List.getElem?_take, if_pos htj] at ht2
          have e1 : (s.ents.map (·.1))[t]? = some e.1 := by rw [List.getElem?_map, ht2, ← ex]; rfl
          have e2 : (s.ents.map (·.1))[j]? = some e.1 := by rw [List.getElem?_map, ee]; rfl
          exact absurd (nd_idx (B.sh s hs).nd e1 e2) (by omega)
        have hwin := part_len S5.bx.nd S5.ne d5
        have hsl : st.length ≤ i + 1 := by
          have z := sub_len S5.bx.nd (fun y hy => by obtain ⟨t, ht2, rfl⟩ := List.mem_map.mp hy; exact hwin t ht2)
          rw [List.length_map, List.length_map, List.length_take] at z
          omega
        have hplace : placeB st s.ware = true := by
          unfold placeB
          cases el : look st s.ware with
          | some s' =>
            have z := look_data el
            rw [dcur] at z
            have z2 := congrArg List.length z
            rw [List.length_map, List.length_take, List.length_map] at z2
            have := G.el s hs
            exact decide_eq_true (by omega)
          | none =>
            refine decide_eq_true ?_
            have sub : ∀ y ∈ s.ware :: st.map (·.ware), y ∈ (cl.take (i + 1)).map (·.ware) := fun y hy => by
              rcases List.mem_cons.mp hy with rfl | hy
              · rw [List.take_succ, es, List.map_append]
                exact List.mem_append_right _ (List.mem_singleton.mpr rfl)
              · obtain ⟨t, ht2, rfl⟩ := List.mem_map.mp hy
                exact hwin t ht2
            have nn : (s.ware :: st.map (·.ware)).Nodup := List.nodup_cons.mpr ⟨fun z => by
              obtain ⟨t, ht2, e2⟩ := List.mem_map.mp z
              exact look_none el t ht2 e2, S5.bx.nd⟩
            have z := sub_len nn sub
            rw [List.length_cons, List.length_map, List.length_map, List.length_take] at z
            omega
        refine put_readN (A := A) (st := st) (x := s.ware) (m := e.1) (ds := e.2.2) (i := 1) S5 gw gm.b (G.nd s hs e he) (G.may s hs e he) k5.tab (by omega) (fun y hy => k5.dom (hA2 y hy)) (by rw [hasB_keys, decide_eq_false hnot, Bool.and_false]) hplace rfl (fun Q z => ⟨_, rfl, z⟩) (fun Q z => ⟨_, rfl, z⟩) (fun Q z => ?_) fun H6 st6 S6 d6 k6 f6 => ?_
        · cases hd with
          | @lst _ xs _ hA1 hA2 =>
            refine ⟨_, rfl, _, rfl, r, _, rfl, c2, _, rfl, s.at_, _, rfl, c3, _, xs, rfl, .inl (seq_show hA1), fun l nl => ?_⟩
            have kl := Kp.new (o := HO.lst xs) k5.tab nl
            refine z l xs _ kl (.inl (.inl upd_same)) (dpAll_kx (F := []) (.of kl) (fun f hf => by cases hf) hA2)
        · have f6H : ∀ f ∈ foot D st6, H f = none := fun f hf => by
            rcases f6 f hf with z | z
            · exact f5 f z
            · exact frb2 f (k5.free z)
          refine ⟨_, st6, rfl, Kx.dropNews (fun f hf => fr2 f (f5 f hf)) k5 k6, S6, fun v => ?_, f6H⟩
          rw [d6, PartD_step es ee, d5, d5]
      · rintro σ' H5 ⟨x3, st, rfl, k5, S5, d5, f5⟩
        have e5 := k5.keep _ _ sT eb2
        refine ⟨e5, _, _, st, rfl, un2 H5 k5, S5.swap (fun o z => by rw [e5] at z; cases z; rfl) sx (fun z => sH (f5 _ z)), fun v => ?_, f5⟩
        rw [d5, List.length_map]
        exact PartD_full B.nd es v
    · rintro σ' H3 ⟨x2, x3, st, rfl, k3, S3, d3, f3⟩
      have e3 := k3.keep _ _ rT eb
      refine ⟨e3, _, rfl, fin x0 D st _ (un H3 k3) (S3.swap (fun o z => by rw [e3] at z; cases z; rfl) rx (fun z => by have := f3 _ z; rw [B.dc] at this; cases this)) (fun v => ?_) f3 nx0⟩
      rw [d3, List.length_map, PartD_zero, List.take_of_length_le (Nat.le_refl _)]
end
end Pk

set_option Elab.async false
set_option linter.all false
set_option maxRecDepth 100000
set_option maxHeartbeats 4000000
namespace Pk
open PySem PySem.Spec PyProof.Rows L2
theorem seq0_ix {n : Nat} (h : 0 < n) : seqIndex? 0 n = some 0 := by
  unfold seqIndex?
  simp [h]
def lenAt (σ : L2.St) (i : Nat) (H : Hp) : Nat := match σ[i]? with
  | some (some (V.ref b)) => (match H b with | some (.lst xs) => xs.length | _ => 0)
  | _ => 0
theorem lenAt_of {σ : L2.St} {i : Nat} {H : Hp} {b : Addr} {xs : List V} (h : σ[i]? = some (some (.ref b))) (e : H b = some (.lst xs)) : lenAt σ i H = xs.length := by
  unfold lenAt
  rw [h]
  show (match H b with | some (.lst xs) => xs.length | _ => 0) = _
  rw [e]
theorem shaped_strs {l : List Str} (h : ∀ y ∈ l, GoodN y) : SeqAt.shaped (.list (l.map PyData.str)) = true := (shaped_flat fun d hd => by
  obtain ⟨y, hy, rfl⟩ := List.mem_map.mp hd
  exact ⟨okS_ok (h y hy).2, rfl⟩).1
theorem eqv_strs : ∀ a b : List Str, PyData.eqv (.list (a.map .str)) (.list (b.map .str)) = decide (a = b)
  | [], [] => rfl
  | [], _ :: _ => rfl
  | _ :: _, [] => rfl
  | x :: r, y :: t => by
    have ih := eqv_strs r t
    have e1 : PyData.eqv (.list ((x :: r).map .str)) (.list ((y :: t).map .str)) = (PyData.eqv (.str x) (.str y) && PyData.eqv (.list (r.map .str)) (.list (t.map .str))) := rfl
    have e2 : PyData.eqv (.str x) (.str y) = (x == y) := rfl
    rw [e1, e2, ih]
    by_cases h1 : x = y
    · by_cases h2 : r = t
      · rw [h1, h2, beq_self_eq_true, decide_eq_true rfl, decide_eq_true rfl] <;> rfl
      · rw [h1, decide_eq_false h2, decide_eq_false (fun z => h2 (List.cons.inj z).2), Bool.and_false]
    · rw [beq_false_of_ne h1, decide_eq_false (fun z => h1 (List.cons.inj z).1)] <;> rfl
/-- the needs of a make that the rows have -/
theorem row_need {cl : List Shelf} {y : Str} {m : Int} (h : m ∈ (dataOf cl y).map (·.1)) : ∃ s e, look cl y = some s ∧ lookE s.ents m = some e ∧ needsD (dataOf cl) y m = e.2.2 := by
  obtain ⟨x, hx, rfl⟩ := List.mem_map.mp h
  obtain ⟨s, hs⟩ := look_cons (fun z => by rw [z] at hx; cases hx)
  have e0 := look_data hs
  rw [e0] at hx
  obtain ⟨e, he, rfl⟩ := List.mem_map.mp hx
  cases el : lookE s.ents e.1 with
  | none => exact absurd rfl (lookE_none el e he)
  | some e' =>
    refine ⟨s, e', hs, el, ?_⟩
    unfold needsD
    rw [e0]
    show ((findD (s.ents.map entD) e.1).map (·.2)).getD [] = _
    rw [findD_ents, el]
    rfl
section
variable {P : Program} {w : World} {K : PySem.W.Frag} {mg : Str → Option Value} {base : Heap}
def lAgN : List Str := ["_law_rows_here", "_law_wish_here", nPick, "_law_found", "_law_waiting", "_law_ware", "_law_need"]
theorem scLAg : FnScope lAgN ["_law_rows_here", "_law_wish_here", nPick] (defScope sLAg) := ⟨rfl, rfl, rfl, by decide +kernel, rfl, by decide +kernel, by decide +kernel⟩
def spLAg (K : PySem.W.Frag) (T : Addr) : Sp := fun vs H Q _ => ∃ (A : List Addr) (r q a : Addr) (cl : List Shelf) (xs : List V) (ds : List PyData) (pk : List (Str × Int)), vs = [.ref r, .ref q, .ref a] ∧ BoxR K A H r cl ∧ GoodSh (dataOf cl) ∧ SqL K H q xs ∧ DpAll K H xs ds ∧ (∀ d ∈ ds, ND d) ∧ ds.length ≤ 8 ∧
  Rd H a (.dK (pkD pk)) ∧ PickOk (dataOf cl) pk ∧ GxR.TabG H T ∧ ∀ out l H', AgOf (needW (dataOf cl) pk) (addW [] (ds.map wOf)) 0 out → (∀ y ∈ out, GoodN y) → out.Nodup → out.length ≤ 700 → Kp T H H' → H l = none → H' l = some (.lst (out.map V.str)) → Q (.ref l) H'
theorem ok_lag {f T : Addr} {fd : FuncData} (F : Fun K "_law_agenda" "_law_agenda" sLAg f fd) : FnOk P w K mg base CX0 1 f fd ["_law_rows_here", "_law_wish_here", nPick] (spLAg K T) := by
  refine F.ok scLAg (fun vs H Q E h => ?_) (fun cdv A0 outer s H vs Q E hr h => ?_)
  · obtain ⟨A, r, q, a, cl, xs, ds, pk, rfl, _⟩ := h
    rfl
  · obtain ⟨A, r, q, a, cl, xs, ds, pk, rfl, B, G, hq, hds, hnd, h8, ha, O, ht, fin⟩ := h
    have hu := hu_of hr
    refine ⟨_, (pss_cons (ps_set (i := 3) scLAg.nd rfl (by first | exact .inl rfl | exact .inr rfl) (pe_lst pa_nil))
      (pss_cons (ps_setLc (i := 4) (own := [("_law_need", 6)]) (g := (gName 6)) (tt := tYes) rfl scLAg.nd rfl rfl (sw_true rfl rfl rfl (by decide +kernel)) (pi_list (pv 1)) (blkOk_by (own := [("_law_need", 6)]) (N := lAgN) (sc := defScope sLAg) (by decide +kernel)) (fun _ _ _ _ _ => (pg_name (i := 6) scLAg.nd rfl (by first | exact Or.inl rfl | exact Or.inr rfl))) (fun _ _ _ _ _ => pts_nil) (fun _ _ _ _ _ => (pe_ix (r := rIxT K) ix_tup (pv 6) pe_int (fun _ _ => rfl))))
      (pss_cons (ps_while PassesOwn.never (pt_cmpR (op_neD hr.units) (pv 4) (pe_lst pa_nil) (nomark _)) (pss_cons (ps_set (i := 5) scLAg.nd rfl (by first | exact .inl rfl | exact .inr rfl) (pe_bm PySem.F.plainAttrs_list PySem.F.slot_list_pop PySem.F.type_list_pop mt_popAt (pv 4) (pa_cons pe_int pa_nil)))
      (pss_one (ps_if (pt_cmpR op_notIn_seq (pv 5) (pv 3) (by rfl)) (pss_cons (ps_expr (pe_bm PySem.F.plainAttrs_list PySem.F.slot_list_append PySem.F.type_list_append mt_append (pv 3) (pa_cons (pv 5) pa_nil)))
      (pss_one (ps_if (pt_cmp (pc_din hu (pv 5) (pv 2))) (pss_one (ps_set (i := 4) scLAg.nd rfl (by first | exact .inl rfl | exact .inr rfl) (pe_op op_cat (pv 4) (pe_lc (own := [("_law_need", 6)]) (g := (gName 6)) (tt := tYes) rfl scLAg.nd (pi_list (pe_dget hu (pe_dget hu (pv 0) (pv 5) (fun _ _ => rfl)) (pe_dget hu (pv 2) (pv 5) (fun _ _ => rfl)) (fun _ _ => rfl))) (blkOk_by (own := [("_law_need", 6)]) (N := lAgN) (sc := defScope sLAg) (by decide +kernel)) (fun _ _ _ _ _ => (pg_name (i := 6) scLAg.nd rfl (by first | exact Or.inl rfl | exact Or.inr rfl))) (fun _ _ _ _ _ => pts_nil) (fun _ _ _ _ _ => (pe_ix (r := rIxT K) ix_tup (pv 6) pe_int (fun _ _ => rfl))))))) pss_nil))) pss_nil))))
      (pss_one (ps_ret (pv 3)))))), ?_⟩
    refine ⟨(by show (0 : Nat) ≤ sizeLine; decide), fun L nL => ?_⟩
    have k1 := Kp.new (o := HO.lst []) ht nL
    have LT := tab_nn ht nL
    have eL1 : upd H L (.lst []) L = some (.lst ([] : List V)) := upd_same
    have t1 := k1.tab
    generalize upd H L (.lst []) = H1 at k1 eL1 t1 ⊢
    have dl := dpAll_len hds
    -- the wares of the wish
    refine ⟨_, rfl, q, rfl, ⟨_, k1.seq hq⟩, fun W nW => ?_⟩
    have WT := tab_nn t1 nW
    have nWH := k1.free nW
    have WL : W ≠ L := fun z => by rw [z, eL1] at nW; cases nW
    refine lc_list (K := K) (a := q) (xs := xs) (fun i H' => Kp T H1 H' ∧ H' W = some (.lst (((ds.take i).map wOf).map V.str))) ⟨Kp.new t1 nW, upd_same⟩ (fun i H' _ ⟨kk, _⟩ => (k1.trans kk).seq hq) (fun i v H' hi hv => ?_) (fun H2 hv => ?_)
    · obtain ⟨kk, eW⟩ := hv
      have hil : i < ds.length := by
        have := (List.getElem?_eq_some_iff.mp hi).1
        omega
      obtain ⟨v', hv', hdv⟩ := dpAll_get ((k1.trans kk).dpAll _ _ hds) (List.getElem?_eq_getElem hil)
      have evv : v' = v := Option.some.inj (hv'.symm.trans hi)
      subst evv
      obtain ⟨b, y', lo, hi', rfl, hT, ed, _⟩ := nd_read hdv (hnd _ (List.getElem_mem hil))
      refine ⟨rfl, tYes_if ?_⟩
      refine ⟨_, rfl, b, _, 0, _, rfl, rfl, hT, atI_nat (j := 0) rfl, _, eW, small1000 (by rw [List.length_map, List.length_map, List.length_take]; omega), kk.set nW WT, ?_⟩
      rw [upd_same, List.take_succ, List.getElem?_eq_getElem hil, List.map_append, List.map_append, ed]
      rfl
    · obtain ⟨kk, eW⟩ := hv
      rw [dl, List.take_length] at eW
      have k2 := k1.trans kk
      have eL2 := kk.lst eL1
      obtain ⟨U, eU⟩ : ∃ U : List Str, U = ds.map wOf ++ pk.flatMap (fun e => (needsD (dataOf cl) e.1 e.2).map wOf) := ⟨_, rfl⟩
      have lU : U.length ≤ 700 := by
        have h1 : ∀ r : List (Str × Int), (r.flatMap (fun e => (needsD (dataOf cl) e.1 e.2).map wOf)).length ≤ 6 * r.length := fun r => by
          induction r with
          | nil => exact Nat.le_refl _
          | cons e r ih =>
            rw [List.flatMap_cons, List.length_append, List.length_map, List.length_cons]
            have := (needsD_good G e.1 e.2).1
            omega
        have h2 := h1 pk
        have h3 := O.len
        rw [eU, List.length_append, List.length_map]
        omega
      have gU : ∀ y ∈ U, GoodN y := fun y hy => by
        have key : ∀ es : List PyData, (∀ d ∈ es, ND d) → ∀ y ∈ es.map wOf, GoodN y := fun es he y hy => by
          obtain ⟨d, hd, rfl⟩ := List.mem_map.mp hy
          obtain ⟨y, i, j, rfl, g, _⟩ := he d hd
          exact g
        rw [eU] at hy
        rcases List.mem_append.mp hy with hy | hy
        · exact key ds hnd y hy
        · obtain ⟨e, _, hy⟩ := List.mem_flatMap.mp hy
          exact key _ (needsD_good G e.1 e.2).2 y hy
      have nU : ∀ w, ∀ y ∈ needW (dataOf cl) pk w, y ∈ U := fun w y hy => by
        unfold needW at hy
        cases h : lkP pk w with
        | none => rw [h] at hy; cases hy
        | some m =>
          rw [h] at hy
          rw [eU]
          exact List.mem_append_right _ (List.mem_flatMap.mpr ⟨(w, m), lkP_mem h, hy⟩)
      have lW : ∀ w, (needW (dataOf cl) pk w).length ≤ 6 := fun w => by
        unfold needW
        cases h : lkP pk w with
        | none => exact Nat.zero_le _
        | some m =>
          show ((needsD (dataOf cl) w m).map wOf).length ≤ 6
          rw [List.length_map]
          exact (needsD_good G w m).1
      refine while_by (fun σ' H' => ∃ (x5 : Option V) (Wt : Addr) (fnd wt : List Str), σ' = [some (.ref r), some (.ref q), some (.ref a), some (.ref L), some (.ref Wt), x5, none] ∧ Kp T H H' ∧ H' L = some (.lst (fnd.map V.str)) ∧ H' Wt = some (.lst (wt.map V.str)) ∧ H Wt = none ∧ Wt ≠ T ∧ Wt ≠ L ∧ fnd.Nodup ∧ (∀ y ∈ fnd, y ∈ U) ∧ (∀ y ∈ wt, y ∈ U) ∧ wt.length ≤ 8 + 6 * fnd.length ∧
          ∀ out, AgOf (needW (dataOf cl) pk) (addW fnd wt) fnd.length out → AgOf (needW (dataOf cl) pk) (addW [] (ds.map wOf)) 0 out)
        (fun σ' H' => (U.length - lenAt σ' 3 H') * 8 + lenAt σ' 4 H') ⟨none, W, [], ds.map wOf, rfl, k2, eL2, eW, nWH, WT, WL, List.nodup_nil, (fun y hy => by cases hy), fun y hy => ?_, by rw [List.length_map]; show ds.length ≤ 8; exact h8, fun out h => h⟩ ?_ ?_
      · rw [eU]; exact List.mem_append_left _ hy
      · rintro σ' H3 ⟨x5, Wt, fnd, wt, rfl, k3, e3, eW3, nWt, WtT, WtL, fn, fU, wU, wl, ag⟩
        have t3 := k3.tab
        have lf : fnd.length ≤ U.length := sub_len fn fU
        have m3 : lenAt [some (V.ref r), some (.ref q), some (.ref a), some (.ref L), some (.ref Wt), x5, none] 3 H3 = fnd.length := (lenAt_of rfl e3).trans (List.length_map _)
        have m4 : lenAt [some (V.ref r), some (.ref q), some (.ref a), some (.ref L), some (.ref Wt), x5, none] 4 H3 = wt.length := (lenAt_of rfl eW3).trans (List.length_map _)
        show tB _ _ _ _
        refine ⟨_, rfl, (by show (0 : Nat) ≤ sizeLine; decide), fun l4 nl4 => ?_⟩
        have k4 := Kp.new (o := HO.lst []) t3 nl4
        have k34 := k3.trans k4
        refine ⟨.list (wt.map .str), .list [], dp_lst (k4.lst eW3) (dp_strs wt), dp_lst upd_same .nil, shaped_strs (fun y hy => gU y (wU y hy)), rfl, _, rfl, ?_⟩
        rw [eqv_nil]
        have e34 := k4.lst e3
        have eW34 := k4.lst eW3
        generalize upd H3 l4 (.lst []) = H4 at k4 k34 e34 eW34 ⊢
        cases wt with
        | nil =>
          refine iteF ?_
          exact ⟨_, rfl, fin fnd L H4 (ag fnd (.done (List.getElem?_eq_none (Nat.le_refl _)))) (fun y hy => gU y (fU y hy)) fn (Nat.le_trans lf lU) k34 nL e34⟩
        | cons y rest =>
          refine iteT ?_
          have t4 := k34.tab
          have yU := wU y (List.mem_cons_self ..)
          have gy := gU y yU
          rw [List.length_cons] at wl m4
          refine ⟨_, rfl, .inl ⟨rfl, _, .inl (.inl eW34)⟩, Wt, _, 0, 0, _, rfl, rfl, eW34, by decide, by decide, seq0_ix (by simp), rfl, ?_⟩
          have k5 := k34.set nWt WtT (o := HO.lst (((y :: rest).map V.str).eraseIdx 0))
          have eW5 : upd H4 Wt (.lst (((y :: rest).map V.str).eraseIdx 0)) Wt = some (.lst (rest.map V.str)) := upd_same
          have e5 : upd H4 Wt (.lst (((y :: rest).map V.str).eraseIdx 0)) L = some (.lst (fnd.map V.str)) := by rw [upd_ne WtL.symm]; exact e34
          generalize upd H4 Wt (.lst (((y :: rest).map V.str).eraseIdx 0)) = H5 at k5 eW5 e5 ⊢
          refine ⟨_, rfl, _, rfl, L, _, rfl, .inl (.inl (.inl e5)), rfl, flat_strs fnd, _, rfl, ?_⟩
          show if (!inV (.str y) (fnd.map V.str)) = true then _ else _
          rw [inV_str]
          have rU : ∀ z ∈ rest, z ∈ U := fun z hz => wU z (List.mem_cons_of_mem _ hz)
          refine iteN (fun hn => ?_) (fun hn => ?_)
          · -- a further ware
            have fn' : (fnd ++ [y]).Nodup := List.nodup_append.mpr ⟨fn, List.nodup_cons.mpr ⟨List.not_mem_nil, List.nodup_nil⟩, fun a ha b hb e => hn (by rw [List.mem_singleton.mp hb] at e; exact e ▸ ha)⟩
            have fU' : ∀ z ∈ fnd ++ [y], z ∈ U := fun z hz => (List.mem_append.mp hz).elim (fU z) fun h => by rw [List.mem_singleton.mp h]; exact yU
            have lf' := sub_len fn' fU'
            rw [List.length_append, List.length_singleton] at lf'
            have ag' : ∀ out, AgOf (needW (dataOf cl) pk) (addW (fnd ++ [y]) (rest ++ needW (dataOf cl) pk y)) (fnd.length + 1) out → AgOf (needW (dataOf cl) pk) (addW [] (ds.map wOf)) 0 out := fun out h => by
              refine ag out ?_
              rw [addW_new hn]
              rw [addW_app] at h
              obtain ⟨rr, er⟩ := addW_pre (fnd ++ [y]) rest
              refine .step (w := y) ?_ h
              rw [er, List.append_assoc, List.getElem?_append_right (Nat.le_refl _), Nat.sub_self]
              rfl
            refine ⟨_, rfl, .inl ⟨rfl, _, .inl (.inl e5)⟩, _, rfl, L, _, _, rfl, rfl, e5, small1000 (by rw [List.length_map]; omega), ?_⟩
            have k6 := k5.set nL LT (o := HO.lst (fnd.map V.str ++ [.str y]))
            have e6 : upd H5 L (.lst (fnd.map V.str ++ [.str y])) L = some (.lst ((fnd ++ [y]).map V.str)) := by rw [upd_same, List.map_append]; rfl
            have eW6 : upd H5 L (.lst (fnd.map V.str ++ [.str y])) Wt = some (.lst (rest.map V.str)) := by rw [upd_ne WtL]; exact eW5
            generalize upd H5 L (.lst (fnd.map V.str ++ [.str y])) = H6 at k6 e6 eW6 ⊢
            have a6 := rd_kept k6 ha (fun _ z => by cases z)
            refine ⟨_, rfl, _, rfl, a, _, rfl, .inl ⟨pkD pk, Sum.inr y, a6, rfl, rfl⟩, _, rfl, ?_⟩
            rw [pkD_val]
            cases hm : lkP pk y with
            | none =>
              have e0 : needW (dataOf cl) pk y = [] := by unfold needW; rw [hm]
              rw [e0, List.append_nil] at ag'
              refine iteF ⟨⟨_, Wt, fnd ++ [y], rest, rfl, k6, e6, eW6, nWt, WtT, WtL, fn', fU', rU, by rw [List.length_append, List.length_singleton]; omega, fun out h => ag' out (by rw [List.length_append, List.length_singleton] at h; exact h)⟩, ?_⟩
              have q3 : lenAt [some (V.ref r), some (.ref q), some (.ref a), some (.ref L), some (.ref Wt), some (.str y), none] 3 H6 = fnd.length + 1 := (lenAt_of rfl e6).trans (by rw [List.length_map, List.length_append, List.length_singleton])
              have q4 : lenAt [some (V.ref r), some (.ref q), some (.ref a), some (.ref L), some (.ref Wt), some (.str y), none] 4 H6 = rest.length := (lenAt_of rfl eW6).trans (List.length_map _)
              show (U.length - lenAt [some (V.ref r), some (.ref q), some (.ref a), some (.ref L), some (.ref Wt), some (.str y), none] 3 H6) * 8 + lenAt [some (V.ref r), some (.ref q), some (.ref a), some (.ref L), some (.ref Wt), some (.str y), none] 4 H6 < (U.length - lenAt [some (V.ref r), some (.ref q), some (.ref a), some (.ref L), some (.ref Wt), x5, none] 3 H3) * 8 + lenAt [some (V.ref r), some (.ref q), some (.ref a), some (.ref L), some (.ref Wt), x5, none] 4 H3
              rw [q3, q4, m3, m4]
              omega
            | some m =>
              have hin := O.in_ _ (lkP_mem hm)
              obtain ⟨sh, e, hlk, hle, hne⟩ := row_need hin
              have ew : needW (dataOf cl) pk y = e.2.2.map wOf := by unfold needW; rw [hm]; show (needsD (dataOf cl) y m).map wOf = _; rw [hne]
              have gn := needsD_good G y m
              rw [hne] at gn
              have hs := (look_mem hlk).1
              have B6 := B.keptP k6
              have c1 := cell_rd B6 y
              rw [hlk] at c1
              have c2 := ent_rd B6 hs m
              rw [hle] at c2
              have c3 : DGet H6 a (.str y) (some (.int m)) := .inl ⟨pkD pk, Sum.inr y, a6, rfl, by rw [pkD_val, hm]; rfl⟩
              have hd := dp_show (B6.dp sh hs e (lookE_mem hle).1)
              obtain ⟨z0, z1, z2, z3⟩ : ∃ (xs2 : List V), SqL K H6 e.2.1 xs2 ∧ DpAll K H6 xs2 e.2.2 ∧ xs2.length = e.2.2.length := by
                cases hd with
                | @lst _ xs2 _ h1 h2 => exact ⟨xs2, h1, h2, dpAll_len h2⟩
              refine iteT ⟨_, rfl, _, rfl, _, rfl, r, _, rfl, c1, _, rfl, _, rfl, a, _, rfl, c3, sh.at_, _, rfl, c2, e.2.1, rfl, ⟨_, z1⟩, fun D nD => ?_⟩
              have t6 := k6.tab
              refine lc_list (K := K) (a := e.2.1) (xs := z0) (fun i H' => Kp T H6 H' ∧ H' D = some (.lst (((e.2.2.take i).map wOf).map V.str))) ⟨Kp.new t6 nD, upd_same⟩ (fun i H' _ ⟨kk, _⟩ => kk.seq z1) (fun i v H' hi hv => ?_) (fun H7 hv => ?_)
              · obtain ⟨kk, eD⟩ := hv
                have hil : i < e.2.2.length := by
                  have := (List.getElem?_eq_some_iff.mp hi).1
                  omega
                obtain ⟨v', hv', hdv⟩ := dpAll_get (kk.dpAll _ _ z2) (List.getElem?_eq_getElem hil)
                have evv : v' = v := Option.some.inj (hv'.symm.trans hi)
                subst evv
                obtain ⟨b, y', lo, hi', rfl, hT, ed, _⟩ := nd_read hdv (gn.2 _ (List.getElem_mem hil))
                refine ⟨rfl, tYes_if ?_⟩
                refine ⟨_, rfl, b, _, 0, _, rfl, rfl, hT, atI_nat (j := 0) rfl, _, eD, small1000 (by rw [List.length_map, List.length_map, List.length_take]; omega), kk.set nD (tab_nn t6 nD), ?_⟩
                rw [upd_same, List.take_succ, List.getElem?_eq_getElem hil, List.map_append, List.map_append, ed]
                rfl
              · obtain ⟨kk, eD⟩ := hv
                rw [z3, List.take_length, ← ew] at eD
                have eW7 := kk.lst eW6
                have e7 := kk.lst e6
                have k7 := k6.trans kk
                refine ⟨Wt, D, _, _, rfl, rfl, eW7, eD, Nat.le_of_lt (small5000 (by rw [List.length_map, List.length_map]; have := lW y; omega)), fun V2 nV2 => ?_⟩
                have k8 := Kp.new (o := HO.lst (rest.map V.str ++ (needW (dataOf cl) pk y).map V.str)) k7.tab nV2
                have e8 : upd H7 V2 (.lst (rest.map V.str ++ (needW (dataOf cl) pk y).map V.str)) V2 = some (.lst ((rest ++ needW (dataOf cl) pk y).map V.str)) := by rw [upd_same, List.map_append]
                have eL8 := k8.lst e7
                have V2L : V2 ≠ L := fun z => by rw [z, e7] at nV2; cases nV2
                generalize upd H7 V2 (.lst (rest.map V.str ++ (needW (dataOf cl) pk y).map V.str)) = H8 at k8 e8 eL8 ⊢
                refine ⟨⟨_, V2, fnd ++ [y], rest ++ needW (dataOf cl) pk y, rfl, k7.trans k8, eL8, e8, k7.free nV2, tab_nn k7.tab nV2, V2L, fn', fU', fun z hz => (List.mem_append.mp hz).elim (rU z) (nU y z), by rw [List.length_append, List.length_append, List.length_singleton]; have := lW y; omega, fun out h => ag' out (by rw [List.length_append, List.length_singleton] at h; exact h)⟩, ?_⟩
                have q3 : lenAt [some (V.ref r), some (.ref q), some (.ref a), some (.ref L), some (.ref V2), some (.str y), none] 3 H8 = fnd.length + 1 := (lenAt_of rfl eL8).trans (by rw [List.length_map, List.length_append, List.length_singleton])
                have q4 : lenAt [some (V.ref r), some (.ref q), some (.ref a), some (.ref L), some (.ref V2), some (.str y), none] 4 H8 = rest.length + (needW (dataOf cl) pk y).length := (lenAt_of rfl e8).trans (by rw [List.length_map, List.length_append])
                show (U.length - lenAt [some (V.ref r), some (.ref q), some (.ref a), some (.ref L), some (.ref V2), some (.str y), none] 3 H8) * 8 + lenAt [some (V.ref r), some (.ref q), some (.ref a), some (.ref L), some (.ref V2), some (.str y), none] 4 H8 < (U.length - lenAt [some (V.ref r), some (.ref q), some (.ref a), some (.ref L), some (.ref Wt), x5, none] 3 H3) * 8 + lenAt [some (V.ref r), some (.ref q), some (.ref a), some (.ref L), some (.ref Wt), x5, none] 4 H3
                rw [q3, q4, m3, m4]
                have := lW y
                omega
          · refine ⟨⟨_, Wt, fnd, rest, rfl, k5, e5, eW5, nWt, WtT, WtL, fn, fU, rU, by omega, fun out h => ag out (by rw [addW_skip hn]; exact h)⟩, ?_⟩
            have q3 : lenAt [some (V.ref r), some (.ref q), some (.ref a), some (.ref L), some (.ref Wt), some (.str y), none] 3 H5 = fnd.length := (lenAt_of rfl e5).trans (List.length_map _)
            have q4 : lenAt [some (V.ref r), some (.ref q), some (.ref a), some (.ref L), some (.ref Wt), some (.str y), none] 4 H5 = rest.length := (lenAt_of rfl eW5).trans (List.length_map _)
            show (U.length - lenAt [some (V.ref r), some (.ref q), some (.ref a), some (.ref L), some (.ref Wt), some (.str y), none] 3 H5) * 8 + lenAt [some (V.ref r), some (.ref q), some (.ref a), some (.ref L), some (.ref Wt), some (.str y), none] 4 H5 < (U.length - lenAt [some (V.ref r), some (.ref q), some (.ref a), some (.ref L), some (.ref Wt), x5, none] 3 H3) * 8 + lenAt [some (V.ref r), some (.ref q), some (.ref a), some (.ref L), some (.ref Wt), x5, none] 4 H3
            rw [q3, q4, m3, m4]
            omega
      · intro σ' H' Q1 Q2 hm h
        obtain ⟨v, e, sz, ff⟩ := h
        refine ⟨v, e, sz, fun l nl => ?_⟩
        obtain ⟨d, e2, a1, a2, a3, a4, c, b1, b2⟩ := ff l nl
        exact ⟨d, e2, a1, a2, a3, a4, c, b1, hm _ _ b2⟩
end
end Pk

set_option Elab.async false
set_option linter.all false
set_option maxRecDepth 100000
set_option maxHeartbeats 4000000
namespace Pk
open PySem PySem.Spec PyProof.Rows L2
theorem pkD_put {pk : List (Str × Int)} {w : Str} {m : Int} (h : w ∉ pk.map (·.1)) : putK (pkD pk) (Sum.inr w : Key) (.int m) = pkD (pk ++ [(w, m)]) := by
  have e : lkP pk w = none := by
    cases z : lkP pk w with
    | none => rfl
    | some k => exact absurd (List.mem_map.mpr ⟨_, lkP_mem z, rfl⟩) h
  rw [putK_new _ (by rw [pkD_val, e]; rfl)]
  unfold pkD
  rw [List.map_append]
  rfl
end Pk

set_option Elab.async false
set_option linter.all false
set_option maxRecDepth 100000
set_option maxHeartbeats 4000000
namespace Pk
open PySem PySem.Spec PyProof.Rows L2
section
variable {P : Program} {w : World} {K : PySem.W.Frag} {mg : Str → Option Value} {base : Heap}
/-! ### take -/
end
end Pk

set_option Elab.async false
set_option linter.all false
set_option maxRecDepth 100000
set_option maxHeartbeats 4000000
namespace Pk
open PySem PySem.Spec PyProof.Rows L2
theorem mayL_inv : ∀ {ds : List PyData} {bar : List Str}, mayL bar ds = true → bar.Nodup → (bar ++ ds.map wOf).Nodup ∧ ∀ d ∈ ds, needB d = true
  | [], bar, _, hb => ⟨by rw [List.map_nil, List.append_nil]; exact hb, fun d hd => by cases hd⟩
  | d :: r, bar, h, hb => by
    have z : (needB d && !decide (wOf d ∈ bar) && mayL (bar ++ [wOf d]) r) = true := h
    rw [Bool.and_eq_true, Bool.and_eq_true, Bool.not_eq_true'] at z
    obtain ⟨⟨h1, h2⟩, h3⟩ := z
    have h2 := of_decide_eq_false h2
    obtain ⟨i1, i2⟩ := mayL_inv h3 (List.nodup_append.mpr ⟨hb, List.nodup_cons.mpr ⟨List.not_mem_nil, List.nodup_nil⟩, fun a ha b hb2 e => h2 (by rw [List.mem_singleton.mp hb2] at e; rw [← e]; exact ha)⟩)
    refine ⟨by rw [List.append_assoc] at i1; exact i1, fun x hx => ?_⟩
    rcases List.mem_cons.mp hx with rfl | hx
    · exact h1
    · exact i2 x hx
theorem mayB_drop {w : Str} {ds : List PyData} (h : mayB w (.list ds) = true) (k : Nat) : mayB w (.list (ds.drop k)) = true := by
  have z : (decide (ds.length ≤ 6) && mayL [w] ds) = true := h
  rw [Bool.and_eq_true] at z
  obtain ⟨nd, hn⟩ := mayL_inv z.2 (List.nodup_cons.mpr ⟨List.not_mem_nil, List.nodup_nil⟩)
  rw [List.singleton_append, List.nodup_cons] at nd
  have sub : List.Sublist ((ds.drop k).map wOf) (ds.map wOf) := List.Sublist.map _ (List.drop_sublist _ _)
  exact mayB_of (by have := of_decide_eq_true z.1; rw [List.length_drop]; omega) (fun d hd => hn d (List.mem_of_mem_drop hd)) (List.Sublist.nodup sub nd.2) fun z => nd.1 (sub.subset z)
theorem cutV_tail (xs : List V) : cutV xs (some 1) none = xs.drop 1 := by
  unfold cutV
  cases xs with
  | nil => rfl
  | cons x r =>
    have e1 : HT.sIx (x :: r).length 0 (some 1) = 1 := by
      unfold HT.sIx
      simp
    have e2 : HT.sIx (x :: r).length (x :: r).length none = (x :: r).length := rfl
    rw [e1, e2, List.take_of_length_le (by rw [List.length_drop]; exact Nat.le_refl _)]
theorem dpAll_drop {K : PySem.W.Frag} {H : Hp} : ∀ {ds : List PyData} {vs : List V} (k : Nat), DpAll K H vs ds → DpAll K H (vs.drop k) (ds.drop k)
  | _, _, 0, h => h
  | [], _, k + 1, h => by cases h; exact .nil
  | d :: r, _, k + 1, h => by
    cases h with
    | cons a b => exact dpAll_drop k b
/-- a shop and rows that hold the same -/
structure PairD (K : PySem.W.Frag) (C : Addr) (A : List Addr) (H : Hp) (p D : Addr) (st : List Shelf) (r : Addr) (cl : List Shelf) (mm : Nat) : Prop where
  B : BoxOk K A H r cl
  G : RowsG mm cl
  S : ShopAt K C A H p D st
  dt : ∀ v, dataOf st v = dataOf cl v
  dj : ∀ f ∈ foot D st, f ∉ foot r cl
theorem dk_seq {H : Hp} {f : Addr} (h : ∃ kvs, H f = some (.dK kvs)) : ∀ o, H f = some o → isSeqO o = false := fun o e => by
  obtain ⟨kvs, h⟩ := h
  rw [h] at e
  cases e
  rfl
theorem PairD.len {K : PySem.W.Frag} {C : Addr} {A : List Addr} {H : Hp} {p D : Addr} {st : List Shelf} {r : Addr} {cl : List Shelf} {mm : Nat} (X : PairD K C A H p D st r cl mm) : st.length ≤ cl.length := by
  have z := sub_len (U := cl.map (·.ware)) X.S.bx.nd fun y hy => by
    obtain ⟨s, hs, rfl⟩ := List.mem_map.mp hy
    have z := data_ne X.S.bx.nd hs (X.S.ne s hs)
    rw [X.dt] at z
    obtain ⟨t, ht⟩ := look_cons z
    obtain ⟨g1, g2⟩ := look_mem ht
    exact List.mem_map.mpr ⟨t, g1, g2⟩
  rw [List.length_map, List.length_map] at z
  exact z
theorem RowsG.good {mm : Nat} {cl : List Shelf} (G : RowsG mm cl) (h : mm ≤ 8) : GoodSh (dataOf cl) := by
  refine ⟨fun v => ?_, fun v e he => ?_⟩
  · unfold dataOf
    cases el : look cl v with
    | none => exact Nat.zero_le _
    | some s =>
      show (s.ents.map entD).length ≤ 8
      rw [List.length_map]
      exact Nat.le_trans (G.el s (look_mem el).1) h
  · unfold dataOf at he
    cases el : look cl v with
    | none => rw [el] at he; cases he
    | some s =>
      rw [el] at he
      have he : e ∈ s.ents.map entD := he
      obtain ⟨x, hx, rfl⟩ := List.mem_map.mp he
      have hs := (look_mem el).1
      exact ⟨(G.mki s hs x hx).b, mayB_len (G.may s hs x hx), G.nd s hs x hx⟩
theorem RowsG.set {mm : Nat} {cl : List Shelf} {w : Str} {s : Shelf} {es : List (Int × Addr × List PyData)} (G : RowsG mm cl) (h : look cl w = some s) (hl : es.length ≤ mm) (hm : ∀ e ∈ es, MakeI e.1 ∧ mayB w (.list e.2.2) = true ∧ ∀ d ∈ e.2.2, ND d) : RowsG mm (setE cl w es) := by
  refine ⟨by rw [setE_len]; exact G.len, fun x hx => ?_, fun x hx => ?_, fun x hx => ?_, fun x hx => ?_, fun x hx => ?_⟩ <;> rcases setE_mem hx with ⟨t, ht, hw, rfl⟩ | ⟨h3, _⟩
  · exact G.w t ht
  · exact G.w x h3
  · exact hl
  · exact G.el x h3
  · exact fun e he => (hm e he).1
  · exact G.mki x h3
  · exact fun e he => by rw [show ({ t with ents := es } : Shelf).ware = w from hw]; exact (hm e he).2.1
  · exact G.may x h3
  · exact fun e he => (hm e he).2.2
  · exact G.nd x h3
theorem RawB.set {K : PySem.W.Frag} {H : Hp} {cl : List Shelf} {w : Str} {es : List (Int × Addr × List PyData)} (h : RawB K H cl) (h2 : RawC K H es) : RawB K H (setE cl w es) := fun x hx => by
  rcases setE_mem hx with ⟨t, ht, hw, rfl⟩ | ⟨h3, _⟩
  · exact h2
  · exact h x h3
theorem PairD.grow {K : PySem.W.Frag} {C T : Addr} {A : List Addr} {H H' H'' : Hp} {p D : Addr} {st st' : List Shelf} {r a : Addr} {cl : List Shelf} {mm : Nat} {w : Str} {s : Shelf} {m : Int} {ds : List PyData} (X : PairD K C A H p D st r cl mm) (lk : look cl w = some s) (ln : lookE s.ents m = none)
    (gm : MakeI m) (may : mayB w (.list ds) = true) (nd : ∀ d ∈ ds, ND d) (hl : s.ents.length + 1 ≤ mm) (hA : ∀ y ∈ A, ∃ ys, H y = some (.lst ys)) (S' : ShopAt K C A H' p D st') (d' : ∀ v, dataOf st' v = if v = w then dataOf st w ++ [(m, ds)] else dataOf st v)
    (k6 : Kx T (foot D st) H H') (f' : ∀ f ∈ foot D st', f ∈ foot D st ∨ H f = none) (k7 : Kp T H' H'') (hd : Dp K (hide A H'') (.ref a) (.list ds)) :
    PairD K C A (L2.upd H'' s.at_ (.dK ((s.ents ++ [(m, a, ds)]).map entK))) p D st' r (setE cl w (s.ents ++ [(m, a, ds)])) mm ∧ Kx T (foot r cl ++ foot D st) H (L2.upd H'' s.at_ (.dK ((s.ents ++ [(m, a, ds)]).map entK))) := by
  have hs := (look_mem lk).1
  have fdr := X.B.foot_dict
  have fdD := X.S.bx.foot_dict
  have B6 := X.B.kept k6 (fun f hf => .inr (fdD f hf)) (fun f hf z => X.dj f z hf)
  have B7 := B6.keptP k7
  have hf : s.at_ ∈ foot r cl := List.mem_cons_of_mem _ (List.mem_map.mpr ⟨s, hs, rfl⟩)
  obtain ⟨B8, k8⟩ := B7.set (es := s.ents ++ [(m, a, ds)]) k7.tab lk (fun x hx => by
    rcases List.mem_append.mp hx with hx | hx
    · exact (B7.sh s hs).dp x hx
    · rw [List.mem_singleton.mp hx]; exact hd) (put_nd ln (X.B.sh s hs).nd)
  have k67 : Kx T (foot D st) H H'' := k6.trans (Kx.of k7)
  have k68 : Kx T (foot r cl ++ foot D st) H (L2.upd H'' s.at_ (.dK ((s.ents ++ [(m, a, ds)]).map entK))) := (k67.mono fun a h => List.mem_append_right _ h).trans (k8.mono fun a h => List.mem_append_left _ h)
  have hA7 : ∀ y ∈ A, ∃ ys, H'' y = some (.lst ys) := fun y hy => by
    obtain ⟨ys, ey⟩ := hA y hy
    exact ⟨ys, k67.lst0 fdD ey⟩
  have S8 := (S'.keptP k7).kept k8 (fun f hf => .inr (B7.foot_dict f hf)) (fun f _ hz => hA7 f hz) (fun f hf z => by
    rcases f' f hf with g | g
    · exact X.dj f g z
    · obtain ⟨kvs, e⟩ := fdr f z
      rw [e] at g
      cases g)
  refine ⟨⟨B8, X.G.set lk (by rw [List.length_append]; exact hl) fun x hx => ?_, S8, fun v => ?_, fun f hf z => ?_⟩, k68⟩
  · rcases List.mem_append.mp hx with hx | hx
    · have hw := (look_mem lk).2
      exact ⟨X.G.mki s hs x hx, by rw [← hw]; exact X.G.may s hs x hx, X.G.nd s hs x hx⟩
    · rw [List.mem_singleton.mp hx]
      exact ⟨gm, may, nd⟩
  · rw [d', setE_data lk]
    by_cases hv : v = w
    · rw [if_pos hv, if_pos hv, X.dt, look_data lk, List.map_append]
      rfl
    · rw [if_neg hv, if_neg hv, X.dt]
  · rw [foot_set] at z
    rcases f' f hf with g | g
    · exact X.dj f g z
    · obtain ⟨kvs, e⟩ := fdr f z
      rw [e] at g
      cases g
section
variable {P : Program} {w : World} {K : PySem.W.Frag} {mg : Str → Option Value} {base : Heap}
def sChgN : List Str := ["_law_shop_here", "_law_rows_here", "_law_number", "_law_wares", "_law_ware", "_law_make", "_law_needs_here", nOther]
end
end Pk

set_option Elab.async false
set_option linter.all false
set_option maxRecDepth 100000
set_option maxHeartbeats 4000000
namespace Pk
open PySem PySem.Spec PyProof.Rows L2
theorem pkD_drop (w : Str) : ∀ pk : List (Str × Int), dropK (pkD pk) (Sum.inr w : Key) = pkD (pk.filter fun e => decide (e.1 ≠ w))
  | [] => rfl
  | e :: r => by
    have ih := pkD_drop w r
    unfold dropK pkD at ih ⊢
    rw [List.map_cons, List.filter_cons, List.filter_cons]
    by_cases h : e.1 = w
    · rw [if_neg (by show ¬ decide (¬ ((Sum.inr e.1 : Key) = Sum.inr w)) = true; rw [h, decide_eq_false (fun z => z rfl)]; exact Bool.false_ne_true), if_neg (by rw [decide_eq_false (fun z => z h)]; exact Bool.false_ne_true)]
      exact ih
    · rw [if_pos (decide_eq_true (by show ¬ ((Sum.inr e.1 : Key) = Sum.inr w); exact fun z => h (Sum.inr.inj z))), if_pos (decide_eq_true h), List.map_cons]
      exact congrArg _ ih
theorem PickOk.drop {D : Str → List (Int × List PyData)} {pk : List (Str × Int)} (O : PickOk D pk) (w : Str) : PickOk D (pk.filter fun e => decide (e.1 ≠ w)) :=
  ⟨(List.Sublist.map _ List.filter_sublist).nodup O.nd, Nat.le_trans (List.length_filter_le _ _) O.len, fun e he => O.gd e (List.mem_filter.mp he).1, fun e he => O.in_ e (List.mem_filter.mp he).1⟩
theorem dpAll_dropLast {K : PySem.W.Frag} {H : Hp} : ∀ {ds : List PyData} {vs : List V}, DpAll K H vs ds → DpAll K H vs.dropLast ds.dropLast
  | [], _, h => by cases h; exact .nil
  | [d], _, h => by
    cases h with
    | cons a b => cases b; exact .nil
  | d :: d2 :: r, _, h => by
    cases h with
    | cons a b =>
      cases b with
      | cons c e => exact .cons a (dpAll_dropLast (.cons c e))
/-- what is asked about: a shop beside its rows, a wish, a pick -/
structure AgSt (K : PySem.W.Frag) (C T : Addr) (A : List Addr) (H : Hp) (p D : Addr) (st : List Shelf) (r : Addr) (cl : List Shelf) (q : Addr) (xs : List V) (ds : List PyData) (a : Addr) (pk : List (Str × Int)) : Prop where
  S : ShopAt K C A H p D st
  B : BoxOk K A H r cl
  dt : dataOf st = dataOf cl
  G : GoodSh (dataOf cl)
  hA : ∀ x ∈ A, ∃ ys, H x = some (.lst ys)
  hq : H q = some (.lst xs)
  hd : DpAll K (hide A H) xs ds
  nd : ∀ d ∈ ds, ND d
  h8 : ds.length ≤ 8
  ha : H a = some (.dK (pkD pk))
  af : a ∉ foot D st
  ar : a ∉ foot r cl
  O : PickOk (dataOf cl) pk
  ht : GxR.TabG H T
theorem dict_kp {T a : Addr} {H H' : Hp} {kvs : List (Key × V)} (k : Kp T H H') (h : H a = some (.dK kvs)) : H' a = some (.dK kvs) := k.keep _ _ (tab_ne k.t0 h fun _ z => by cases z) h
section
variable {K : PySem.W.Frag} {C T : Addr} {A : List Addr} {H : Hp} {p D : Addr} {st : List Shelf} {r : Addr} {cl : List Shelf} {q : Addr} {xs : List V} {ds : List PyData} {a : Addr} {pk : List (Str × Int)}
theorem AgSt.kept {H' : Hp} (X : AgSt K C T A H p D st r cl q xs ds a pk) (k : Kp T H H') : AgSt K C T A H' p D st r cl q xs ds a pk :=
  ⟨X.S.keptP k, X.B.keptP k, X.dt, X.G, fun x hx => (X.hA x hx).imp fun ys e => k.lst e, k.lst X.hq, dpAll_kx (F := []) (.of k) (fun f hf => by cases hf) X.hd, X.nd, X.h8, dict_kp k X.ha, X.af, X.ar, X.O, k.tab⟩
/-- the wish handed in is another list -/
theorem AgSt.wish {H' : Hp} {xs' : List V} {ds' : List PyData} (X : AgSt K C T A H p D st r cl q xs ds a pk) (hqA : q ∈ A) (k : Kx T [q] H H') (hq : H' q = some (.lst xs')) (hd : DpAll K (hide A H) xs' ds') (nd : ∀ d ∈ ds', ND d) (h8 : ds'.length ≤ 8) : AgSt K C T A H' p D st r cl q xs' ds' a pk := by
  have hF : ∀ f ∈ [q], f ∈ A ∨ ∃ kvs, H f = some (.dK kvs) := fun f hf => .inl (by rw [List.mem_singleton.mp hf]; exact hqA)
  have hFp : ∀ f ∈ [q], f ∈ A → ∃ ys, H f = some (.lst ys) := fun f hf _ => by rw [List.mem_singleton.mp hf]; exact ⟨_, X.hq⟩
  have nq : ∀ f, (∃ kvs, H f = some (.dK kvs)) → f ∉ [q] := fun f ⟨kvs, e⟩ z => by rw [List.mem_singleton.mp z, X.hq] at e; cases e
  refine ⟨X.S.kept k hF hFp fun f hf => nq f (X.S.bx.foot_dict f hf), X.B.kept k hF fun f hf => nq f (X.B.foot_dict f hf), X.dt, X.G, fun x hx => ?_, hq, dpAll_kx k hF hd, nd, h8, ?_, X.af, X.ar, X.O, k.tab⟩
  · by_cases e : x = q
    · rw [e]; exact ⟨_, hq⟩
    · obtain ⟨ys, ey⟩ := X.hA x hx
      exact ⟨ys, k.keep _ _ (tab_ne k.t0 ey fun _ z => by cases z) (fun z => e (List.mem_singleton.mp z)) ey⟩
  · exact k.keep _ _ (tab_ne k.t0 X.ha fun _ z => by cases z) (nq a ⟨_, X.ha⟩) X.ha
/-- the pick handed in is another dict -/
theorem AgSt.pick {H' : Hp} {pk' : List (Str × Int)} (X : AgSt K C T A H p D st r cl q xs ds a pk) (k : Kx T [a] H H') (ha : H' a = some (.dK (pkD pk'))) (O : PickOk (dataOf cl) pk') : AgSt K C T A H' p D st r cl q xs ds a pk' := by
  have hF : ∀ f ∈ [a], f ∈ A ∨ ∃ kvs, H f = some (.dK kvs) := fun f hf => .inr (by rw [List.mem_singleton.mp hf]; exact ⟨_, X.ha⟩)
  have hFd : ∀ f ∈ [a], ∃ kvs, H f = some (.dK kvs) := fun f hf => by rw [List.mem_singleton.mp hf]; exact ⟨_, X.ha⟩
  have hFp : ∀ f ∈ [a], f ∈ A → ∃ ys, H f = some (.lst ys) := fun f _ hz => X.hA f hz
  exact ⟨X.S.kept k hF hFp fun f hf z => X.af (by rw [← List.mem_singleton.mp z]; exact hf), X.B.kept k hF fun f hf z => X.ar (by rw [← List.mem_singleton.mp z]; exact hf), X.dt, X.G, fun x hx => (X.hA x hx).imp fun ys e => k.lst0 hFd e, k.lst0 hFd X.hq, dpAll_kx k hF X.hd, X.nd, X.h8, ha, X.af, X.ar, O, k.tab⟩
theorem AgSt.ask {Q : VK} {E : XK} (X : AgSt K C T A H p D st r cl q xs ds a pk) (z : ∀ out l H', AgOf (needW (dataOf cl) pk) (addW [] (ds.map wOf)) 0 out → (∀ y ∈ out, GoodN y) → out.Nodup → out.length ≤ 700 → Kp T H H' → H l = none → H' l = some (.lst (out.map V.str)) → Q (.ref l) H') : spAgenda K C T [.ref p, .ref q, .ref a] H Q E := by
  refine ⟨A, p, D, q, a, st, xs, ds, pk, rfl, X.S, by rw [X.dt]; exact X.G, X.hA, .inl (.inl X.hq), dpAll_show X.hd, X.nd, X.h8, X.ha, X.af, by rw [X.dt]; exact X.O, X.ht, ?_⟩
  rw [X.dt]
  exact z
theorem AgSt.askL {Q : VK} {E : XK} (X : AgSt K C T A H p D st r cl q xs ds a pk) (z : ∀ out l H', AgOf (needW (dataOf cl) pk) (addW [] (ds.map wOf)) 0 out → (∀ y ∈ out, GoodN y) → out.Nodup → out.length ≤ 700 → Kp T H H' → H l = none → H' l = some (.lst (out.map V.str)) → Q (.ref l) H') : spLAg K T [.ref r, .ref q, .ref a] H Q E :=
  ⟨A, r, q, a, cl, xs, ds, pk, rfl, .of X.B, X.G, .inl (.inl X.hq), dpAll_show X.hd, X.nd, X.h8, .inl X.ha, X.O, X.ht, z⟩
theorem AgSt.call {σ : L2.St} {i j k : Nat} {Q : VK} (X : AgSt K C T A H p D st r cl q xs ds a pk) (hi : σ[i]? = some (some (.ref p))) (hj : σ[j]? = some (some (.ref q))) (hk : σ[k]? = some (some (.ref a))) (z : ∀ out l H', AgOf (needW (dataOf cl) pk) (addW [] (ds.map wOf)) 0 out → (∀ y ∈ out, GoodN y) → out.Nodup → out.length ≤ 700 → Kp T H H' → H l = none → H' l = some (.lst (out.map V.str)) → Q (.ref l) H') :
    tCall (spAgenda K C T) [] E0 (tCons (tVar i) (tCons (tVar j) (tCons (tVar k) tNil))) σ H Q := ⟨_, hi, _, hj, _, hk, X.ask (E := E0) z⟩
theorem AgSt.callL {σ : L2.St} {i j k : Nat} {Q : VK} (X : AgSt K C T A H p D st r cl q xs ds a pk) (hi : σ[i]? = some (some (.ref r))) (hj : σ[j]? = some (some (.ref q))) (hk : σ[k]? = some (some (.ref a))) (z : ∀ out l H', AgOf (needW (dataOf cl) pk) (addW [] (ds.map wOf)) 0 out → (∀ y ∈ out, GoodN y) → out.Nodup → out.length ≤ 700 → Kp T H H' → H l = none → H' l = some (.lst (out.map V.str)) → Q (.ref l) H') :
    tCall (spLAg K T) [] E0 (tCons (tVar i) (tCons (tVar j) (tCons (tVar k) tNil))) σ H Q := ⟨_, hi, _, hj, _, hk, X.askL (E := E0) z⟩
end
end Pk

set_option Elab.async false
set_option linter.all false
set_option maxRecDepth 100000
set_option maxHeartbeats 4000000
namespace Pk
open PySem PySem.Spec PyProof.Rows L2
/-- a make that the rows have -/
def inR (D : Str → List (Int × List PyData)) (e : Str × Int) : Bool := decide (e.2 ∈ (D e.1).map (·.1))
def PairV (K : PySem.W.Frag) (H : Hp) (v : V) (e : Str × Int) : Prop := ∃ t, v = .ref t ∧ SqT K H t [.str e.1, .int e.2]
theorem ints_eqv (n : Nat) : PyData.eqv (.list ((List.replicate n (1 : Int)).map .int)) (.list []) = decide (n = 0) := by
  rw [eqv_nil]
  cases n <;> rfl
section
variable {P : Program} {w : World} {K : PySem.W.Frag} {mg : Str → Option Value} {base : Heap}
def thereN : List Str := ["_law_rows_here", "_law_pairs", "_law_ware", "_law_make"]
def spThere (K : PySem.W.Frag) (T : Addr) : Sp := fun vs H Q _ => ∃ (A : List Addr) (r q : Addr) (cl : List Shelf) (xs : List V) (pk : List (Str × Int)), vs = [.ref r, .ref q] ∧ BoxOk K A H r cl ∧ SqL K H q xs ∧ Paired (PairV K H) xs pk ∧ pk.length ≤ 100 ∧ GxR.TabG H T ∧
  ∀ H', Kp T H H' → Q (.bl (pk.all (inR (dataOf cl)))) H'
end
end Pk

set_option Elab.async false
set_option linter.all false
set_option maxRecDepth 100000
set_option maxHeartbeats 4000000
/-! all(..), any(..) of a generator expression over any walked thing, its element by rules -/
namespace Pk
open PySem PySem.Spec PyProof.Rows L2
/-! ### the generator's code object -/
theorem gx_code {X : Cx} {pins : List (Addr × Obj)} {σ : L2.St} {H : Hp} {s : Shared} {c P : Addr} {pos : Pos} {q : Str} {scope : Scope} {A : Around} {E : Value → Shared → Prop} {Q : Value → Addr → Shared → Prop} (TB : GxR.TabB X.base X.mg c P) (hcode : X.env.code = .ref c) (I : Inv X pins σ H s) (ht : GxR.TabG H P)
    (hQ : ∀ code s' H', GxR.Tabbed P H H' → Inv X pins σ H' s' → s.heap.objs.size ≤ s'.heap.objs.size → (∀ b o, b ≠ P → s.heap.get? b = some o → s'.heap.get? b = some o) → Q code builtinsNs s') :
    wpAny (model X.prog X.w) A (genexprCode X.env pos q scope) (fun code s3 => wpAny (model X.prog X.w) A (builtinsFor X.env.globals X.env.builtins) (Q code) E s3) E s := by
  obtain ⟨ps, hP, htr⟩ := ht
  have hPs : s.heap.get? P = some { cls := .none, data := .fields ps } := I.hok P _ hP
  have cd : PySem.W.CodeHd s.heap c P := TB.code.keeps I.bk
  have go : ∀ (code : Value) (h3 : Heap) (tk : Nat) (more : Array Value), Heap.ExtBut P s.heap h3 → s.heap.objs.size ≤ h3.objs.size → h3.get? P = some { cls := .none, data := .fields (ps ++ more) } → TriplesOk (ps ++ more).toList →
      wpAny (model X.prog X.w) A (builtinsFor X.env.globals X.env.builtins) (Q code) E { s with heap := h3, toks := tk } := fun code h3 tk more hx hsz h3P ht3 => by
    obtain ⟨bm, ob, e1, e2, e3, e4, e5, e6, e7, e8⟩ := TB.bm
    refine wpAny_builtinsFor (m := X.mg) (by rw [I.ok.glob]; exact (I.mod.glob.keeps I.bk).extBut hx TB.gP) e1 e2 (hx _ _ e4 (I.bk _ _ e5)) e6 e7 e8 ?_
    have J := GxR.inv_tab (more := more) (h' := h3) (g' := s.gens) (d' := s.drawn) (t' := tk) I hP (fun b u hb e => hx b u hb e) h3P I.bare
    exact hQ code { s with heap := h3, toks := tk } _ ⟨⟨_, upd_same, ht3⟩, fun b hb => upd_ne hb⟩ J hsz fun b o hb e => hx b o hb e
  cases hf : codeAmong pos ps.toList with
  | none =>
    refine wpAny_genexprCodeX hcode (cd.code hPs htr) (cd.tab hPs) hf fun c' h' tk hx hge hlt hco' _ htab' _ => ?_
    obtain ⟨o1, vs, f1, tf, fl, tg, inF, tx, tt, op, _, _, _, _, _, _, _, _, _, ht2, _⟩ := hco'
    exact go _ h' tk _ hx (Nat.le_trans hge (Nat.le_of_lt hlt)) htab'.2 ht2
  | some cv =>
    refine wpAny_genexprCode_hit hcode (cd.code hPs htr) hf ?_
    exact go cv s.heap s.toks #[] (Heap.ExtBut.refl _ _) (Nat.le_refl _) (by rw [Array.append_empty]; exact hPs) (by rw [Array.append_empty]; exact htr)
/-! ### the generator's frame -/
/-- its context: run over X's frames, its own frame on top -/
def gxOf (X : Cx) (A : Around) (s : Shared) (H : Hp) (cenv : Env) (fp : List Addr) : Cx := { X with A := A.deeper cenv, s_0 := s, H_0 := H, env := cenv, outer := X.stack, stack := cenv :: X.stack, ex := fp, fn := fun _ => false, calm := true, pn := [], xe := fun _ _ => False }
/-- the names of a generator expression: its own (with their places in N), or captured -/
structure GxS (N : List Str) (env : Env) (scope : Scope) (own : List (Str × Nat)) : Prop where
  kind : scope.kind = .function
  co : scope.isCoroutine = false
  cell : ∀ y ∈ scope.names, y.2 ≠ .cell
  dot : scope.names.lookup (".0" : Str) = some NameKind.local
  uniq : ∀ y ∈ scope.names, scope.names.lookup y.1 = some y.2
  ix : ∀ p ∈ own, N[p.2]? = some p.1
  free : ∀ y ∈ scope.names, y.2 = .free → env.scope.names.lookup y.1 = some .cell ∨ env.scope.names.lookup y.1 = some .free
  loc : ∀ y ∈ scope.names, y.2 = .local → y.1 ∈ own.map (·.1) ∨ y.1 ∉ N
theorem gx_start {X : Cx} {pins : List (Addr × Obj)} {σ : L2.St} {H : Hp} {s : Shared} {scope : Scope} {own : List (Str × Nat)} {fp : List Addr} {A : Around} {code : Value} {h5 : Heap} {gs : Array GenState} {tk : Nat} {m : Str → Option Value} (I : Inv X pins σ H s) (S : GxS X.N X.env scope own) (hN : X.N.Nodup)
    (hfp : ∀ b ∈ fp, FpOk X pins H b ∧ b < s.heap.objs.size) (hfr : A.frames = X.A.frames) (hh : A.handled = none) (keep : ∀ b o, s.heap.get? b = some o → h5.get? b = some o) (hn : h5.Ns s.heap.objs.size m) (hg : AllBare gs) :
    Inv (gxOf X A s H (genEnv scope (cloFrom X.env.cells scope.names []) s.heap.objs.size code builtinsNs X.env) fp) [] (wipe σ (own.map (·.2))) H { s with heap := h5, gens := gs, toks := tk } := by
  have hfree : ∀ y ∈ scope.names, y.2 = .free → ∃ c, X.env.cells.lookup y.1 = some c := fun y hy e => by
    rcases S.free y hy e with k | k
    · exact I.ok.has _ (.inl k)
    · exact I.ok.has _ (.inr k)
  generalize hce : genEnv scope (cloFrom X.env.cells scope.names []) s.heap.objs.size code builtinsNs X.env = ce
  have hL : ce.locals = s.heap.objs.size := by rw [← hce]; rfl
  have hcl : ce.cells = cloFrom X.env.cells scope.names [] := by rw [← hce]; rfl
  have hsc : ce.scope = scope := by rw [← hce]; rfl
  have hfrm : ce.frame = some ce.locals := by rw [← hce]; rfl
  have cm : ∀ {y c}, (y, c) ∈ ce.cells → X.env.cells.lookup y = some c ∧ scope.names.lookup y = some .free := fun {y c} hm => by
    rw [hcl] at hm
    rcases cloFrom_mem hm with hm | ⟨h1, rfl⟩
    · cases hm
    · obtain ⟨c, hc⟩ := hfree _ h1 rfl
      rw [hc]
      exact ⟨rfl, S.uniq _ h1⟩
  have cl : ∀ {y c}, ce.cells.lookup y = some c → X.env.cells.lookup y = some c ∧ scope.names.lookup y = some .free := fun e => cm (PySem.mem_of_lookup e)
  have look : ∀ {y}, scope.names.lookup y = some .free → ∃ c, ce.cells.lookup y = some c := fun {y} hl => by
    have hy : (y, NameKind.free) ∈ scope.names := PySem.mem_of_lookup hl
    have z := cloFrom_has (cells := X.env.cells) (acc := []) hy
    rw [← hcl] at z
    exact mem_lookup z
  have vis : ∀ y, Vis ce.scope y → scope.names.lookup y = some .local ∨ scope.names.lookup y = some .free := fun y v => by
    rw [hsc] at v
    rcases v with v | v | v
    · exact .inl v
    · exact absurd rfl (S.cell _ (PySem.mem_of_lookup v))
    · exact .inr v
  have ok : (gxOf X A s H ce fp).Ok := by
    refine ⟨I.ok.mod, by show ce.scope.kind = _; rw [hsc]; exact S.kind, by show ce.globals = _; rw [← hce]; exact I.ok.glob, by show ce.builtins = _; rw [← hce]; rfl, by show s.heap.objs.size ≤ ce.locals; rw [hL]; exact Nat.le_refl _, fun y z c e1 e2 => I.ok.inj y z c (cl e1).1 (cl e2).1, fun y hy => ?_, (fun y c z => by cases z),
      fun _ => hh, ?_, .inr ⟨rfl, hfrm⟩, fun b hb => ⟨?_, fun y c e z => (hfp b hb).1.2.2.2.2.1 y c (cl e).1 z⟩, I.bs, Nat.le_trans I.ok.bsz I.sz, fun b o e hb => ?_, fun b hb z => ?_, I.stack, I.stkFree⟩
    · show ∃ c, ce.cells.lookup y = some c
      have hy : ce.scope.names.lookup y = some .cell ∨ ce.scope.names.lookup y = some .free := hy
      rw [hsc] at hy
      rcases hy with hy | hy
      · exact absurd rfl (S.cell _ (PySem.mem_of_lookup hy))
      · exact look hy
    · show (A.deeper ce).frames = some (ce :: X.stack)
      exact Around.frames_deeper (by rw [hfr]; exact I.ok.frames)
    · show b ≠ ce.locals
      rw [hL]; exact Nat.ne_of_lt (hfp b hb).2
    · rcases (hfp b hb).1.2.2.2.1 with z | z
      · exact I.ok.noex b o e z
      · exact absurd (Nat.lt_of_lt_of_le (Heap.lt_size e) (Nat.le_trans I.ok.bsz z)) (Nat.lt_irrefl _)
    · rcases List.mem_cons.mp (I.stkSub b z) with z | z
      · exact (hfp b hb).1.2.1 z
      · exact (hfp b hb).1.2.2.1 z
  refine ⟨ok, rfl, hg, Un.kept keep, ⟨m, by show Heap.Ns _ ce.locals _; rw [hL]; exact hn, fun i y av e1 e2 e3 => ?_⟩, fun y c e => ?_, by show H ce.locals = none; rw [hL]; exact I.hok.fresh (Nat.le_refl _), fun y c e => I.freeC y c (cl e).1, fun p hp => absurd (show p ∈ ([] : List (Addr × Obj)) ++ [] from hp) (by simp), I.hok.kept keep, by rw [wipe_length]; exact I.len⟩
  · obtain ⟨e2, hne⟩ := wipe_some e2
    rcases vis y e3 with k | k
    · exfalso
      rcases S.loc _ (PySem.mem_of_lookup k) rfl with e' | e'
      · obtain ⟨p, hp, hpy⟩ := List.mem_map.mp e'
        have e4 := S.ix p hp
        rw [show p.1 = y from hpy] at e4
        exact hne (List.mem_map.mpr ⟨p, hp, nodup_ix hN e4 e1⟩)
      · exact e' (List.mem_of_getElem? e1)
    · obtain ⟨m0, _, hl⟩ := I.loc
      have hv : Vis X.env.scope y := (S.free _ (PySem.mem_of_lookup k) rfl).elim (fun q => .inr (.inl q)) fun q => .inr (.inr q)
      obtain ⟨u, r, q⟩ := hl i y av e1 e2 hv
      obtain ⟨c, hc⟩ := look k
      refine ⟨u, r, .inr ⟨.inr (by show ce.scope.names.lookup y = _; rw [hsc]; exact k), c, hc, ?_⟩⟩
      rcases q with ⟨q, _⟩ | ⟨_, c', e', z⟩
      · have q : X.env.scope.names.lookup y = some .local := q
        rcases S.free _ (PySem.mem_of_lookup k) rfl with k' | k' <;> rw [show X.env.scope.names.lookup y = _ from k'] at q <;> cases q
      · rw [(cl hc).1] at e'; cases e'
        exact z.keeps keep
  · obtain ⟨v, z⟩ := I.cell y c (cl e).1
    exact ⟨v, z.keeps keep⟩
theorem over_gx {A : Around} {elt : Expr} {gs : List Comprehension} {scope : Scope} {pos : Pos} {it acc : Value} {env : Env} : A.over (.compLoop (.GeneratorExp elt gs scope pos) 0 it acc env) [] = A.deeper env := rfl
theorem over_gx0 {A : Around} {elt : Expr} {gs : List Comprehension} {scope : Scope} {pos : Pos} {it acc : Value} {env : Env} : A.over (.compStart (.GeneratorExp elt gs scope pos) 0 it acc env) [] = A.deeper env := rfl
/-- amid the walk, i items gone -/
def GxInv (Y : Cx) (pins : List (Addr × Obj)) (σ : L2.St) (fp : List Addr) (tn : Nat → Heap → Prop) (Pv : Nat → Hp → Prop) (i : Nat) (s : Shared) : Prop := ∃ H, Inv Y pins σ H s ∧ tn i s.heap ∧ (∀ b ∈ fp, H b = none) ∧ Pv i H
theorem inv_grown {Y : Cx} {pins : List (Addr × Obj)} {σ : L2.St} {H : Hp} {s s' : Shared} (I : Inv Y pins σ H s) (k : ∀ b o, s.heap.get? b = some o → s'.heap.get? b = some o) (os : s'.os = s.os) (hg : AllBare s'.gens) : Inv Y pins σ H s' :=
  I.call' (ch := []) os (Un.kept k) (I.hok.kept k) hg fun b hb => by cases hb
theorem inv_setGen {Y : Cx} {pins : List (Addr × Obj)} {σ : L2.St} {H : Hp} {s : Shared} {g : Nat} {x : GenState} (I : Inv Y pins σ H s) (hx : x.bare = true) : Inv Y pins σ H (s.setGen g x) := inv_grown I (fun _ _ e => e) rfl (allBare_setGen I.bare hx)
/-- what is handed out: a truth; at the one that stops, what is wanted then, else the walk stands and may go on -/
def GxY (Y : Cx) (pins : List (Addr × Obj)) (σ : L2.St) (fp : List Addr) (tn : Nat → Heap → Prop) (len : Nat) (stop : Bool) (Pv : Nat → Hp → Prop) (Qs : Hp → Prop) : Protocol := fun n s₀ v s kap =>
  ∃ b : Bool, v = .bool b ∧ (if b = stop then ∃ H, Inv Y pins σ H s ∧ Qs H else n + 1 ≤ len ∧ GxInv Y pins σ fp tn Pv (len - n) s ∧
    ∀ s', (∀ x o, s.heap.get? x = some o → s'.heap.get? x = some o) → s'.os = s.os → AllBare s'.gens → kap (.send .none) s')
def GxR (Y : Cx) (pins : List (Addr × Obj)) (σ : L2.St) (Qd : Hp → Prop) : Nat → Shared → Shared → Prop := fun n s₀ s₁ => n = 0 ∧ ∃ H, Inv Y pins σ H s₁ ∧ Qd H
section
variable {X : Cx} {A : Around} {s0 : Shared} {H0 : Hp} {cenv : Env} {fp : List Addr} {elt tg iter : Expr} {scope : Scope} {pos : Pos} {it : Addr} {own : List Nat} {σ : L2.St} {pins : List (Addr × Obj)} {J : It} {tn : Nat → Heap → Prop} {g : TG} {te : TE} {len : Nat} {stop : Bool} {Pv : Nat → Hp → Prop} {Qs Qd : Hp → Prop}
theorem gx_fp {Y : Cx} {pins : List (Addr × Obj)} {σ : L2.St} {H : Hp} {s : Shared} (I : Inv Y pins σ H s) (hpn : Y.pn = []) (hp : ∀ p ∈ pins, p.1 ∉ Y.ex) (hn : ∀ b ∈ Y.ex, H b = none) : ∀ b ∈ Y.ex, FpOk Y pins H b := fun b hb =>
  ⟨hn b hb, (I.ok.exf b hb).1, I.ok.exfs b hb, .inl hb, (I.ok.exf b hb).2, fun p h z => by
    rw [hpn] at h
    exact hp p h (by rw [z]; exact hb)⟩
theorem gx_loop (hh : A.handled = none) (hco : cenv.scope.isCoroutine = false) (T : Turn X.prog X.w X.K tg J fp it tn) (hpf : ∀ p ∈ pins, p.1 ∉ fp)
    (pg : PG (gxOf X A s0 H0 cenv fp) tg g) (pe : PE (gxOf X A s0 H0 cenv fp) elt te)
    (turn : ∀ i H, i < len → Pv i H → J.go i H ∧ ∀ x H', J.yld i H x H' → g x (wipe σ own) H' fun σ2 H2 => wipe σ2 own = wipe σ own ∧ te σ2 H2 fun y H3 => ∃ b : Bool, y = .bl b ∧ if b = stop then Qs H3 else Pv (i + 1) H3)
    (last : ∀ H, Pv len H → J.stop len H ∧ Qd H) :
    ∀ (k i : Nat) (s₀ s : Shared), len - i = k → i ≤ len → GxInv (gxOf X A s0 H0 cenv fp) pins (wipe σ own) fp tn Pv i s →
      Seg (model X.prog X.w) A (fun n s₀ r s₁ => r = .ok .next ∧ GxR (gxOf X A s0 H0 cenv fp) pins (wipe σ own) Qd n s₀ s₁) (GxY (gxOf X A s0 H0 cenv fp) pins (wipe σ own) fp tn len stop Pv Qs) k s₀
        (.compLoop (.GeneratorExp elt [⟨tg, iter, [], 0⟩] scope pos) 0 (.ref it) .none cenv) ((model X.prog X.w).den (.compLoop (.GeneratorExp elt [⟨tg, iter, [], 0⟩] scope pos) 0 (.ref it) .none cenv)) [] s := by
  intro k
  induction k with
  | zero =>
    rintro i s₀ s hk hi ⟨H, I, st, nf, p⟩
    have e : i = len := by omega
    subst e
    obtain ⟨stp, qd⟩ := last H p
    show Seg _ A _ _ _ s₀ _ (Sem.onRaise (compTurn (.GeneratorExp elt [⟨tg, iter, [], 0⟩] scope pos) 0 (.ref it) .none cenv) (leaving cenv)) [] s
    rw [compTurn_gen, Sem.onRaise_eq_wrap]
    refine seg_bind_wrap (wpAny_standAt (seg_bind_wrap ?_))
    rw [over_gx]
    refine thnF (T.done (gxOf X A s0 H0 cenv fp) rfl rfl rfl rfl _ pins s _ H (fun _ _ => False) I (gx_fp I rfl hpf nf) st stp) fun r s6 ⟨hr, I6⟩ => ?_
    subst hr
    exact seg_end (.ok .next) ⟨rfl, rfl, H, I6, qd⟩
  | succ k ih =>
    rintro i s₀ s hk hi ⟨H, I, st, nf, p⟩
    have hlt : i < len := by omega
    obtain ⟨go, step⟩ := turn i H hlt p
    show Seg _ A _ _ _ s₀ _ (Sem.onRaise (compTurn (.GeneratorExp elt [⟨tg, iter, [], 0⟩] scope pos) 0 (.ref it) .none cenv) (leaving cenv)) [] s
    rw [compTurn_gen, Sem.onRaise_eq_wrap]
    refine seg_bind_wrap (wpAny_standAt (seg_bind_wrap ?_))
    rw [over_gx]
    refine thnF (T.item (gxOf X A s0 H0 cenv fp) rfl rfl rfl rfl i pins s _ H (fun _ _ => False) I (gx_fp I rfl hpf nf) st go) fun r s6 ⟨u, hr, h6⟩ => ?_
    subst hr
    refine seg_bind_wrap ?_
    rw [over_gx]
    refine thnF h6 fun _ s7 ⟨x, H7, I7, r7, y7, st7, n7⟩ => ?_
    have J7 := I7.pinned (gx_fp I7 rfl hpf n7) (T.obj _ _ st7)
    refine seg_bind_wrap ?_
    rw [over_gx]
    refine thnF (pg.run _ s7 _ H7 x u _ J7 r7 (step x H7 y7)) fun _ s8 ⟨σ8, H8, I8, hw8, q8⟩ => ?_
    simp only [List.forIn_nil]
    refine seg_bind_wrap (wpAny_pure ?_)
    simp only [if_true]
    have hy : ∀ v, yieldOut cenv v = yieldValue v := fun v => by simp only [yieldOut, hco, Bool.false_eq_true, if_false]
    simp only [hy]
    rw [Sem.bind_eq_wrap', Sem.bind_eq_wrap', Sem.wrap_wrap, Sem.wrap_wrap]
    refine seg_wrap ?_
    rw [over_gx]
    refine thnF (pe.run _ s8 σ8 H8 _ I8 q8) fun y s9 ⟨yv, H9, I9, r9, b, eb, q9⟩ => ?_
    subst eb
    have I10 : Inv (gxOf X A s0 H0 cenv fp) pins (wipe σ own) H9 s9 := I9.unpinned.weak (by rw [← hw8, wipe_length]) fun j v e => by
      rw [← hw8] at e
      exact (wipe_some e).1
    have pin9 : ∀ c ∈ fp, ∀ o, s7.heap.get? c = some o → s9.heap.get? c = some o ∧ H9 c = none := fun c hc o e =>
      let z := I9.pin (c, o) (List.mem_append_right _ (List.mem_append_right _ (mem_pinsAt hc e)))
      ⟨z.1, z.2.1⟩
    refine seg_at (seg_yield rfl rfl rfl ⟨b, r9, ?_⟩)
    by_cases hb : b = stop
    · rw [if_pos hb] at q9 ⊢
      exact ⟨H9, I10, q9⟩
    · rw [if_neg hb] at q9 ⊢
      have st9 : tn (i + 1) s9.heap := T.keep _ _ _ st7 fun c hc o e => (pin9 c hc o e).1
      have nf9 : ∀ c ∈ fp, H9 c = none := fun c hc => by
        obtain ⟨o, e, _⟩ := T.obj _ _ st7 c hc
        exact (pin9 c hc o e).2
      have ei : len - k = i + 1 := by omega
      refine ⟨by omega, by rw [ei]; exact ⟨H9, I10, st9, nf9, q9⟩, fun s' kp os hg => ?_⟩
      exact seg_again rfl (ih (i + 1) s' s' (by omega) hlt ⟨H9, inv_grown I10 kp os hg, T.keep _ _ _ st9 fun c _ o e => kp c o e, nf9, q9⟩)
theorem gx_begin (hh : A.handled = none) (hco : cenv.scope.isCoroutine = false) (T : Turn X.prog X.w X.K tg J fp it tn) (hpf : ∀ p ∈ pins, p.1 ∉ fp)
    (pg : PG (gxOf X A s0 H0 cenv fp) tg g) (pe : PE (gxOf X A s0 H0 cenv fp) elt te)
    (turn : ∀ i H, i < len → Pv i H → J.go i H ∧ ∀ x H', J.yld i H x H' → g x (wipe σ own) H' fun σ2 H2 => wipe σ2 own = wipe σ own ∧ te σ2 H2 fun y H3 => ∃ b : Bool, y = .bl b ∧ if b = stop then Qs H3 else Pv (i + 1) H3)
    (last : ∀ H, Pv len H → J.stop len H ∧ Qd H) (s₀ s : Shared) (h : GxInv (gxOf X A s0 H0 cenv fp) pins (wipe σ own) fp tn Pv 0 s) :
    Seg (model X.prog X.w) A (fun n s₀ r s₁ => r = .ok .next ∧ GxR (gxOf X A s0 H0 cenv fp) pins (wipe σ own) Qd n s₀ s₁) (GxY (gxOf X A s0 H0 cenv fp) pins (wipe σ own) fp tn len stop Pv Qs) len s₀
      (.compStart (.GeneratorExp elt [⟨tg, iter, [], 0⟩] scope pos) 0 (.ref it) .none cenv) ((model X.prog X.w).den (.compStart (.GeneratorExp elt [⟨tg, iter, [], 0⟩] scope pos) 0 (.ref it) .none cenv)) [] s := by
  have loop := gx_loop (iter := iter) (scope := scope) (pos := pos) hh hco T hpf pg pe turn last len 0 s₀ s (Nat.sub_zero _) (Nat.zero_le _) h
  obtain ⟨H, I, st, nf, p⟩ := h
  show Seg _ A _ _ _ s₀ _ (Sem.onRaise (compStart (.GeneratorExp elt [⟨tg, iter, [], 0⟩] scope pos) 0 (.ref it) .none cenv) (leaving cenv)) [] s
  unfold compStart
  rw [Sem.onRaise_eq_wrap]
  show Seg (model X.prog X.w) A _ _ _ s₀ _ ((ask >>= _).wrap _ _ _ _) [] s
  refine seg_bind_wrap (wpAny_askSetting ?_)
  split
  · exact seg_again rfl loop
  · first
      | exact seg_bind_wrap (wpAny_rule (seg_bind_wrap (wpAny_standAt (seg_bind_wrap (T.self _ 0 s _ _ st (seg_again rfl loop))))))
      | (refine seg_bind_wrap (wpAny_rule ?_); show Seg (model X.prog X.w) A _ _ _ s₀ _ ((standAt iter.pos >>= _).wrap _ _ _ _) [] s; exact seg_bind_wrap (wpAny_standAt (seg_bind_wrap (T.self _ 0 s _ _ st (seg_again rfl loop)))))
end
/-! ### all and any over it -/
section
variable {Y : Cx} {pins : List (Addr × Obj)} {σ : L2.St} {fp : List Addr} {tn : Nat → Heap → Prop} {len : Nat} {Pv : Nat → Hp → Prop} {Qs Qd : Hp → Prop} {a : Addr} {og : Obj} {g : Nat} {B : Around} {R : Result → Shared → Prop}
theorem gx_all (hh : B.handled = none) (hd : B.depth < recursionLimit) (hog : ∀ h : Heap, h.get? a = some og → h.IsGen a g) (hpin : (a, og) ∈ pins)
    (hstop : ∀ s' H, Inv Y pins σ H s' → Qs H → R (.ok (.ret (.bool false))) s') (hdone : ∀ s' H, Inv Y pins σ H s' → Qd H → R (.ok (.ret (.bool true))) s') :
    ∀ (n : Nat) (s : Shared) (gs : GenState), s.heap.get? a = some og → s.heap.NoLimit → s.gens[g]? = some gs →
      gs.Goes (model Y.prog Y.w) B.in1.in1 (fun n s₀ r s₁ => r = .ok .next ∧ GxR Y pins σ Qd n s₀ s₁) (GxY Y pins σ fp tn len false Pv Qs) n (.send .none) (s.setGen g .running) →
      codeAny (model Y.prog Y.w) B (.builtin "all.loop" ⟨[.ref a], []⟩) R s := by
  intro n
  induction n with
  | zero =>
    intro s gs ha hl hgs hgo
    refine codeAny_builtin F.entry_all_loop ?_
    rw [Around.under_plainId F.plain_all_loop _]
    show wpAny _ B.in1 (pyNext (.ref a) >>= _) _ _ s
    refine wpAny_bind (wpAny_pyNext_genexpQ (A := B.in1) (P := GxR Y pins σ Qd) hh hl hd (hog _ ha) hgs hgo (fun v s₁ gs' hb hv => ?_) (fun s₁ hp h' hk => ?_))
    · obtain ⟨b, rfl, hv⟩ := hv
      refine wpAny_bind (wpAny_holding (wpAny_truthy_bool ?_))
      refine wpAny_bind (wpAny_letGo ?_)
      cases b with
      | true =>
        rw [if_neg (by decide)] at hv
        obtain ⟨_, ⟨H, I, _⟩, kap⟩ := hv
        exact (kap s₁ (fun _ _ e => e) rfl I.bare).elim
      | false =>
        rw [if_pos rfl] at hv
        obtain ⟨H, I, q⟩ := hv
        simp only [Bool.false_eq_true, if_false]
        exact wpAny_bind (wpAny_rule (wpAny_pure (hstop _ H (inv_grown I (fun _ _ e => e) rfl (allBare_setGen I.bare hb)) q)))
    · obtain ⟨_, H, I, q⟩ := hp
      exact wpAny_bind (wpAny_rule (wpAny_pure (hdone _ H (inv_grown I (fun b o e => hk b o e) rfl (allBare_setGen I.bare rfl)) q)))
  | succ m ih =>
    intro s gs ha hl hgs hgo
    have hgl : g + 1 ≤ s.gens.size := (Array.getElem?_eq_some_iff.mp hgs).1
    refine codeAny_builtin F.entry_all_loop ?_
    rw [Around.under_plainId F.plain_all_loop _]
    show wpAny _ B.in1 (pyNext (.ref a) >>= _) _ _ s
    refine wpAny_bind (GenW.wpAny_gsz hgl (wpAny_pyNext_genexpQ (A := B.in1) (P := GxR Y pins σ Qd) hh hl hd (hog _ ha) hgs hgo (fun v s₁ gs' hb hv => ?_) (fun s₁ hp h' hk => ?_)))
    · intro hsz
      obtain ⟨b, rfl, hv⟩ := hv
      refine wpAny_bind (wpAny_holding (wpAny_truthy_bool ?_))
      refine wpAny_bind (wpAny_letGo ?_)
      cases b with
      | true =>
        rw [if_neg (by decide)] at hv
        obtain ⟨_, ⟨H, I, _⟩, kap⟩ := hv
        have hs1 : g < s₁.gens.size := by
          rw [GenW.setGen_size] at hsz
          exact hsz
        simp only [if_true]
        refine wpAny_pure ⟨plainId_quiet F.plain_all_loop _, ih (s₁.setGen g gs') gs' ?_ ?_ (setGen_at hs1) ?_⟩
        · exact (I.pin (a, og) (List.mem_append_right _ hpin)).1
        · exact I.nolimit
        · exact kap ((s₁.setGen g gs').setGen g .running) (fun _ _ e => e) rfl (allBare_setGen (s := s₁.setGen g gs') (allBare_setGen I.bare hb) rfl)
      | false =>
        rw [if_pos rfl] at hv
        obtain ⟨H, I, q⟩ := hv
        simp only [Bool.false_eq_true, if_false]
        exact wpAny_bind (wpAny_rule (wpAny_pure (hstop _ H (inv_grown I (fun _ _ e => e) rfl (allBare_setGen I.bare hb)) q)))
    · intro hsz
      obtain ⟨_, H, I, q⟩ := hp
      exact wpAny_bind (wpAny_rule (wpAny_pure (hdone _ H (inv_grown I (fun b o e => hk b o e) rfl (allBare_setGen I.bare rfl)) q)))
end
/-- all(test for target in e); behind it the def's table may have grown -/
def tAllX (P : Addr) (wi : TI) (g : TG) (te : TE) (own : List Nat) : TE := fun σ H Q => wi σ H fun J H1 => GxR.TabG H1 P ∧ ∀ H2, GxR.Tabbed P H1 H2 → ∃ (len : Nat) (Pv : Nat → Hp → Prop), Pv 0 H2 ∧
  (∀ i H', i < len → Pv i H' → J.go i H' ∧ ∀ x H3, J.yld i H' x H3 → g x (wipe σ own) H3 fun σ2 H4 => wipe σ2 own = wipe σ own ∧ te σ2 H4 fun y H5 => ∃ b : Bool, y = .bl b ∧ if b = false then Q (.bl false) H5 else Pv (i + 1) H5) ∧
  ∀ H', Pv len H' → J.stop len H' ∧ Q (.bl true) H'
/-- the context of its element -/
abbrev gxE (X : Cx) (scope : Scope) (s : Shared) (H : Hp) (C : Addr) (code : Value) (fp : List Addr) : Cx := gxOf X X.A.in1.in1 s H (genEnv scope (cloFrom X.env.cells scope.names []) C code builtinsNs X.env) fp
theorem pe_allX {X : Cx} {c P : Addr} {elt tg iter : Expr} {p pos gpos : Pos} {scope : Scope} {own : List (Str × Nat)} {wi : TI} {g : TG} {te : TE} {k : Nat} (hr : Room k X.A) (hg : Gl X "all") (hm : X.mg "all" = none) (hb : bootBuiltins "all" = some (.builtin "all"))
    (TB : GxR.TabB X.base X.mg c P) (hcode : X.env.code = .ref c) (S : GxS X.N X.env scope own) (hN : X.N.Nodup) (hi : PI X tg iter wi) (hpg : ∀ s H C code fp, PG (gxE X scope s H C code fp) tg g) (hpe : ∀ s H C code fp, PE (gxE X scope s H C code fp) elt te)
    (hs : ∀ v, genFold iter X.env v = pure v)
    (he : starEach [.GeneratorExp elt [⟨tg, iter, [], 0⟩] scope gpos] X.env = (false, eval (.GeneratorExp elt [⟨tg, iter, [], 0⟩] scope gpos) X.env) :: starEach [] X.env := by rfl) :
    PE X (.Call (.Name "all" p) [.GeneratorExp elt [⟨tg, iter, [], 0⟩] scope gpos] [] pos) (tAllX P wi g te (own.map (·.2))) := by
  refine ⟨fun pins s σ H Q I h => ?_⟩
  have hfree : ∀ y ∈ scope.names, y.2 = .free → ∃ c, X.env.cells.lookup y.1 = some c := fun y hy e => by
    rcases S.free y hy e with k | k
    · exact I.ok.has _ (.inl k)
    · exact I.ok.has _ (.inr k)
  refine wpAny_Call_Name_kw (ld_blt I hg hm hb ?_)
  refine PyProof.Rows.callWith_builtin1 ?_ he (by rfl)
  rw [he]
  show wpAny (model X.prog X.w) X.A (spliced ((false, eval (.GeneratorExp elt [⟨tg, iter, [], 0⟩] scope gpos) X.env) :: backTo pos (starEach [] X.env))) _ _ s
  refine Calls.spliced_cons (wpAny_GeneratorExp_make S.co (closure_ok hfree) S.cell S.dot S.kind hr.depth ?_ hs)
  refine thn (hi.run pins s σ H _ I h) fun xv s1 hx => thn hx fun itv s2 h2 => ?_
  obtain ⟨it, fp, tn, J, H2, e, I2, T, st2, f2, ht, q⟩ := h2
  subst e
  refine ⟨I2.nolimit, ?_⟩
  refine gx_code TB hcode I2 ht fun code s4 H4 tb4 I4 hsz4 kp4 => ?_
  obtain ⟨len, Pv, p0, turn, last⟩ := q H4 tb4
  have fnP : ∀ b ∈ fp, b ≠ P := fun b hb z => by
    obtain ⟨ps, hP, _⟩ := ht
    have := (f2 b hb).1
    rw [z, hP] at this
    cases this
  have st4 : tn 0 s4.heap := T.keep _ _ _ st2 fun b hb o e => kp4 b o (fnP b hb) e
  have f4 : ∀ b ∈ fp, FpOk X pins H4 b ∧ b < s4.heap.objs.size := fun b hb => by
    obtain ⟨o, e, _⟩ := T.obj _ _ st4 b hb
    exact ⟨⟨(tb4.2 b (fnP b hb)).trans (f2 b hb).1, (f2 b hb).2⟩, Heap.lt_size e⟩
  intro h' hn' hs'
  have hsz : h'.objs.size = s4.heap.objs.size + 1 := by rw [hs'.1, Heap.size_push]
  have kp' : ∀ b o, s4.heap.get? b = some o → h'.get? b = some o := fun b o e => hs'.extBut b o (Nat.ne_of_lt (Heap.lt_size e)) (Heap.get?_push_of_some _ e)
  generalize hog : ({ cls := .type "generator", data := .fields #[.int s4.gens.size 0, .str "<genexpr>" (s4.toks + 1), .str (X.env.qual ++ "<genexpr>") (s4.toks + 1 + 1)] } : Obj) = og
  have isg : ∀ hp : Heap, hp.get? h'.objs.size = some og → hp.IsGen h'.objs.size s4.gens.size := fun hp e => ⟨og, _, _, e, by rw [← hog], by rw [← hog], by rw [← hog]⟩
  have eog : (h'.push og).get? h'.objs.size = some og := Heap.get?_push_size _ (by rw [← hog] <;> rfl)
  have kp5 : ∀ b o, s4.heap.get? b = some o → (h'.push og).get? b = some o := fun b o e => Heap.get?_push_of_some _ (kp' b o e)
  refine Calls.spliced_nil ?_
  refine call_function_tree F.kind_all F.plain_all F.entry_all (F.args_all1 _) ?_
  unfold Builtin.«all»
  refine wpAny_bind (m := oneArg "all" _) (wpAny_pure ?_)
  refine wpAny_bind (wpAny_pyIter_gen (isg _ eog) ?_)
  refine wpAny_pure ⟨plainId_quiet F.plain_all_loop _, ?_⟩
  have back : ∀ {s' : Shared} {H' : Hp} {pn2 : List (Addr × Obj)} {σ2 : L2.St}, Inv (gxE X scope s4 H4 s4.heap.objs.size code fp) pn2 σ2 H' s' → Inv X pins σ H' s' := fun I6 =>
    I4.call' (ch := fp) I6.os I6.base I6.hok I6.bare fun b hb => ⟨(f4 b hb).1.2.2.2.1, (f4 b hb).1.2.1, (f4 b hb).1.2.2.2.2.1, (f4 b hb).1.2.2.2.2.2⟩
  have szP : h'.objs.size < (h'.push og).objs.size := by rw [Heap.size_push]; exact Nat.lt_succ_self _
  have hgs : (s4.gens.push (GenState.fresh (.compStart (.GeneratorExp elt [⟨tg, iter, [], 0⟩] scope gpos) 0 (.ref it) .none (genEnv scope (cloFrom X.env.cells scope.names []) s4.heap.objs.size code builtinsNs X.env))))[s4.gens.size]? = some (.fresh (.compStart (.GeneratorExp elt [⟨tg, iter, [], 0⟩] scope gpos) 0 (.ref it) .none (genEnv scope (cloFrom X.env.cells scope.names []) s4.heap.objs.size code builtinsNs X.env))) := Array.getElem?_push_size ..
  have hbare : AllBare (s4.gens.push (GenState.fresh (.compStart (.GeneratorExp elt [⟨tg, iter, [], 0⟩] scope gpos) 0 (.ref it) .none (genEnv scope (cloFrom X.env.cells scope.names []) s4.heap.objs.size code builtinsNs X.env)))) := I4.bare.push rfl
  have nP : ∀ b ∈ fp, b ≠ h'.objs.size := fun b hb z => by
    have := (f4 b hb).2
    rw [z, hsz] at this
    exact absurd this (Nat.not_lt.mpr (Nat.le_succ _))
  have J0 : Inv (gxE X scope s4 H4 s4.heap.objs.size code fp) [(h'.objs.size, og)] (wipe σ (own.map (·.2))) H4 { s4 with heap := h'.push og, gens := s4.gens.push (GenState.fresh (.compStart (.GeneratorExp elt [⟨tg, iter, [], 0⟩] scope gpos) 0 (.ref it) .none (genEnv scope (cloFrom X.env.cells scope.names []) s4.heap.objs.size code builtinsNs X.env))), toks := s4.toks + 1 + 1 + 1 } := by
    refine (gx_start I4 S hN f4 (A := X.A.in1.in1) rfl hr.hd kp5 (hn'.push og) hbare).pins_of fun pr hp => ?_
    rw [List.mem_singleton.mp hp]
    refine ⟨eog, I4.hok.fresh (by rw [hsz]; exact Nat.le_succ _), ?_, ?_, fun v z => ?_⟩
    · show h'.objs.size ≠ s4.heap.objs.size
      rw [hsz]
      exact Nat.succ_ne_self _
    · intro z
      have z : h'.objs.size ∈ frs X.stack := z
      obtain ⟨_, o, e, _⟩ := I4.stack.mem z
      have := Heap.lt_size e
      rw [hsz] at this
      exact absurd this (Nat.not_lt.mpr (Nat.le_succ _))
    · rw [← hog] at z
      cases z
  have J1 := inv_setGen (g := s4.gens.size) (x := .running) J0 rfl
  refine gx_all (Y := gxE X scope s4 H4 s4.heap.objs.size code fp) (pins := [(h'.objs.size, og)]) (σ := wipe σ (own.map (·.2))) (fp := fp) (tn := tn) (len := len) (Pv := Pv) (Qs := fun H' => Q (.bl false) H') (Qd := fun H' => Q (.bl true) H') (B := X.A) (g := s4.gens.size) hr.hd hr.depth isg (List.mem_cons_self ..)
    (fun s' H' I6 qq => ?_) (fun s' H' I6 qq => ?_) len _ _ eog J0.nolimit hgs ⟨rfl, ?_⟩
  · exact ⟨.bl false, H', back I6, rfl, qq⟩
  · exact ⟨.bl true, H', back I6, rfl, qq⟩
  · refine gx_begin (X := X) (A := X.A.in1.in1) (s0 := s4) (H0 := H4) (pins := [(h'.objs.size, og)]) (σ := σ) (own := own.map (·.2)) (stop := false) hr.hd S.co T (fun pr hp => ?_) (hpg _ _ _ _ _) (hpe _ _ _ _ _) turn last _ _ ⟨H4, J1, T.keep _ _ _ st4 fun b _ o e => kp5 b o e, fun b hb => (f4 b hb).1.1, p0⟩
    rw [List.mem_singleton.mp hp]
    exact fun z => nP _ z rfl
/-- over a list that stays -/
theorem allX_list {K : PySem.W.Frag} {a : Addr} {xs : List V} {g : TG} {te : TE} {own : List Nat} {σ : L2.St} {H2 : Hp} {Q : VK} (Pv : Nat → Hp → Prop) (h0 : Pv 0 H2) (hl : ∀ i H, Pv i H → SqL K H a xs)
    (hs : ∀ i x H, xs[i]? = some x → Pv i H → g x (wipe σ own) H fun σ2 H4 => wipe σ2 own = wipe σ own ∧ te σ2 H4 fun y H5 => ∃ b : Bool, y = .bl b ∧ if b = false then Q (.bl false) H5 else Pv (i + 1) H5) (hd : ∀ H, Pv xs.length H → Q (.bl true) H) :
    ∃ (len : Nat) (Pv : Nat → Hp → Prop), Pv 0 H2 ∧
      (∀ i H', i < len → Pv i H' → (Itl K a).go i H' ∧ ∀ x H3, (Itl K a).yld i H' x H3 → g x (wipe σ own) H3 fun σ2 H4 => wipe σ2 own = wipe σ own ∧ te σ2 H4 fun y H5 => ∃ b : Bool, y = .bl b ∧ if b = false then Q (.bl false) H5 else Pv (i + 1) H5) ∧
      ∀ H', Pv len H' → (Itl K a).stop len H' ∧ Q (.bl true) H' := by
  refine ⟨xs.length, Pv, h0, fun i H' hi p => ⟨⟨xs, xs[i], hl i H' p, by simp [hi]⟩, fun x H3 y => ?_⟩, fun H' p => ⟨⟨xs, hl _ _ p, Nat.le_refl _⟩, hd H' p⟩⟩
  obtain ⟨e, z⟩ := y
  subst e
  exact hs i x _ (z xs (hl _ _ p)) p
/-! ### two tables that may grow -/
structure K2 (T T2 : Addr) (H H' : Hp) : Prop where
  t1 : GxR.TabG H T
  t1' : GxR.TabG H' T
  t2 : GxR.TabG H T2
  t2' : GxR.TabG H' T2
  keep : ∀ b o, b ≠ T → b ≠ T2 → H b = some o → H' b = some o
theorem K2.of {T T2 : Addr} {H H' : Hp} (k : Kp T H H') (h : GxR.TabG H T2) : K2 T T2 H H' := by
  refine ⟨k.t0, k.tab, h, ?_, fun b o n _ e => k.keep b o n e⟩
  by_cases e : T2 = T
  · rw [e]; exact k.tab
  · obtain ⟨ps, e2, h2⟩ := h
    exact ⟨ps, k.keep _ _ e e2, h2⟩
theorem K2.swap {T T2 : Addr} {H H' : Hp} (k : K2 T T2 H H') : K2 T2 T H H' := ⟨k.t2, k.t2', k.t1, k.t1', fun b o n m e => k.keep b o m n e⟩
theorem K2.trans {T T2 : Addr} {H H1 H2 : Hp} (a : K2 T T2 H H1) (b : K2 T T2 H1 H2) : K2 T T2 H H2 := ⟨a.t1, b.t1', a.t2, b.t2', fun c o n m e => b.keep c o n m (a.keep c o n m e)⟩
theorem K2.refl {T T2 : Addr} {H : Hp} (h1 : GxR.TabG H T) (h2 : GxR.TabG H T2) : K2 T T2 H H := ⟨h1, h1, h2, h2, fun _ _ _ _ e => e⟩
/-- what each step keeps is kept by both -/
theorem K2.cut {T T2 : Addr} {H H' : Hp} (k : K2 T T2 H H') : ∃ H1, Kp T H H1 ∧ Kp T2 H1 H' := by
  by_cases e : T2 = T
  · subst e
    exact ⟨H, .refl k.t1, k.t1, k.t1', fun b o n e => k.keep b o n n e⟩
  · refine ⟨fun b => if b = T2 then H T2 else H' b, ⟨k.t1, ?_, fun b o n h => ?_⟩, ?_, k.t2', fun b o n h => ?_⟩
    · obtain ⟨ps, e1, h1⟩ := k.t1'
      exact ⟨ps, by show (if T = T2 then _ else _) = _; rw [if_neg (fun z => e z.symm)]; exact e1, h1⟩
    · show (if b = T2 then _ else _) = _
      by_cases hb : b = T2
      · rw [if_pos hb, ← hb]; exact h
      · rw [if_neg hb]; exact k.keep b o n hb h
    · obtain ⟨ps, e1, h1⟩ := k.t2
      exact ⟨ps, by show (if T2 = T2 then _ else _) = _; rw [if_pos rfl]; exact e1, h1⟩
    · have h : (if b = T2 then H T2 else H' b) = some o := h
      rw [if_neg n] at h
      exact h
theorem K2.lift {T T2 : Addr} {H H' : Hp} {p : Hp → Prop} (k : K2 T T2 H H') (h : ∀ T H H', Kp T H H' → p H → p H') (q : p H) : p H' := by
  obtain ⟨H1, k1, k2⟩ := k.cut
  exact h _ _ _ k2 (h _ _ _ k1 q)
theorem K2.tabbed {T T2 : Addr} {H H' : Hp} (h1 : GxR.TabG H T) (h2 : GxR.TabG H T2) (b : GxR.Tabbed T2 H H') : K2 T T2 H H' := by
  refine ⟨h1, ?_, h2, b.1, fun c o _ m e => by rw [b.2 c m]; exact e⟩
  by_cases e : T = T2
  · rw [e]; exact b.1
  · obtain ⟨ps, e1, q⟩ := h1
    exact ⟨ps, by rw [b.2 T e]; exact e1, q⟩
end Pk

set_option Elab.async false
set_option linter.all false
set_option maxRecDepth 100000
set_option maxHeartbeats 4000000
namespace Pk
open PySem PySem.Spec PyProof.Rows L2
theorem gxS_of {N M : List Str} {sc scope : Scope} {own : List (Str × Nat)} {env : Env} (hM : N = M) (h : env.scope = sc) (kind : scope.kind = .function) (co : scope.isCoroutine = false) (cell : ∀ y ∈ scope.names, y.2 ≠ .cell) (dot : scope.names.lookup (".0" : Str) = some NameKind.local) (uniq : ∀ y ∈ scope.names, scope.names.lookup y.1 = some y.2)
    (ix : ∀ p ∈ own, M[p.2]? = some p.1) (free : ∀ y ∈ scope.names, y.2 = .free → sc.names.lookup y.1 = some .cell ∨ sc.names.lookup y.1 = some .free) (loc : ∀ y ∈ scope.names, y.2 = .local → y.1 ∈ own.map (·.1) ∨ y.1 ∉ M) : GxS N env scope own := ⟨kind, co, cell, dot, uniq, by rw [hM]; exact ix, by rw [h]; exact free, by rw [hM]; exact loc⟩
theorem gx_room {X : Cx} {scope : Scope} {s : Shared} {H : Hp} {C : Addr} {code : Value} {fp : List Addr} {k : Nat} (h : Room (k + 3) X.A) : Room k (gxE X scope s H C code fp).A := h.in1.in1.deeper _
theorem gx_hu {X : Cx} {scope : Scope} {s : Shared} {H : Hp} {C : Addr} {code : Value} {fp : List Addr} {k : Nat} (h : Room k X.A) : (gxE X scope s H C code fp).A.units + 1 < cLine := by
  have z := h.un
  show X.A.units + 1 + 1 + 3 + 1 < _
  omega
/-- a need that a pick meets -/
def metD (pk : List (Str × Int)) : PyData → Bool
  | .tuple [.str w, .int lo, .int hi] => match lkP pk w with
    | some m => decide (lo ≤ m) && decide (m ≤ hi)
    | none => false
  | _ => false
/-- all needs of a wish and of the picked makes -/
def allN (D : Str → List (Int × List PyData)) (pk : List (Str × Int)) (ds : List PyData) : List PyData := ds ++ pk.flatMap fun e => needsD D e.1 e.2
def mB (D : Str → List (Int × List PyData)) (pk : List (Str × Int)) (ds : List PyData) (out : List Str) : Bool := decide ((pk.map (·.1)).Perm out) && (allN D pk ds).all (metD pk)
theorem AgOf.sub {f : Str → List Str} {U : List Str} : ∀ {ws : List Str} {n : Nat} {out : List Str}, AgOf f ws n out → (∀ y ∈ ws, y ∈ U) → (∀ w, ∀ y ∈ f w, y ∈ U) → ∀ y ∈ out, y ∈ U
  | _, _, _, .done _, hw, _ => hw
  | ws, n, _, .step (w := w) h r, hw, hf => AgOf.sub r (fun y hy => (addW_mem.mp hy).elim (hw y) (hf w y)) hf
/-- what waits stays, and what it needs is there -/
theorem AgOf.keeps {f : Str → List Str} : ∀ {ws : List Str} {n : Nat} {out : List Str}, AgOf f ws n out → ∀ y ∈ ws, y ∈ out
  | _, _, _, .done _, y, hy => hy
  | _, _, _, .step h r, y, hy => AgOf.keeps r y (addW_mem.mpr (.inl hy))
theorem AgOf.closed {f : Str → List Str} : ∀ {ws : List Str} {n : Nat} {out : List Str}, AgOf f ws n out → (∀ i w, i < n → ws[i]? = some w → ∀ y ∈ f w, y ∈ ws) → ∀ w ∈ out, ∀ y ∈ f w, y ∈ out
  | ws, n, _, .done h, hc, w, hw, y, hy => by
    obtain ⟨i, hi, rfl⟩ := List.getElem_of_mem hw
    have hn := List.getElem?_eq_none_iff.mp h
    exact hc i _ (by omega) (List.getElem?_eq_getElem hi) y hy
  | ws, n, _, .step (w := w0) h r, hc, w, hw, y, hy => by
    refine AgOf.closed r (fun i w' hi e z hz => ?_) w hw y hy
    have hn := (List.getElem?_eq_some_iff.mp h).1
    obtain ⟨r', er⟩ := addW_pre ws (f w0)
    rw [er, List.getElem?_append_left (by omega)] at e
    by_cases q : i < n
    · exact addW_mem.mpr (.inl (hc i w' q e z hz))
    · have : i = n := by omega
      subst this
      rw [h] at e
      cases e
      exact addW_mem.mpr (.inr hz)
section
variable {P : Program} {w : World} {K : PySem.W.Frag} {mg : Str → Option Value} {base : Heap}
def meetsUN : List Str := ["shop", "wish", "pick", "needs", "ware", "make", "low", "high"]
end
end Pk

set_option Elab.async false
set_option linter.all false
set_option maxRecDepth 100000
set_option maxHeartbeats 4000000
namespace Pk
open PySem PySem.Spec PyProof.Rows L2
section
variable {P : Program} {w : World} {K : PySem.W.Frag} {mg : Str → Option Value} {base : Heap}
def lMeetsN : List Str := ["_law_rows_here", "_law_wish_here", nPick, "_law_needs_here", "_law_ware", "_law_low", "_law_high"]
theorem scLMeets : FnScope lMeetsN ["_law_rows_here", "_law_wish_here", nPick] (defScope sLMeets) := ⟨rfl, rfl, rfl, by decide +kernel, rfl, by decide +kernel, by decide +kernel⟩
def spLMt (K : PySem.W.Frag) (T : Addr) : Sp := fun vs H Q _ => ∃ (A : List Addr) (r q a : Addr) (cl : List Shelf) (xs : List V) (ds : List PyData) (pk : List (Str × Int)), vs = [.ref r, .ref q, .ref a] ∧ BoxOk K A H r cl ∧ GoodSh (dataOf cl) ∧ SqL K H q xs ∧ DpAll K H xs ds ∧ (∀ d ∈ ds, ND d) ∧ ds.length ≤ 8 ∧
  H a = some (.dK (pkD pk)) ∧ a ∉ foot r cl ∧ PickOk (dataOf cl) pk ∧ pk.length ≤ 9 ∧ RawB K H cl ∧ GxR.TabG H T ∧ (∀ H', Kp T H H' → (allN (dataOf cl) pk ds).all (metD pk) = false → Q (.bl false) H') ∧
  ∀ out H', AgOf (needW (dataOf cl) pk) (addW [] (ds.map wOf)) 0 out → Kp T H H' → Q (.bl (mB (dataOf cl) pk ds out)) H'
theorem ok_lmt {f fL T : Addr} {fd fdL : FuncData} (F : Fun K "_law_meets" "_law_meets" sLMeets f fd)
    (GL : FnOk P w K mg base CX0 1 fL fdL ["_law_rows_here", "_law_wish_here", nPick] (spLAg K T)) (kL : PySem.W.keepIn K (.ref fL) = true) (bL : Binds K fdL ["_law_rows_here", "_law_wish_here", nPick] []) (gL : mg "_law_agenda" = some (.ref fL))
    (y_list : mg "list" = none) (y_sorted : mg "sorted" = none) : FnOk P w K mg base CX0 2 f fd ["_law_rows_here", "_law_wish_here", nPick] (spLMt K T) := by
  refine F.ok scLMeets (fun vs H Q E h => ?_) (fun cdv A0 outer s H vs Q E hr h => ?_)
  · obtain ⟨A, r, q, a, cl, xs, ds, pk, rfl, _⟩ := h
    rfl
  · obtain ⟨A, r, q, a, cl, xs, ds, pk, rfl, B, G, hq, hds, hnd, h8, ha, har, O, h9, hR, ht, finN, fin⟩ := h
    have hu := hu_of hr
    refine ⟨_, (pss_cons (ps_set (i := 3) scLMeets.nd rfl (by first | exact .inl rfl | exact .inr rfl) (pe_callTy call_list_of (by rfl) y_list boot_list (pa_cons (pv 1) pa_nil)))
      (pss_cons (ps_lock (ps_for PassesOwn.never rfl (pi_keys (pv 2)) (pg_name (i := 4) scLMeets.nd rfl (by first | exact .inl rfl | exact .inr rfl)) (pss_one (ps_set (i := 3) scLMeets.nd rfl (by first | exact .inl rfl | exact .inr rfl) (pe_op op_cat (pv 3) (pe_dget hu (pe_dget hu (pv 0) (pv 4) (fun _ _ => rfl)) (pe_dget hu (pv 2) (pv 4) (fun _ _ => rfl)) (fun _ _ => rfl)))))))
      (pss_cons (ps_for PassesOwn.never rfl (pi_list (pv 3)) (pg_tup (by rfl) (pgs_cons (pg_name (i := 4) scLMeets.nd rfl (by first | exact .inl rfl | exact .inr rfl)) (pgs_cons (pg_name (i := 5) scLMeets.nd rfl (by first | exact .inl rfl | exact .inr rfl)) (pgs_cons (pg_name (i := 6) scLMeets.nd rfl (by first | exact .inl rfl | exact .inr rfl)) pgs_nil)))) (pss_one (ps_if (PW.pt (pw_or (pt_cmp (pc_dnotin hu (pv 4) (pv 2))) (pw_or1 (pt_not (pt_chain op_le op_le (pv 5) (pe_dget hu (pv 2) (pv 4) (fun _ _ => rfl)) (pv 6)))))) (pss_one (ps_ret pe_bl)) pss_nil)))
      (pss_one (ps_ret (pe_cmpR (op_eqD hr.units) (pe_callB (call_sortedD rfl) (by rfl) y_sorted (by decide +kernel) (pa_cons (pv 2) pa_nil)) (pe_callB cr_sortedS (by rfl) y_sorted (by decide +kernel) (pa_cons (pe_call GL (hr.mono (by decide)) (by rfl) gL kL bL .nil pass0 (pa_cons (pv 0) (pa_cons (pv 1) (pa_cons (pv 2) pa_nil)))) pa_nil)) (nomark _))))))), ?_⟩
    refine ⟨_, rfl, q, xs, rfl, .inl hq, fun nl nnl => ?_⟩
    have k1 := Kp.new (o := HO.lst xs) ht nnl
    have ha1 := dict_kp k1 ha
    have enl : upd H nl (.lst xs) nl = some (.lst xs) := upd_same
    have B1 := B.keptP k1
    have R1 := hR.kp k1
    have d1 := k1.dpAll _ _ hds
    generalize upd H nl (.lst xs) = H1 at k1 ha1 enl B1 R1 d1 ⊢
    have t1 := k1.tab
    have aT := tab_ne t1 ha1 (fun _ z => by cases z)
    refine ⟨a, _, ha1, True.intro, fun od => ?_⟩
    have eL : upd H1 a (.frz od (.dK (pkD pk))) a = some (.frz od (.dK (pkD pk))) := upd_same
    have BL := B1.swap (d := a) (o' := .frz od (.dK (pkD pk))) (fun o z => by rw [ha1] at z; cases z; rfl) har
    have RL : RawB K (upd H1 a (.frz od (.dK (pkD pk)))) cl := fun s hs e he => (R1 s hs e he).imp fun _ z => ⟨by rw [upd_ne (fun q => by have z := z.1; rw [q, ha1] at z; cases z)]; exact z.1, dpAll_mono (fun b o hs e => by rw [upd_ne (fun z => by rw [z, ha1] at e; cases e; cases hs)]; exact e) _ _ z.2⟩
    have dL : DpAll K (upd H1 a (.frz od (.dK (pkD pk)))) xs ds := dpAll_mono (fun b o hs e => by rw [upd_ne (fun z => by rw [z, ha1] at e; cases e; cases hs)]; exact e) _ _ d1
    have enL : upd H1 a (.frz od (.dK (pkD pk))) nl = some (.lst xs) := by rw [upd_ne (fun z => by rw [z, ha1] at enl; cases enl)]; exact enl
    have un : ∀ H', Kp T (upd H1 a (.frz od (.dK (pkD pk)))) H' → Kp T H1 (upd H' a (.dK (pkD pk))) := fun H' k => unlockP t1 ha1 aT k
    have tL : GxR.TabG (upd H1 a (.frz od (.dK (pkD pk)))) T := tab_upd t1 aT
    generalize upd H1 a (.frz od (.dK (pkD pk))) = HL at eL BL RL dL enL un tL ⊢
    refine ⟨_, rfl, a, od, rfl, .inl ⟨_, eL, for_it walk_keys (fun i σ' H' => ∃ (x4 : Option V) (cur : Addr) (vs : List V), σ' = [some (.ref r), some (.ref q), some (.ref a), some (.ref cur), x4, none, none] ∧ Kp T HL H' ∧ H' cur = some (.lst vs) ∧ DpAll K H' vs (allN (dataOf cl) (pk.take i) ds))
      ⟨none, nl, xs, rfl, .refl tL, enL, by show DpAll K _ xs (ds ++ []); rw [List.append_nil]; exact dL⟩ (fun i σ' H' _ ⟨_, _, _, _, kk, _, _⟩ => kk.keep _ _ aT eL) ?_ ?_⟩⟩
    · intro i v σ' H5 H6 hi hv hy
      obtain ⟨x4, cur, vs, rfl, kk, ecur, hd5⟩ := hv
      obtain ⟨rfl, k0, v0, hk, rfl⟩ := hy
      have hil : i < pk.length := by unfold pkD at hi; rw [List.length_map] at hi; exact hi
      have es : pk[i]? = some pk[i] := List.getElem?_eq_getElem hil
      have hm := List.getElem_mem hil
      have hk2 : (pkD pk)[i]? = some (k0, v0) := hk
      unfold pkD at hk2
      rw [List.getElem?_map, es] at hk2
      have ek : k0 = Sum.inr pk[i].1 := (congrArg Prod.fst (Option.some.inj hk2)).symm
      subst ek
      clear hk hk2
      have etake : pk.take (i + 1) = pk.take i ++ [pk[i]] := by rw [List.take_succ, es]; rfl
      generalize pk[i] = e at hm etake ⊢
      obtain ⟨s, e', lk, le, en⟩ := row_need (O.in_ e hm)
      have hs := (look_mem lk).1
      have he' := (lookE_mem le).1
      have B5 := BL.keptP kk
      obtain ⟨zs, ez, dz⟩ := RL.kp kk s hs e' he'
      have d9 := ent_rd (.of B5) hs e.2
      rw [le] at d9
      have lv := dpAll_len hd5
      have lz := dpAll_len dz
      have ll : (allN (dataOf cl) (pk.take i) ds).length ≤ 8 + 6 * 9 := by
        have h1 : ∀ r : List (Str × Int), (r.flatMap (fun e => needsD (dataOf cl) e.1 e.2)).length ≤ 6 * r.length := fun r => by
          induction r with
          | nil => exact Nat.le_refl _
          | cons e r ih =>
            rw [List.flatMap_cons, List.length_append, List.length_cons]
            have := (needsD_good G e.1 e.2).1
            omega
        have h2 := h1 (pk.take i)
        unfold allN
        rw [List.length_append]
        rw [List.length_take] at h2
        omega
      have l2 : e'.2.2.length ≤ 6 := by rw [← en]; exact (needsD_good G e.1 e.2).1
      refine ⟨_, rfl, _, rfl, _, rfl, r, _, rfl, cell_get B5 lk, _, rfl, _, rfl, a, _, rfl, .inl ⟨_, Sum.inr e.1, .inr ⟨od, kk.keep _ _ aT eL⟩, rfl, (by rw [pkD_val, lkP_of O.nd (show (e.1, e.2) ∈ pk from hm)] <;> rfl)⟩, s.at_, _, rfl, d9, cur, e'.2.1, vs, zs, rfl, rfl, ecur, ez, Nat.le_of_lt (small1000 (by omega)), fun l3 nl3 => ?_⟩
      have k3 := Kp.new (o := HO.lst (vs ++ zs)) kk.tab nl3
      have e8 : allN (dataOf cl) (pk.take (i + 1)) ds = allN (dataOf cl) (pk.take i) ds ++ e'.2.2 := by
        unfold allN
        rw [etake, List.flatMap_append, ← en, List.append_assoc, List.flatMap_cons, List.flatMap_nil, List.append_nil]
      refine ⟨_, l3, vs ++ zs, rfl, kk.trans k3, upd_same, ?_⟩
      rw [e8]
      exact k3.dpAll _ _ (dpAll_app hd5 dz)
    · rintro σ' H5 ⟨x4, cur, vs, rfl, kk, ecur, hd5⟩
      have hpl : (pkD pk).length = pk.length := by unfold pkD; rw [List.length_map]
      rw [hpl, List.take_length] at hd5
      have er := kk.keep _ _ aT eL
      refine ⟨er, ?_⟩
      have k6 := un H5 kk
      have ea6 : upd H5 a (.dK (pkD pk)) a = some (.dK (pkD pk)) := upd_same
      have ecur6 : upd H5 a (.dK (pkD pk)) cur = some (.lst vs) := by rw [upd_ne (fun z => by rw [z, er] at ecur; cases ecur)]; exact ecur
      have hd6 : DpAll K (upd H5 a (.dK (pkD pk))) vs (allN (dataOf cl) pk ds) := dpAll_mono (fun b o hs e => by
          rw [upd_ne (fun z => by rw [z, er] at e; cases e; cases hs)]
          exact e) _ _ hd5
      generalize upd H5 a (.dK (pkD pk)) = H6 at k6 ea6 ecur6 hd6 ⊢
      clear er hd5 ecur kk un eL BL RL dL enL aT tL
      have kp6 := k1.trans k6
      have hlen := dpAll_len hd6
      have hnN : ∀ d ∈ allN (dataOf cl) pk ds, ND d := fun d hd => by
        rcases List.mem_append.mp hd with hd | hd
        · exact hnd d hd
        · obtain ⟨e, _, hd⟩ := List.mem_flatMap.mp hd
          exact (needsD_good G e.1 e.2).2 d hd
      refine ⟨_, rfl, cur, rfl, ⟨_, .inl (.inl ecur6)⟩, for_list (K := K) (a := cur) (xs := vs) (fun i σ' H' => ∃ x4 x5 x6 : Option V, σ' = [some (.ref r), some (.ref q), some (.ref a), some (.ref cur), x4, x5, x6] ∧ H' = H6 ∧ ((allN (dataOf cl) pk ds).take i).all (metD pk) = true) ⟨x4, none, none, rfl, rfl, rfl⟩ (fun i σ' H' _ ⟨_, _, _, _, e, _⟩ => by rw [e]; exact .inl (.inl ecur6)) ?_ ?_⟩
      · rintro i v σ' H' hi ⟨x4, x5, x6, rfl, rfl, hall⟩
        have hil : i < (allN (dataOf cl) pk ds).length := by
          rw [← hlen]
          exact (List.getElem?_eq_some_iff.mp hi).1
        have ei := List.getElem?_eq_getElem hil
        obtain ⟨v', ev', hdv⟩ := dpAll_get hd6 ei
        rw [hi] at ev'
        cases ev'
        have hmem := List.getElem_mem hil
        obtain ⟨b, y, lo, hi', rfl, hT, ed, _⟩ := nd_read hdv (hnN _ hmem)
        have etake : (allN (dataOf cl) pk ds).take (i + 1) = (allN (dataOf cl) pk ds).take i ++ [(allN (dataOf cl) pk ds)[i]] := by rw [List.take_succ, ei]; rfl
        have no : metD pk (allN (dataOf cl) pk ds)[i] = false → (allN (dataOf cl) pk ds).all (metD pk) = false := fun h => by
          cases q : (allN (dataOf cl) pk ds).all (metD pk) with
          | false => rfl
          | true =>
            have := List.all_eq_true.mp q _ hmem
            rw [h] at this
            cases this
        have yes : metD pk (allN (dataOf cl) pk ds)[i] = true → ((allN (dataOf cl) pk ds).take (i + 1)).all (metD pk) = true := fun h => by
          rw [etake, List.all_append, hall, Bool.true_and]
          show (metD pk _ && true) = true
          rw [h] <;> rfl
        have emet : metD pk (allN (dataOf cl) pk ds)[i] = match lkP pk y with | some m => decide (lo ≤ m) && decide (m ≤ hi') | none => false := by rw [ed]; rfl
        have dg : DGet H' a (.str y) ((lkP pk y).map V.int) := by have z := DGet.k (k := (Sum.inr y : Key)) ea6; rw [pkD_val] at z; exact z
        refine ⟨b, _, rfl, hT, rfl, _, _, rfl, _, _, rfl, _, _, rfl, rfl, ?_⟩
        refine ⟨_, rfl, _, rfl, a, _, rfl, dg, _, rfl, ?_⟩
        cases em : lkP pk y with
        | none =>
          rw [em] at emet
          exact finN H' kp6 (no emet)
        | some m =>
          rw [em] at emet dg
          have emet : metD pk (allN (dataOf cl) pk ds)[i] = (decide (lo ≤ m) && decide (m ≤ hi')) := emet
          refine ⟨_, rfl, _, rfl, _, rfl, a, _, rfl, dg, _, _, rfl, rfl, _, rfl, iteD (fun c1 => ⟨_, rfl, _, _, rfl, rfl, _, rfl, iteN (fun c2 => ?_) (fun c2 => ?_)⟩) (fun c1 => ?_)⟩
          · exact finN H' kp6 (no (by rw [emet, decide_eq_false c2, Bool.and_false]))
          · exact ⟨_, _, _, rfl, rfl, yes (by rw [emet, decide_eq_true c1, decide_eq_true c2] <;> rfl)⟩
          · exact ⟨_, rfl, finN H' kp6 (no (by rw [emet, decide_eq_false c1, Bool.false_and]))⟩
      · rintro σ' H' ⟨x4', x5, x6, rfl, rfl, hall⟩
        rw [hlen, List.take_length] at hall
        have t6 := kp6.tab
        -- the wares of the pick, and of its agenda
        refine ⟨_, rfl, a, _, pk.map (·.1), rfl, .inl ea6, (by unfold pkD; rw [List.map_map, List.map_map]; rfl), (by rw [List.length_map]; omega), fun ys l1 hp1 hs1 nl1 => ?_⟩
        have k7 := Kp.new (o := HO.lst (ys.map V.str)) t6 nl1
        have e1 : upd H' l1 (.lst (ys.map V.str)) l1 = some (.lst (ys.map V.str)) := upd_same
        have kk7 := kp6.trans k7
        generalize upd H' l1 (.lst (ys.map V.str)) = H7 at k7 kk7 e1 ⊢
        refine ⟨_, rfl, _, rfl, _, rfl, A, r, q, a, cl, xs, ds, pk, rfl, .of (B.keptP kk7), G, kk7.seq hq, kk7.dpAll _ _ hds, hnd, h8, .inl (dict_kp kk7 ha), O, kk7.tab, fun out l2 H2 ag gd nd o7 k2 nl2 el2 => ?_⟩
        have o64 : out.length < 64 := by
          obtain ⟨U, eU⟩ : ∃ U : List Str, U = ds.map wOf ++ pk.flatMap (fun e => (needsD (dataOf cl) e.1 e.2).map wOf) := ⟨_, rfl⟩
          have h1 : ∀ r : List (Str × Int), (r.flatMap (fun e => (needsD (dataOf cl) e.1 e.2).map wOf)).length ≤ 6 * r.length := fun r => by
            induction r with
            | nil => exact Nat.le_refl _
            | cons e r ih =>
              rw [List.flatMap_cons, List.length_append, List.length_map, List.length_cons]
              have := (needsD_good G e.1 e.2).1
              omega
          have z := sub_len (U := U) nd (ag.sub (fun y hy => by
            rw [eU]
            rcases addW_mem.mp hy with hy | hy
            · cases hy
            · exact List.mem_append_left _ hy) fun w y hy => by
            unfold needW at hy
            cases el : lkP pk w with
            | none => rw [el] at hy; cases hy
            | some m =>
              rw [el] at hy
              rw [eU]
              exact List.mem_append_right _ (List.mem_flatMap.mpr ⟨(w, m), lkP_mem el, hy⟩))
          have h2 := h1 pk
          rw [eU, List.length_append, List.length_map] at z
          omega
        have k12 := kk7.trans k2
        have e12 := k2.lst e1
        refine ⟨l2, out, rfl, .inl (.inl el2), o64, fun zs l3 hp3 hs3 nl3 => ?_⟩
        have k3 := Kp.new (o := HO.lst (zs.map V.str)) k12.tab nl3
        have e3 : upd H2 l3 (.lst (zs.map V.str)) l3 = some (.lst (zs.map V.str)) := upd_same
        have k13 := k12.trans k3
        have e13 := k3.lst e12
        generalize upd H2 l3 (.lst (zs.map V.str)) = H3 at k3 e3 k13 e13 ⊢
        have gy : ∀ y ∈ ys, GoodN y := fun y hy => by
          obtain ⟨e, he, rfl⟩ := List.mem_map.mp (hp1.mem_iff.mp hy)
          exact O.gd e he
        have gz : ∀ y ∈ zs, GoodN y := fun y hy => gd y (hp3.mem_iff.mp hy)
        refine ⟨.list (ys.map .str), .list (zs.map .str), dp_lst e13 (dp_strs ys), dp_lst e3 (dp_strs zs), shaped_strs gy, shaped_strs gz, ?_⟩
        rw [eqv_strs]
        have hperm : decide (ys = zs) = decide ((pk.map (·.1)).Perm out) := by
          by_cases e : ys = zs
          · rw [decide_eq_true e, decide_eq_true (hp1.symm.trans (by rw [e]; exact hp3))]
          · rw [decide_eq_false e, decide_eq_false fun z => e (sorted_same (hp1.trans (z.trans hp3.symm)) hs1 hs3)]
        rw [hperm]
        have z := fin out H3 ag k13
        unfold mB at z
        rw [hall, Bool.and_true] at z
        exact z
end
end Pk

set_option Elab.async false
set_option linter.all false
set_option maxRecDepth 100000
set_option maxHeartbeats 4000000
namespace Pk
open PySem PySem.Spec PyProof.Rows L2
/-- a dict that is a pick, new since H0 -/
def PkN (H0 H : Hp) (v : V) (pk : List (Str × Int)) : Prop := ∃ a, v = .ref a ∧ H0 a = none ∧ H a = some (.dK (pkD pk))
theorem PkN.kept {T : Addr} {H0 H H' : Hp} (k : Kp T H H') {v : V} {pk : List (Str × Int)} (h : PkN H0 H v pk) : PkN H0 H' v pk := by
  obtain ⟨a, e, n, h⟩ := h
  exact ⟨a, e, n, dict_kp k h⟩
theorem PkN.upd {H0 H : Hp} {d : Addr} {u : HO} (nd : H0 d ≠ none) {v : V} {pk : List (Str × Int)} (h : PkN H0 H v pk) : PkN H0 (L2.upd H d u) v pk := by
  obtain ⟨a, e, n, h⟩ := h
  exact ⟨a, e, n, by rw [upd_ne (fun z => nd (by rw [← z]; exact n))]; exact h⟩
theorem PkN.set {H0 H : Hp} {d : Addr} {xs ys : List V} (hd : H d = some (.lst xs)) {v : V} {pk : List (Str × Int)} (h : PkN H0 H v pk) : PkN H0 (L2.upd H d (.lst ys)) v pk := by
  obtain ⟨a, e, n, h⟩ := h
  exact ⟨a, e, n, by rw [upd_ne (fun z => by rw [z, hd] at h; cases h)]; exact h⟩
theorem PkN.back {T : Addr} {H0 H1 H : Hp} (k : Kp T H0 H1) {v : V} {pk : List (Str × Int)} (h : PkN H1 H v pk) : PkN H0 H v pk := by
  obtain ⟨a, e, n, h⟩ := h
  exact ⟨a, e, k.free n, h⟩
theorem PickOk.app {D : Str → List (Int × List PyData)} {pk : List (Str × Int)} {w : Str} {m : Int} (O : PickOk D pk) (h : w ∉ pk.map (·.1)) (gw : GoodN w) (hm : m ∈ (D w).map (·.1)) (hl : pk.length < 100) : PickOk D (pk ++ [(w, m)]) := by
  refine ⟨?_, by rw [List.length_append, List.length_singleton]; omega, fun e he => ?_, fun e he => ?_⟩
  · rw [List.map_append]
    exact List.nodup_append.mpr ⟨O.nd, List.nodup_cons.mpr ⟨List.not_mem_nil, List.nodup_nil⟩, fun a ha b hb e => h (by rw [List.mem_singleton.mp hb] at e; have e : a = w := e; rw [← e]; exact ha)⟩
  · rcases List.mem_append.mp he with he | he
    · exact O.gd e he
    · rw [List.mem_singleton.mp he]; exact gw
  · rcases List.mem_append.mp he with he | he
    · exact O.in_ e he
    · rw [List.mem_singleton.mp he]; exact hm
theorem PickOk.nil {D : Str → List (Int × List PyData)} : PickOk D [] := ⟨List.nodup_nil, Nat.zero_le _, fun e he => (by cases he), fun e he => (by cases he)⟩
theorem PickOk.le {cl : List Shelf} {pk : List (Str × Int)} (O : PickOk (dataOf cl) pk) : pk.length ≤ cl.length := by
  have z := sub_len (U := cl.map (·.ware)) O.nd fun y hy => by
    obtain ⟨e, he, rfl⟩ := List.mem_map.mp hy
    have z := O.in_ e he
    obtain ⟨s, hs⟩ := look_cons (st := cl) (x := e.1) (fun q => by rw [q] at z; cases z)
    obtain ⟨g1, g2⟩ := look_mem hs
    exact List.mem_map.mpr ⟨s, g1, g2⟩
  rw [List.length_map, List.length_map] at z
  exact z
/-- a pick of the first i rows -/
def PkI (cl : List Shelf) (i : Nat) (pk : List (Str × Int)) : Prop := PickOk (dataOf cl) pk ∧ ∀ y ∈ pk.map (·.1), y ∈ (cl.take i).map (·.ware)
theorem PkI.up {cl : List Shelf} {i : Nat} {pk : List (Str × Int)} (h : PkI cl i pk) : PkI cl (i + 1) pk := ⟨h.1, fun y hy => (List.Sublist.map _ (List.take_sublist_take_left (Nat.le_succ i))).subset (h.2 y hy)⟩
theorem PkI.new {cl : List Shelf} {i : Nat} {s : Shelf} {pk : List (Str × Int)} {m : Int} (nd : (cl.map (·.ware)).Nodup) (es : cl[i]? = some s) (h : PkI cl i pk) (gw : GoodN s.ware) (hm : m ∈ s.ents.map (·.1)) (hl : pk.length < 100) : s.ware ∉ pk.map (·.1) ∧ PkI cl (i + 1) (pk ++ [(s.ware, m)]) := by
  have fresh : s.ware ∉ pk.map (·.1) := fun z => by
    obtain ⟨t, ht2, e2⟩ := List.mem_map.mp (h.2 _ z)
    obtain ⟨j, hj⟩ := List.mem_iff_getElem?.mp ht2
    have hjn : j < i := by
      have := (List.getElem?_eq_some_iff.mp hj).1
      rw [List.length_take] at this
      omega
    rw [List.getElem?_take, if_pos hjn] at hj
    have e1 : (cl.map (·.ware))[j]? = some s.ware := by rw [List.getElem?_map, hj, ← e2]; rfl
    have e2 : (cl.map (·.ware))[i]? = some s.ware := by rw [List.getElem?_map, es]; rfl
    exact absurd (nd_idx nd e1 e2) (by omega)
  have lk : look cl s.ware = some s := look_of nd (List.mem_of_getElem? es) rfl
  refine ⟨fresh, h.1.app fresh gw ?_ hl, fun y hy => ?_⟩
  · rw [look_data lk, List.map_map]
    exact hm
  · rw [List.take_succ, es, List.map_append]
    rw [List.map_append] at hy
    rcases List.mem_append.mp hy with hy | hy
    · exact List.mem_append_left _ (h.2 y hy)
    · exact List.mem_append_right _ (List.mem_singleton.mpr (List.mem_singleton.mp hy))
/-- a pick that meets a wish -/
def Mets (D : Str → List (Int × List PyData)) (ds : List PyData) (pk : List (Str × Int)) : Prop := ∃ out, AgOf (needW D pk) (addW [] (ds.map wOf)) 0 out ∧ mB D pk ds out = true
section
variable {P : Program} {w : World} {K : PySem.W.Frag} {mg : Str → Option Value} {base : Heap}
def allPN : List Str := ["_law_rows_here", "_law_wish_here", "_law_picks", "_law_ware", "_law_more", "_law_pick", "_law_make", "_law_beside"]
theorem scAllP : FnScope allPN ["_law_rows_here", "_law_wish_here"] (defScope sAllP) := ⟨rfl, rfl, rfl, by decide +kernel, rfl, by decide +kernel, by decide +kernel⟩
def spAllP (K : PySem.W.Frag) (T : Addr) : Sp := fun vs H Q _ => ∃ (A : List Addr) (r q : Addr) (cl : List Shelf) (xs : List V) (ds : List PyData), vs = [.ref r, .ref q] ∧ BoxOk K A H r cl ∧ RowsG 3 cl ∧ cl.length ≤ 4 ∧ SqL K H q xs ∧ DpAll K H xs ds ∧ (∀ d ∈ ds, ND d) ∧ ds.length ≤ 8 ∧ RawB K H cl ∧ GxR.TabG H T ∧
  ∀ l vs pks H', Kp T H H' → H l = none → H' l = some (.lst vs) → Paired (PkN H H') vs pks → (∀ pk ∈ pks, PickOk (dataOf cl) pk ∧ Mets (dataOf cl) ds pk) → pks.length ≤ 256 → Q (.ref l) H'
theorem ok_allp {f fM T : Addr} {fd fdM : FuncData} (F : Fun K "_law_all_picks" "_law_all_picks" sAllP f fd)
    (GM : FnOk P w K mg base CX0 2 fM fdM ["_law_rows_here", "_law_wish_here", nPick] (spLMt K T)) (kM : PySem.W.keepIn K (.ref fM) = true) (bM : Binds K fdM ["_law_rows_here", "_law_wish_here", nPick] []) (gM : mg "_law_meets" = some (.ref fM))
    (y_dict : mg "dict" = none) : FnOk P w K mg base CX0 3 f fd ["_law_rows_here", "_law_wish_here"] (spAllP K T) := by
  refine F.ok scAllP (fun vs H Q E h => ?_) (fun cdv A0 outer s H vs Q E hr h => ?_)
  · obtain ⟨A, r, q, cl, xs, ds, rfl, _⟩ := h
    rfl
  · obtain ⟨A, r, q, cl, xs, ds, rfl, B, G, h4, hq, hds, hnd, h8, hR, ht, fin⟩ := h
    have hu := hu_of hr
    refine ⟨_, (pss_cons (ps_set (i := 2) scAllP.nd rfl (by first | exact .inl rfl | exact .inr rfl) (pe_lst (pa_cons pe_dnewK pa_nil)))
      (pss_cons (ps_lock (ps_for PassesOwn.never rfl (pi_keys (pv 0)) (pg_name (i := 3) scAllP.nd rfl (by first | exact .inl rfl | exact .inr rfl)) (pss_cons (ps_set (i := 4) scAllP.nd rfl (by first | exact .inl rfl | exact .inr rfl) (pe_lst pa_nil))
      (pss_cons (ps_for PassesOwn.never rfl (pi_list (pv 2)) (pg_name (i := 5) scAllP.nd rfl (by first | exact .inl rfl | exact .inr rfl)) (pss_cons (ps_expr (pe_bm PySem.F.plainAttrs_list PySem.F.slot_list_append PySem.F.type_list_append mt_append (pv 4) (pa_cons (pv 5) pa_nil)))
      (pss_one (ps_lock (ps_for PassesOwn.never rfl (pi_keys (pe_dget hu (pv 0) (pv 3) (fun _ _ => rfl))) (pg_name (i := 6) scAllP.nd rfl (by first | exact .inl rfl | exact .inr rfl)) (pss_cons (ps_set (i := 7) scAllP.nd rfl (by first | exact .inl rfl | exact .inr rfl) (pe_callTy call_dictD (by rfl) y_dict boot_dict (pa_cons (pv 5) pa_nil)))
      (pss_cons (ps_dput hu (pv 7) (pv 3) (pv 6) rfl)
      (pss_one (ps_expr (pe_bm PySem.F.plainAttrs_list PySem.F.slot_list_append PySem.F.type_list_append mt_append (pv 4) (pa_cons (pv 7) pa_nil)))))))))))
      (pss_one (ps_set (i := 2) scAllP.nd rfl (by first | exact .inl rfl | exact .inr rfl) (pv 4)))))))
      (pss_one (ps_ret (pe_lc (own := [("_law_pick", 5)]) (g := (gName 5)) rfl scAllP.nd (pi_list (pv 2)) (blkOk_by (own := [("_law_pick", 5)]) (N := allPN) (sc := defScope sAllP) (by decide +kernel)) (fun _ _ _ _ _ => (pg_name (i := 5) scAllP.nd rfl (by first | exact Or.inl rfl | exact Or.inr rfl))) (fun _ _ _ _ _ => pts_one (pt_val (pe_call GM (hr.mono (by decide)) (by rfl) gM kM bM .nil pass0 (pa_cons (pv 0) (pa_cons (pv 1) (pa_cons (pv 5) pa_nil)))))) (fun _ _ _ _ _ => (pv 5))))))), ?_⟩
    -- one empty pick
    intro d0 n0
    have k1 := Kp.new (o := HO.dK []) ht n0
    have e1 : upd H d0 (.dK []) d0 = some (.dK (pkD [])) := upd_same
    generalize upd H d0 (.dK []) = H1 at k1 e1 ⊢
    refine ⟨(by show (1 : Nat) ≤ sizeLine; decide), fun P0 nP => ?_⟩
    have k2 := Kp.new (o := HO.lst [.ref d0]) k1.tab nP
    have eP : upd H1 P0 (.lst [.ref d0]) P0 = some (.lst [.ref d0]) := upd_same
    have e12 := dict_kp k2 e1
    have k12 := k1.trans k2
    generalize upd H1 P0 (.lst [.ref d0]) = H2 at k2 eP e12 k12 ⊢
    have B2 := B.keptP k12
    have t2 := k2.tab
    have rT := B2.foot_ne t2 r (List.mem_cons_self ..)
    have rH : H r ≠ none := by rw [B.dc]; exact fun z => by cases z
    -- the rows, one behind the other
    refine ⟨r, _, B2.dc, True.intro, fun od => ?_⟩
    have eb : upd H2 r (.frz od (.dK (cl.map keyW))) r = some (.frz od (.dK (cl.map keyW))) := upd_same
    have BR := (BoxR.of B2).lock (od := od) B2.dc
    have un : ∀ H', Kp T (upd H2 r (.frz od (.dK (cl.map keyW)))) H' → Kp T H2 (upd H' r (.dK (cl.map keyW))) := fun H' k => unlockP t2 B2.dc rT k
    have tb : GxR.TabG (upd H2 r (.frz od (.dK (cl.map keyW)))) T := tab_upd t2 rT
    have dcb : ∀ s ∈ cl, upd H2 r (.frz od (.dK (cl.map keyW))) s.at_ = some (.dK (s.ents.map entK)) := fun s hs => by
      have na := B2.na
      rw [List.nodup_cons] at na
      rw [upd_ne (fun z => na.1 (by rw [← z]; exact List.mem_map.mpr ⟨s, hs, rfl⟩))]
      exact (B2.sh s hs).dc
    have ePb : upd H2 r (.frz od (.dK (cl.map keyW))) P0 = some (.lst [.ref d0]) := by rw [upd_ne (fun z => by rw [z, B2.dc] at eP; cases eP)]; exact eP
    have pb : PkN H (upd H2 r (.frz od (.dK (cl.map keyW)))) (.ref d0) [] := PkN.upd rH ⟨d0, rfl, n0, e12⟩
    have frb : ∀ f, upd H2 r (.frz od (.dK (cl.map keyW))) f = none → H f = none := fun f hf => by
      rw [upd_ne (fun z => by rw [z, upd_same] at hf; cases hf)] at hf
      exact k12.free hf
    generalize upd H2 r (.frz od (.dK (cl.map keyW))) = HB at eb BR un tb dcb ePb pb frb ⊢
    refine ⟨_, rfl, r, od, rfl, .inl ⟨_, eb, for_it walk_keys (fun i σ' H' => ∃ (x3 x4 x5 x6 x7 : Option V) (cur : Addr) (vs : List V) (pks : List (List (Str × Int))), σ' = [some (.ref r), some (.ref q), some (.ref cur), x3, x4, x5, x6, x7] ∧ Kp T HB H' ∧ H cur = none ∧ H' cur = some (.lst vs) ∧ Paired (PkN H H') vs pks ∧ (∀ pk ∈ pks, PkI cl i pk) ∧ pks.length ≤ 4 ^ i)
      ⟨none, none, none, none, none, P0, _, [[]], rfl, .refl tb, k1.free nP, ePb, .cons pb .nil, (fun pk hp => by rw [List.mem_singleton.mp hp]; exact ⟨.nil, fun y hy => by cases hy⟩), Nat.le_refl _⟩ (fun i σ' H' _ ⟨_, _, _, _, _, _, _, _, _, kk, _⟩ => kk.keep _ _ rT eb) ?_ ?_⟩⟩
    · rintro i v σ' H3 H3' hi ⟨x3, x4, x5, x6, x7, cur, vs, pks, rfl, k3, ncur, ecur, hP, hI, hl⟩ ⟨rfl, k0, v0, hk, rfl⟩
      have hil : i < cl.length := by rw [List.length_map] at hi; exact hi
      have es : cl[i]? = some cl[i] := List.getElem?_eq_getElem hil
      have hs := List.getElem_mem hil
      rw [List.getElem?_map, es] at hk
      have hk := Option.some.inj hk
      have ek : k0 = Sum.inr cl[i].ware := (congrArg Prod.fst hk).symm
      subst ek
      clear hk
      generalize cl[i] = s at es hs ⊢
      have sT := B.foot_ne ht s.at_ (List.mem_cons_of_mem _ (List.mem_map.mpr ⟨s, hs, rfl⟩))
      have sH : H s.at_ ≠ none := by rw [(B.sh s hs).dc]; exact fun z => by cases z
      have lk : look cl s.ware = some s := look_of B.nd hs rfl
      have gw := G.w s hs
      have h3 := G.el s hs
      have p1 : 4 ^ (i + 1) = 4 * 4 ^ i := by rw [Nat.pow_succ, Nat.mul_comm]
      have p2 : 4 ^ (i + 1) ≤ 4 ^ 4 := Nat.pow_le_pow_right (by decide) (by omega)
      have p3 : (4 : Nat) ^ 4 = 256 := rfl
      refine ⟨(by show (0 : Nat) ≤ sizeLine; decide), fun M nM => ?_⟩
      have k4 := Kp.new (o := HO.lst []) k3.tab nM
      have nMB := k3.free nM
      have nMH := frb _ nMB
      have MT := tab_nn k3.tab nM
      have Ms : M ≠ s.at_ := fun z => sH (by rw [← z]; exact nMH)
      have cs : cur ≠ s.at_ := fun z => sH (by rw [← z]; exact ncur)
      have Mc : cur ≠ M := fun z => by rw [z, nM] at ecur; cases ecur
      have hlv := paired_len hP
      refine ⟨_, rfl, cur, rfl, ⟨_, .inl (.inl (k4.lst ecur))⟩, for_list (K := K) (a := cur) (xs := vs) (fun k σ' H' => ∃ (x5 x6 x7 : Option V) (mv : List V) (mp : List (List (Str × Int))), σ' = [some (.ref r), some (.ref q), some (.ref cur), some (.str s.ware), some (.ref M), x5, x6, x7] ∧ Kp T HB H' ∧ H' cur = some (.lst vs) ∧ Paired (PkN H H') vs pks ∧ H' M = some (.lst mv) ∧ Paired (PkN H H') mv mp ∧ (∀ pk ∈ mp, PkI cl (i + 1) pk) ∧ mp.length ≤ 4 * k)
        ⟨x5, x6, x7, [], [], rfl, k3.trans k4, k4.lst ecur, paired_mono (fun _ _ => PkN.kept k4) hP, upd_same, .nil, (fun pk hp => by cases hp), Nat.zero_le _⟩ (fun k σ' H' _ ⟨_, _, _, _, _, _, _, e, _⟩ => .inl (.inl e)) ?_ ?_⟩
      · rintro k v σ' H5 hk ⟨x5, x6, x7, mv, mp, rfl, k5, ec5, hP5, eM5, hM5, hI5, hl5⟩
        have hkl : k < pks.length := by
          rw [← hlv]
          exact (List.getElem?_eq_some_iff.mp hk).1
        have ek := List.getElem?_eq_getElem hkl
        obtain ⟨v', ev', pa⟩ := paired_get hP5 ek
        rw [hk] at ev'
        cases ev'
        have hIk := hI _ (List.getElem_mem hkl)
        generalize pks[k] = pk at pa hIk
        have hmv := paired_len hM5
        -- the pick itself
        refine ⟨_, rfl, .inl ⟨rfl, _, .inl (.inl eM5)⟩, _, rfl, M, _, _, rfl, rfl, eM5, small1000 (by omega), ?_⟩
        obtain ⟨a, rfl, na, ea⟩ := pa
        have k6 := k5.set nMB MT (o := HO.lst (mv ++ [.ref a]))
        have ec6 : upd H5 M (.lst (mv ++ [.ref a])) cur = some (.lst vs) := by rw [upd_ne Mc]; exact ec5
        have hP6 := paired_mono (S := PkN H (upd H5 M (.lst (mv ++ [.ref a])))) (fun _ _ => PkN.set eM5) hP5
        have pa6 : PkN H (upd H5 M (.lst (mv ++ [.ref a]))) (.ref a) pk := PkN.set eM5 ⟨a, rfl, na, ea⟩
        have hM6 := paired_app2 (paired_mono (S := PkN H (upd H5 M (.lst (mv ++ [.ref a])))) (fun _ _ => PkN.set eM5) hM5) (.cons pa6 .nil)
        have eM6 : upd H5 M (.lst (mv ++ [.ref a])) M = some (.lst (mv ++ [.ref a])) := upd_same
        generalize upd H5 M (.lst (mv ++ [.ref a])) = H6 at k6 ec6 hP6 pa6 hM6 eM6 ⊢
        clear hM5 eM5 hP5 ec5 k5 ea
        -- and one for each make
        have ed := k6.keep _ _ sT (dcb s hs)
        refine ⟨s.at_, _, ed, True.intro, fun od2 => ?_⟩
        have kL := Kp.both (d := s.at_) (o := .frz od2 (.dK (s.ents.map entK))) k6 sT
        have eb2 : upd HB s.at_ (.frz od2 (.dK (s.ents.map entK))) s.at_ = some (.frz od2 (.dK (s.ents.map entK))) := upd_same
        have BR2 := BR.lock (od := od2) (dcb s hs)
        have un2 : ∀ H', Kp T (upd HB s.at_ (.frz od2 (.dK (s.ents.map entK)))) H' → Kp T HB (upd H' s.at_ (.dK (s.ents.map entK))) := fun H' k => unlockP k6.t0 (dcb s hs) sT k
        have nMb2 : upd HB s.at_ (.frz od2 (.dK (s.ents.map entK))) M = none := by rw [upd_ne Ms]; exact nMB
        have ecL : upd H6 s.at_ (.frz od2 (.dK (s.ents.map entK))) cur = some (.lst vs) := by rw [upd_ne cs]; exact ec6
        have eML : upd H6 s.at_ (.frz od2 (.dK (s.ents.map entK))) M = some (.lst (mv ++ [.ref a])) := by rw [upd_ne Ms]; exact eM6
        have hPL := paired_mono (S := PkN H (upd H6 s.at_ (.frz od2 (.dK (s.ents.map entK))))) (fun _ _ => PkN.upd sH) hP6
        have hML := paired_mono (S := PkN H (upd H6 s.at_ (.frz od2 (.dK (s.ents.map entK))))) (fun _ _ => PkN.upd sH) hM6
        have paL : PkN H (upd H6 s.at_ (.frz od2 (.dK (s.ents.map entK)))) (.ref a) pk := PkN.upd sH pa6
        have frb2 : ∀ f, upd HB s.at_ (.frz od2 (.dK (s.ents.map entK))) f = none → H f = none := fun f hf => by
          rw [upd_ne (fun z => by rw [z, upd_same] at hf; cases hf)] at hf
          exact frb f hf
        generalize upd HB s.at_ (.frz od2 (.dK (s.ents.map entK))) = HBL at kL eb2 BR2 un2 nMb2 frb2 ⊢
        generalize upd H6 s.at_ (.frz od2 (.dK (s.ents.map entK))) = HL at kL ecL eML hPL hML paL ⊢
        clear hM6 eM6 hP6 ec6 pa6 ed k6
        have c1 := cell_rd (BR2.keptP kL) s.ware
        rw [lk] at c1
        refine ⟨_, rfl, _, rfl, r, _, rfl, c1, s.at_, od2, rfl, .inl ⟨_, kL.keep _ _ sT eb2, for_it walk_keys (fun j σ' H' => ∃ (x6 x7 : Option V) (mv : List V) (mp : List (List (Str × Int))), σ' = [some (.ref r), some (.ref q), some (.ref cur), some (.str s.ware), some (.ref M), some (.ref a), x6, x7] ∧ Kp T HBL H' ∧ H' cur = some (.lst vs) ∧ Paired (PkN H H') vs pks ∧ PkN H H' (.ref a) pk ∧ H' M = some (.lst mv) ∧ Paired (PkN H H') mv mp ∧ (∀ pk ∈ mp, PkI cl (i + 1) pk) ∧ mp.length ≤ 4 * k + 1 + j)
          ⟨x6, x7, _, mp ++ [pk], rfl, kL, ecL, hPL, paL, eML, hML, (fun y hy => ?_), (by rw [List.length_append, List.length_singleton]; omega)⟩ (fun j σ' H' _ ⟨_, _, _, _, _, kk, _⟩ => kk.keep _ _ sT eb2) ?_ ?_⟩⟩
        · rcases List.mem_append.mp hy with hy | hy
          · exact hI5 y hy
          · rw [List.mem_singleton.mp hy]; exact hIk.up
        · rintro j v σ' H7 H7' hj ⟨x6, x7, mv, mp, rfl, k7, ec7, hP7, pa7, eM7, hM7, hI7, hl7⟩ ⟨rfl, kk1, vv, hk2, rfl⟩
          have hjl : j < s.ents.length := by rw [List.length_map] at hj; exact hj
          rw [List.getElem?_map, List.getElem?_eq_getElem hjl] at hk2
          have hk2 := Option.some.inj hk2
          have ek2 : kk1 = Sum.inl s.ents[j].1 := (congrArg Prod.fst hk2).symm
          subst ek2
          clear hk2
          have he := List.getElem_mem hjl
          generalize s.ents[j] = e at he ⊢
          have hmv := paired_len hM7
          obtain ⟨a', ea', na', ea7⟩ := id pa7
          cases ea'
          refine ⟨_, rfl, a, _, rfl, .inl ea7, fun b nb => ?_⟩
          have nbH := frb2 _ (k7.free nb)
          have k8 := Kp.new (o := HO.dK (pkD pk)) k7.tab nb
          have eb8 : upd H7' b (.dK (pkD pk)) b = some (.dK (pkD pk)) := upd_same
          have k78 := k7.trans k8
          have nbT := tab_nn k7.tab nb
          have nbB := k7.free nb
          have O := hIk.1
          have hpl := O.le
          have hm : e.1 ∈ s.ents.map (·.1) := List.mem_map.mpr ⟨e, he, rfl⟩
          obtain ⟨fresh, hIn⟩ := hIk.new B.nd es gw hm (by omega)
          have ec8 := k8.lst ec7
          have eM8 := k8.lst eM7
          have hP8 := paired_mono (S := PkN H (upd H7' b (.dK (pkD pk)))) (fun _ _ => PkN.kept k8) hP7
          have hM8 := paired_mono (S := PkN H (upd H7' b (.dK (pkD pk)))) (fun _ _ => PkN.kept k8) hM7
          have pa8 : PkN H (upd H7' b (.dK (pkD pk))) (.ref a) pk := pa7.kept k8
          have nbV : ∀ {x : V} {y : List (Str × Int)}, PkN H H7' x y → ∀ {u : HO}, PkN H (upd (upd H7' b (.dK (pkD pk))) b u) x y := fun {x y} h {u} => by
            obtain ⟨a2, e2, n2, h2⟩ := h
            refine ⟨a2, e2, n2, ?_⟩
            have ne : a2 ≠ b := fun z => by rw [z, nb] at h2; cases h2
            rw [upd_ne ne, upd_ne ne]
            exact h2
          have hP9 := paired_mono (S := PkN H (upd (upd H7' b (.dK (pkD pk))) b (.dK (putK (pkD pk) (Sum.inr s.ware) (L2.kV (Sum.inl e.1)))))) (fun _ _ h => nbV h) hP7
          have hM9 := paired_mono (S := PkN H (upd (upd H7' b (.dK (pkD pk))) b (.dK (putK (pkD pk) (Sum.inr s.ware) (L2.kV (Sum.inl e.1)))))) (fun _ _ h => nbV h) hM7
          have pa9 : PkN H (upd (upd H7' b (.dK (pkD pk))) b (.dK (putK (pkD pk) (Sum.inr s.ware) (L2.kV (Sum.inl e.1))))) (.ref a) pk := nbV pa7
          have bc : b ≠ cur := fun z => by rw [z, ec7] at nb; cases nb
          have bM : b ≠ M := fun z => by rw [z, eM7] at nb; cases nb
          have ec9 : upd (upd H7' b (.dK (pkD pk))) b (.dK (putK (pkD pk) (Sum.inr s.ware) (L2.kV (Sum.inl e.1)))) cur = some (.lst vs) := by rw [upd_ne bc.symm]; exact ec8
          have eM9 : upd (upd H7' b (.dK (pkD pk))) b (.dK (putK (pkD pk) (Sum.inr s.ware) (L2.kV (Sum.inl e.1)))) M = some (.lst mv) := by rw [upd_ne bM.symm]; exact eM8
          refine ⟨_, rfl, _, rfl, _, rfl, b, _, rfl, DPut.k (k := Sum.inr s.ware) eb8 (small1000 (by unfold pkD; rw [List.length_map]; omega)), ?_⟩
          have k9 := k78.set nbB nbT (o := HO.dK (putK (pkD pk) (Sum.inr s.ware) (L2.kV (Sum.inl e.1))))
          have eb9 : upd (upd H7' b (.dK (pkD pk))) b (.dK (putK (pkD pk) (Sum.inr s.ware) (L2.kV (Sum.inl e.1)))) b = some (.dK (putK (pkD pk) (Sum.inr s.ware) (L2.kV (Sum.inl e.1)))) := upd_same
          generalize upd (upd H7' b (.dK (pkD pk))) b (.dK (putK (pkD pk) (Sum.inr s.ware) (L2.kV (Sum.inl e.1)))) = H9 at k9 eb9 hP9 hM9 pa9 ec9 eM9 ⊢
          have eb9 : H9 b = some (.dK (pkD (pk ++ [(s.ware, e.1)]))) := by rw [← pkD_put fresh]; exact eb9
          refine ⟨_, rfl, .inl ⟨rfl, _, .inl (.inl eM9)⟩, _, rfl, M, _, _, rfl, rfl, eM9, small1000 (by omega), ?_⟩
          refine ⟨_, _, _, mp ++ [pk ++ [(s.ware, e.1)]], rfl, k9.set nMb2 MT, by rw [upd_ne Mc]; exact ec9, paired_mono (fun _ _ => PkN.set eM9) hP9, PkN.set eM9 pa9, upd_same, paired_app2 (paired_mono (fun _ _ => PkN.set eM9) hM9) (.cons (PkN.set eM9 ⟨b, rfl, nbH, eb9⟩) .nil), fun y hy => ?_, by rw [List.length_append, List.length_singleton]; omega⟩
          rcases List.mem_append.mp hy with hy | hy
          · exact hI7 y hy
          · rw [List.mem_singleton.mp hy]; exact hIn
        · rintro σ' H7 ⟨x6, x7, mv, mp, rfl, k7, ec7, hP7, pa7, eM7, hM7, hI7, hl7⟩
          have er := k7.keep _ _ sT eb2
          refine ⟨er, ?_⟩
          rw [List.length_map] at hl7
          exact ⟨_, _, _, mv, mp, rfl, un2 H7 k7, by rw [upd_ne cs]; exact ec7, paired_mono (fun _ _ => PkN.upd sH) hP7, by rw [upd_ne Ms]; exact eM7, paired_mono (fun _ _ => PkN.upd sH) hM7, hI7, by omega⟩
      · rintro σ' H5 ⟨x5, x6, x7, mv, mp, rfl, k5, ec5, hP5, eM5, hM5, hI5, hl5⟩
        refine ⟨_, rfl, _, _, _, _, _, M, mv, mp, rfl, k5, nMH, eM5, hM5, hI5, ?_⟩
        omega
    · rintro σ' H3 ⟨x3, x4, x5, x6, x7, cur, vs, pks, rfl, k3, ncur, ecur, hP, hI, hl⟩
      have er := k3.keep _ _ rT eb
      refine ⟨er, ?_⟩
      have k4 := k12.trans (un H3 k3)
      have cr : cur ≠ r := fun z => rH (by rw [← z]; exact ncur)
      have ec4 : upd H3 r (.dK (cl.map keyW)) cur = some (.lst vs) := by rw [upd_ne cr]; exact ecur
      have hP4 := paired_mono (S := PkN H (upd H3 r (.dK (cl.map keyW)))) (fun _ _ => PkN.upd rH) hP
      generalize upd H3 r (.dK (cl.map keyW)) = H4 at k4 ec4 hP4 ⊢
      rw [List.length_map] at hl
      have h256 : pks.length ≤ 256 := Nat.le_trans hl (Nat.pow_le_pow_right (n := 4) (by decide) h4)
      -- those that meet the wish
      refine ⟨_, rfl, cur, rfl, ⟨_, .inl (.inl ec4)⟩, fun L nL => ?_⟩
      have LT := tab_nn k4.tab nL
      have nLH := k4.free nL
      have hlv := paired_len hP4
      refine lc_list (K := K) (a := cur) (xs := vs) (fun i H' => Kp T H4 H' ∧ ∃ ov op, H' L = some (.lst ov) ∧ Paired (PkN H H') ov op ∧ (∀ pk ∈ op, PickOk (dataOf cl) pk ∧ Mets (dataOf cl) ds pk) ∧ op.length ≤ i) ⟨Kp.new k4.tab nL, [], [], upd_same, .nil, (fun pk hp => by cases hp), Nat.le_refl _⟩ (fun i H' _ ⟨kk, _⟩ => .inl (.inl (kk.lst ec4))) (fun i v H' hi hv => ?_) (fun H5 hv => ?_)
      · obtain ⟨kk, ov, op, eL, hO, hIo, hlo⟩ := hv
        have hil : i < pks.length := by
          rw [← hlv]
          exact (List.getElem?_eq_some_iff.mp hi).1
        have ei := List.getElem?_eq_getElem hil
        obtain ⟨v', ev', pa⟩ := paired_get hP4 ei
        rw [hi] at ev'
        cases ev'
        have hIk := hI _ (List.getElem_mem hil)
        generalize pks[i] = pk at pa hIk
        obtain ⟨a, rfl, na, ea⟩ := pa.kept kk
        have kk4 := k4.trans kk
        have fl : ∀ {b : Bool} {H3 : Hp} {X : Prop}, Kp T H' H3 → (b = true → Mets (dataOf cl) ds pk) → ((∃ acc, H3 L = some (.lst acc) ∧ acc.length < sizeLine ∧ (Kp T H4 (upd H3 L (.lst (acc ++ [.ref a]))) ∧ ∃ ov op, upd H3 L (.lst (acc ++ [.ref a])) L = some (.lst ov) ∧ Paired (PkN H (upd H3 L (.lst (acc ++ [.ref a])))) ov op ∧ (∀ pk ∈ op, PickOk (dataOf cl) pk ∧ Mets (dataOf cl) ds pk) ∧ op.length ≤ i + 1)) → X) → (if b = true then X else Kp T H4 H3 ∧ ∃ ov op, H3 L = some (.lst ov) ∧ Paired (PkN H H3) ov op ∧ (∀ pk ∈ op, PickOk (dataOf cl) pk ∧ Mets (dataOf cl) ds pk) ∧ op.length ≤ i + 1) := fun {b H3 X} k5 hb hx => by
          have kk5 := kk.trans k5
          have eL5 := k5.lst eL
          have hO5 := paired_mono (S := PkN H H3) (fun _ _ => PkN.kept k5) hO
          have pa5 : PkN H H3 (.ref a) pk := PkN.kept k5 ⟨a, rfl, na, ea⟩
          cases b with
          | true =>
            refine iteT (hx ⟨ov, eL5, small1000 (by rw [paired_len hO5]; omega), kk5.set nL LT, _, op ++ [pk], upd_same, paired_app2 (paired_mono (fun _ _ => PkN.set eL5) hO5) (.cons (PkN.set eL5 pa5) .nil), fun y hy => ?_, by rw [List.length_append, List.length_singleton]; omega⟩)
            rcases List.mem_append.mp hy with hy | hy
            · exact hIo y hy
            · rw [List.mem_singleton.mp hy]; exact ⟨hIk.1, hb rfl⟩
          | false => exact iteF ⟨kk5, ov, op, eL5, hO5, hIo, by omega⟩
        have har : a ∉ foot r cl := fun z => by
          obtain ⟨kvs, e⟩ := B.foot_dict a z
          rw [na] at e
          cases e
        refine ⟨rfl, _, rfl, _, rfl, _, rfl, A, r, q, a, cl, xs, ds, pk, rfl, B.keptP kk4, G.good (by decide), kk4.seq hq, kk4.dpAll _ _ hds, hnd, h8, ea, har, hIk.1, Nat.le_trans hIk.1.le (by omega), hR.kp kk4, kk.tab, fun H6 k6 _ => ⟨_, rfl, fl k6 (fun z => by cases z) (fun h => ⟨_, rfl, h⟩)⟩, fun out H6 ag k6 => ⟨_, rfl, fl k6 (fun z => ⟨out, ag, z⟩) (fun h => ⟨_, rfl, h⟩)⟩⟩
      · obtain ⟨kk, ov, op, eL, hO, hIo, hlo⟩ := hv
        exact fin L ov op H5 (k4.trans kk) nLH eL hO hIo (by omega)
end
end Pk

set_option Elab.async false
set_option linter.all false
set_option maxRecDepth 100000
set_option maxHeartbeats 4000000
namespace Pk
open PySem PySem.Spec PyProof.Rows L2
/-! ### dicts with tuple keys: items(), list(d.values()) -/
/-- what stands in the heap where such a dict is told -/
theorem dt_raw {P : Program} {w : World} {H : Hp} {h : Heap} {a : Addr} {kvs : List (List Key × V)} (ok : HOk P w H h) (e : Rd H a (.dT kvs)) :
    (a == sysModules) = false ∧ ∃ (o : Obj) (es : Array DictEntry) (ep : Nat), h.get? a = some o ∧ o.ExactDict ∧ o.data = .dict es ep ∧ es.size = kvs.length ∧ kvs.length ≤ sizeLine ∧
      ∀ (i : Nat) (k : List Key) (v : V), kvs[i]? = some (k, v) → ∃ (en : DictEntry) (q : Addr), es[i]? = some en ∧ en.key = .ref q ∧ H q = some (.tup (k.map kV)) ∧ RelV v en.val := by
  obtain ⟨z, y, xs, r, o, es, ep, h1, h2, h3, h4, _⟩ := (show ObjOk P w H h a (.dT kvs) from rd_of ok e)
  have l1 : es.size = xs.length := size_of_entries h4
  have l2 : kvs.length = xs.length := Paired.length r
  refine ⟨y, o, es, ep, h1, h2, h3, by omega, z, fun i k v hk => ?_⟩
  obtain ⟨b, hb, e1, e2, e3⟩ := L2.paired_get r hk
  have q := entry_at h4 i
  rw [hb] at q
  exact ⟨_, b.2.1, q, rfl, e2, e3⟩
/-- the entries of the locked dict at d, each as a new pair -/
def ItT (d : Addr) (o : Obj) (kvs : List (List Key × V)) : It :=
  ⟨fun i H => H d = some (.frz o (.dT kvs)) ∧ i < kvs.length, fun i H x H' => ∃ T k v q, kvs[i]? = some (k, v) ∧ x = .ref T ∧ H T = none ∧ H q = some (.tup (k.map kV)) ∧ H' = upd H T (.tup [.ref q, v]), fun i H => H d = some (.frz o (.dT kvs)) ∧ kvs.length ≤ i⟩
theorem turn_itemsT {P : Program} {w : World} {K : PySem.W.Frag} {elts : List Expr} {kk : Nat} {tpos : Pos} {d it : Addr} {o : Obj} {es : Array DictEntry} {ep : Nat} {kvs : List (List Key × V)} (hod : o.data = .dict es ep) :
    Turn P w K (.Tuple elts kk tpos) (ItT d o kvs) [it] it (fun i h => ∃ okk ovv, IsItemIter h it d i kvs.length ep okk ovv) where
  mem := List.mem_singleton.mpr rfl
  obj := fun i h st b hb => by
    obtain ⟨u1, u2, e⟩ := st
    rw [List.mem_singleton.mp hb]
    exact ⟨_, e, fun v z => nomatch z⟩
  keep := fun i h h' st k => by
    obtain ⟨u1, u2, e⟩ := st
    exact ⟨u1, u2, k it (List.mem_singleton.mpr rfl) _ e⟩
  item := by
    intro X hP hw hK hc i pins s σ H E I hf st hg
    subst hP hw hK
    obtain ⟨hd, hi⟩ := hg
    obtain ⟨hsm, o', es', ep', hgd, hx, hdt, hsz, _, ent⟩ := dt_raw I.hok (.inr ⟨o, hd⟩)
    have ho : o' = o := by
      have z := (show ObjOk X.prog X.w H s.heap d (.frz o (.dT kvs)) from I.hok d _ hd).1
      rw [hgd] at z
      exact Option.some.inj z
    subst ho
    obtain ⟨rfl, rfl⟩ := dict_ep hod hdt
    have hkv : kvs[i]? = some kvs[i] := List.getElem?_eq_getElem hi
    generalize kvs[i] = kv0 at hkv
    obtain ⟨k, v⟩ := kv0
    obtain ⟨en, q, hen, hkey, hq, hval⟩ := ent i k v hkv
    have hlt : i < es'.size := by omega
    have hen2 : es'[i] = en := by
      rw [Array.getElem?_eq_getElem hlt] at hen
      exact Option.some.inj hen
    obtain ⟨u1, u2, he⟩ := st
    rw [← hsz] at he
    have hil : it < s.heap.objs.size := Heap.lt_size he
    refine wpAny_pyNext_items_item_raw he ⟨_, hgd, hx, hdt⟩ hlt fun h' ho' hT hz hk => ?_
    rw [hen2] at hT
    refine ⟨_, rfl, wpAny_letOwnedTupleGo_items (s := { s with heap := h' }) ho' fun h'' he' sb => ?_⟩
    have hT2 : h''.get? s.heap.objs.size = some { cls := .type "tuple", data := .seq #[en.key, en.val] } := (sb.2 _ (Nat.ne_of_gt hil)).trans hT
    have new : ObjOk X.prog X.w (upd H s.heap.objs.size (.tup [.ref q, v])) h'' s.heap.objs.size (.tup [.ref q, v]) :=
      ⟨by show 2 ≤ sizeLine; decide, [en.key, en.val], .cons (by rw [hkey]; exact rfl) (.cons hval .nil), ⟨_, hT2, rfl, _, rfl⟩⟩
    have I1 : Inv X pins σ (upd H s.heap.objs.size (.tup [.ref q, v])) { s with heap := h'' } :=
      I.turnedNew (t' := s.toks) (ch := [it]) (fun b ob hb e => (sb.2 b (fun z => hb (List.mem_singleton.mpr z))).trans (hk b ob (fun z => hb (List.mem_singleton.mpr z)) e)) hf (Nat.le_refl _) new
    refine ⟨.ref s.heap.objs.size, _, I1, rfl, ⟨_, k, v, q, hkv, rfl, I.hok.fresh (Nat.le_refl _), hq, rfl⟩, ⟨es'[i].key, es'[i].val, ?_⟩, fun b hb => ?_⟩
    · rw [← hsz]; exact he'
    · rw [List.mem_singleton.mp hb, upd_ne (Nat.ne_of_lt hil)]
      exact (hf it (List.mem_singleton.mpr rfl)).1
  done := by
    intro X hP hw hK hc i pins s σ H E I hf st hg
    subst hP hw hK
    obtain ⟨hd, hi⟩ := hg
    obtain ⟨f0, f1, f2, f3, f4, f5⟩ := hf it (List.mem_singleton.mpr rfl)
    obtain ⟨hsm, o', es', ep', hgd, hx, hdt, hsz, _, _⟩ := dt_raw I.hok (.inr ⟨o, hd⟩)
    have ho : o' = o := by
      have z := (show ObjOk X.prog X.w H s.heap d (.frz o (.dT kvs)) from I.hok d _ hd).1
      rw [hgd] at z
      exact Option.some.inj z
    subst ho
    obtain ⟨rfl, rfl⟩ := dict_ep hod hdt
    obtain ⟨u1, u2, he⟩ := st
    rw [← hsz] at he
    exact wpAny_pyNext_items_end_raw (I.ok.hd hc) he ⟨_, hgd, hx, hdt⟩ (by omega) fun h' eb => ⟨rfl, I.turned (t' := s.toks) (fun b o hb e => eb b o hb e) f0 f1 f3 f4 f5⟩
  self := fun A i s Q E st h => by
    obtain ⟨_, _, e⟩ := st
    exact PySem.W.kcp_self e h
def iItemsT (td : TE) : TI := fun σ H R => td σ H fun x H1 => ∃ d o kvs, x = .ref d ∧ H1 d = some (.frz o (.dT kvs)) ∧ R (ItT d o kvs) H1
theorem pi_itemsT {X : Cx} {e : Expr} {td : TE} {apos cpos tpos : Pos} {elts : List Expr} {kk : Nat} (he : PE X e td) (hbase : attributeBase e "items" X.env (eval e X.env) = eval e X.env := by rfl) (hline : (apos.endLine == cpos.line) = true := by rfl) :
    PI X (.Tuple elts kk tpos) (.Call (.Attribute e "items" apos) [] [] cpos) (iItemsT td) := by
  refine ⟨fun pins s σ H R I h => ?_⟩
  refine wpAny_Call_method (T := "dict") (id := "dict.items") hbase rfl hline F.plainAttrs_dict F.slot_dict_items F.type_dict_items (thn (he.run pins s σ H _ I h) fun u sa ⟨x, Ha, Ia, rx, d, o, kvs, ex, hd, q⟩ => ?_)
  subst ex
  obtain rfl : u = Value.ref d := rx
  obtain ⟨hsm, o', es, ep, hgd, hx, hdt, hsz, _, _⟩ := dt_raw Ia.hok (.inr ⟨o, hd⟩)
  have ho : o' = o := by
    have z := (show ObjOk X.prog X.w Ha sa.heap d (.frz o (.dT kvs)) from Ia.hok d _ hd).1
    rw [hgd] at z
    exact Option.some.inj z
  subst ho
  have raw : sa.heap.DictRaw d es ep := ⟨_, hgd, hx, hdt⟩
  refine ⟨raw.typeIs, fun a ea => ?_, ?_⟩
  · cases ea
    exact ⟨o', hgd, hx.2.1⟩
  have Ib : Inv X pins σ Ha { sa with heap := sa.heap.push { cls := .type "dict_items", data := .fields #[.ref d] } } := Ia.kept (t' := sa.toks) fun b ob q => Heap.get?_push_of_some _ q
  have fin : wpAny (model X.prog X.w) X.A (pyIter (.ref sa.heap.objs.size)) (PIE X pins σ (.Tuple elts kk tpos) R) X.xe { sa with heap := sa.heap.push { cls := .type "dict_items", data := .fields #[.ref d] } } := by
    refine wpAny_pyIter_items_raw (d := d) ⟨_, Heap.get?_push_size _ rfl, rfl, rfl⟩ (raw.push _) (pi_one (tk := sa.toks) Ib _ (turn_itemsT hdt) ⟨.none, .none, ?_⟩ q)
    rw [← hsz]
    exact Heap.get?_push_size _ rfl
  show wpAny _ _ (callWith cpos (.builtin "dict.items") [.ref d] [] []) _ X.xe sa
  exact method_meetsIn F.slot_dict_items F.entry_dict_items rfl (PySem.evalArgs_none ⟨rfl, raw.typeIs, F.args_dict_items_1 _, _, meets_dict_items_raw d hsm, ⟨es, ep, raw⟩, fin⟩)
theorem walk_itemsT {d : Addr} {o : Obj} {kvs : List (List Key × V)} : Walk (ItT d o kvs) kvs.length (fun H => H d = some (.frz o (.dT kvs))) (fun i H x H' => ∃ T k v q, kvs[i]? = some (k, v) ∧ x = .ref T ∧ H T = none ∧ H q = some (.tup (k.map kV)) ∧ H' = upd H T (.tup [.ref q, v])) :=
  ⟨fun _ _ hi q => ⟨q, hi⟩, fun _ q => ⟨q, Nat.le_refl _⟩, fun _ _ _ _ _ _ y => y⟩
/-- the view d.values() at p -/
def valsO (p d : Addr) : HO := .ext fun h => h.IsValuesView p d
def rValsT : V → List V → Hp → VK → Prop := fun x xs H Q => ∃ (a : Addr) (kvs : List (List Key × V)), x = .ref a ∧ xs = [] ∧ H a = some (.dT kvs) ∧ ∀ p, H p = none → Q (.ref p) (upd H p (valsO p a))
theorem mtd_valsT {X : Cx} : MtR X "dict.values" rValsT := by
  intro pins s σ H x xs v us Q I rx rxs h
  obtain ⟨a, kvs, ex, ev, ea, q⟩ := h
  subst ex ev
  obtain rfl : v = Value.ref a := rx
  cases rxs
  obtain ⟨hsm, o, es, ep, hgd, hx, hdt, _, _, _⟩ := dt_raw I.hok (.inl ea)
  have raw : s.heap.DictRaw a es ep := ⟨_, hgd, hx, hdt⟩
  refine call_meetsIn F.slot_dict_values raw.typeIs F.entry_dict_values (F.args_dict_values_1 _) (meets_dict_values_raw a hsm) ⟨⟨es, ep, raw⟩, ?_⟩
  have hv : (s.heap.push { cls := .type "dict_values", data := .fields #[.ref a] }).get? s.heap.objs.size = some { cls := .type "dict_values", data := .fields #[.ref a] } := Heap.get?_push_size _ rfl
  exact ⟨.ref s.heap.objs.size, upd H s.heap.objs.size (valsO s.heap.objs.size a), I.laid (t' := s.toks) (fun b u e => Heap.get?_push_of_some _ e) (Nat.le_refl _) ⟨⟨_, hv, rfl, rfl⟩, ⟨_, hv⟩, fun h1 h2 x k => let ⟨ob, hb, r⟩ := x; ⟨ob, k ob hb, r⟩⟩, rfl, q _ (I.hok.fresh (Nat.le_refl _))⟩
theorem call_list_valsT {X : Cx} (hc : X.calm = true) : CallR X (.type "list") (fun xs H Q => ∃ p a kvs, xs = [V.ref p] ∧ H p = some (valsO p a) ∧ H a = some (.dT kvs) ∧ ∀ l, H l = none → Q (.ref l) (upd H l (.lst (kvs.map Prod.snd)))) := by
  intro pins s σ H xs us Q I r h
  obtain ⟨p, a, kvs, rfl, hp, ha, q⟩ := h
  obtain ⟨u, rfl, ru⟩ := Vals.one r
  obtain rfl : u = Value.ref p := ru
  obtain ⟨hsm, o, es, ep, hgd, hx, hdt, hsz, hlen, ent⟩ := dt_raw I.hok (.inl ha)
  have raw : s.heap.DictRaw a es ep := ⟨_, hgd, hx, hdt⟩
  have hv : s.heap.IsValuesView p a := (show ObjOk X.prog X.w H s.heap p (valsO p a) from I.hok p _ hp).1
  refine PySem.W.kdl_call (PySem.KdlSrc.rawValues (r := p) (d := a) (es := es) (ep := ep)) (I.ok.hd hc) ⟨hv, raw⟩ (by omega) fun h' tk acc' c' kp e it => ?_
  have hl : acc'.toList.length = kvs.length := by rw [Array.length_toList, it.1]; exact hsz
  have rv : Vals (kvs.map Prod.snd) acc'.toList := by
    have key : ∀ (l : List (List Key × V)) (m : List Value), l.length = m.length → (∀ (j : Nat) (k : List Key) (v : V) (u : Value), l[j]? = some (k, v) → m[j]? = some u → RelV v u) → Vals (l.map Prod.snd) m := by
      intro l
      induction l with
      | nil =>
        intro m hm _
        cases m with
        | nil => exact .nil
        | cons _ _ => simp at hm
      | cons x l ih =>
        intro m hm hr
        cases m with
        | nil => simp at hm
        | cons u m =>
          exact .cons (hr 0 x.1 x.2 u rfl rfl) (ih m (by simpa using hm) fun j k v u h1 h2 => hr (j + 1) k v u (by simpa using h1) (by simpa using h2))
    refine key kvs acc'.toList hl.symm fun j k v u h1 h2 => ?_
    obtain ⟨en, _, hen, _, _, hval⟩ := ent j k v h1
    obtain ⟨hi, e2⟩ := it.2 j u (by rw [← Array.getElem?_toList]; exact h2)
    rw [Array.getElem?_eq_getElem hi] at hen
    rw [e2, Option.some.inj hen]
    exact hval
  have hz : (kvs.map Prod.snd).length ≤ sizeLine := by rw [List.length_map]; exact hlen
  exact ⟨.ref s.heap.objs.size, _, I.laid (t' := tk) (o := .lst (kvs.map Prod.snd)) kp (Nat.le_refl _) ⟨hz, acc'.toList, c', rv, by rw [Array.toArray_toList]; exact e⟩, rfl, q _ (I.hok.fresh (Nat.le_refl _))⟩
end Pk

set_option Elab.async false
set_option linter.all false
set_option maxRecDepth 100000
set_option maxHeartbeats 4000000
namespace Pk
open PySem PySem.Spec PyProof.Rows L2
/-! ### {k: v for target in iter if ..}, the keys tuples -/
/-- what a turn asks: to go on at the next place -/
def DcTurn (J : It) (g : TG) (tt : TT) (tk tv : TE) (σ0 : L2.St) (D : Addr) (Qd : Hp → Prop) (W : Nat → Nat → Hp → Prop) : Prop := ∀ i m H, W i m H →
  (J.stop i H ∧ Qd H) ∨ (J.go i H ∧ ∃ Nx : Hp → Prop, (∀ H', Nx H' → ∃ m', m' < m ∧ W (i + 1) m' H') ∧ ∀ x H', J.yld i H x H' → g x σ0 H' fun σ2 H2 => wipe σ2 [] = wipe σ2 [] ∧ (∃ vs, σ0 = wipe σ0 vs ∧ wipe σ2 vs = σ0) ∧ tt σ2 H2 fun b H3 =>
    if b = true then tk σ2 H3 fun y H4 => tv σ2 H4 fun z H5 => ∃ kvs k q, y = V.ref q ∧ H5 q = some (.tup (k.map kV)) ∧ H5 D = some (.dT kvs) ∧ kvs.length < sizeLine ∧ Nx (L2.upd H5 D (.dT (putK kvs k z))) else Nx H3)
def tDcT (wi : TI) (g : TG) (tt : TT) (tk tv : TE) (vs : List Nat) : TE := fun σ H Q => wi σ H fun J H1 => ∀ D, H1 D = none → ∃ W : Nat → Nat → Hp → Prop, (∃ m, W 0 m (L2.upd H1 D (.dT []))) ∧ ∀ i m H, W i m H →
  (J.stop i H ∧ Q (.ref D) H) ∨ (J.go i H ∧ ∃ Nx : Hp → Prop, (∀ H', Nx H' → ∃ m', m' < m ∧ W (i + 1) m' H') ∧ ∀ x H', J.yld i H x H' → g x (wipe σ vs) H' fun σ2 H2 => wipe σ2 vs = wipe σ vs ∧ tt σ2 H2 fun b H3 =>
    if b = true then tk σ2 H3 fun y H4 => tv σ2 H4 fun z H5 => ∃ kvs k q, y = V.ref q ∧ H5 q = some (.tup (k.map kV)) ∧ H5 D = some (.dT kvs) ∧ kvs.length < sizeLine ∧ Nx (L2.upd H5 D (.dT (putK kvs k z))) else Nx H3)
/-- an entry put by a comprehension -/
theorem dt_dictSet {X : Cx} {pins : List (Addr × Obj)} {σ : L2.St} {H : Hp} {s : Shared} {E : Value → Shared → Prop} {D q : Addr} {kvs : List (List Key × V)} {k : List Key} {v : V} {r : Value} {Q : Unit → Shared → Prop} (hu : X.A.units + 1 < cLine) (I : L2.Inv X pins σ H s) (hD : H D = some (.dT kvs)) (hq : H q = some (.tup (k.map kV))) (hz : kvs.length < sizeLine)
    (rv : RelV v r) (h : ∀ s', L2.Inv X pins σ (L2.upd H D (.dT (putK kvs k v))) s' → Q () s') : wpAny (model X.prog X.w) X.A (dictSet D (.ref q) r) Q E s := by
  obtain ⟨z, hsm, xs, rel, dd⟩ := dt_of I.hok hD
  have lx : xs.length ≤ sizeLine := by have z2 : kvs.length = xs.length := Paired.length rel; omega
  have lp : (putK kvs k v).length ≤ sizeLine := by have := length_putK kvs k v; omega
  have room : (tupleKind (mixKind X.prog X.w)).room X.A := by
    show X.A.units < cLine
    omega
  refine wpAny_dictSet_heap (hsz := lx) room (key_of I.hok hq) dd fun hn dn hs => h _ ?_
  obtain ⟨ob, es, ep, g1, g2, g3, g4, _, g5⟩ := dn
  refine d_write I (by rw [hD]; exact True.intro) hs ⟨ob, g1⟩ ⟨lp, hsm, _, (rel.put k hq rv).keeps fun c ys ec => ?_, ob, es, ep, g1, g2, g3, g4, g5⟩
  rw [upd_ne (fun zz => by rw [zz, hD] at ec; cases ec)]
  exact ec
section
variable {X : Cx}
/-- the loop of the comprehension's own block -/
theorem dcT_loop {sX : Shared} {HX : Hp} {scope : Scope} {ce : Env} {fp : List Addr} {σ : L2.St} {vs : List Nat} {tg iter kx vx : Expr} {ifs : List Expr} {sc : Scope} {pos : Pos} {J : It} {it D : Addr} {tn : Nat → Heap → Prop} {g : TG} {tt : TT} {tk tv : TE} {W : Nat → Nat → Hp → Prop} {Qd : Hp → Prop} {R : Result → Shared → Prop}
    (hc : X.calm = true) (hu : X.A.units + 1 < cLine) (T : Turn X.prog X.w X.K tg J fp it tn) (pg : PG (X.blk sX HX scope ce fp) tg g) (pt : PTs (X.blk sX HX scope ce fp) ifs tt) (pk : PE (X.blk sX HX scope ce fp) kx tk) (pv : PE (X.blk sX HX scope ce fp) vx tv)
    (turn : ∀ i m H, W i m H → (J.stop i H ∧ Qd H) ∨ (J.go i H ∧ ∃ Nx : Hp → Prop, (∀ H', Nx H' → ∃ m', m' < m ∧ W (i + 1) m' H') ∧ ∀ x H', J.yld i H x H' → g x (wipe σ vs) H' fun σ2 H2 => wipe σ2 vs = wipe σ vs ∧ tt σ2 H2 fun b H3 =>
      if b = true then tk σ2 H3 fun y H4 => tv σ2 H4 fun z H5 => ∃ kvs k q, y = V.ref q ∧ H5 q = some (.tup (k.map kV)) ∧ H5 D = some (.dT kvs) ∧ kvs.length < sizeLine ∧ Nx (L2.upd H5 D (.dT (putK kvs k z))) else Nx H3))
    (hR : ∀ s' H', L2.Inv (X.blk sX HX scope ce fp) [] (wipe σ vs) H' s' → Qd H' → R (.ok .next) s')
    {m0 : Nat} {s : Shared} {H : Hp} (I : L2.Inv (X.blk sX HX scope ce fp) [] (wipe σ vs) H s) (st : tn 0 s.heap) (nf : ∀ b ∈ fp, H b = none) (w0 : W 0 m0 H) :
    codeAny (model X.prog X.w) X.A (.compLoop (.DictComp kx vx [⟨tg, iter, ifs, 0⟩] sc pos) 0 (.ref it) (.ref D) ce) R s := by
  have still : ∀ {σ' : L2.St} {H' : Hp} {s' : Shared}, L2.Inv (X.blk sX HX scope ce fp) [] σ' H' s' → (∀ b ∈ fp, H' b = none) → ∀ b ∈ fp, FpOk (X.blk sX HX scope ce fp) [] H' b := fun {σ' H' s'} Ik hn b hb =>
    ⟨hn b hb, (Ik.ok.exf b hb).1, Ik.ok.exfs b hb, .inl hb, fun x c e => (Ik.ok.exf b hb).2 x c e, fun p hp => absurd (show p ∈ ([] : List (Addr × Obj)) ++ [] from hp) List.not_mem_nil⟩
  refine compLoop_anyD (fun n su => ∃ i Hu, L2.Inv (X.blk sX HX scope ce fp) [] (wipe σ vs) Hu su ∧ tn i su.heap ∧ (∀ b ∈ fp, Hu b = none) ∧ W i n Hu) (fun n sa hI => ?_) m0 ⟨0, H, I, st, nf, w0⟩
  obtain ⟨i, Ha, Ia, sta, na, wa⟩ := hI
  rcases turn i n Ha wa with ⟨hstop, hq⟩ | ⟨hgo, Nx, hNx, step⟩
  · -- there is no more
    refine thnF (T.done (X.blk sX HX scope ce fp) rfl rfl rfl hc i [] sa _ Ha (fun _ _ => False) Ia (still Ia na) sta hstop) fun r sb ⟨hr, Ib⟩ => ?_
    subst hr
    exact hR sb Ha Ib hq
  · -- a turn
    refine thnF (T.item (X.blk sX HX scope ce fp) rfl rfl rfl hc i [] sa _ Ha (fun _ _ => False) Ia (still Ia na) sta hgo) fun r sb ⟨u, hr, hb⟩ => ?_
    subst hr
    refine thnF hb fun _ sc ⟨x, Hc, Ic, rc, yc, stc, nc⟩ => ?_
    have Ip := Ic.pinned (still Ic nc) (T.obj _ _ stc)
    refine thnF (pg.run _ sc _ Hc x u _ Ip rc (step x Hc yc)) fun _ sd ⟨σd, Hd, Id, hwd, qd⟩ => ?_
    have lw : (wipe σ vs).length = σd.length := by rw [← hwd, wipe_length]
    refine thnF (pt.run _ sd σd Hd _ Id qd) fun b se ⟨He, Ie, qe⟩ => ?_
    -- on to the next
    have next : ∀ {sn : Shared} {Hn : Hp}, L2.Inv (X.blk sX HX scope ce fp) ([] ++ pinsAt fp sc.heap) σd Hn sn → Nx Hn → ∃ m, m < n ∧ ∃ i Hu, L2.Inv (X.blk sX HX scope ce fp) [] (wipe σ vs) Hu sn ∧ tn i sn.heap ∧ (∀ b ∈ fp, Hu b = none) ∧ W i m Hu := fun {sn Hn} In nx => by
      obtain ⟨mm, hm, wn⟩ := hNx Hn nx
      have kept : ∀ b ∈ fp, ∀ o, sc.heap.get? b = some o → sn.heap.get? b = some o ∧ Hn b = none := fun b hb o e =>
        let zz := In.pin (b, o) (List.mem_append_right _ (List.mem_append_right _ (mem_pinsAt hb e)))
        ⟨zz.1, zz.2.1⟩
      refine ⟨mm, hm, i + 1, Hn, (In.unpinned (pins := [])).weak lw (fun j v e => ?_), T.keep _ _ _ stc fun b hb o e => (kept b hb o e).1, fun b hb => ?_, wn⟩
      · rw [← hwd] at e
        exact (wipe_some e).1
      · obtain ⟨o, e, _⟩ := T.obj _ _ stc b hb
        exact (kept b hb o e).2
    cases b with
    | false =>
      rw [if_neg (by decide)] at qe
      exact next Ie qe
    | true =>
      rw [if_pos rfl] at qe
      refine thnF (pk.run _ se σd He _ Ie qe) fun zk sf ⟨yk, Hf, If, rf, qf⟩ => ?_
      refine thnF (pv.run _ sf σd Hf _ If qf) fun zv sg ⟨yv, Hg, Ig, rg, kvs, k, q, ek, hq, hD, hz, nx⟩ => ?_
      subst ek
      obtain rfl : zk = Value.ref q := rf
      exact dt_dictSet (X := X.blk sX HX scope ce fp) hu Ig hD hq hz rg fun sh Ih => next Ih nx
theorem pe_dcT {kx vx tg iter : Expr} {ifs : List Expr} {scope : Scope} {own : List (Str × Nat)} {pos : Pos} {wi : TI} {g : TG} {tt : TT} {tk tv : TE} (hc : X.calm = true) (hu : X.A.units + 1 < cLine) (hN : X.N.Nodup) (hi : PI X tg iter wi) (ok : BlkOk X.N X.env.scope scope own)
    (hg : ∀ (s : Shared) (H : Hp) (C : Addr) (cl : List (Str × Addr)) (fp : List Addr), PG (X.blk s H scope (compEnvC scope cl C X.env) fp) tg g)
    (ht : ∀ (s : Shared) (H : Hp) (C : Addr) (cl : List (Str × Addr)) (fp : List Addr), PTs (X.blk s H scope (compEnvC scope cl C X.env) fp) ifs tt)
    (hk : ∀ (s : Shared) (H : Hp) (C : Addr) (cl : List (Str × Addr)) (fp : List Addr), PE (X.blk s H scope (compEnvC scope cl C X.env) fp) kx tk)
    (he : ∀ (s : Shared) (H : Hp) (C : Addr) (cl : List (Str × Addr)) (fp : List Addr), PE (X.blk s H scope (compEnvC scope cl C X.env) fp) vx tv) (hs : ∀ x, foldedSetIterable iter X.env x = pure x := by intro _; rfl) :
    PE X (.DictComp kx vx [⟨tg, iter, ifs, 0⟩] scope pos) (tDcT wi g tt tk tv (own.map (·.2))) := by
  refine ⟨fun pins s σ H Q I h => ?_⟩
  rw [arm_eval_DictComp]
  have cells : ∀ y ∈ scope.names, y.2 = .free → ∃ c, X.env.cells.lookup y.1 = some c := fun y hy e => (ok.free y hy e).elim (fun k => I.ok.has _ (.inl k)) fun k => I.ok.has _ (.inr k)
  refine wpAny_comprehension_free (use := none) rfl hs (closure_ok cells) ok.kind (fun y hy e => by rw [ok.uniq y hy, e])
    (thn (hi.run pins s σ H _ I h) fun xv sa hx => thn hx fun itv sb hb => ?_)
  obtain ⟨it, fp, tn, J, Hb, ei, Ib, T, stb, fb, q⟩ := hb
  subst ei
  refine wpAny_newObj_type (newEnv_comp ?_)
  generalize hD : sb.heap.objs.size = D
  obtain ⟨W, ⟨m0, w0⟩, turn⟩ := q D (Ib.hok.fresh (Nat.le_of_eq hD))
  -- the new dict
  have Ic : L2.Inv X pins σ (L2.upd Hb D (.dT [])) { sb with heap := sb.heap.push { cls := .type "dict", data := .dict #[] } } := by
    refine Ib.laid (t' := sb.toks) (fun b o e => Heap.get?_push_of_some _ e) (Nat.le_of_eq hD) ?_
    rw [← hD]
    exact dt_empty sb.heap Ib.big
  generalize hsc : ({ sb with heap := sb.heap.push { cls := .type "dict", data := .dict #[] } } : Shared) = sc at Ic ⊢
  have hh : sc.heap = sb.heap.push { cls := .type "dict", data := .dict #[] } := by rw [← hsc]
  have fc : ∀ b ∈ fp, FpOk X pins (L2.upd Hb D (.dT [])) b ∧ b < sc.heap.objs.size := fun b hb => by
    obtain ⟨o, e, _⟩ := T.obj _ _ stb b hb
    have lt := Heap.lt_size e
    refine ⟨⟨?_, (fb b hb).2⟩, by rw [hh, Heap.size_push]; exact Nat.lt_succ_of_lt lt⟩
    rw [upd_ne (by rw [← hD]; exact Nat.ne_of_lt lt)]
    exact (fb b hb).1
  have stc : tn 0 sc.heap := T.keep _ _ _ stb fun b _ o e => by rw [hh]; exact Heap.get?_push_of_some _ e
  have Id := block_start Ic ok hN fc
  have pg := hg sc (L2.upd Hb D (.dT [])) sc.heap.objs.size (cellsFrom (sc.heap.objs.size + 1) scope.names (cloFrom X.env.cells scope.names [])) fp
  have pt := ht sc (L2.upd Hb D (.dT [])) sc.heap.objs.size (cellsFrom (sc.heap.objs.size + 1) scope.names (cloFrom X.env.cells scope.names [])) fp
  have pk := hk sc (L2.upd Hb D (.dT [])) sc.heap.objs.size (cellsFrom (sc.heap.objs.size + 1) scope.names (cloFrom X.env.cells scope.names [])) fp
  have pv := he sc (L2.upd Hb D (.dT [])) sc.heap.objs.size (cellsFrom (sc.heap.objs.size + 1) scope.names (cloFrom X.env.cells scope.names [])) fp
  have cl : (compEnvC scope (cellsFrom (sc.heap.objs.size + 1) scope.names (cloFrom X.env.cells scope.names [])) sc.heap.objs.size X.env).locals = sc.heap.objs.size := rfl
  have nfp : ∀ b ∈ fp, (L2.upd Hb D (.dT [])) b = none := fun b hb => (fc b hb).1.1
  have std : tn 0 (pushCells (sc.heap.push { cls := .type "dict", data := .dict #[] }) scope.names) := T.keep _ _ _ stc fun b _ o e => pushCells_keeps _ _ _ _ (Heap.get?_push_of_some _ e)
  refine codeAny_compStart_dict ?_ (T.self X.A 0 _ _ _ std ?_)
  all_goals
    refine dcT_loop (sX := sc) (HX := L2.upd Hb D (.dT [])) (fp := fp) (σ := σ) (vs := own.map (·.2)) hc hu T pg pt pk pv turn (fun se He Ie qe => ?_) Id std nfp w0
    have If : L2.Inv X pins σ He se := Ic.call' (ch := fp) Ie.os Ie.base Ie.hok Ie.bare fun b hb => ⟨(fc b hb).1.2.2.2.1, (fc b hb).1.2.1, (fc b hb).1.2.2.2.2.1, (fc b hb).1.2.2.2.2.2⟩
    have nC : He sc.heap.objs.size = none := by rw [← cl]; exact Ie.free
    obtain ⟨m, hn, _⟩ := Ie.loc
    have hn : se.heap.Ns sc.heap.objs.size m := hn
    obtain ⟨f0, f1, f2, f3, f4, f5⟩ := Ic.fpOk (Nat.le_refl _) nC
    exact ⟨m, hn, fun hz sz => ⟨.ref D, He, If.turned (t' := se.toks) (fun b o hb e => (sz.2 b hb).trans e) f0 f1 f3 f4 f5, rfl, qe⟩⟩
end
end Pk

set_option Elab.async false
set_option linter.all false
set_option maxRecDepth 100000
set_option maxHeartbeats 4000000
namespace Pk
open PySem PySem.Spec PyProof.Rows L2
/-! ### a dict that is walked and told by an expression: locked once it is told, free again behind it -/
def Loose (X : Cx) (d : Addr) : Prop := ∀ o' u', X.H_0 d ≠ some (.frz o' u')
def iKeysF (X : Cx) (td : TE) : TI := fun σ H R => td σ H fun x H1 => ∃ d kvs, x = .ref d ∧ H1 d = some (.dK kvs) ∧ ∀ o, Loose X d → R (Itk d o kvs) (L2.upd H1 d (.frz o (.dK kvs)))
theorem pi_keysF {X : Cx} {tg e : Expr} {td : TE} (he : PE X e td) : PI X tg e (iKeysF X td) := by
  refine ⟨fun pins s σ H R I h => ?_⟩
  refine thn (he.run pins s σ H _ I h) fun u s1 ⟨x, H1, I1, rx, d, kvs, ex, hd, q⟩ => ?_
  subst ex
  obtain rfl : u = Value.ref d := rx
  obtain ⟨od, I2⟩ := I1.lock hd True.intro
  obtain ⟨hs, hgd, hx, es, ep, vs, hdt, hsz, kv, hm⟩ := I2.frzK upd_same
  refine iter_keys hs hgd hx hdt (pi_one (tk := s1.toks) I2 _ (turn_keys _ hdt) ⟨_, Heap.get?_push_size _ rfl, rfl, ?_⟩ (q od (I1.nofrz hd True.intro)))
  rw [hsz] <;> rfl
def tThaw (X : Cx) (t : TE) : TE := fun σ H Q => t σ H fun v H' => ∃ d od u, H' d = some (.frz od u) ∧ Loose X d ∧ Q v (L2.upd H' d u)
theorem pe_thaw {X : Cx} {e : Expr} {t : TE} (h : PE X e t) : PE X e (tThaw X t) := by
  refine ⟨fun pins s σ H Q I hw => ?_⟩
  refine thn (h.run pins s σ H _ I hw) fun v s1 ⟨x, H1, I2, r, d, od, u, e2, ln, q⟩ => ?_
  exact ⟨x, _, I2.unlock e2 ln, r, q⟩
/-! ### a.update(b), any two dicts -/
def mergeK (ks : List (Key × V)) (ls : List (Key × V)) : List (Key × V) := ls.foldl (fun acc p => putK acc p.1 p.2) ks
def rDUpdK : V → List V → Hp → VK → Prop := fun x vs H Q => ∃ (a b : Addr) (ks ls : List (Key × V)), x = .ref a ∧ vs = [.ref b] ∧ a ≠ b ∧ H a = some (.dK ks) ∧ H b = some (.dK ls) ∧ ks.length + ls.length ≤ sizeLine ∧ Q .non (L2.upd H a (.dK (mergeK ks ls)))
theorem mergeK_kv {ls : List (Key × V)} {vs2 : List (Key × Value)} (r2 : KV ls vs2) : ∀ {ks : List (Key × V)} {vs : List (Key × Value)}, KV ks vs → KV (mergeK ks ls) (merged vs vs2) := by
  unfold KV at r2
  induction r2 with
  | nil => exact fun r => r
  | @cons p q ps qs h t ih =>
    intro ks vs r
    have z := r.put p.1 h.2
    have e : p.1 = q.1 := h.1
    rw [e] at z
    have z2 := ih z
    show KV (mergeK (putK ks p.1 p.2) ps) (merged (stored vs q.1 q.2) qs)
    rw [e]
    exact z2
theorem mergeK_len {ks : List (Key × V)} : ∀ {ls : List (Key × V)}, (mergeK ks ls).length ≤ ks.length + ls.length := by
  intro ls
  induction ls generalizing ks with
  | nil => exact Nat.le_refl _
  | cons p r ih =>
    have z := ih (ks := putK ks p.1 p.2)
    have z2 := length_putK ks p.1 p.2
    show (mergeK (putK ks p.1 p.2) r).length ≤ _
    rw [List.length_cons]
    omega
theorem mtd_updateK {X : Cx} : MtR X "dict.update" rDUpdK := by
  intro pins s σ H x vs v us Q I rx rv h
  obtain ⟨a, b, ks, ls, ex, ev, hab, ea, eb, hl, q⟩ := h
  subst ex ev
  obtain rfl : v = Value.ref a := rx
  obtain ⟨u, rfl, ru⟩ := Vals.one rv
  obtain rfl : u = Value.ref b := ru
  obtain ⟨z, hd, vs, rel, dd⟩ := dk_of I.hok ea
  obtain ⟨z2, hd2, vs2, rel2, dd2⟩ := dk_of I.hok eb
  refine call_meetsIn PySem.F.slot_dict_update dd.typeIs PySem.F.entry_dict_update (PySem.F.args_dict_update_2 _ _) (meets_dict_update (mixKind X.prog X.w) a b hab hd2) ⟨vs, vs2, dd, dd2, (by rw [← rel.length, ← rel2.length]; exact hl), fun h' dd' _ hs => ?_⟩
  have he : ∃ q, h'.get? a = some q := let ⟨q, _, _, hq, _⟩ := dd'; ⟨q, hq⟩
  exact ⟨.non, _, d_write (t' := s.toks) I (by rw [ea]; exact True.intro) hs he (dk_new (Nat.le_trans mergeK_len hl) hd (mergeK_kv rel2 rel) dd'), rfl, q⟩
end Pk

set_option Elab.async false
set_option linter.all false
set_option maxRecDepth 100000
set_option maxHeartbeats 4000000
namespace Pk
open PySem PySem.Spec PyProof.Rows L2
/-! ### a dict that is walked and told by an expression, locked already or not -/
def iKeysG (X : Cx) (td : TE) : TI := fun σ H R => td σ H fun x H1 => ∃ d kvs, x = .ref d ∧ ((H1 d = some (.dK kvs) ∧ ∀ o, Loose X d → R (Itk d o kvs) (L2.upd H1 d (.frz o (.dK kvs)))) ∨ ∃ o, H1 d = some (.frz o (.dK kvs)) ∧ R (Itk d o kvs) H1)
theorem pi_keysG {X : Cx} {tg e : Expr} {td : TE} (he : PE X e td) : PI X tg e (iKeysG X td) := by
  refine ⟨fun pins s σ H R I h => ?_⟩
  refine thn (he.run pins s σ H _ I h) fun u s1 ⟨x, H1, I1, rx, d, kvs, ex, q⟩ => ?_
  subst ex
  obtain rfl : u = Value.ref d := rx
  rcases q with ⟨hd, q⟩ | ⟨o, hd, q⟩
  · obtain ⟨od, I2⟩ := I1.lock hd True.intro
    obtain ⟨hs, hgd, hx, es, ep, vs, hdt, hsz, kv, hm⟩ := I2.frzK upd_same
    refine iter_keys hs hgd hx hdt (pi_one (tk := s1.toks) I2 _ (turn_keys _ hdt) ⟨_, Heap.get?_push_size _ rfl, rfl, ?_⟩ (q od (I1.nofrz hd True.intro)))
    rw [hsz] <;> rfl
  · obtain ⟨hs, hgd, hx, es, ep, vs, hdt, hsz, kv, hm⟩ := I1.frzK hd
    refine iter_keys hs hgd hx hdt (pi_one (tk := s1.toks) I1 _ (turn_keys _ hdt) ⟨_, Heap.get?_push_size _ rfl, rfl, ?_⟩ q)
    rw [hsz] <;> rfl
def tThawG (X : Cx) (t : TE) : TE := fun σ H Q => t σ H fun v H' => Q v H' ∨ ∃ d od u, H' d = some (.frz od u) ∧ Loose X d ∧ Q v (L2.upd H' d u)
theorem pe_thawG {X : Cx} {e : Expr} {t : TE} (h : PE X e t) : PE X e (tThawG X t) := by
  refine ⟨fun pins s σ H Q I hw => ?_⟩
  refine thn (h.run pins s σ H _ I hw) fun v s1 ⟨x, H1, I1, r, q⟩ => ?_
  rcases q with q | ⟨d, od, u, e2, ln, q⟩
  · exact ⟨x, _, I1, r, q⟩
  · exact ⟨x, _, I1.unlock e2 ln, r, q⟩
/-! ### what a dict of dicts holds of one of its keys -/
def ShG (H : Hp) (r : Addr) (x : Str) (l : List Int) : Prop := IsD H r ∧ l.length ≤ 1000 ∧ ((DGet H r (.str x) none ∧ l = []) ∨ ∃ (a : Addr) (kvs : List (Key × V)), DGet H r (.str x) (some (.ref a)) ∧ kvs.map (·.1) = l.map Sum.inl ∧ (H a = some (.dK kvs) ∨ ∃ o, H a = some (.frz o (.dK kvs))))
theorem Kp.isD {T : Addr} {H H' : Hp} (k : Kp T H H') {a : Addr} (h : IsD H a) : IsD H' a := by
  rcases h with ⟨kvs, h | ⟨o, h⟩⟩ | ⟨kvs, h | ⟨o, h⟩⟩
  · exact .inl ⟨kvs, .inl (k.keep _ _ (tab_ne k.t0 h fun _ z => by cases z) h)⟩
  · exact .inl ⟨kvs, .inr ⟨o, k.keep _ _ (tab_ne k.t0 h fun _ z => by cases z) h⟩⟩
  · exact .inr ⟨kvs, .inl (k.keep _ _ (tab_ne k.t0 h fun _ z => by cases z) h)⟩
  · exact .inr ⟨kvs, .inr ⟨o, k.keep _ _ (tab_ne k.t0 h fun _ z => by cases z) h⟩⟩
theorem Kp.rd {T : Addr} {H H' : Hp} (k : Kp T H H') {a : Addr} {o : HO} (n : ∀ ps, o ≠ .tbl ps) (h : Rd H a o) : Rd H' a o := by
  rcases h with h | ⟨z, h⟩
  · exact .inl (k.keep _ _ (tab_ne k.t0 h n) h)
  · exact .inr ⟨z, k.keep _ _ (tab_ne k.t0 h fun _ z => by cases z) h⟩
theorem Kp.dget {T : Addr} {H H' : Hp} (k : Kp T H H') {a : Addr} {y : V} {r : Option V} (h : DGet H a y r) : DGet H' a y r := by
  rcases h with ⟨kvs, kk, h, e1, e2⟩ | ⟨kvs, kk, b, h, e1, e2, e3⟩
  · exact .inl ⟨kvs, kk, k.rd (fun _ z => by cases z) h, e1, e2⟩
  · exact .inr ⟨kvs, kk, b, k.rd (fun _ z => by cases z) h, e1, k.keep _ _ (tab_ne k.t0 e2 fun _ z => by cases z) e2, e3⟩
theorem Kp.shg {T : Addr} {H H' : Hp} (k : Kp T H H') {r : Addr} {x : Str} {l : List Int} (h : ShG H r x l) : ShG H' r x l := by
  obtain ⟨h1, h2, h⟩ := h
  refine ⟨k.isD h1, h2, ?_⟩
  rcases h with ⟨h, e⟩ | ⟨a, kvs, h, e, h3⟩
  · exact .inl ⟨k.dget h, e⟩
  · refine .inr ⟨a, kvs, k.dget h, e, ?_⟩
    rcases h3 with h3 | ⟨o, h3⟩
    · exact .inl (k.keep _ _ (tab_ne k.t0 h3 fun _ z => by cases z) h3)
    · exact .inr ⟨o, k.keep _ _ (tab_ne k.t0 h3 fun _ z => by cases z) h3⟩
end Pk

set_option Elab.async false
set_option linter.all false
set_option maxRecDepth 100000
set_option maxHeartbeats 4000000
namespace Pk
open PySem PySem.Spec PyProof.Rows L2
/-- a need as three: its ware, from, to -/
abbrev N3 := Str × Int × Int
def n3 : PyData → N3
  | .tuple [.str w, .int lo, .int hi] => (w, lo, hi)
  | _ => (Str.empty, 0, 0)
def NdV (K : PySem.W.Frag) (H : Hp) (v : V) (n : N3) : Prop := ∃ b, v = .ref b ∧ SqT K H b [.str n.1, .int n.2.1, .int n.2.2]
theorem NdV.kp {K : PySem.W.Frag} {T : Addr} {H H' : Hp} (k : Kp T H H') {v : V} {n : N3} (h : NdV K H v n) : NdV K H' v n := by
  obtain ⟨b, e, h⟩ := h
  exact ⟨b, e, k.sqt h⟩
theorem NdV.mono {K : PySem.W.Frag} {H H' : Hp} (k : ∀ b o, isSeqO o = true → H b = some o → H' b = some o) {v : V} {n : N3} (h : NdV K H v n) : NdV K H' v n := by
  obtain ⟨b, e, h⟩ := h
  refine ⟨b, e, ?_⟩
  rcases h with (h | ⟨o, h⟩) | h
  · exact .inl (.inl (k _ _ rfl h))
  · exact .inl (.inr ⟨o, k _ _ rfl h⟩)
  · exact .inr h
theorem NdV.of {K : PySem.W.Frag} {H : Hp} {v : V} {d : PyData} (h : Dp K H v d) (n : ND d) : NdV K H v (n3 d) ∧ d = .tuple [.str (n3 d).1, .int (n3 d).2.1, .int (n3 d).2.2] := by
  obtain ⟨b, y, lo, hi, rfl, hT, rfl, _⟩ := nd_read h n
  exact ⟨⟨b, rfl, hT⟩, rfl⟩
theorem n3_wOf {d : PyData} (n : ND d) : (n3 d).1 = wOf d := by
  obtain ⟨y, i, j, rfl, _⟩ := n
  rfl
def okN (n : N3) (m : Int) : Bool := decide (n.2.1 ≤ m) && decide (m ≤ n.2.2)
/-- the makes that all of some needs let be -/
def leftM (l : List Int) (ns : List N3) : List Int := l.filter fun m => ns.all fun n => okN n m
theorem leftM_mem {l : List Int} {ns : List N3} {m : Int} : m ∈ leftM l ns ↔ m ∈ l ∧ ∀ n ∈ ns, okN n m = true := by
  unfold leftM
  rw [List.mem_filter, List.all_eq_true]
theorem leftM_nil {l : List Int} {ns : List N3} (h : ∀ m, 1 ≤ m → m ≤ 999 → ¬ ∀ n ∈ ns, okN n m = true) (g : ∀ m ∈ l, 1 ≤ m ∧ m ≤ 999) : leftM l ns = [] := by
  unfold leftM
  rw [List.filter_eq_nil_iff]
  intro m hm z
  have gm := g m hm
  exact h m gm.1 gm.2 (List.all_eq_true.mp z)
section
variable {P : Program} {w : World} {K : PySem.W.Frag} {mg : Str → Option Value} {base : Heap}
def joinedN : List Str := ["one", "other", "low", "high"]
theorem scJoined : FnScope joinedN ["one", "other"] (defScope sJoined) := ⟨rfl, rfl, rfl, by decide +kernel, rfl, by decide +kernel, by decide +kernel⟩
def leftN : List Str := ["shelves", "ware", "needs", "both", "need", "low", "high", "make"]
theorem scLeft : FnScope leftN ["shelves", "ware", "needs"] (defScope sLeft) := ⟨rfl, rfl, rfl, by decide +kernel, rfl, by decide +kernel, by decide +kernel⟩
/-- the comprehension at the end of makes_left -/
theorem lc_left {K : PySem.W.Frag} {T d : Addr} {od : Obj} {kvs : List (Key × V)} {l : List Int} {HL : Hp} {σ : L2.St} {D : Addr} {Qd : Hp → Prop} {lo hi : Int} {tt : TT} {te : TE}
    (hd : HL d = some (.frz od (.dK kvs))) (ht : GxR.TabG HL T) (hk : kvs.map (·.1) = l.map (Sum.inl : Int → Key)) (hl : l.length ≤ 1000) (h7 : 7 < σ.length) (nD : HL D = none)
    (hstep : ∀ (m : Int) H3 (R : Bool → Hp → Prop), R (decide (lo ≤ m) && decide (m ≤ hi)) H3 → tt ((wipe σ [7]).set 7 (some (.int m))) H3 R)
    (hte : ∀ (m : Int) H3 (R : V → Hp → Prop), R (.int m) H3 → te ((wipe σ [7]).set 7 (some (.int m))) H3 R)
    (q : ∀ H', Kp T HL H' → H' D = some (.lst ((l.filter fun m => decide (lo ≤ m) && decide (m ≤ hi)).map V.int)) → Qd H') :
    ∃ W : Nat → Nat → Hp → Prop, (∃ m, W 0 m (upd HL D (.lst []))) ∧ ∀ i m H, W i m H →
      ((Itk d od kvs).stop i H ∧ Qd H) ∨ ((Itk d od kvs).go i H ∧ ∃ Nx : Hp → Prop, (∀ H', Nx H' → ∃ m', m' < m ∧ W (i + 1) m' H') ∧ ∀ x H', (Itk d od kvs).yld i H x H' → gName 7 x (wipe σ [7]) H' fun σ2 H2 => wipe σ2 [7] = wipe σ [7] ∧ tt σ2 H2 fun b H3 =>
        if b = true then te σ2 H3 fun y H4 => ∃ acc, H4 D = some (.lst acc) ∧ acc.length < sizeLine ∧ Nx (upd H4 D (.lst (acc ++ [y]))) else Nx H3) := by
  have hkl : kvs.length = l.length := by have z := congrArg List.length hk; rwa [List.length_map, List.length_map] at z
  have dT := tab_ne ht hd fun _ z => by cases z
  have DT := tab_nn ht nD
  have Dd : D ≠ d := fun z => by rw [z, hd] at nD; cases nD
  refine lc_keys (d := d) (o := od) (kvs := kvs) (fun n H' => Kp T HL H' ∧ H' D = some (.lst (((l.take n).filter fun m => decide (lo ≤ m) && decide (m ≤ hi)).map V.int))) ⟨Kp.new ht nD, upd_same⟩ (fun n H' _ hm => hm.1.keep d _ dT hd) (fun n k v H' hk' hm => ?_) (fun H' hm => ?_)
  · obtain ⟨kk, hD⟩ := hm
    have hn := (List.getElem?_eq_some_iff.mp hk').1
    have hnl : n < l.length := by omega
    have e1 : (kvs.map (·.1))[n]? = some k := by rw [List.getElem?_map, hk']; rfl
    rw [hk, List.getElem?_map, List.getElem?_eq_getElem hnl] at e1
    obtain rfl : (Sum.inl l[n] : Key) = k := Option.some.inj e1
    have etake : l.take (n + 1) = l.take n ++ [l[n]] := by rw [List.take_add_one, List.getElem?_eq_getElem hnl]; rfl
    refine ⟨by show wipe ((wipe σ [7]).set 7 _) [7] = wipe σ [7]; show ((σ.set 7 none).set 7 _).set 7 none = σ.set 7 none; rw [List.set_set, List.set_set], hstep _ _ _ ?_⟩
    cases hb : (decide (lo ≤ l[n]) && decide (l[n] ≤ hi)) with
    | false =>
      refine iteF ⟨kk, ?_⟩
      rw [etake, List.filter_append, List.filter_cons, if_neg (by rw [hb]; decide), List.filter_nil, List.append_nil]
      exact hD
    | true =>
      refine iteT (hte _ _ _ ⟨_, hD, ?_, kk.set nD DT, ?_⟩)
      · rw [List.length_map]
        have z := List.length_filter_le (fun m => decide (lo ≤ m) && decide (m ≤ hi)) (l.take n)
        rw [List.length_take] at z
        exact small1000 (by omega)
      · rw [upd_same, etake, List.filter_append, List.filter_cons, if_pos hb, List.filter_nil, List.map_append]
        rfl
  · obtain ⟨kk, hD⟩ := hm
    rw [hkl, List.take_length] at hD
    exact q H' kk hD
def spJoined (K : PySem.W.Frag) (T : Addr) : Sp := fun vs H Q _ => ∃ (p q : Addr) (a b c d : Int), vs = [.ref p, .ref q] ∧ SqT K H p [.int a, .int b] ∧ SqT K H q [.int c, .int d] ∧ GxR.TabG H T ∧ (max a c > min b d → Q .non H) ∧ (max a c ≤ min b d → ∀ t H', Kp T H H' → H t = none → H' t = some (.tup [.int (max a c), .int (min b d)]) → Q (.ref t) H')
theorem ok_joined {f T : Addr} {fd : FuncData} (F : Fun K "joined" "joined" sJoined f fd) (y_max : mg "max" = none) (y_min : mg "min" = none) : FnOk P w K mg base CX0 1 f fd ["one", "other"] (spJoined K T) := by
  refine F.ok scJoined (fun vs H Q E h => ?_) (fun cdv A outer s H vs Q E hr h => ?_)
  · obtain ⟨p, q, a, b, c, d, rfl, _⟩ := h
    rfl
  · obtain ⟨p, q, a, b, c, d, rfl, hp, hq, ht, no, yes⟩ := h
    refine ⟨_, (pss_cons (ps_set (i := 2) scJoined.nd rfl (by first | exact .inl rfl | exact .inr rfl) (pe_callB (call_max2 rfl) (by rfl) y_max boot_max (pa_cons (pe_ix ix_tup (pv 0) pe_int (fun _ _ => rfl)) (pa_cons (pe_ix ix_tup (pv 1) pe_int (fun _ _ => rfl)) pa_nil))))
      (pss_cons (ps_set (i := 3) scJoined.nd rfl (by first | exact .inl rfl | exact .inr rfl) (pe_callB (call_min2 rfl) (by rfl) y_min (by decide +kernel) (pa_cons (pe_ix ix_tup (pv 0) pe_int (fun _ _ => rfl)) (pa_cons (pe_ix ix_tup (pv 1) pe_int (fun _ _ => rfl)) pa_nil))))
      (pss_cons (ps_if (pt_cmpR op_gt (pv 2) (pv 3) (nomark _)) (pss_one (ps_ret pe_non)) pss_nil)
      (pss_one (ps_ret (pe_tup (pa_cons (pv 2) (pa_cons (pv 3) pa_nil)))))))), ?_⟩
    have i0 : ∀ x y : Int, atI [V.int x, .int y] 0 = some (.int x) := fun x y => at_gen (j := 0) rfl rfl
    have i1 : ∀ x y : Int, atI [V.int x, .int y] 1 = some (.int y) := fun x y => at_gen (j := 1) rfl rfl
    have e1 : (if c > a then c else a) = max a c := by by_cases h : c > a <;> simp [h] <;> omega
    have e2 : (if d < b then d else b) = min b d := by by_cases h : d < b <;> simp [h] <;> omega
    refine ⟨_, rfl, p, _, 0, _, rfl, rfl, hp, i0 a b, _, rfl, q, _, 0, _, rfl, rfl, hq, i0 c d, a, c, rfl, ?_⟩
    rw [e1]
    refine ⟨_, rfl, p, _, 1, _, rfl, rfl, hp, i1 a b, _, rfl, q, _, 1, _, rfl, rfl, hq, i1 c d, b, d, rfl, ?_⟩
    rw [e2]
    refine ⟨_, rfl, _, rfl, _, _, rfl, rfl, _, rfl, iteD (fun h => no h) (fun h => ?_)⟩
    exact ⟨_, rfl, _, rfl, (by show (2 : Nat) ≤ sizeLine; decide), fun t nt => yes (by omega) t _ (Kp.new ht nt) nt upd_same⟩
def spLeft (K : PySem.W.Frag) (T : Addr) : Sp := fun vs H Q _ => ∃ (r q : Addr) (x : Str) (l : List Int) (us : List V) (ns : List N3), vs = [.ref r, .str x, .ref q] ∧ ShG H r x l ∧ (∀ m ∈ l, 1 ≤ m ∧ m ≤ 999) ∧ SqL K H q us ∧ Paired (NdV K H) us ns ∧ GxR.TabG H T ∧
  ∀ p H', Kp T H H' → H p = none → H' p = some (.lst ((leftM l ns).map V.int)) → Q (.ref p) H'
theorem ok_left {f fJ fY T : Addr} {fd fdJ fdY : FuncData} {t1 t9 : Tok} (F : Fun K "makes_left" "makes_left" sLeft f fd)
    (GJ : FnOk P w K mg base CX0 1 fJ fdJ ["one", "other"] (spJoined K T)) (kJ : PySem.W.keepIn K (.ref fJ) = true) (bJ : Binds K fdJ ["one", "other"] []) (gJ : mg "joined" = some (.ref fJ))
    (GY : FnOk P w K mg base CX0 1 fY fdY ["make", "low", "high"] spWithin) (kY : PySem.W.keepIn K (.ref fY) = true) (bY : Binds K fdY ["make", "low", "high"] []) (gY : mg "within" = some (.ref fY))
    (gL1 : mg "LEAST_MAKE" = some (.int 1 t1)) (gM1 : mg "MOST_MAKE" = some (.int 999 t9)) : FnOk P w K mg base CX0 2 f fd ["shelves", "ware", "needs"] (spLeft K T) := by
  refine F.ok scLeft (fun vs H Q E h => ?_) (fun cdv A0 outer s H vs Q E hr h => ?_)
  · obtain ⟨r, q, x, l, us, ns, rfl, _⟩ := h
    rfl
  · obtain ⟨r, q, x, l, us, ns, rfl, B, G, hq, hns, ht, fin⟩ := h
    have hu := hu_of hr
    refine ⟨_, (pss_cons (ps_set (i := 3) scLeft.nd rfl (by first | exact .inl rfl | exact .inr rfl) (pe_tup (pa_cons (pe_glob (v := .int 1) rfl gL1 ⟨_, rfl⟩) (pa_cons (pe_glob (v := .int 999) rfl gM1 ⟨_, rfl⟩) pa_nil))))
      (pss_cons (ps_for PassesOwn.never rfl (pi_list (pv 2)) (pg_name (i := 4) scLeft.nd rfl (by first | exact .inl rfl | exact .inr rfl)) (pss_cons (ps_set (i := 3) scLeft.nd rfl (by first | exact .inl rfl | exact .inr rfl) (pe_call GJ (hr.mono (by decide)) (by rfl) gJ kJ bJ .nil pass0 (pa_cons (pv 3) (pa_cons (pe_tup (pa_cons (pe_ix ix_tup (pv 4) pe_int (fun _ _ => rfl)) (pa_cons (pe_ix ix_tup (pv 4) pe_int (fun _ _ => rfl)) pa_nil))) pa_nil))))
      (pss_one (ps_if (pt_cmp (pc_isN (pv 3))) (pss_one (ps_ret (pe_lst pa_nil))) pss_nil))))
      (pss_cons (ps_asg (pv 3) (pg_tup (by rfl) (pgs_cons (pg_name (i := 5) scLeft.nd rfl (by first | exact .inl rfl | exact .inr rfl)) (pgs_cons (pg_name (i := 6) scLeft.nd rfl (by first | exact .inl rfl | exact .inr rfl)) pgs_nil))))
      (pss_one (ps_ret (pe_thawG (pe_lc (own := [("make", 7)]) (g := (gName 7)) rfl scLeft.nd (pi_keysG (pe_dget2 hu (pv 0) (pv 1) pe_dnewK ⟨rfl, rfl, rfl, rfl⟩)) (blkOk_by (own := [("make", 7)]) (N := leftN) (sc := defScope sLeft) (by decide +kernel)) (fun _ _ _ _ _ => (pg_name (i := 7) scLeft.nd rfl (by first | exact Or.inl rfl | exact Or.inr rfl))) (fun _ _ _ _ _ => pts_one (pt_val (pe_call GY (hr.mono (by decide)) (by rfl) gY kY bY .nil pass0 (pa_cons (pv 7) (pa_cons (pv 5) (pa_cons (pv 6) pa_nil)))))) (fun _ _ _ _ _ => (pv 7))))))))), ?_⟩
    have lus := paired_len hns
    refine ⟨(by show (2 : Nat) ≤ sizeLine; decide), fun p np => ?_⟩
    have k1 := Kp.new (o := HO.tup [.int 1, .int 999]) ht np
    have e1 : upd H p (.tup [V.int 1, .int 999]) p = some (.tup [.int 1, .int 999]) := upd_same
    refine ⟨_, rfl, q, rfl, ⟨_, k1.seq hq⟩, for_list (K := K) (a := q) (xs := us) (fun i σ' H' => ∃ (x4 : Option V) (p : Addr) (lo hi : Int), σ' = [some (.ref r), some (.str x), some (.ref q), some (.ref p), x4, none, none, none] ∧ Kp T H H' ∧ H' p = some (.tup [.int lo, .int hi]) ∧ ∀ m, ((1 ≤ m ∧ m ≤ 999) ∧ ∀ n ∈ ns.take i, okN n m = true) ↔ (lo ≤ m ∧ m ≤ hi))
      ⟨none, p, 1, 999, rfl, k1, e1, fun m => ⟨fun h => h.1, fun h => ⟨h, fun n hn => by cases hn⟩⟩⟩ (fun i σ' H' _ ⟨_, _, _, _, _, kk, _⟩ => kk.seq hq) ?_ ?_⟩
    · rintro i v σ' H1 hi ⟨x4, p, lo, hi', rfl, kk, ep, hm⟩
      have hil : i < ns.length := by rw [← lus]; exact (List.getElem?_eq_some_iff.mp hi).1
      have ei := List.getElem?_eq_getElem hil
      obtain ⟨v', ev', b, rfl, hb⟩ := paired_get hns ei
      rw [hi] at ev'
      cases ev'
      have etake : ns.take (i + 1) = ns.take i ++ [ns[i]] := by rw [List.take_succ, ei]; rfl
      generalize ns[i] = n at hb etake
      have hb1 := kk.sqt hb
      have j1 : atI [V.str n.1, .int n.2.1, .int n.2.2] 1 = some (.int n.2.1) := at_gen (j := 1) rfl rfl
      have j2 : atI [V.str n.1, .int n.2.1, .int n.2.2] 2 = some (.int n.2.2) := at_gen (j := 2) rfl rfl
      refine ⟨_, rfl, _, rfl, b, _, 1, _, rfl, rfl, hb1, j1, _, rfl, b, _, 2, _, rfl, rfl, hb1, j2, (by show (2 : Nat) ≤ sizeLine; decide), fun t2 nt2 => ?_⟩
      have k2 := Kp.new (o := HO.tup [.int n.2.1, .int n.2.2]) kk.tab nt2
      have et2 : upd H1 t2 (.tup [V.int n.2.1, .int n.2.2]) t2 = some (.tup [.int n.2.1, .int n.2.2]) := upd_same
      have kk2 := kk.trans k2
      have ep2 := k2.keep _ _ (tab_ne k2.t0 ep fun _ z => by cases z) ep
      generalize upd H1 t2 (.tup [V.int n.2.1, .int n.2.2]) = H2 at k2 et2 kk2 ep2 ⊢
      have hm2 : ∀ m, ((1 ≤ m ∧ m ≤ 999) ∧ ∀ n' ∈ ns.take (i + 1), okN n' m = true) ↔ (max lo n.2.1 ≤ m ∧ m ≤ min hi' n.2.2) := fun m => by
        have z := hm m
        rw [etake]
        constructor
        · rintro ⟨h1, h2⟩
          have h3 := z.mp ⟨h1, fun n' hn' => h2 n' (List.mem_append_left _ hn')⟩
          have h4 := h2 n (List.mem_append_right _ (List.mem_singleton.mpr rfl))
          unfold okN at h4
          rw [Bool.and_eq_true] at h4
          have h5 := of_decide_eq_true h4.1
          have h6 := of_decide_eq_true h4.2
          omega
        · intro h
          have h3 := z.mpr (by omega)
          refine ⟨h3.1, fun n' hn' => ?_⟩
          rcases List.mem_append.mp hn' with hn' | hn'
          · exact h3.2 n' hn'
          · rw [List.mem_singleton.mp hn']
            unfold okN
            rw [decide_eq_true (show n.2.1 ≤ m by omega), decide_eq_true (show m ≤ n.2.2 by omega)]
            rfl
      refine ⟨p, t2, lo, hi', n.2.1, n.2.2, rfl, .inl (.inl ep2), .inl (.inl et2), kk2.tab, fun hgt => ?_, fun hle t3 H3 k3 nt3 et3 => ?_⟩
      · refine ⟨_, rfl, true, (by simp), iteT ?_⟩
        refine ⟨(by show (0 : Nat) ≤ sizeLine; decide), fun M nM => ?_⟩
        have z := fin M _ (kk2.trans (Kp.new (o := HO.lst []) kk2.tab nM)) (kk2.free nM)
        rw [leftM_nil (fun m h1 h2 h3 => ?_) fun m hm => G m hm] at z
        · exact z upd_same
        · have z2 := (hm2 m).mp ⟨⟨h1, h2⟩, fun n' hn' => h3 n' (List.mem_of_mem_take hn')⟩
          omega
      · refine ⟨_, rfl, false, (by simp), iteF ⟨_, t3, max lo n.2.1, min hi' n.2.2, rfl, kk2.trans k3, et3, hm2⟩⟩
    · rintro σ' H1 ⟨x4, p, lo, hi', rfl, kk, ep, hm⟩
      rw [lus, List.take_length] at hm
      have hlm : leftM l ns = l.filter fun m => decide (lo ≤ m) && decide (m ≤ hi') := by
        unfold leftM
        refine List.filter_congr fun m hmm => ?_
        have gm := G m hmm
        have z := hm m
        cases h : ns.all (fun n => okN n m) with
        | true =>
          have h2 := z.mp ⟨gm, List.all_eq_true.mp h⟩
          rw [decide_eq_true h2.1, decide_eq_true h2.2]
          rfl
        | false =>
          cases h3 : (decide (lo ≤ m) && decide (m ≤ hi')) with
          | false => rfl
          | true =>
            rw [Bool.and_eq_true] at h3
            have h4 := z.mpr ⟨of_decide_eq_true h3.1, of_decide_eq_true h3.2⟩
            rw [List.all_eq_true.mpr h4.2] at h
            cases h
      have kz : ∀ {d : Addr} {od : Obj} {u : HO} {H2 H3 : Hp}, Kp T H1 H2 → H2 d = some u → d ≠ T → Kp T (upd H2 d (.frz od u)) H3 → Kp T H1 (upd H3 d u) := fun {d od u H2 H3} k2 ed dT k3 => by
        refine ⟨k2.t0, tab_upd k3.tab dT, fun b o hb e => ?_⟩
        have e2 := k2.keep b o hb e
        by_cases hbd : b = d
        · rw [hbd, upd_same, ← e2, hbd, ed]
        · rw [upd_ne hbd]
          exact k3.keep b o hb (by rw [upd_ne hbd]; exact e2)
      obtain ⟨hD, h1000, B2⟩ := kk.shg B
      refine ⟨_, rfl, p, _, rfl, .inl (.inl ep), rfl, _, _, rfl, _, _, rfl, rfl, ?_⟩
      refine ⟨_, rfl, r, rfl, hD, _, rfl, fun pd npd => ?_⟩
      have k2 := Kp.new (o := HO.dK []) kk.tab npd
      have epd : upd H1 pd (.dK []) pd = some (.dK []) := upd_same
      have pdT := tab_nn kk.tab npd
      rcases B2 with ⟨dn, rfl⟩ | ⟨a, kvs, dn, hkv, ha⟩
      · refine ⟨none, k2.dget dn, pd, [], rfl, .inl ⟨epd, fun od ln D nD => ?_⟩⟩
        refine lc_left (T := T) (l := []) (od := od) (K := K) (lo := lo) (hi := hi') upd_same (tab_upd k2.tab pdT) rfl (Nat.zero_le _) (by show 7 < 8; decide) nD (fun m H3 R h => ?_) (fun m H3 R h => ⟨_, rfl, h⟩) (fun H3 k3 e3 => ?_)
        · exact ⟨_, rfl, _, rfl, _, rfl, ⟨m, lo, hi', rfl, _, rfl, h⟩⟩
        · have eDp : D ≠ pd := fun z => by rw [z, upd_same] at nD; cases nD
          refine .inr ⟨pd, od, _, k3.keep pd _ pdT upd_same, ln, ?_⟩
          refine fin D _ (kk.trans (kz k2 epd pdT k3)) (kk.free (k2.free (by rw [upd_ne eDp] at nD; exact nD))) ?_
          rw [upd_ne eDp, hlm]
          exact e3
      · refine ⟨_, k2.dget dn, a, kvs, rfl, ?_⟩
        rcases ha with ha | ⟨oa, ha⟩
        · have aT := tab_ne kk.tab ha fun _ z => by cases z
          have ha2 := k2.keep _ _ aT ha
          refine .inl ⟨ha2, fun od ln D nD => ?_⟩
          refine lc_left (T := T) (l := l) (od := od) (K := K) (lo := lo) (hi := hi') upd_same (tab_upd k2.tab aT) hkv h1000 (by show 7 < 8; decide) nD (fun m H3 R h => ?_) (fun m H3 R h => ⟨_, rfl, h⟩) (fun H3 k3 e3 => ?_)
          · exact ⟨_, rfl, _, rfl, _, rfl, ⟨m, lo, hi', rfl, _, rfl, h⟩⟩
          · have eDp : D ≠ a := fun z => by rw [z, upd_same] at nD; cases nD
            refine .inr ⟨a, od, _, k3.keep a _ aT upd_same, ln, ?_⟩
            refine fin D _ (kk.trans (kz k2 ha2 aT k3)) (kk.free (k2.free (by rw [upd_ne eDp] at nD; exact nD))) ?_
            rw [upd_ne eDp, hlm]
            exact e3
        · have aT := tab_ne kk.tab ha fun _ z => by cases z
          have ha2 := k2.keep _ _ aT ha
          refine .inr ⟨oa, ha2, fun D nD => ?_⟩
          refine lc_left (T := T) (l := l) (od := oa) (K := K) (lo := lo) (hi := hi') ha2 k2.tab hkv h1000 (by show 7 < 8; decide) nD (fun m H3 R h => ?_) (fun m H3 R h => ⟨_, rfl, h⟩) (fun H3 k3 e3 => ?_)
          · exact ⟨_, rfl, _, rfl, _, rfl, ⟨m, lo, hi', rfl, _, rfl, h⟩⟩
          · refine .inl (fin D _ (kk.trans (k2.trans k3)) (kk.free (k2.free nD)) ?_)
            rw [hlm]
            exact e3
end
end Pk

set_option Elab.async false
set_option linter.all false
set_option maxRecDepth 100000
set_option maxHeartbeats 4000000
namespace Pk
open PySem PySem.Spec PyProof.Rows L2
section
variable {J : It} {n : Nat} {G : Hp → Prop} {Y : Nat → Hp → V → Hp → Prop}
/-- a dict comprehension with tuple keys over a walk: Pv by the turn and the heap (the new dict at D within) -/
theorem dct_it (w : Walk J n G Y) {g : TG} {tt : TT} {tk tv : TE} {vs : List Nat} {σ : L2.St} {H1 : Hp} {D : Addr} {Qd : Hp → Prop} (Pv : Nat → Hp → Prop) (h0 : Pv 0 (upd H1 D (.dT []))) (hG : ∀ i H, i ≤ n → Pv i H → G H)
    (hs : ∀ i x H H', i < n → Pv i H → Y i H x H' → g x (wipe σ vs) H' fun σ2 H2 => wipe σ2 vs = wipe σ vs ∧ tt σ2 H2 fun b H3 =>
      if b = true then tk σ2 H3 fun y H4 => tv σ2 H4 fun z H5 => ∃ kvs k q, y = V.ref q ∧ H5 q = some (.tup (k.map kV)) ∧ H5 D = some (.dT kvs) ∧ kvs.length < sizeLine ∧ Pv (i + 1) (upd H5 D (.dT (putK kvs k z))) else Pv (i + 1) H3) (hd : ∀ H, Pv n H → Qd H) :
    ∃ W : Nat → Nat → Hp → Prop, (∃ m, W 0 m (upd H1 D (.dT []))) ∧ ∀ i m H, W i m H →
      (J.stop i H ∧ Qd H) ∨ (J.go i H ∧ ∃ Nx : Hp → Prop, (∀ H', Nx H' → ∃ m', m' < m ∧ W (i + 1) m' H') ∧ ∀ x H', J.yld i H x H' → g x (wipe σ vs) H' fun σ2 H2 => wipe σ2 vs = wipe σ vs ∧ tt σ2 H2 fun b H3 =>
        if b = true then tk σ2 H3 fun y H4 => tv σ2 H4 fun z H5 => ∃ kvs k q, y = V.ref q ∧ H5 q = some (.tup (k.map kV)) ∧ H5 D = some (.dT kvs) ∧ kvs.length < sizeLine ∧ Nx (upd H5 D (.dT (putK kvs k z))) else Nx H3) := by
  refine ⟨fun i m H => m = n - i ∧ i ≤ n ∧ Pv i H, ⟨n, by simp, Nat.zero_le _, h0⟩, ?_⟩
  rintro i m H ⟨rfl, hi, p⟩
  have q := hG i H hi p
  by_cases hlt : i < n
  · refine .inr ⟨w.goes i H hlt q, Pv (i + 1), fun H' p' => ⟨n - (i + 1), by omega, rfl, hlt, p'⟩, fun x H' y => hs i x H H' hlt p (w.yields i H x H' hlt q y)⟩
  · have e : i = n := by omega
    subst e
    exact .inl ⟨w.stops H q, hd H p⟩
/-- the same, the keys plain -/
theorem dc_it (w : Walk J n G Y) {g : TG} {tt : TT} {tk tv : TE} {vs : List Nat} {σ : L2.St} {H1 : Hp} {D : Addr} {Qd : Hp → Prop} (Pv : Nat → Hp → Prop) (h0 : Pv 0 (upd H1 D (.dK []))) (hG : ∀ i H, i ≤ n → Pv i H → G H)
    (hs : ∀ i x H H', i < n → Pv i H → Y i H x H' → g x (wipe σ vs) H' fun σ2 H2 => wipe σ2 vs = wipe σ vs ∧ tt σ2 H2 fun b H3 =>
      if b = true then tk σ2 H3 fun y H4 => tv σ2 H4 fun z H5 => ∃ kvs k, y = kV k ∧ H5 D = some (.dK kvs) ∧ kvs.length < sizeLine ∧ Pv (i + 1) (upd H5 D (.dK (putK kvs k z))) else Pv (i + 1) H3) (hd : ∀ H, Pv n H → Qd H) :
    ∃ W : Nat → Nat → Hp → Prop, (∃ m, W 0 m (upd H1 D (.dK []))) ∧ ∀ i m H, W i m H →
      (J.stop i H ∧ Qd H) ∨ (J.go i H ∧ ∃ Nx : Hp → Prop, (∀ H', Nx H' → ∃ m', m' < m ∧ W (i + 1) m' H') ∧ ∀ x H', J.yld i H x H' → g x (wipe σ vs) H' fun σ2 H2 => wipe σ2 vs = wipe σ vs ∧ tt σ2 H2 fun b H3 =>
        if b = true then tk σ2 H3 fun y H4 => tv σ2 H4 fun z H5 => ∃ kvs k, y = kV k ∧ H5 D = some (.dK kvs) ∧ kvs.length < sizeLine ∧ Nx (upd H5 D (.dK (putK kvs k z))) else Nx H3) := by
  refine ⟨fun i m H => m = n - i ∧ i ≤ n ∧ Pv i H, ⟨n, by simp, Nat.zero_le _, h0⟩, ?_⟩
  rintro i m H ⟨rfl, hi, p⟩
  have q := hG i H hi p
  by_cases hlt : i < n
  · refine .inr ⟨w.goes i H hlt q, Pv (i + 1), fun H' p' => ⟨n - (i + 1), by omega, rfl, hlt, p'⟩, fun x H' y => hs i x H H' hlt p (w.yields i H x H' hlt q y)⟩
  · have e : i = n := by omega
    subst e
    exact .inl ⟨w.stops H q, hd H p⟩
end
end Pk

set_option Elab.async false
set_option linter.all false
set_option maxRecDepth 100000
set_option maxHeartbeats 4000000
namespace Pk
open PySem PySem.Spec PyProof.Rows L2
/-! ### a name set to a dict comprehension -/
section
variable {X : Cx}
theorem dcT_core {pins : List (Addr × Obj)} {s : Shared} {σ : L2.St} {H : Hp} {Q : VK} {pos' : Pos} {use : Option (Value → Sem Unit)} {Qf : Value → Shared → Prop} {kx vx tg iter : Expr} {ifs : List Expr} {scope : Scope} {own : List (Str × Nat)} {pos : Pos} {wi : TI} {g : TG} {tt : TT} {tk tv : TE} (hc : X.calm = true) (hu : X.A.units + 1 < cLine) (hN : X.N.Nodup) (I : L2.Inv X pins σ H s) (hi : PI X tg iter wi) (ok : BlkOk X.N X.env.scope scope own)
    (hg : ∀ (s : Shared) (H : Hp) (C : Addr) (cl : List (Str × Addr)) (fp : List Addr), PG (X.blk s H scope (compEnvC scope cl C X.env) fp) tg g)
    (ht : ∀ (s : Shared) (H : Hp) (C : Addr) (cl : List (Str × Addr)) (fp : List Addr), PTs (X.blk s H scope (compEnvC scope cl C X.env) fp) ifs tt)
    (hk : ∀ (s : Shared) (H : Hp) (C : Addr) (cl : List (Str × Addr)) (fp : List Addr), PE (X.blk s H scope (compEnvC scope cl C X.env) fp) kx tk)
    (he : ∀ (s : Shared) (H : Hp) (C : Addr) (cl : List (Str × Addr)) (fp : List Addr), PE (X.blk s H scope (compEnvC scope cl C X.env) fp) vx tv) (hs : ∀ x, foldedSetIterable iter X.env x = pure x)
    (h : tDcT wi g tt tk tv (own.map (·.2)) σ H Q)
    (hRR : ∀ D C s' m H', L2.Inv X pins σ H' s' → Q (.ref D) H' → s'.heap.Ns C m → FpOk X pins H' C → compPost (model X.prog X.w) X.A X.xe use Qf (.ref D) C (.ok .next) s') :
    wpAny (model X.prog X.w) X.A (comprehension (.DictComp kx vx [⟨tg, iter, ifs, 0⟩] scope pos) scope X.env pos' newDict false (eval iter X.env) use) Qf X.xe s := by
  have cells : ∀ y ∈ scope.names, y.2 = .free → ∃ c, X.env.cells.lookup y.1 = some c := fun y hy e => (ok.free y hy e).elim (fun k => I.ok.has _ (.inl k)) fun k => I.ok.has _ (.inr k)
  refine wpAny_comprehension_free (use := use) rfl hs (closure_ok cells) ok.kind (fun y hy e => by rw [ok.uniq y hy, e])
    (thn (hi.run pins s σ H _ I h) fun xv sa hx => thn hx fun itv sb hb => ?_)
  obtain ⟨it, fp, tn, J, Hb, ei, Ib, T, stb, fb, q⟩ := hb
  subst ei
  refine wpAny_newObj_type (newEnv_comp ?_)
  generalize hD : sb.heap.objs.size = D
  obtain ⟨W, ⟨m0, w0⟩, turn⟩ := q D (Ib.hok.fresh (Nat.le_of_eq hD))
  -- the new dict
  have Ic : L2.Inv X pins σ (L2.upd Hb D (.dT [])) { sb with heap := sb.heap.push { cls := .type "dict", data := .dict #[] } } := by
    refine Ib.laid (t' := sb.toks) (fun b o e => Heap.get?_push_of_some _ e) (Nat.le_of_eq hD) ?_
    rw [← hD]
    exact dt_empty sb.heap Ib.big
  generalize hsc : ({ sb with heap := sb.heap.push { cls := .type "dict", data := .dict #[] } } : Shared) = sc at Ic ⊢
  have hh : sc.heap = sb.heap.push { cls := .type "dict", data := .dict #[] } := by rw [← hsc]
  have fc : ∀ b ∈ fp, FpOk X pins (L2.upd Hb D (.dT [])) b ∧ b < sc.heap.objs.size := fun b hb => by
    obtain ⟨o, e, _⟩ := T.obj _ _ stb b hb
    have lt := Heap.lt_size e
    refine ⟨⟨?_, (fb b hb).2⟩, by rw [hh, Heap.size_push]; exact Nat.lt_succ_of_lt lt⟩
    rw [upd_ne (by rw [← hD]; exact Nat.ne_of_lt lt)]
    exact (fb b hb).1
  have stc : tn 0 sc.heap := T.keep _ _ _ stb fun b _ o e => by rw [hh]; exact Heap.get?_push_of_some _ e
  have Id := block_start Ic ok hN fc
  have pg := hg sc (L2.upd Hb D (.dT [])) sc.heap.objs.size (cellsFrom (sc.heap.objs.size + 1) scope.names (cloFrom X.env.cells scope.names [])) fp
  have pt := ht sc (L2.upd Hb D (.dT [])) sc.heap.objs.size (cellsFrom (sc.heap.objs.size + 1) scope.names (cloFrom X.env.cells scope.names [])) fp
  have pk := hk sc (L2.upd Hb D (.dT [])) sc.heap.objs.size (cellsFrom (sc.heap.objs.size + 1) scope.names (cloFrom X.env.cells scope.names [])) fp
  have pv := he sc (L2.upd Hb D (.dT [])) sc.heap.objs.size (cellsFrom (sc.heap.objs.size + 1) scope.names (cloFrom X.env.cells scope.names [])) fp
  have cl : (compEnvC scope (cellsFrom (sc.heap.objs.size + 1) scope.names (cloFrom X.env.cells scope.names [])) sc.heap.objs.size X.env).locals = sc.heap.objs.size := rfl
  have nfp : ∀ b ∈ fp, (L2.upd Hb D (.dT [])) b = none := fun b hb => (fc b hb).1.1
  have std : tn 0 (pushCells (sc.heap.push { cls := .type "dict", data := .dict #[] }) scope.names) := T.keep _ _ _ stc fun b _ o e => pushCells_keeps _ _ _ _ (Heap.get?_push_of_some _ e)
  refine codeAny_compStart_dict ?_ (T.self X.A 0 _ _ _ std ?_)
  all_goals
    refine dcT_loop (sX := sc) (HX := L2.upd Hb D (.dT [])) (fp := fp) (σ := σ) (vs := own.map (·.2)) hc hu T pg pt pk pv turn (fun se He Ie qe => ?_) Id std nfp w0
    have If : L2.Inv X pins σ He se := Ic.call' (ch := fp) Ie.os Ie.base Ie.hok Ie.bare fun b hb => ⟨(fc b hb).1.2.2.2.1, (fc b hb).1.2.1, (fc b hb).1.2.2.2.2.1, (fc b hb).1.2.2.2.2.2⟩
    have nC : He sc.heap.objs.size = none := by rw [← cl]; exact Ie.free
    obtain ⟨m, hn, _⟩ := Ie.loc
    have hn : se.heap.Ns sc.heap.objs.size m := hn
    exact hRR D sc.heap.objs.size se m He If qe hn (Ic.fpOk (Nat.le_refl _) nC)
theorem ps_setDcT {i : Nat} {y : Str} {py : Pos} {kx vx tg iter : Expr} {ifs : List Expr} {scope : Scope} {own : List (Str × Nat)} {pos spos : Pos} {wi : TI} {g : TG} {tt : TT} {tk tv : TE} (hc : X.calm = true) (hu : X.A.units + 1 < cLine) (hN : X.N.Nodup) (hy : X.N[i]? = some y) (hyl : X.env.scope.names.lookup y = some .local)
    (hsw : swapsWith (.DictComp kx vx [⟨tg, iter, ifs, 0⟩] scope pos) (some (.Name y py)) spos.line X.env = pure true) (hi : PI X tg iter wi) (ok : BlkOk X.N X.env.scope scope own)
    (hg : ∀ (s : Shared) (H : Hp) (C : Addr) (cl : List (Str × Addr)) (fp : List Addr), PG (X.blk s H scope (compEnvC scope cl C X.env) fp) tg g)
    (ht : ∀ (s : Shared) (H : Hp) (C : Addr) (cl : List (Str × Addr)) (fp : List Addr), PTs (X.blk s H scope (compEnvC scope cl C X.env) fp) ifs tt)
    (hk : ∀ (s : Shared) (H : Hp) (C : Addr) (cl : List (Str × Addr)) (fp : List Addr), PE (X.blk s H scope (compEnvC scope cl C X.env) fp) kx tk)
    (he : ∀ (s : Shared) (H : Hp) (C : Addr) (cl : List (Str × Addr)) (fp : List Addr), PE (X.blk s H scope (compEnvC scope cl C X.env) fp) vx tv) (hs : ∀ x, foldedSetIterable iter X.env x = pure x := by intro _; rfl) :
    PS X (.Assign [.Name y py] (.DictComp kx vx [⟨tg, iter, ifs, 0⟩] scope pos) spos) (tAsg (tDcT wi g tt tk tv (own.map (·.2))) (gName i)) := by
  refine ⟨fun pins s σ H D I h => ?_⟩
  rw [exec_Assign_Name_used _ _ _ _ hsw]
  refine wpAny_bind (wpAny_standAt (wpAny_bind ?_))
  show wpAny _ X.A (do let _ ← comprehension (.DictComp kx vx [⟨tg, iter, ifs, 0⟩] scope pos) scope X.env (firstIterPos [⟨tg, iter, ifs, 0⟩] pos) newDict false (eval iter X.env) (some (assign (.Name y py) X.env))) _ _ s
  have h : tDcT wi g tt tk tv (own.map (·.2)) σ H (fun x H1 => gName i x σ H1 D.nx) := h
  refine wpAny_bind (thn (dcT_core (Qf := fun _ s' => SP X pins D .next s') hc hu hN I hi ok hg ht hk he hs h fun L C s' m H' I' q hn f => ?_) fun _ s' hq => wpAny_pure (wpAny_pure hq))
  show wpAny _ _ (assign (.Name y py) X.env (.ref L)) _ _ _
  refine wpAny_assign_Name (store_ok2 (v := V.ref L) I' hN hy (.inl hyl) rfl (fun s2 I2 ⟨a, sb, ha⟩ => ?_) (.inr hyl))
  obtain ⟨f0, f1, f2, f3, f4, f5⟩ := f
  have haC : C ≠ a := by
    rcases ha with z | z
    · rw [z]; exact f1
    · exact fun e => f4 y a z e.symm
  refine ⟨m, hn.sameBut sb haC, fun h3 sb3 => ?_⟩
  exact ⟨_, H', I2.turned (t' := s2.toks) (fun b o hb e => (sb3.2 b hb).trans e) f0 f1 f3 f4 f5, q⟩
theorem ps_setDcK {i : Nat} {y : Str} {py : Pos} {kx vx tg iter : Expr} {ifs : List Expr} {scope : Scope} {own : List (Str × Nat)} {pos spos : Pos} {wi : TI} {g : TG} {tt : TT} {tk tv : TE} (hc : X.calm = true) (hN : X.N.Nodup) (hy : X.N[i]? = some y) (hyl : X.env.scope.names.lookup y = some .local)
    (hsw : swapsWith (.DictComp kx vx [⟨tg, iter, ifs, 0⟩] scope pos) (some (.Name y py)) spos.line X.env = pure true) (hi : PI X tg iter wi) (ok : BlkOk X.N X.env.scope scope own)
    (hg : ∀ (s : Shared) (H : Hp) (C : Addr) (cl : List (Str × Addr)) (fp : List Addr), PG (X.blk s H scope (compEnvC scope cl C X.env) fp) tg g)
    (ht : ∀ (s : Shared) (H : Hp) (C : Addr) (cl : List (Str × Addr)) (fp : List Addr), PTs (X.blk s H scope (compEnvC scope cl C X.env) fp) ifs tt)
    (hk : ∀ (s : Shared) (H : Hp) (C : Addr) (cl : List (Str × Addr)) (fp : List Addr), PE (X.blk s H scope (compEnvC scope cl C X.env) fp) kx tk)
    (he : ∀ (s : Shared) (H : Hp) (C : Addr) (cl : List (Str × Addr)) (fp : List Addr), PE (X.blk s H scope (compEnvC scope cl C X.env) fp) vx tv) (hs : ∀ x, foldedSetIterable iter X.env x = pure x := by intro _; rfl) :
    PS X (.Assign [.Name y py] (.DictComp kx vx [⟨tg, iter, ifs, 0⟩] scope pos) spos) (tAsg (tDc wi g tt tk tv (own.map (·.2))) (gName i)) := by
  refine ⟨fun pins s σ H D I h => ?_⟩
  rw [exec_Assign_Name_used _ _ _ _ hsw]
  refine wpAny_bind (wpAny_standAt (wpAny_bind ?_))
  show wpAny _ X.A (do let _ ← comprehension (.DictComp kx vx [⟨tg, iter, ifs, 0⟩] scope pos) scope X.env (firstIterPos [⟨tg, iter, ifs, 0⟩] pos) newDict false (eval iter X.env) (some (assign (.Name y py) X.env))) _ _ s
  have h : tDc wi g tt tk tv (own.map (·.2)) σ H (fun x H1 => gName i x σ H1 D.nx) := h
  refine wpAny_bind (thn (dc_core (Qf := fun _ s' => SP X pins D .next s') hc hN I hi ok hg ht hk he hs h fun L C s' m H' I' q hn f => ?_) fun _ s' hq => wpAny_pure (wpAny_pure hq))
  show wpAny _ _ (assign (.Name y py) X.env (.ref L)) _ _ _
  refine wpAny_assign_Name (store_ok2 (v := V.ref L) I' hN hy (.inl hyl) rfl (fun s2 I2 ⟨a, sb, ha⟩ => ?_) (.inr hyl))
  obtain ⟨f0, f1, f2, f3, f4, f5⟩ := f
  have haC : C ≠ a := by
    rcases ha with z | z
    · rw [z]; exact f1
    · exact fun e => f4 y a z e.symm
  refine ⟨m, hn.sameBut sb haC, fun h3 sb3 => ?_⟩
  exact ⟨_, H', I2.turned (t' := s2.toks) (fun b o hb e => (sb3.2 b hb).trans e) f0 f1 f3 f4 f5, q⟩
theorem sw_trueD {kx vx : Expr} {gs : List Comprehension} {scope : Scope} {pos py : Pos} {y : Str} {l : Nat} {env : Env} (hk : env.scope.kind = .function) (hy : env.scope.names.lookup y = some .local) (hl : (py.line == pos.line) = true)
    (ha : (scope.names.any fun (n, k) => n == y && (k == .local || k == .cell)) = false) : swapsWith (.DictComp kx vx gs scope pos) (some (.Name y py)) l env = pure true := by
  have ky : env.kindOf y = some .local := hy
  have hb : env.blockKind = .function := by unfold Env.blockKind; rw [hk]; rfl
  unfold swapsWith
  simp only [hb, ky, ha, Expr.pos, hl]
  rfl
end
end Pk

set_option Elab.async false
set_option linter.all false
set_option maxRecDepth 100000
set_option maxHeartbeats 4000000
namespace Pk
open PySem PySem.Spec PyProof.Rows L2
/-! ### sources: a dict with tuple keys, of needs -/
abbrev Srcs := List (List Key × N3)
def SrcR (K : PySem.W.Frag) (H : Hp) (p : List Key × V) (q : List Key × N3) : Prop := p.1 = q.1 ∧ NdV K H p.2 q.2
def SrcAt (K : PySem.W.Frag) (H : Hp) (a : Addr) (S : Srcs) : Prop := ∃ kvs, H a = some (.dT kvs) ∧ Paired (SrcR K H) kvs S
def valS (S : Srcs) (k : List Key) : Option N3 := (S.find? fun e => decide (e.1 = k)).map (·.2)
theorem SrcR.kp {K : PySem.W.Frag} {T : Addr} {H H' : Hp} (k : Kp T H H') {p : List Key × V} {q : List Key × N3} (h : SrcR K H p q) : SrcR K H' p q := ⟨h.1, NdV.kp k h.2⟩
theorem NdV.upd {K : PySem.W.Frag} {H : Hp} {D : Addr} {o o' : HO} (e : H D = some o) (n : isSeqO o = false) {v : V} {q : N3} (h : NdV K H v q) : NdV K (upd H D o') v q := NdV.mono (fun b o2 hs hb => by
  rw [upd_ne (fun z => by rw [z, e] at hb; cases hb; rw [n] at hs; cases hs)]
  exact hb) h
theorem SrcR.upd {K : PySem.W.Frag} {H : Hp} {D : Addr} {o o' : HO} (e : H D = some o) (n : isSeqO o = false) {p : List Key × V} {q : List Key × N3} (h : SrcR K H p q) : SrcR K (upd H D o') p q := ⟨h.1, h.2.upd e n⟩
theorem SrcAt.kp {K : PySem.W.Frag} {T : Addr} {H H' : Hp} (k : Kp T H H') {a : Addr} {S : Srcs} (h : SrcAt K H a S) : SrcAt K H' a S := by
  obtain ⟨kvs, e, h⟩ := h
  exact ⟨kvs, k.keep _ _ (tab_ne k.t0 e fun _ z => by cases z) e, paired_mono (fun _ _ z => z.kp k) h⟩
theorem valS_pos {e : List Key × N3} {S : Srcs} {k : List Key} (h : e.1 = k) : valS (e :: S) k = some e.2 := by simp [valS, List.find?_cons, h]
theorem valS_neg {e : List Key × N3} {S : Srcs} {k : List Key} (h : ¬ e.1 = k) : valS (e :: S) k = valS S k := by simp [valS, List.find?_cons, h]
theorem valS_two {K : PySem.W.Frag} {H : Hp} (k : List Key) : ∀ {kvs : List (List Key × V)} {S : Srcs}, Paired (SrcR K H) kvs S → (valS S k = none ∧ valV kvs k = none) ∨ ∃ n v, valS S k = some n ∧ valV kvs k = some v ∧ NdV K H v n
  | _, _, .nil => .inl ⟨rfl, rfl⟩
  | p :: ps, q :: qs, .cons hp ht => by
    by_cases e : q.1 = k
    · exact .inr ⟨_, _, valS_pos e, valV_pos (hp.1.trans e), hp.2⟩
    · rw [valS_neg e, valV_neg (fun z => e (hp.1.symm.trans z))]
      exact valS_two k ht
theorem valS_none {S : Srcs} {k : List Key} : valS S k = none ↔ ∀ e ∈ S, e.1 ≠ k := by
  unfold valS
  rw [Option.map_eq_none_iff, List.find?_eq_none]
  constructor
  · exact fun h e he z => h e he (decide_eq_true z)
  · exact fun h e he z => h e he (of_decide_eq_true z)
theorem valS_mem {S : Srcs} {k : List Key} {n : N3} (h : valS S k = some n) : (k, n) ∈ S := by
  unfold valS at h
  obtain ⟨e, he, rfl⟩ := Option.map_eq_some_iff.mp h
  have z := of_decide_eq_true (List.find?_some (p := fun e : List Key × N3 => decide (e.1 = k)) he)
  rw [← z]
  exact List.mem_of_find?_eq_some he
theorem valS_of {e : List Key × N3} : ∀ {S : Srcs}, (S.map (·.1)).Nodup → e ∈ S → valS S e.1 = some e.2
  | q :: qs, nd, he => by
    rw [List.map_cons, List.nodup_cons] at nd
    rcases List.mem_cons.mp he with rfl | he
    · exact valS_pos rfl
    · rw [valS_neg (fun z => nd.1 (by rw [z]; exact List.mem_map.mpr ⟨e, he, rfl⟩))]
      exact valS_of nd.2 he
theorem src_put {K : PySem.W.Frag} {H : Hp} {kvs : List (List Key × V)} {S : Srcs} {k : List Key} {v : V} {n : N3} (h : Paired (SrcR K H) kvs S) (hk : valS S k = none) (hn : NdV K H v n) : Paired (SrcR K H) (putK kvs k v) (S ++ [(k, n)]) := by
  rcases valS_two k h with ⟨_, z⟩ | ⟨n', v', z, _⟩
  · rw [putK_new _ z]
    exact paired_app2 h (.cons ⟨rfl, hn⟩ .nil)
  · rw [hk] at z
    cases z
theorem take_new {α β : Type} {f : α → β} {S : List α} (nd : (S.map f).Nodup) {i : Nat} {e : α} (he : S[i]? = some e) : ∀ x ∈ S.take i, f x ≠ f e := by
  intro x hx
  have z : (S.take (i + 1)).map f = (S.take i).map f ++ [f e] := by
    rw [List.take_add_one, he, List.map_append]
    rfl
  have z2 : ((S.take (i + 1)).map f).Nodup := (List.Sublist.map _ (List.take_sublist _ _)).nodup nd
  rw [z] at z2
  exact (List.pairwise_append.mp z2).2.2 _ (List.mem_map.mpr ⟨x, hx, rfl⟩) _ (List.mem_singleton.mpr rfl)
theorem take_succ_get {α : Type} {S : List α} {i : Nat} {e : α} (he : S[i]? = some e) : S.take (i + 1) = S.take i ++ [e] := by
  rw [List.take_add_one, he]
  rfl
theorem src_keys {K : PySem.W.Frag} {H : Hp} : ∀ {kvs : List (List Key × V)} {S : Srcs}, Paired (SrcR K H) kvs S → kvs.map (·.1) = S.map (·.1)
  | _, _, .nil => rfl
  | p :: ps, q :: qs, .cons hp ht => by
    rw [List.map_cons, List.map_cons, hp.1, src_keys ht]
theorem valV_of {κ : Type} [DecidableEq κ] {k : κ} {v : V} : ∀ {kvs : List (κ × V)}, (kvs.map (·.1)).Nodup → (k, v) ∈ kvs → valV kvs k = some v
  | q :: qs, nd, he => by
    rw [List.map_cons, List.nodup_cons] at nd
    rcases List.mem_cons.mp he with rfl | he
    · exact valV_pos rfl
    · rw [valV_neg (fun z => nd.1 (by rw [z]; exact List.mem_map.mpr ⟨_, he, rfl⟩))]
      exact valV_of nd.2 he
def wishK (i : Nat) : List Key := [.inr "wish", .inl (i : Nat)]
def wishS (ns : List N3) : Srcs := ns.zipIdx.map fun p => (wishK p.2, p.1)
def pickK (w : Str) (m : Int) : List Key := [.inr "pick", .inr w, .inl m]
def needK (w : Str) (m : Int) (i : Nat) : List Key := [.inr "need", .inr w, .inl m, .inl (i : Nat)]
def needS (w : Str) (m : Int) (ns : List N3) : Srcs := ns.zipIdx.map fun p => (needK w m p.2, p.1)
theorem zip_app {α : Type} {xs : List α} {x : α} : (xs ++ [x]).zipIdx = xs.zipIdx ++ [(x, xs.length)] := by
  rw [List.zipIdx_append]
  simp
theorem wish_app {ns : List N3} {n : N3} : wishS (ns ++ [n]) = wishS ns ++ [(wishK ns.length, n)] := by
  unfold wishS
  rw [zip_app, List.map_append]
  rfl
theorem need_app {w : Str} {m : Int} {ns : List N3} {n : N3} : needS w m (ns ++ [n]) = needS w m ns ++ [(needK w m ns.length, n)] := by
  unfold needS
  rw [zip_app, List.map_append]
  rfl
theorem zip_lt {α : Type} {xs : List α} {p : α × Nat} (h : p ∈ xs.zipIdx) : p.2 < xs.length ∧ p.1 ∈ xs := by
  have z := List.mem_zipIdx' h
  exact ⟨z.1, by rw [z.2]; exact List.getElem_mem _⟩
theorem wish_new {ns : List N3} : ∀ e ∈ wishS ns, e.1 ≠ wishK ns.length := by
  intro e he
  obtain ⟨p, hp, rfl⟩ := List.mem_map.mp he
  intro z
  have z2 : (p.2 : Int) = (ns.length : Int) := by
    have z3 := congrArg (fun l : List Key => l[1]?) z
    exact Sum.inl.inj (Option.some.inj z3)
  have := (zip_lt hp).1
  omega
theorem need_new {w : Str} {m : Int} {ns : List N3} : ∀ e ∈ needS w m ns, e.1 ≠ needK w m ns.length := by
  intro e he
  obtain ⟨p, hp, rfl⟩ := List.mem_map.mp he
  intro z
  have z2 : (p.2 : Int) = (ns.length : Int) := by
    have z3 := congrArg (fun l : List Key => l[3]?) z
    exact Sum.inl.inj (Option.some.inj z3)
  have := (zip_lt hp).1
  omega
theorem beq_dec {α : Type} [DecidableEq α] (a b : α) : (a == b) = decide (a = b) := by
  by_cases h : a = b
  · subst h; simp
  · simp [h]
theorem shaped_str {x : Str} (h : GoodN x) : SeqAt.shaped (.str x) = true := (shaped_flat (ds := []) fun _ h => nomatch h) |> fun _ => by
  show (PyData.strOk x && decide (PyData.depth (.str x) ≤ 64)) = true
  rw [okS_ok h.2]
  rfl
def spWished (K : PySem.W.Frag) (T : Addr) : Sp := fun vs H Q _ => ∃ (q : Addr) (us : List V) (ns : List N3), vs = [.ref q] ∧ SqL K H q us ∧ Paired (NdV K H) us ns ∧ ns.length ≤ 1000 ∧ GxR.TabG H T ∧
  ∀ p H', Kp T H H' → H p = none → SrcAt K H' p (wishS ns) → Q (.ref p) H'
/-- the needs of a make on the shelves -/
def NeedsG (K : PySem.W.Frag) (H : Hp) (r : Addr) (x : Str) (m : Int) (ns : List N3) : Prop := ∃ (d l : Addr) (us : List V), DGet H r (.str x) (some (.ref d)) ∧ DGet H d (.int m) (some (.ref l)) ∧ SqL K H l us ∧ Paired (NdV K H) us ns
theorem NeedsG.kp {K : PySem.W.Frag} {T : Addr} {H H' : Hp} (k : Kp T H H') {r : Addr} {x : Str} {m : Int} {ns : List N3} (h : NeedsG K H r x m ns) : NeedsG K H' r x m ns := by
  obtain ⟨d, l, us, h1, h2, h3, h4⟩ := h
  exact ⟨d, l, us, k.dget h1, k.dget h2, k.seq h3, paired_mono (fun _ _ z => z.kp k) h4⟩
def grantS (S : Srcs) (x : Str) (m : Int) (ns : List N3) : Srcs := S ++ [(pickK x m, (x, m, m))] ++ needS x m ns
def spGrant (K : PySem.W.Frag) (T : Addr) : Sp := fun vs H Q _ => ∃ (a r : Addr) (x : Str) (m : Int) (S : Srcs) (ns : List N3), vs = [.ref a, .ref r, .str x, .int m] ∧ SrcAt K H a S ∧ NeedsG K H r x m ns ∧ (S.map (·.1)).Nodup ∧ (∀ e ∈ S, e.1 ≠ pickK x m ∧ ∀ i, e.1 ≠ needK x m i) ∧ S.length + ns.length ≤ 4000 ∧ GxR.TabG H T ∧
  ∀ p H', Kp T H H' → H p = none → SrcAt K H' p (grantS S x m ns) → Q (.ref p) H'
def askS (S : Srcs) (x : Str) : Srcs := S.filter fun e => decide (e.2.1 = x)
def spAsked (K : PySem.W.Frag) (T : Addr) : Sp := fun vs H Q _ => ∃ (a : Addr) (x : Str) (S : Srcs), vs = [.ref a, .str x] ∧ SrcAt K H a S ∧ (S.map (·.1)).Nodup ∧ (∀ e ∈ S, GoodN e.2.1) ∧ GoodN x ∧ S.length ≤ 4000 ∧ GxR.TabG H T ∧
  ∀ p H', Kp T H H' → H p = none → SrcAt K H' p (askS S x) → Q (.ref p) H'
section
variable {P : Program} {w : World} {K : PySem.W.Frag} {mg : Str → Option Value} {base : Heap}
def wishedN : List Str := ["wish", "place", "need"]
theorem scWished : FnScope wishedN ["wish"] (defScope sWished) := ⟨rfl, rfl, rfl, by decide +kernel, rfl, by decide +kernel, by decide +kernel⟩
theorem ok_wished {f T : Addr} {fd : FuncData} (F : Fun K "wished" "wished" sWished f fd) (y_enumerate : mg "enumerate" = none) : FnOk P w K mg base CX0 1 f fd ["wish"] (spWished K T) := by
  refine F.ok scWished (fun vs H Q E h => ?_) (fun cdv A0 outer s H vs Q E hr h => ?_)
  · obtain ⟨q, us, ns, rfl, _⟩ := h
    rfl
  · obtain ⟨q, us, ns, rfl, hq, hns, h1000, ht, fin⟩ := h
    have hu := hu_of hr
    refine ⟨_, (pss_one (ps_ret (pe_dcT (own := [("place", 1), ("need", 2)]) (g := (gTup K 2 (gCons (gName 1) (gCons (gName 2) gNil)))) (tt := tYes) rfl hu scWished.nd (pi_enum (by rfl) y_enumerate (pa_cons (pv 0) pa_nil)) (blkOk_by (own := [("place", 1), ("need", 2)]) (N := wishedN) (sc := defScope sWished) (by decide +kernel)) (fun _ _ _ _ _ => (pg_tup (by rfl) (pgs_cons (pg_name (i := 1) scWished.nd rfl (by first | exact Or.inl rfl | exact Or.inr rfl)) (pgs_cons (pg_name (i := 2) scWished.nd rfl (by first | exact Or.inl rfl | exact Or.inr rfl)) pgs_nil)))) (fun _ _ _ _ _ => pts_nil) (fun _ _ _ _ _ => (pe_tup (pa_cons pe_str (pa_cons (pv 1) pa_nil)))) (fun _ _ _ _ _ => (pv 2))))), ?_⟩
    have lus := paired_len hns
    refine ⟨_, rfl, q, us, rfl, hq, fun D nD => ?_⟩
    have DT := tab_nn ht nD
    refine dct_it walk_enum (fun i H' => Kp T H H' ∧ SrcAt K H' D (wishS (ns.take i))) ⟨Kp.new ht nD, [], upd_same, .nil⟩ (fun i H' _ p => p.1.seq hq) (fun i x H1 H2 hi p y => ?_) (fun H' p => ?_)
    · obtain ⟨kk, kvs, eD, hk⟩ := p
      obtain ⟨t, a, b, rfl, nt, rfl, ea, eb⟩ := y
      have hil : i < ns.length := by omega
      have ei := List.getElem?_eq_getElem hil
      obtain ⟨v', ev', hb⟩ := paired_get hns ei
      have eb' : us[i]? = some b := eb
      rw [eb'] at ev'
      cases ev'
      cases ea
      have k1 := Kp.new (o := HO.tup [.int (i : Nat), b]) kk.tab nt
      have et : upd H1 t (.tup [V.int (i : Nat), b]) t = some (.tup [.int (i : Nat), b]) := upd_same
      have kk1 := kk.trans k1
      have eD1 := k1.keep _ _ DT eD
      have hk1 := paired_mono (fun _ _ z => SrcR.kp k1 z) hk
      generalize upd H1 t (.tup [V.int (i : Nat), b]) = H2 at k1 et kk1 eD1 hk1 ⊢
      refine ⟨t, _, rfl, .inl (.inl et), rfl, _, _, rfl, _, _, rfl, rfl, rfl, ?_⟩
      refine ⟨_, rfl, (by show (2 : Nat) ≤ sizeLine; decide), fun t2 nt2 => ?_⟩
      have k2 := Kp.new (o := HO.tup [.str "wish", .int (i : Nat)]) kk1.tab nt2
      have et2 : upd H2 t2 (.tup [V.str "wish", .int (i : Nat)]) t2 = some (.tup [.str "wish", .int (i : Nat)]) := upd_same
      have kk2 := kk1.trans k2
      have eD2 := k2.keep _ _ DT eD1
      have hk2 := paired_mono (fun _ _ z => SrcR.kp k2 z) hk1
      refine ⟨_, rfl, kvs, wishK i, t2, rfl, et2, eD2, ?_, kk2.set nD DT, ?_⟩
      · have z := paired_len hk
        unfold wishS at z
        rw [List.length_map, List.length_zipIdx, List.length_take] at z
        exact small1000 (by omega)
      · refine ⟨_, upd_same, ?_⟩
        rw [take_succ_get ei, wish_app, List.length_take, Nat.min_eq_left (Nat.le_of_lt hil)]
        have z2 : ∀ e ∈ wishS (ns.take i), e.1 ≠ wishK i := by
          have z3 := wish_new (ns := ns.take i)
          rw [List.length_take, Nat.min_eq_left (Nat.le_of_lt hil)] at z3
          exact z3
        exact paired_mono (fun _ _ z => SrcR.upd eD2 rfl z) (src_put hk2 (valS_none.mpr z2) (NdV.kp kk2 hb))
    · obtain ⟨kk, hS⟩ := p
      rw [lus, List.take_length] at hS
      exact fin D H' kk nD hS
def grantingN : List Str := ["sources", "shelves", "ware", "make", "grown", "place", "need", "source"]
theorem scGranting : FnScope grantingN ["sources", "shelves", "ware", "make"] (defScope sGranting) := ⟨rfl, rfl, rfl, by decide +kernel, rfl, by decide +kernel, by decide +kernel⟩
theorem ok_granting  {f T : Addr} {fd : FuncData} (F : Fun K "granting" "granting" sGranting f fd) (y_enumerate : mg "enumerate" = none) : FnOk P w K mg base CX0 1 f fd ["sources", "shelves", "ware", "make"] (spGrant K T) := by
  refine F.ok scGranting (fun vs H Q E h => ?_) (fun cdv A0 outer s H vs Q E hr h => ?_)
  · obtain ⟨a, r, x, m, S, ns, rfl, _⟩ := h
    rfl
  · obtain ⟨a, r, x, m, S, ns, rfl, ⟨kvs, ea, hS⟩, hN, nd, fresh, h4000, ht, fin⟩ := h
    have hu := hu_of hr
    refine ⟨_, (pss_cons (ps_lock (ps_setDcT (i := 4) (own := [("source", 7)]) (g := (gName 7)) (tt := tYes) rfl hu scGranting.nd rfl rfl (sw_trueD rfl rfl rfl (by decide +kernel)) (pi_keys (pv 0)) (blkOk_by (own := [("source", 7)]) (N := grantingN) (sc := defScope sGranting) (by decide +kernel)) (fun _ _ _ _ _ => (pg_name (i := 7) scGranting.nd rfl (by first | exact Or.inl rfl | exact Or.inr rfl))) (fun _ _ _ _ _ => pts_nil) (fun _ _ _ _ _ => (pv 7)) (fun _ _ _ _ _ => (pe_dget hu (pv 0) (pv 7) (fun _ _ => rfl)))))
      (pss_cons (ps_dput hu (pv 4) (pe_tup (pa_cons pe_str (pa_cons (pv 2) (pa_cons (pv 3) pa_nil)))) (pe_tup (pa_cons (pv 2) (pa_cons (pv 3) (pa_cons (pv 3) pa_nil)))) rfl)
      (pss_cons (ps_for PassesOwn.never rfl (pi_enum (by rfl) y_enumerate (pa_cons (pe_dget hu (pe_dget hu (pv 1) (pv 2) (fun _ _ => rfl)) (pv 3) (fun _ _ => rfl)) pa_nil)) (pg_tup (by rfl) (pgs_cons (pg_name (i := 5) scGranting.nd rfl (by first | exact .inl rfl | exact .inr rfl)) (pgs_cons (pg_name (i := 6) scGranting.nd rfl (by first | exact .inl rfl | exact .inr rfl)) pgs_nil))) (pss_one (ps_dput hu (pv 4) (pe_tup (pa_cons pe_str (pa_cons (pv 2) (pa_cons (pv 3) (pa_cons (pv 5) pa_nil))))) (pv 6) rfl)))
      (pss_one (ps_ret (pv 4)))))), ?_⟩
    have lS := paired_len hS
    have aT := tab_ne ht ea fun _ z => by cases z
    refine ⟨a, _, ea, True.intro, fun od => ?_⟩
    have tL := tab_upd (o := .frz od (.dT kvs)) ht aT
    have eqL : ∀ b, b ≠ a → upd H a (.frz od (.dT kvs)) b = H b := fun b hb => upd_ne hb
    have eL : upd H a (.frz od (.dT kvs)) a = some (.frz od (.dT kvs)) := upd_same
    have hSL : Paired (SrcR K (upd H a (.frz od (.dT kvs)))) kvs S := paired_mono (fun _ _ z => SrcR.upd ea rfl z) hS
    generalize upd H a (.frz od (.dT kvs)) = HL at tL eqL eL hSL ⊢
    refine ⟨_, rfl, a, od, rfl, .inr ⟨kvs, eL, fun D nD => ?_⟩⟩
    have DT := tab_nn tL nD
    have Da : D ≠ a := fun z => by rw [z, eL] at nD; cases nD
    have nD0 : H D = none := by rw [← eqL D Da]; exact nD
    refine dct_it walk_keysT (fun i H' => Kp T HL H' ∧ SrcAt K H' D (S.take i)) ⟨Kp.new tL nD, [], upd_same, .nil⟩ (fun i H' _ p => p.1.keep _ _ aT eL) (fun i v H1 H2 hi p y => ?_) (fun H' p => ?_)
    · obtain ⟨kk, kvs2, eD, hk⟩ := p
      obtain ⟨rfl, k, v, q, hkv, rfl, hq⟩ := y
      have hil : i < S.length := by omega
      have ei := List.getElem?_eq_getElem hil
      obtain ⟨v', ev', e1, hb⟩ := paired_get hSL ei
      rw [hkv] at ev'
      cases ev'
      have nn := take_new nd ei
      have et := take_succ_get ei
      have em : S[i] ∈ S := List.getElem_mem hil
      generalize S[i] = e at e1 hb nn et ei em
      dsimp only at e1 hb
      subst e1
      have eLa := kk.keep _ _ aT eL
      have hl2 : kvs2.length < sizeLine := by
        have z := paired_len hk
        rw [List.length_take] at z
        exact small5000 (by omega)
      have kv := valV_of (by rw [src_keys hSL]; exact nd) (List.mem_of_getElem? hkv)
      refine ⟨rfl, ?_⟩
      refine ⟨_, rfl, _, rfl, _, rfl, a, v, rfl, .inr ⟨kvs, e.1, q, .inr ⟨od, eLa⟩, rfl, hq, kv.symm⟩, kvs2, e.1, q, rfl, hq, eD, hl2, kk.set nD DT, _, upd_same, ?_⟩
      rw [et]
      exact paired_mono (fun _ _ z => SrcR.upd eD rfl z) (src_put (n := e.2) hk (valS_none.mpr nn) (NdV.kp kk hb))
    · obtain ⟨kk, kvs2, eD, hk⟩ := p
      rw [lS, List.take_length] at hk
      have eLa := kk.keep _ _ aT eL
      refine ⟨eLa, ?_⟩
      have k0 : Kp T H (upd H' a (.dT kvs)) := ⟨ht, tab_upd kk.tab aT, fun b o hb e => by
        by_cases hba : b = a
        · rw [hba, upd_same, ← ea, ← hba]
          exact e
        · rw [upd_ne hba]
          exact kk.keep b o hb (by rw [eqL b hba]; exact e)⟩
      have eD0 : upd H' a (.dT kvs) D = some (.dT kvs2) := by rw [upd_ne Da]; exact eD
      have hk0 : Paired (SrcR K (upd H' a (.dT kvs))) kvs2 S := paired_mono (fun _ _ z => SrcR.upd eLa rfl z) hk
      generalize upd H' a (.dT kvs) = H1 at k0 eD0 hk0 ⊢
      clear eLa kk eD hk
      have fp : ∀ e ∈ S, e.1 ≠ pickK x m := fun e he => (fresh e he).1
      -- the pick
      refine ⟨_, rfl, _, rfl, _, rfl, (by show (3 : Nat) ≤ sizeLine; decide), fun t1 nt1 => ?_⟩
      have k1 := Kp.new (o := HO.tup [.str x, .int m, .int m]) k0.tab nt1
      have et1 : upd H1 t1 (.tup [V.str x, .int m, .int m]) t1 = some (.tup [.str x, .int m, .int m]) := upd_same
      have kk1 := k0.trans k1
      have eD1 := k1.keep _ _ DT eD0
      have hk1 := paired_mono (fun _ _ z => SrcR.kp k1 z) hk0
      generalize upd H1 t1 (.tup [V.str x, .int m, .int m]) = H2 at k1 et1 kk1 eD1 hk1 ⊢
      refine ⟨_, rfl, _, rfl, _, rfl, (by show (3 : Nat) ≤ sizeLine; decide), fun t2 nt2 => ?_⟩
      have k2 := Kp.new (o := HO.tup [.str "pick", .str x, .int m]) kk1.tab nt2
      have et2 : upd H2 t2 (.tup [V.str "pick", .str x, .int m]) t2 = some (.tup [.str "pick", .str x, .int m]) := upd_same
      have kk2 := kk1.trans k2
      have eD2 := k2.keep _ _ DT eD1
      have hk2 := paired_mono (fun _ _ z => SrcR.kp k2 z) hk1
      have et12 := k2.sqt (a := t1) (K := K) (.inl (.inl et1))
      generalize upd H2 t2 (.tup [V.str "pick", .str x, .int m]) = H3 at k2 et2 kk2 eD2 hk2 et12 ⊢
      have l2 := paired_len hk2
      refine ⟨D, _, rfl, DPut.t (k := pickK x m) eD2 et2 (small5000 (by omega)), ?_⟩
      have kk3 : Kp T H (upd H3 D (.dT (putK kvs2 (pickK x m) (.ref t1)))) := kk2.set nD0 DT
      have hk3 := paired_mono (fun _ _ z => SrcR.upd (o' := .dT (putK kvs2 (pickK x m) (.ref t1))) eD2 rfl z) (src_put (k := pickK x m) (v := .ref t1) (n := (x, m, m)) hk2 (valS_none.mpr fp) ⟨t1, rfl, et12⟩)
      have eD3 : upd H3 D (.dT (putK kvs2 (pickK x m) (.ref t1))) D = some (.dT (putK kvs2 (pickK x m) (.ref t1))) := upd_same
      generalize upd H3 D (.dT (putK kvs2 (pickK x m) (.ref t1))) = H4 at kk3 hk3 eD3 ⊢
      obtain ⟨d, l, us, g1, g2, hl, hns⟩ := hN.kp kk3
      have lus := paired_len hns
      refine ⟨_, rfl, _, rfl, r, _, rfl, g1, _, rfl, d, _, rfl, g2, l, us, rfl, hl, for_it walk_enum (fun i σ' H' => ∃ x5 x6 : Option V, σ' = [some (.ref a), some (.ref r), some (.str x), some (.int m), some (.ref D), x5, x6, none] ∧ Kp T H H' ∧ Paired (NdV K H') us ns ∧ SqL K H' l us ∧ SrcAt K H' D (S ++ [(pickK x m, (x, m, m))] ++ needS x m (ns.take i)))
        ⟨none, none, rfl, kk3, hns, hl, _, eD3, (by rw [List.take_zero]; show Paired _ _ (S ++ [(pickK x m, (x, m, m))] ++ []); rw [List.append_nil]; exact hk3)⟩ (fun i σ' H' _ ⟨_, _, _, _, _, h, _⟩ => h) ?_ ?_⟩
      · rintro i v σ' H5 H6 hi ⟨x5, x6, rfl, kk5, hns5, hl5, kvs5, eD5, hk5⟩ ⟨t, va, vb, rfl, nt, rfl, eva, evb⟩
        have hil : i < ns.length := by omega
        have ei := List.getElem?_eq_getElem hil
        obtain ⟨v', ev', hb⟩ := paired_get hns5 ei
        have evb' : us[i]? = some vb := evb
        rw [evb'] at ev'
        cases ev'
        cases eva
        have k6 := Kp.new (o := HO.tup [.int (i : Nat), vb]) kk5.tab nt
        have et : upd H5 t (.tup [V.int (i : Nat), vb]) t = some (.tup [.int (i : Nat), vb]) := upd_same
        have kk6 := kk5.trans k6
        have eD6 := k6.keep _ _ DT eD5
        have hk6 := paired_mono (fun _ _ z => SrcR.kp k6 z) hk5
        have hns6 := paired_mono (fun _ _ z => NdV.kp k6 z) hns5
        have hl6 := k6.seq hl5
        have hb6 := NdV.kp k6 hb
        generalize upd H5 t (.tup [V.int (i : Nat), vb]) = H6 at k6 et kk6 eD6 hk6 hns6 hl6 hb6 ⊢
        refine ⟨t, _, rfl, .inl (.inl et), rfl, _, _, rfl, _, _, rfl, rfl, ?_⟩
        refine ⟨_, rfl, _, rfl, _, rfl, _, rfl, _, rfl, (by show (4 : Nat) ≤ sizeLine; decide), fun t3 nt3 => ?_⟩
        have k7 := Kp.new (o := HO.tup [.str "need", .str x, .int m, .int (i : Nat)]) kk6.tab nt3
        have et7 : upd H6 t3 (.tup [V.str "need", .str x, .int m, .int (i : Nat)]) t3 = some (.tup [.str "need", .str x, .int m, .int (i : Nat)]) := upd_same
        have kk7 := kk6.trans k7
        have eD7 := k7.keep _ _ DT eD6
        have hk7 := paired_mono (fun _ _ z => SrcR.kp k7 z) hk6
        have hns7 := paired_mono (fun _ _ z => NdV.kp k7 z) hns6
        have hl7 := k7.seq hl6
        have hb7 := NdV.kp k7 hb6
        generalize upd H6 t3 (.tup [V.str "need", .str x, .int m, .int (i : Nat)]) = H7 at k7 et7 kk7 eD7 hk7 hns7 hl7 hb7 ⊢
        have l7 := paired_len hk7
        have ln : (needS x m (ns.take i)).length = i := by unfold needS; rw [List.length_map, List.length_zipIdx, List.length_take]; omega
        have l8 : kvs5.length ≤ 5000 := by
          rw [List.length_append, List.length_append, List.length_singleton, ln] at l7
          omega
        refine ⟨D, _, rfl, DPut.t (k := needK x m i) eD7 et7 (small5000 (by omega)), ?_⟩
        refine ⟨_, _, rfl, kk7.set nD0 DT, paired_mono (fun _ _ z => NdV.upd eD7 rfl z) hns7, ?_, _, upd_same, ?_⟩
        · exact seq_mono (fun b o hs hb => by rw [upd_ne (fun z => by rw [z, eD7] at hb; cases hb; cases hs)]; exact hb) hl7
        · rw [take_succ_get ei, need_app, List.length_take, Nat.min_eq_left (Nat.le_of_lt hil), ← List.append_assoc]
          refine paired_mono (fun _ _ z => SrcR.upd eD7 rfl z) (src_put hk7 (valS_none.mpr fun e he => ?_) hb7)
          rcases List.mem_append.mp he with he | he
          · rcases List.mem_append.mp he with he | he
            · exact (fresh e he).2 i
            · rw [List.mem_singleton.mp he]
              intro z
              have z3 := congrArg List.length z
              cases z3
          · have z3 := need_new (w := x) (m := m) (ns := ns.take i) e he
            rw [List.length_take, Nat.min_eq_left (Nat.le_of_lt hil)] at z3
            exact z3
      · rintro σ' H5 ⟨x5, x6, rfl, kk5, hns5, hl5, hS5⟩
        rw [lus, List.take_length] at hS5
        exact ⟨_, rfl, fin D H5 kk5 nD0 hS5⟩
def askedOfN : List Str := ["sources", "ware", "source", "need"]
theorem scAskedOf : FnScope askedOfN ["sources", "ware"] (defScope sAskedOf) := ⟨rfl, rfl, rfl, by decide +kernel, rfl, by decide +kernel, by decide +kernel⟩
theorem ok_asked {f T : Addr} {fd : FuncData} (F : Fun K "_asked_of" "_asked_of" sAskedOf f fd) : FnOk P w K mg base CX0 1 f fd ["sources", "ware"] (spAsked K T) := by
  refine F.ok scAskedOf (fun vs H Q E h => ?_) (fun cdv A0 outer s H vs Q E hr h => ?_)
  · obtain ⟨a, x, S, rfl, _⟩ := h
    rfl
  · obtain ⟨a, x, S, rfl, ⟨kvs, ea, hS⟩, nd, gS, gx, h4000, ht, fin⟩ := h
    have hu := hu_of hr
    refine ⟨_, (pss_one (ps_ret (pe_lock (pe_dcT (own := [("source", 2), ("need", 3)]) (g := (gTup K 2 (gCons (gName 2) (gCons (gName 3) gNil)))) rfl hu scAskedOf.nd (pi_itemsT (pv 0)) (blkOk_by (own := [("source", 2), ("need", 3)]) (N := askedOfN) (sc := defScope sAskedOf) (by decide +kernel)) (fun _ _ _ _ _ => (pg_tup (by rfl) (pgs_cons (pg_name (i := 2) scAskedOf.nd rfl (by first | exact Or.inl rfl | exact Or.inr rfl)) (pgs_cons (pg_name (i := 3) scAskedOf.nd rfl (by first | exact Or.inl rfl | exact Or.inr rfl)) pgs_nil)))) (fun _ _ _ _ _ => pts_one (pt_cmpR (r := rEqD K) (op_eqD hr.units) (pe_ix (r := rIxT K) ix_tup (pv 3) pe_int (fun _ _ => rfl)) (pv 1) (nomark _))) (fun _ _ _ _ _ => (pv 2)) (fun _ _ _ _ _ => (pv 3)))))), ?_⟩
    have lS := paired_len hS
    have aT := tab_ne ht ea fun _ z => by cases z
    refine ⟨a, _, ea, True.intro, fun od => ?_⟩
    have tL := tab_upd (o := .frz od (.dT kvs)) ht aT
    have eqL : ∀ b, b ≠ a → upd H a (.frz od (.dT kvs)) b = H b := fun b hb => upd_ne hb
    have eL : upd H a (.frz od (.dT kvs)) a = some (.frz od (.dT kvs)) := upd_same
    have hSL : Paired (SrcR K (upd H a (.frz od (.dT kvs)))) kvs S := paired_mono (fun _ _ z => SrcR.upd ea rfl z) hS
    generalize upd H a (.frz od (.dT kvs)) = HL at tL eqL eL hSL ⊢
    refine ⟨_, rfl, a, od, kvs, rfl, eL, fun D nD => ?_⟩
    have DT := tab_nn tL nD
    have Da : D ≠ a := fun z => by rw [z, eL] at nD; cases nD
    refine dct_it walk_itemsT (fun i H' => Kp T HL H' ∧ SrcAt K H' D (askS (S.take i) x)) ⟨Kp.new tL nD, [], upd_same, .nil⟩ (fun i H' _ p => p.1.keep _ _ aT eL) (fun i v H1 H2 hi p y => ?_) (fun H' p => ?_)
    · obtain ⟨kk, kvs2, eD, hk⟩ := p
      obtain ⟨t, k, v, q, hkv, rfl, nt, hq, rfl⟩ := y
      have hil : i < S.length := by omega
      have ei := List.getElem?_eq_getElem hil
      obtain ⟨v', ev', e1, hb⟩ := paired_get hSL ei
      rw [hkv] at ev'
      cases ev'
      have nn := take_new nd ei
      have et := take_succ_get ei
      have em : S[i] ∈ S := List.getElem_mem hil
      generalize S[i] = e at e1 hb nn et ei em
      dsimp only at e1 hb
      subst e1
      have k1 := Kp.new (o := HO.tup [.ref q, v]) kk.tab nt
      have ett : upd H1 t (.tup [V.ref q, v]) t = some (.tup [.ref q, v]) := upd_same
      have kk1 := kk.trans k1
      have eD1 := k1.keep _ _ DT eD
      have hk1 := paired_mono (fun _ _ z => SrcR.kp k1 z) hk
      have hq1 := k1.keep _ _ (tab_ne kk.tab hq fun _ z => by cases z) hq
      have hb1 := NdV.kp kk1 hb
      generalize upd H1 t (.tup [V.ref q, v]) = H2 at k1 ett kk1 eD1 hk1 hq1 hb1 ⊢
      refine ⟨t, _, rfl, .inl (.inl ett), rfl, _, _, rfl, _, _, rfl, rfl, rfl, ?_⟩
      obtain ⟨b, rfl, hbt⟩ := hb1
      have j0 : atI [V.str e.2.1, .int e.2.2.1, .int e.2.2.2] 0 = some (.str e.2.1) := at_gen (j := 0) rfl rfl
      refine ⟨_, rfl, b, _, 0, _, rfl, rfl, hbt, j0, _, rfl, .str e.2.1, .str x, .str _, .str _, shaped_str (gS e em), shaped_str gx, _, rfl, ?_⟩
      have eqv : PyData.eqv (.str e.2.1) (.str x) = decide (e.2.1 = x) := (show PyData.eqv (.str e.2.1) (.str x) = (e.2.1 == x) from rfl).trans (beq_dec _ _)
      rw [eqv]
      have hl2 : kvs2.length < sizeLine := by
        have z := paired_len hk
        have z2 := List.length_filter_le (fun e : List Key × N3 => decide (e.2.1 = x)) (S.take i)
        unfold askS at z
        rw [List.length_take] at z2
        exact small5000 (by omega)
      refine iteD (fun c => ?_) (fun c => ?_)
      · refine ⟨_, rfl, _, rfl, kvs2, e.1, q, rfl, hq1, eD1, hl2, kk1.set nD DT, _, upd_same, ?_⟩
        have ef : askS (S.take (i + 1)) x = askS (S.take i) x ++ [(e.1, e.2)] := by
          unfold askS
          rw [et, List.filter_append, List.filter_cons, if_pos (decide_eq_true c)]
          rfl
        rw [ef]
        exact paired_mono (fun _ _ z => SrcR.upd eD1 rfl z) (src_put hk1 (valS_none.mpr fun z hz => nn z (List.mem_filter.mp hz).1) ⟨b, rfl, hbt⟩)
      · refine ⟨kk1, ?_⟩
        have ef : askS (S.take (i + 1)) x = askS (S.take i) x := by
          unfold askS
          rw [et, List.filter_append, List.filter_cons, if_neg (by rw [decide_eq_false c]; decide), List.filter_nil, List.append_nil]
        rw [ef]
        exact ⟨_, eD1, hk1⟩
    · obtain ⟨kk, kvs2, eD, hk⟩ := p
      rw [lS, List.take_length] at hk
      have eLa := kk.keep _ _ aT eL
      refine ⟨eLa, fin D _ ⟨ht, tab_upd kk.tab aT, fun b o hb e => ?_⟩ (by rw [← eqL D Da]; exact nD) ⟨_, (by rw [upd_ne Da]; exact eD), ?_⟩⟩
      · by_cases hba : b = a
        · rw [hba, upd_same, ← ea, ← hba]
          exact e
        · rw [upd_ne hba]
          exact kk.keep b o hb (by rw [eqL b hba]; exact e)
      · exact paired_mono (fun _ _ z => SrcR.upd eLa rfl z) hk
end
end Pk

set_option Elab.async false
set_option linter.all false
set_option maxRecDepth 100000
set_option maxHeartbeats 4000000
namespace Pk
open PySem PySem.Spec PyProof.Rows L2
theorem dk_kp {T a : Addr} {H H' : Hp} {kvs : List (Key × V)} (k : Kp T H H') (h : H a = some (.dK kvs)) : H' a = some (.dK kvs) := k.keep _ _ (tab_ne k.t0 h fun _ z => by cases z) h
/-! ### what a shop is read into -/
/-- the makes of a ware, the newest ahead -/
def mks (D : Str → List (Int × List PyData)) (x : Str) : List Int := ((D x).map (·.1)).mergeSort fun a b => decide (b ≤ a)
/-- the needs of a make -/
def ndN (D : Str → List (Int × List PyData)) (x : Str) (m : Int) : List N3 := (needsD D x m).map n3
theorem mks_perm (D : Str → List (Int × List PyData)) (x : Str) : (mks D x).Perm ((D x).map (·.1)) := List.mergeSort_perm _ _
theorem mks_desc (D : Str → List (Int × List PyData)) (x : Str) : (mks D x).Pairwise fun a b => b ≤ a := by
  have z := List.pairwise_mergeSort (le := fun a b : Int => decide (b ≤ a)) (fun a b c h1 h2 => by
    have h1 := of_decide_eq_true h1
    have h2 := of_decide_eq_true h2
    exact decide_eq_true (by omega)) (fun a b => by
    rcases Int.le_total a b with h | h
    · rw [decide_eq_true h, Bool.or_true]
    · rw [decide_eq_true h, Bool.true_or]) ((D x).map (·.1))
  exact z.imp fun h => of_decide_eq_true h
theorem mks_same {D : Str → List (Int × List PyData)} {x : Str} {l : List Int} (hp : l.Perm ((D x).map (·.1))) (hd : l.Pairwise (· ≥ ·)) : l = mks D x :=
  List.Perm.eq_of_pairwise (le := fun a b : Int => b ≤ a) (fun a b _ _ h1 h2 => Int.le_antisymm h2 h1) hd (mks_desc D x) (hp.trans (mks_perm D x).symm)
theorem mks_mem {D : Str → List (Int × List PyData)} {x : Str} {m : Int} : m ∈ mks D x ↔ m ∈ (D x).map (·.1) := (mks_perm D x).mem_iff
theorem mks_len (D : Str → List (Int × List PyData)) (x : Str) : (mks D x).length = (D x).length := by rw [(mks_perm D x).length_eq, List.length_map]
def EntR (K : PySem.W.Frag) (H : Hp) (D : Str → List (Int × List PyData)) (x : Str) (p : Key × V) (m : Int) : Prop := p.1 = .inl m ∧ ∃ l us, p.2 = .ref l ∧ SqL K H l us ∧ Paired (NdV K H) us (ndN D x m)
def ShelfR (K : PySem.W.Frag) (H : Hp) (D : Str → List (Int × List PyData)) (x : Str) (a : Addr) : Prop := ∃ kvs, H a = some (.dK kvs) ∧ Paired (EntR K H D x) kvs (mks D x)
def RowR (K : PySem.W.Frag) (H : Hp) (D : Str → List (Int × List PyData)) (r : Addr) (p : Key × V) (x : Str) : Prop := p.1 = .inr x ∧ ∃ a, p.2 = .ref a ∧ a ≠ r ∧ ShelfR K H D x a
def ShvAt (K : PySem.W.Frag) (H : Hp) (r : Addr) (D : Str → List (Int × List PyData)) (ws : List Str) : Prop := ∃ kvs, H r = some (.dK kvs) ∧ Paired (RowR K H D r) kvs ws
section
variable {K : PySem.W.Frag} {T : Addr} {H H' : Hp} {D : Str → List (Int × List PyData)} {x : Str} {r a : Addr} {p : Key × V} {m : Int} {ws : List Str}
theorem EntR.kp (k : Kp T H H') (h : EntR K H D x p m) : EntR K H' D x p m := by
  obtain ⟨h1, l, us, h2, h3, h4⟩ := h
  exact ⟨h1, l, us, h2, k.seq h3, paired_mono (fun _ _ z => NdV.kp k z) h4⟩
theorem ShelfR.kp (k : Kp T H H') (h : ShelfR K H D x a) : ShelfR K H' D x a := by
  obtain ⟨kvs, e, h⟩ := h
  exact ⟨kvs, dk_kp k e, paired_mono (fun _ _ z => EntR.kp k z) h⟩
theorem RowR.kp (k : Kp T H H') (h : RowR K H D r p x) : RowR K H' D r p x := by
  obtain ⟨h1, a, h2, h3, h4⟩ := h
  exact ⟨h1, a, h2, h3, h4.kp k⟩
theorem ShvAt.kp (k : Kp T H H') (h : ShvAt K H r D ws) : ShvAt K H' r D ws := by
  obtain ⟨kvs, e, h⟩ := h
  exact ⟨kvs, dk_kp k e, paired_mono (fun _ _ z => RowR.kp k z) h⟩
theorem EntR.upd {o o' : HO} (e : H a = some o) (n : isSeqO o = false) (h : EntR K H D x p m) : EntR K (upd H a o') D x p m := by
  obtain ⟨h1, l, us, h2, h3, h4⟩ := h
  refine ⟨h1, l, us, h2, seq_mono (fun b o2 hs hb => ?_) h3, paired_mono (fun _ _ z => NdV.upd e n z) h4⟩
  rw [upd_ne (fun z => by rw [z, e] at hb; cases hb; rw [n] at hs; cases hs)]
  exact hb
theorem RowR.upd {o o' : HO} (e : H r = some o) (n : isSeqO o = false) (h : RowR K H D r p x) : RowR K (upd H r o') D r p x := by
  obtain ⟨h1, a, h2, h3, kvs, h4, h5⟩ := h
  exact ⟨h1, a, h2, h3, kvs, by rw [upd_ne h3]; exact h4, paired_mono (fun _ _ z => EntR.upd e n z) h5⟩
end
theorem ndv_all {K : PySem.W.Frag} {H : Hp} : ∀ {vs : List V} {ds : List PyData}, DpAll K H vs ds → (∀ d ∈ ds, ND d) → Paired (NdV K H) vs (ds.map n3)
  | [], [], _, _ => .nil
  | v :: vs, d :: ds, h, n => by
    cases h with
    | cons h1 h2 => exact .cons (NdV.of h1 (n d (List.mem_cons_self ..))).1 (ndv_all h2 fun d hd => n d (List.mem_cons_of_mem _ hd))
  | [], _ :: _, h, _ => absurd h (by intro h; cases h)
  | _ :: _, [], h, _ => absurd h (by intro h; cases h)
theorem paired_all2 {α β : Type} {R : α → β → Prop} : ∀ {a : List α} {b : List β}, Paired R a b → ∀ x ∈ a, ∃ y ∈ b, R x y
  | _, _, .nil, _, h => nomatch h
  | p :: ps, q :: qs, .cons hp ht, x, h => by
    rcases List.mem_cons.mp h with rfl | h
    · exact ⟨q, List.mem_cons_self .., hp⟩
    · obtain ⟨y, hy, r⟩ := paired_all2 ht x h
      exact ⟨y, List.mem_cons_of_mem _ hy, r⟩
def spShelves (K : PySem.W.Frag) (C T : Addr) : Sp := fun vs H Q _ => ∃ (A : List Addr) (p D : Addr) (st : List Shelf), vs = [.ref p] ∧ ShopAt K C A H p D st ∧ GoodSh (dataOf st) ∧ (∀ s ∈ st, GoodN s.ware) ∧ st.length ≤ 60 ∧ GxR.TabG H T ∧
  ∀ ws r H', ws.Perm (st.map (·.ware)) → Kp T H H' → H r = none → ShvAt K H' r (dataOf st) ws → Q (.ref r) H'
section
variable {P : Program} {w : World} {K : PySem.W.Frag} {mg : Str → Option Value} {base : Heap}
def shelvesN : List Str := ["shop", "shelves", "ware", "makes", "make"]
theorem scShelves : FnScope shelvesN ["shop"] (defScope sShelves) := ⟨rfl, rfl, rfl, by decide +kernel, rfl, by decide +kernel, by decide +kernel⟩
theorem ok_shelves {f fW fM fN C T BW NM : Addr} {fd fdW fdM fdN : FuncData} (F : Fun K "shelves_of" "shelves_of" sShelves f fd) (X : ShopT K mg C)
    (GW : FnOk P w K mg base CX0 1 fW fdW ["self"] (spWares K C T)) (bW : Binds K fdW ["self"] []) (mW : Meth K C "wares" fW)
    (GM : FnOk P w K mg base (L2N.CX P w) 2 fM fdM ["self", "ware"] (spMakes K C T BW)) (bM : Binds K fdM ["self", "ware"] []) (mM : Meth K C "makes" fM)
    (GN : FnOk P w K mg base (L2N.CX P w) 4 fN fdN ["self", "ware", "make"] (spNeeds K C T NM)) (bN : Binds K fdN ["self", "ware", "make"] []) (mN : Meth K C "needs" fN)
    (y_sorted : mg "sorted" = none) : FnOk P w K mg base CX0 5 f fd ["shop"] (spShelves K C T) := by
  refine F.ok scShelves (fun vs H Q E h => ?_) (fun cdv A0 outer s H vs Q E hr h => ?_)
  · obtain ⟨A, p, D, st, rfl, _⟩ := h
    rfl
  · obtain ⟨A, p, D, st, rfl, S, G, gst, h60, ht, fin⟩ := h
    have hu := hu_of hr
    refine ⟨_, (pss_cons (ps_set (i := 1) scShelves.nd rfl (by first | exact .inl rfl | exact .inr rfl) pe_dnewK)
      (pss_cons (ps_for PassesOwn.never rfl (pi_list (pe_meth0 (E := E0) (pv 0) X.cl mW GW (hr.mono (by decide)) bW .nil pass0)) (pg_name (i := 2) scShelves.nd rfl (by first | exact .inl rfl | exact .inr rfl)) (pss_cons (ps_set (i := 3) scShelves.nd rfl (by first | exact .inl rfl | exact .inr rfl) (pe_callBK (cr_sortedRev (b := true)) (by rfl) y_sorted (by decide +kernel) (pa_cons (pe_meth (E := E0) (pv 0) X.cl mM GM (hr.mono (by decide)) bM .nil passN (pa_cons (pv 2) pa_nil)) pa_nil) (pk_cons pe_bl pk_nil)))
      (pss_one (ps_dput hu (pv 1) (pv 2) (pe_dc (own := [("make", 4)]) (g := (gName 4)) (tt := tYes) rfl scShelves.nd (pi_list (pv 3)) (blkOk_by (own := [("make", 4)]) (N := shelvesN) (sc := defScope sShelves) (by decide +kernel)) (fun _ _ _ _ _ => (pg_name (i := 4) scShelves.nd rfl (by first | exact Or.inl rfl | exact Or.inr rfl))) (fun _ _ _ _ _ => pts_nil) (fun _ _ _ _ _ => (pv 4)) (fun _ _ _ _ _ => (pe_meth (E := E0) (pv 0) X.cl mN GN (hr.mono (by decide)) bN .nil passN (pa_cons (pv 2) (pa_cons (pv 4) pa_nil))))) rfl))))
      (pss_one (ps_ret (pv 1))))), ?_⟩
    intro r nr
    have k0 := Kp.new (o := HO.dK []) ht nr
    have e0 : upd H r (.dK []) r = some (.dK []) := upd_same
    have rT := tab_nn ht nr
    have S0 := S.keptP k0
    generalize upd H r (.dK []) = H0 at k0 e0 S0 ⊢
    obtain ⟨dx, o0⟩ := S0.ob
    refine ⟨_, rfl, p, dx, _, rfl, o0, flS_no D (by decide +kernel), A, p, D, st, rfl, S0, k0.tab, by omega, fun ws pl H1 hw hs1 k1 npl epl => ?_⟩
    have kk1 := k0.trans k1
    have wl : ws.length ≤ 60 := by rw [hw.length_eq, List.length_map]; exact h60
    refine ⟨pl, rfl, ⟨_, .inl (.inl epl)⟩, for_list (K := K) (a := pl) (xs := ws.map V.str) (fun i σ' H' => ∃ (x2 x3 : Option V), σ' = [some (.ref p), some (.ref r), x2, x3, none] ∧ Kp T H H' ∧ SqL K H' pl (ws.map V.str) ∧ ShvAt K H' r (dataOf st) (ws.take i))
      ⟨none, none, rfl, kk1, .inl (.inl epl), [], dk_kp k1 e0, .nil⟩ (fun i σ' H' _ ⟨_, _, _, _, h, _⟩ => h) ?_ ?_⟩
    · rintro i v σ' H2 hi ⟨x2, x3, rfl, kk2, hpl, kvs, er, hrows⟩
      have hil : i < ws.length := by have z := (List.getElem?_eq_some_iff.mp hi).1; rw [List.length_map] at z; exact z
      have ei := List.getElem?_eq_getElem hil
      have et := take_succ_get ei
      have em : ws[i] ∈ ws := List.getElem_mem hil
      rw [List.getElem?_map, ei] at hi
      have nn : ∀ y ∈ ws.take i, y ≠ ws[i] := take_new (f := fun x : Str => x) (by rw [List.map_id']; exact hw.nodup_iff.mpr S.bx.nd) ei
      generalize ws[i] = x at hi et em nn ei
      cases hi
      obtain ⟨sx, hsx, rfl⟩ := List.mem_map.mp (hw.mem_iff.mp em)
      have gx := gst sx hsx
      generalize sx.ware = x at et em nn ei gx
      have S2 := S.keptP kk2
      obtain ⟨dx2, o2⟩ := S2.ob
      refine ⟨_, rfl, p, dx2, _, rfl, o2, flS_no D (by decide +kernel), _, rfl, A, p, D, st, _, .str x, rfl, S2, .str _, gx.2, kk2.tab, fun z => (by rw [gx.1] at z; cases z), fun x' ex _ => ⟨by have := G.len x'; omega, fun ys l H3 hy1 hy2 k3 nl el => ?_⟩⟩
      cases ex
      have kk3 := kk2.trans k3
      have hpl3 := k3.seq hpl
      have er3 := dk_kp k3 er
      have hrows3 := paired_mono (fun _ _ z => RowR.kp k3 z) hrows
      refine ⟨l, ys, rfl, rfl, .inl (.inl el), fun ms ml hm1 hm2 nml => ?_⟩
      have ems : ms = mks (dataOf st) x := mks_same (hm1.trans hy1) hm2
      subst ems
      have k4 := Kp.new (o := HO.lst ((mks (dataOf st) x).map V.int)) kk3.tab nml
      have eml : upd H3 ml (.lst ((mks (dataOf st) x).map V.int)) ml = some (.lst ((mks (dataOf st) x).map V.int)) := upd_same
      have kk4 := kk3.trans k4
      have hpl4 := k4.seq hpl3
      have er4 := dk_kp k4 er3
      have hrows4 := paired_mono (fun _ _ z => RowR.kp k4 z) hrows3
      generalize upd H3 ml (.lst ((mks (dataOf st) x).map V.int)) = H4 at k4 eml kk4 hpl4 er4 hrows4 ⊢
      have S4 := S.keptP kk4
      refine ⟨_, rfl, ml, rfl, ⟨_, .inl (.inl eml)⟩, fun Dn nDn => ?_⟩
      have DnT := tab_nn kk4.tab nDn
      have lm := mks_len (dataOf st) x
      have l8 := G.len x
      refine dc_it walk_list (fun j H' => Kp T H4 H' ∧ ∃ kvs2, H' Dn = some (.dK kvs2) ∧ Paired (EntR K H' (dataOf st) x) kvs2 ((mks (dataOf st) x).take j)) ⟨Kp.new kk4.tab nDn, [], upd_same, .nil⟩ (fun j H' _ h => h.1.seq (.inl (.inl eml))) (fun j v H5 H6 hj h y => ?_) (fun H5 h => ?_)
      · obtain ⟨kk5, kvs2, eD, hk⟩ := h
        obtain ⟨rfl, hv⟩ := y
        have hjl : j < (mks (dataOf st) x).length := by rw [List.length_map] at hj; exact hj
        have ej := List.getElem?_eq_getElem hjl
        have etj := take_succ_get ej
        have emj : (mks (dataOf st) x)[j] ∈ mks (dataOf st) x := List.getElem_mem hjl
        have ndm : (mks (dataOf st) x).Nodup := by
          rw [(mks_perm _ _).nodup_iff]
          exact data_nd S x
        have nnj : ∀ y ∈ (mks (dataOf st) x).take j, y ≠ (mks (dataOf st) x)[j] := take_new (f := fun m : Int => m) (by rw [List.map_id']; exact ndm) ej
        rw [List.getElem?_map, ej] at hv
        generalize (mks (dataOf st) x)[j] = m at hv etj emj nnj ej
        cases hv
        have S5 := S4.keptP kk5
        obtain ⟨dx5, o5⟩ := S5.ob
        have mi := mks_mem.mp emj
        have hb := pick_has G gx mi
        refine ⟨rfl, ?_⟩
        refine ⟨_, rfl, _, rfl, p, dx5, _, rfl, o5, flS_no D (by decide +kernel), _, rfl, _, rfl, A, p, D, st, _, _, .str x, .int m, rfl, S5, .str _, gx.2, .int _, kk5.tab, fun z => (by rw [hb] at z; cases z), fun x' m' ex em' _ xs ds l7 H7 hf k7 nl7 el7 hd7 => ?_⟩
        cases ex
        cases em'
        have eD7 := k7.keep _ _ DnT eD
        have hk7 := paired_mono (fun _ _ z => EntR.kp k7 z) hk
        have l2 := paired_len hk
        rw [List.length_take] at l2
        have hds : ∀ d ∈ ds, ND d := by
          rw [← needsD_of hf]
          exact (needsD_good G x m).2
        have new : EntR K H7 (dataOf st) x (.inl m, .ref l7) m := ⟨rfl, l7, xs, rfl, .inl (.inl el7), by
          unfold ndN
          rw [needsD_of hf]
          exact ndv_all (dpAll_mono (fun _ _ _ e => (hide_some e).1) _ _ hd7) hds⟩
        have nv : valV kvs2 (.inl m : Key) = none := by
          cases hz : valV kvs2 (.inl m : Key) with
          | none => rfl
          | some v =>
            unfold valV at hz
            obtain ⟨e, he, _⟩ := Option.map_eq_some_iff.mp hz
            have e1 := of_decide_eq_true (List.find?_some (p := fun kv : Key × V => decide (kv.1 = (.inl m : Key))) he)
            obtain ⟨y, hy, hy2, _⟩ := paired_all2 hk e (List.mem_of_find?_eq_some he)
            rw [e1] at hy2
            exact absurd (Sum.inl.inj hy2).symm (nnj y hy)
        refine ⟨kvs2, .inl m, rfl, eD7, small1000 (by omega), (kk5.trans k7).set nDn DnT, _, upd_same, ?_⟩
        rw [putK_new _ nv, etj]
        exact paired_mono (fun _ _ z => EntR.upd eD7 rfl z) (paired_app2 hk7 (.cons new .nil))
      · obtain ⟨kk5, kvs2, eD, hk⟩ := h
        rw [List.length_map, List.take_length] at hk
        have er5 := dk_kp kk5 er4
        have hrows5 := paired_mono (fun _ _ z => RowR.kp kk5 z) hrows4
        have hpl5 := kk5.seq hpl4
        have nr5 : Dn ≠ r := fun z => by rw [z, er4] at nDn; cases nDn
        have l2 := paired_len hrows
        rw [List.length_take] at l2
        have nv : valV kvs (.inr x : Key) = none := by
          cases hz : valV kvs (.inr x : Key) with
          | none => rfl
          | some v =>
            unfold valV at hz
            obtain ⟨e, he, _⟩ := Option.map_eq_some_iff.mp hz
            have e1 := of_decide_eq_true (List.find?_some (p := fun kv : Key × V => decide (kv.1 = (.inr x : Key))) he)
            obtain ⟨y, hy, hy2, _⟩ := paired_all2 hrows e (List.mem_of_find?_eq_some he)
            rw [e1] at hy2
            exact absurd (Sum.inr.inj hy2).symm (nn y hy)
        refine ⟨_, rfl, _, rfl, r, _, rfl, DPut.k (k := .inr x) er5 (small1000 (by omega)), _, _, rfl, (kk4.trans kk5).set nr rT, ?_, _, upd_same, ?_⟩
        · exact seq_mono (fun b o hs hb => by rw [upd_ne (fun z => by rw [z, er5] at hb; cases hb; cases hs)]; exact hb) hpl5
        · rw [putK_new _ nv, et]
          exact paired_app2 (paired_mono (fun _ _ z => RowR.upd er5 rfl z) hrows5) (.cons ⟨rfl, Dn, rfl, nr5, kvs2, by rw [upd_ne nr5]; exact eD, paired_mono (fun _ _ z => EntR.upd er5 rfl z) hk⟩ .nil)
    · rintro σ' H2 ⟨x2, x3, rfl, kk2, hpl, hrows⟩
      rw [List.length_map, List.take_length] at hrows
      exact ⟨_, rfl, fin ws r H2 hw kk2 nr hrows⟩
end
end Pk

set_option Elab.async false
set_option linter.all false
set_option maxRecDepth 100000
set_option maxHeartbeats 4000000
namespace Pk
open PySem PySem.Spec PyProof.Rows L2
/-! ### the sources that are kept -/
def kD : Key → PyData | .inl i => .int i | .inr s => .str s
def GoodK (k : List Key) : Prop := ∀ s, Sum.inr s ∈ k → PyData.strOk s = true
def KeyR (H : Hp) (b : Addr) (e : List Key × N3) : Prop := H b = some (.tup (e.1.map kV))
theorem KeyR.kp {T : Addr} {H H' : Hp} (k : Kp T H H') {b : Addr} {e : List Key × N3} (h : KeyR H b e) : KeyR H' b e := k.keep _ _ (tab_ne k.t0 h fun _ z => by cases z) h
theorem dp_keys {K : PySem.W.Frag} {H : Hp} : ∀ k : List Key, DpAll K H (k.map kV) (k.map kD)
  | [] => .nil
  | .inl i :: r => .cons (.int i) (dp_keys r)
  | .inr x :: r => .cons (.str x) (dp_keys r)
theorem dp_key {K : PySem.W.Frag} {H : Hp} {b : Addr} {k : List Key} (h : H b = some (.tup (k.map kV))) : Dp K H (.ref b) (.tuple (k.map kD)) := .tup (.inl (.inl h)) (dp_keys k)
theorem shaped_key {k : List Key} (g : GoodK k) : SeqAt.shaped (.tuple (k.map kD)) = true := (shaped_flat fun d hd => by
  obtain ⟨y, hy, rfl⟩ := List.mem_map.mp hd
  cases y with
  | inl i => exact ⟨rfl, rfl⟩
  | inr s => exact ⟨g s hy, rfl⟩).2
theorem eqv_kD (a b : Key) : PyData.eqv (kD a) (kD b) = decide (a = b) := by
  cases a with
  | inl i =>
    cases b with
    | inl j =>
      have e : PyData.eqv (kD (.inl i)) (kD (.inl j)) = (i == j) := rfl
      rw [e, beq_dec]
      by_cases h : i = j
      · rw [h, decide_eq_true rfl, decide_eq_true rfl]
      · rw [decide_eq_false h, decide_eq_false (fun z => h (Sum.inl.inj z))]
    | inr s => exact (decide_eq_false (fun z => by cases z)).symm
  | inr s =>
    cases b with
    | inl j => exact (decide_eq_false (fun z => by cases z)).symm
    | inr t =>
      have e : PyData.eqv (kD (.inr s)) (kD (.inr t)) = (s == t) := rfl
      rw [e, beq_dec]
      by_cases h : s = t
      · rw [h, decide_eq_true rfl, decide_eq_true rfl]
      · rw [decide_eq_false h, decide_eq_false (fun z => h (Sum.inr.inj z))]
theorem eqv_keys : ∀ a b : List Key, PyData.eqv (.tuple (a.map kD)) (.tuple (b.map kD)) = decide (a = b)
  | [], [] => rfl
  | [], _ :: _ => rfl
  | _ :: _, [] => rfl
  | x :: r, y :: t => by
    have ih := eqv_keys r t
    have e1 : PyData.eqv (.tuple ((x :: r).map kD)) (.tuple ((y :: t).map kD)) = (PyData.eqv (kD x) (kD y) && PyData.eqv (.tuple (r.map kD)) (.tuple (t.map kD))) := rfl
    rw [e1, eqv_kD, ih]
    by_cases h1 : x = y
    · by_cases h2 : r = t
      · rw [h1, h2, decide_eq_true rfl, decide_eq_true rfl, decide_eq_true rfl] <;> rfl
      · rw [h1, decide_eq_false h2, decide_eq_false (fun z => h2 (List.cons.inj z).2), Bool.and_false]
    · rw [decide_eq_false h1, decide_eq_false (fun z => h1 (List.cons.inj z).1)] <;> rfl
/-- what is asked of a set of sources -/
structure SrcG (S : Srcs) : Prop where
  nd : (S.map (·.1)).Nodup
  gk : ∀ e ∈ S, GoodK e.1
  gw : ∀ e ∈ S, GoodN e.2.1
  len : S.length ≤ 4000
theorem SrcG.sub {S R : Srcs} (g : SrcG S) (h : R.Sublist S) : SrcG R := ⟨(h.map _).nodup g.nd, fun e he => g.gk e (h.subset he), fun e he => g.gw e (h.subset he), Nat.le_trans h.length_le g.len⟩
theorem isKeys_r {K : PySem.W.Frag} {H : Hp} : ∀ {kvs : List (List Key × V)} {S : Srcs} {bs : List Addr}, Paired (SrcR K H) kvs S → IsKeys H kvs bs → Paired (KeyR H) bs S
  | _, _, _, .nil, .nil => .nil
  | _, _, _, .cons hp ht, .cons h1 h2 => .cons (show H _ = _ by rw [← hp.1]; exact h1) (isKeys_r ht h2)
theorem src_vals {K : PySem.W.Frag} {H : Hp} : ∀ {kvs : List (List Key × V)} {S : Srcs}, Paired (SrcR K H) kvs S → Paired (NdV K H) (kvs.map Prod.snd) (S.map (·.2))
  | _, _, .nil => .nil
  | _, _, .cons hp ht => .cons hp.2 (src_vals ht)
theorem ndv_upd {K : PySem.W.Frag} {H : Hp} {M : Addr} {us us' : List V} {v : V} {n : N3} (e : H M = some (.lst us)) (h : NdV K H v n) : NdV K (upd H M (.lst us')) v n := by
  obtain ⟨b, e1, h⟩ := h
  refine ⟨b, e1, ?_⟩
  have nb : ∀ {o : HO}, H b = some o → (∀ us, o ≠ .lst us) → upd H M (.lst us') b = some o := fun {o} h2 h3 => by
    rw [upd_ne (fun z => by rw [z, e] at h2; exact h3 _ (Option.some.inj h2).symm)]
    exact h2
  rcases h with (h | ⟨o, h⟩) | h
  · exact .inl (.inl (nb h fun _ z => by cases z))
  · exact .inl (.inr ⟨o, nb h fun _ z => by cases z⟩)
  · exact .inr h
def spFewest (K : PySem.W.Frag) (T : Addr) : Sp := fun vs H Q _ => ∃ (r a : Addr) (x : Str) (l : List Int) (S : Srcs), vs = [.ref r, .ref a, .str x] ∧ SrcAt K H a S ∧ SrcG S ∧ ShG H r x l ∧ (∀ m ∈ l, 1 ≤ m ∧ m ≤ 999) ∧ GxR.TabG H T ∧
  ∀ p bs R H', Kp T H H' → H p = none → H' p = some (.lst (bs.map V.ref)) → Paired (KeyR H') bs R → R.Sublist S → (S ≠ [] → R ≠ []) → leftM l (R.map (·.2)) = leftM l (S.map (·.2)) → Q (.ref p) H'
section
variable {P : Program} {w : World} {K : PySem.W.Frag} {mg : Str → Option Value} {base : Heap}
def fewestN : List Str := ["shelves", "asked", "ware", "left", "kept", "source", "fewer", "other"]
theorem scFewest : FnScope fewestN ["shelves", "asked", "ware"] (defScope sFewest) := ⟨rfl, rfl, rfl, by decide +kernel, rfl, by decide +kernel, by decide +kernel⟩
theorem ok_fewest {f fL T : Addr} {fd fdL : FuncData} (F : Fun K "_fewest" "_fewest" sFewest f fd)
    (GL : FnOk P w K mg base CX0 2 fL fdL ["shelves", "ware", "needs"] (spLeft K T)) (kL : PySem.W.keepIn K (.ref fL) = true) (bL : Binds K fdL ["shelves", "ware", "needs"] []) (gL : mg "makes_left" = some (.ref fL))
    (y_list : mg "list" = none) (y_reversed : mg "reversed" = none) : FnOk P w K mg base CX0 3 f fd ["shelves", "asked", "ware"] (spFewest K T) := by
  refine F.ok scFewest (fun vs H Q E h => ?_) (fun cdv A0 outer s H vs Q E hr h => ?_)
  · obtain ⟨r, a, x, l, S, rfl, _⟩ := h
    rfl
  · obtain ⟨r, a, x, l, S, rfl, ⟨kvs, ea, hS⟩, g, B, hl, ht, fin⟩ := h
    have hu := hu_of hr
    refine ⟨_, (pss_cons (ps_set (i := 3) scFewest.nd rfl (by first | exact .inl rfl | exact .inr rfl) (pe_call GL (hr.mono (by decide)) (by rfl) gL kL bL .nil pass0 (pa_cons (pv 0) (pa_cons (pv 2) (pa_cons (pe_callTy (call_list_valsT rfl) (by rfl) y_list boot_list (pa_cons (pe_bm0 PySem.F.plainAttrs_dict PySem.F.slot_dict_values PySem.F.type_dict_values mtd_valsT (pv 1)) pa_nil)) pa_nil)))))
      (pss_cons (ps_set (i := 4) scFewest.nd rfl (by first | exact .inl rfl | exact .inr rfl) (pe_callTy (call_list_dT rfl) (by rfl) y_list boot_list (pa_cons (pv 1) pa_nil)))
      (pss_cons (ps_for PassesOwn.never rfl (pi_reversed (by rfl) y_reversed (pa_cons (pe_callTy (call_list_dT rfl) (by rfl) y_list boot_list (pa_cons (pv 1) pa_nil)) pa_nil)) (pg_name (i := 5) scFewest.nd rfl (by first | exact .inl rfl | exact .inr rfl)) (pss_cons (ps_setLc (i := 6) (own := [("other", 7)]) (g := (gName 7)) rfl scFewest.nd rfl rfl (sw_true rfl rfl rfl (by decide +kernel)) (pi_list (pv 4)) (blkOk_by (own := [("other", 7)]) (N := fewestN) (sc := defScope sFewest) (by decide +kernel)) (fun _ _ _ _ _ => (pg_name (i := 7) scFewest.nd rfl (by first | exact Or.inl rfl | exact Or.inr rfl))) (fun _ _ _ _ _ => pts_one (pt_cmpR (r := rNeD K) (op_neD hr.units) (pv 7) (pv 5) (nomark _))) (fun _ _ _ _ _ => (pv 7)))
      (pss_one (ps_if (PW.pt (pw_and (pt_truth (pv 6) (by intro _; rfl)) (pw_and1 (pt_cmpR (op_eqD hr.units) (pe_call GL (hr.mono (by decide)) (by rfl) gL kL bL .nil pass0 (pa_cons (pv 0) (pa_cons (pv 2) (pa_cons (pe_lc (own := [("other", 7)]) (g := (gName 7)) (tt := tYes) rfl scFewest.nd (pi_list (pv 6)) (blkOk_by (own := [("other", 7)]) (N := fewestN) (sc := defScope sFewest) (by decide +kernel)) (fun _ _ _ _ _ => (pg_name (i := 7) scFewest.nd rfl (by first | exact Or.inl rfl | exact Or.inr rfl))) (fun _ _ _ _ _ => pts_nil) (fun _ _ _ _ _ => (pe_dget hu (pv 1) (pv 7) (fun _ _ => rfl)))) pa_nil)))) (pv 3) (nomark _))))) (pss_one (ps_set (i := 4) scFewest.nd rfl (by first | exact .inl rfl | exact .inr rfl) (pv 6))) pss_nil))))
      (pss_one (ps_ret (pv 4)))))), ?_⟩
    have lS := paired_len hS
    refine ⟨_, rfl, _, rfl, ?_⟩
    refine ⟨_, rfl, (.inr (.inr (.inl ⟨rfl, .inr ⟨_, ea⟩⟩))), a, kvs, rfl, rfl, ea, fun pv npv => ?_⟩
    have k1 := Kp.new (o := valsO pv a) ht npv
    have e1 : upd H pv (valsO pv a) pv = some (valsO pv a) := upd_same
    have ea1 := k1.keep _ _ (tab_ne ht ea fun _ z => by cases z) ea
    generalize upd H pv (valsO pv a) = H1 at k1 e1 ea1 ⊢
    refine ⟨pv, a, kvs, rfl, e1, ea1, fun pl npl => ?_⟩
    have k2 := Kp.new (o := HO.lst (kvs.map Prod.snd)) k1.tab npl
    have e2 : upd H1 pl (.lst (kvs.map Prod.snd)) pl = some (.lst (kvs.map Prod.snd)) := upd_same
    have kk2 := k1.trans k2
    generalize upd H1 pl (.lst (kvs.map Prod.snd)) = H2 at k2 e2 kk2 ⊢
    refine ⟨r, pl, x, l, _, _, rfl, kk2.shg B, hl, .inl (.inl e2), src_vals (paired_mono (fun _ _ z => SrcR.kp kk2 z) hS), kk2.tab, fun pm H3 k3 npm epm => ?_⟩
    have kk3 := kk2.trans k3
    have ea3 := kk3.keep _ _ (tab_ne ht ea fun _ z => by cases z) ea
    refine ⟨_, rfl, a, kvs, rfl, .inl ea3, fun pk bs npk hbs => ?_⟩
    have k4 := Kp.new (o := HO.lst (bs.map V.ref)) kk3.tab npk
    have epk : upd H3 pk (.lst (bs.map V.ref)) pk = some (.lst (bs.map V.ref)) := upd_same
    have kk4 := kk3.trans k4
    have hb := paired_mono (fun _ _ z => KeyR.kp k4 z) (isKeys_r (paired_mono (fun _ _ z => SrcR.kp kk3 z) hS) hbs)
    have epm4 := k4.lst epm
    have ea4 := k4.keep _ _ (tab_ne kk3.tab ea3 fun _ z => by cases z) ea3
    generalize upd H3 pk (.lst (bs.map V.ref)) = H4 at k4 epk kk4 hb epm4 ea4 ⊢
    refine ⟨_, rfl, a, kvs, rfl, .inl ea4, fun po bo npo hbo => ?_⟩
    have k5 := Kp.new (o := HO.lst (bo.map V.ref)) kk4.tab npo
    have epo : upd H4 po (.lst (bo.map V.ref)) po = some (.lst (bo.map V.ref)) := upd_same
    have kk5 := kk4.trans k5
    have hb5 := paired_mono (fun _ _ z => KeyR.kp k5 z) hb
    have ho5 := paired_mono (fun _ _ z => KeyR.kp k5 z) (isKeys_r (paired_mono (fun _ _ z => SrcR.kp kk4 z) hS) hbo)
    have epm5 := k5.lst epm4
    have epk5 := k5.lst epk
    have ea5 := k5.keep _ _ (tab_ne kk4.tab ea4 fun _ z => by cases z) ea4
    have npk0 : H pk = none := kk3.free npk
    generalize upd H4 po (.lst (bo.map V.ref)) = H5 at k5 epo kk5 hb5 ho5 epm5 epk5 ea5 ⊢
    have lo := paired_len ho5
    refine ⟨po, bo.map V.ref, rfl, .inl (.inl epo), for_it walk_rev (fun i σ' H' => ∃ (x5 x6 : Option V) (pk : Addr) (bs : List Addr) (R : Srcs), σ' = [some (.ref r), some (.ref a), some (.str x), some (.ref pm), some (.ref pk), x5, x6, none] ∧ Kp T H5 H' ∧ H pk = none ∧ H' pk = some (.lst (bs.map V.ref)) ∧ Paired (KeyR H') bs R ∧ R.Sublist S ∧ (S ≠ [] → R ≠ []) ∧ leftM l (R.map (·.2)) = leftM l (S.map (·.2)))
      ⟨none, none, pk, bs, S, rfl, .refl kk5.tab, npk0, epk5, hb5, .refl _, id, rfl⟩ (fun i σ' H' _ ⟨_, _, _, _, _, _, kk, _⟩ => kk.seq (.inl (.inl epo))) ?_ ?_⟩
    · rintro i v σ' Hz H6 hi ⟨x5, x6, pk, bs, R, rfl, kk6, npk0, epk6, hb6, sub, ne, eL⟩ ⟨rfl, hv⟩
      have kk56 := kk5.trans kk6
      have hS6 := paired_mono (fun _ _ z => SrcR.kp kk56 z) hS
      have ea6 := kk56.keep _ _ (tab_ne ht ea fun _ z => by cases z) ea
      have epm6 := kk6.lst epm5
      rw [List.length_map] at hi hv
      obtain ⟨n, en⟩ : ∃ n, n = bo.length - 1 - i := ⟨_, rfl⟩
      rw [← en] at hv
      have hn : n < S.length := by omega
      have eS := List.getElem?_eq_getElem hn
      obtain ⟨b0, eb0, hb0⟩ := paired_get ho5 eS
      rw [List.getElem?_map, eb0] at hv
      have em : S[n] ∈ S := List.getElem_mem hn
      generalize S[n] = e at hb0 em eS
      cases hv
      have hb06 := KeyR.kp kk6 hb0
      have lR : R.length ≤ 4000 := (g.sub sub).len
      have lb := paired_len hb6
      refine ⟨_, rfl, pk, rfl, ⟨_, .inl (.inl epk6)⟩, fun D nD => ?_⟩
      have DT := tab_nn kk6.tab nD
      refine lc_it walk_list (fun j H' => Kp T H6 H' ∧ ∃ bs' : List Addr, H' D = some (.lst (bs'.map V.ref)) ∧ Paired (KeyR H') bs' ((R.take j).filter fun e' => decide (e'.1 ≠ e.1))) ⟨Kp.new kk6.tab nD, [], upd_same, .nil⟩ (fun j H' _ h => h.1.seq (.inl (.inl epk6))) (fun j v Hz H7 hj h y => ?_) (fun H7 h => ?_)
      · obtain ⟨kk7, bs', eD, hk⟩ := h
        obtain ⟨rfl, hv⟩ := y
        rw [List.length_map] at hj
        have hjl : j < R.length := by omega
        have ej := List.getElem?_eq_getElem hjl
        have etj := take_succ_get ej
        obtain ⟨b1, eb1, hb1⟩ := paired_get hb6 ej
        rw [List.getElem?_map, eb1] at hv
        have emj : R[j] ∈ R := List.getElem_mem hjl
        generalize R[j] = e' at hb1 emj etj ej
        cases hv
        have hb17 := KeyR.kp kk7 hb1
        have hb07 := KeyR.kp kk7 hb06
        refine ⟨rfl, ?_⟩
        refine ⟨_, rfl, _, rfl, .tuple (e'.1.map kD), .tuple (e.1.map kD), dp_key hb17, dp_key hb07, shaped_key (g.gk e' (sub.subset emj)), shaped_key (g.gk e em), _, rfl, ?_⟩
        rw [eqv_keys]
        have l2 := paired_len hk
        have l3 := List.length_filter_le (fun e' : List Key × N3 => decide (e'.1 ≠ e.1)) (R.take j)
        rw [List.length_take] at l3
        refine iteN (fun c => ?_) (fun c => ?_)
        · refine ⟨_, rfl, _, eD, small5000 (by rw [List.length_map]; omega), kk7.set nD DT, bs' ++ [b1], by rw [upd_same, List.map_append] <;> rfl, ?_⟩
          rw [etj, List.filter_append, List.filter_cons, if_pos (decide_eq_true c), List.filter_nil]
          have kz : ∀ b e, KeyR H7 b e → KeyR (upd H7 D (.lst (bs'.map V.ref ++ [V.ref b1]))) b e := fun b e h => by
            show upd H7 D _ b = _
            rw [upd_ne (fun z => by rw [z] at h; have h2 : H7 D = _ := h; rw [eD] at h2; cases h2)]
            exact h
          exact paired_mono kz (paired_app2 hk (.cons hb17 .nil))
        · refine ⟨kk7, bs', eD, ?_⟩
          rw [etj, List.filter_append, List.filter_cons, if_neg (by rw [decide_eq_true_eq]; exact fun z => z c), List.filter_nil, List.append_nil]
          exact hk
      · obtain ⟨kk7, bs', eD, hk⟩ := h
        rw [List.length_map, lb, List.take_length] at hk
        obtain ⟨R', eR'⟩ : ∃ R', R' = R.filter fun e' => decide (e'.1 ≠ e.1) := ⟨_, rfl⟩
        rw [← eR'] at hk
        have subR : R'.Sublist R := by rw [eR']; exact List.filter_sublist
        have sub' := subR.trans sub
        have kk67 := kk6.trans kk7
        have nD0 : H D = none := kk56.free nD
        have epk7 := kk7.lst epk6
        have hb7 := paired_mono (fun _ _ z => KeyR.kp kk7 z) hb6
        have lb' := paired_len hk
        have lR' : R'.length ≤ 4000 := (g.sub sub').len
        have old : ∃ (x5 x6 : Option V) (pk2 : Addr) (bs : List Addr) (R : Srcs), [some (V.ref r), some (.ref a), some (.str x), some (.ref pm), some (.ref pk), some (.ref b0), some (.ref D), none] = [some (.ref r), some (.ref a), some (.str x), some (.ref pm), some (.ref pk2), x5, x6, none] ∧ Kp T H5 H7 ∧ H pk2 = none ∧ H7 pk2 = some (.lst (bs.map V.ref)) ∧ Paired (KeyR H7) bs R ∧ R.Sublist S ∧ (S ≠ [] → R ≠ []) ∧ leftM l (R.map (·.2)) = leftM l (S.map (·.2)) := ⟨_, _, pk, bs, R, rfl, kk67, npk0, epk7, hb7, sub, ne, eL⟩
        refine ⟨_, rfl, _, .inl ⟨_, .inl (.inl eD), rfl⟩, ?_⟩
        cases hbe : bs' with
        | nil => exact iteF old
        | cons b2 bs2 =>
          refine iteT ?_
          have R'ne : R' ≠ [] := fun z => by rw [z, hbe] at lb'; cases lb'
          refine ⟨_, rfl, _, rfl, ?_⟩
          refine ⟨_, rfl, D, rfl, ⟨_, .inl (.inl eD)⟩, fun M nM => ?_⟩
          have MT := tab_nn kk7.tab nM
          have hS7 := paired_mono (fun _ _ z => SrcR.kp kk7 z) hS6
          have ea7 := kk7.keep _ _ (tab_ne kk6.tab ea6 fun _ z => by cases z) ea6
          refine lc_it walk_list (fun j H' => Kp T H7 H' ∧ ∃ us, H' M = some (.lst us) ∧ Paired (NdV K H') us ((R'.take j).map (·.2))) ⟨Kp.new kk7.tab nM, [], upd_same, .nil⟩ (fun j H' _ h => h.1.seq (.inl (.inl eD))) (fun j v Hz H8 hj h y => ?_) (fun H8 h => ?_)
          · obtain ⟨kk8, us, eM, hu8⟩ := h
            obtain ⟨rfl, hv⟩ := y
            rw [List.length_map] at hj
            have hjl : j < R'.length := by omega
            have ej := List.getElem?_eq_getElem hjl
            have etj := take_succ_get ej
            obtain ⟨b1, eb1, hb1⟩ := paired_get hk ej
            rw [List.getElem?_map, eb1] at hv
            have emj : R'[j] ∈ R' := List.getElem_mem hjl
            generalize R'[j] = e' at hb1 emj etj ej
            cases hv
            have hb18 := KeyR.kp kk8 hb1
            have ea8 := kk8.keep _ _ (tab_ne kk7.tab ea7 fun _ z => by cases z) ea7
            rcases valS_two e'.1 hS7 with ⟨z, _⟩ | ⟨n', v, z1, z2, z3⟩
            · rw [valS_of g.nd (sub'.subset emj)] at z
              cases z
            · rw [valS_of g.nd (sub'.subset emj)] at z1
              cases z1
              have l2 := paired_len hu8
              rw [List.length_map, List.length_take] at l2
              refine ⟨rfl, ?_⟩
              refine ⟨_, rfl, _, rfl, a, v, rfl, .inr ⟨kvs, e'.1, b1, .inl ea8, rfl, hb18, z2.symm⟩, us, eM, small5000 (by omega), kk8.set nM MT, us ++ [v], upd_same, ?_⟩
              rw [etj, List.map_append]
              refine paired_mono (fun _ _ z => ndv_upd eM z) (paired_app2 hu8 (.cons (NdV.kp kk8 z3) .nil))
          · obtain ⟨kk8, us, eM, hu8⟩ := h
            rw [List.length_map, lb', List.take_length] at hu8
            have kk58 := kk56.trans (kk7.trans kk8)
            refine ⟨r, M, x, l, us, _, rfl, kk58.shg B, hl, .inl (.inl eM), hu8, kk8.tab, fun pn H9 k9 npn epn => ?_⟩
            have epm9 := k9.lst (kk8.lst (kk7.lst epm6))
            have kk79 := kk8.trans k9
            refine ⟨_, rfl, .list ((leftM l (R'.map (·.2))).map .int), .list ((leftM l (S.map (·.2))).map .int), dp_lst epn (dp_ints _), dp_lst epm9 (dp_ints _), shaped_ints _, shaped_ints _, _, rfl, ?_⟩
            rw [eqv_ints]
            refine iteD (fun c => ?_) (fun c => ?_)
            · exact ⟨_, rfl, _, _, D, bs', R', rfl, kk67.trans kk79, nD0, kk79.lst eD, paired_mono (fun _ _ z => KeyR.kp kk79 z) hk, sub', fun _ => R'ne, c⟩
            · exact ⟨_, _, pk, bs, R, rfl, kk67.trans kk79, npk0, kk79.lst epk7, paired_mono (fun _ _ z => KeyR.kp kk79 z) hb7, sub, ne, eL⟩
    · rintro σ' H6 ⟨x5, x6, pk, bs, R, rfl, kk6, npk0, epk6, hb6, sub, ne, eL⟩
      exact ⟨_, rfl, fin pk bs R H6 (kk5.trans kk6) npk0 epk6 hb6 sub ne eL⟩
end
end Pk

set_option Elab.async false
set_option linter.all false
set_option maxRecDepth 100000
set_option maxHeartbeats 4000000
namespace Pk
open PySem PySem.Spec PyProof.Rows L2
/-! ### what is told: _none, _unasked, _against -/
def lK (y : Str) : Key × V := (.inr y, .bl true)
def KShape (k : List Key) : Prop := (∃ i, k = wishK i) ∨ (∃ w m, k = pickK w m) ∨ ∃ w m i, k = needK w m i
/-- the granted ware of a source, none for one of the wish -/
def srcW : List Key → Option Str
  | [.inr _, .inl _] => none
  | _ :: .inr w :: _ => some w
  | _ => none
theorem shape_good {k : List Key} (h : KShape k) (g : ∀ w, srcW k = some w → GoodN w) : GoodK k := by
  rcases h with ⟨i, rfl⟩ | ⟨w, m, rfl⟩ | ⟨w, m, i, rfl⟩
  · intro s hs
    rcases List.mem_cons.mp hs with h | hs
    · cases h; decide +kernel
    · rcases List.mem_cons.mp hs with h | hs
      · cases h
      · cases hs
  · intro s hs
    rcases List.mem_cons.mp hs with h | hs
    · cases h; decide +kernel
    · rcases List.mem_cons.mp hs with h | hs
      · cases h
        exact okS_ok (g w rfl).2
      · rcases List.mem_cons.mp hs with h | hs
        · cases h
        · cases hs
  · intro s hs
    rcases List.mem_cons.mp hs with h | hs
    · cases h; decide +kernel
    · rcases List.mem_cons.mp hs with h | hs
      · cases h
        exact okS_ok (g w rfl).2
      · rcases List.mem_cons.mp hs with h | hs
        · cases h
        · rcases List.mem_cons.mp hs with h | hs
          · cases h
          · cases hs
theorem putL (W : List Str) (w : Str) : putK (W.map lK) (.inr w : Key) (.bl true) = (addW W [w]).map lK := by
  show _ = List.map lK (if w ∈ W then W else W ++ [w])
  unfold putK
  by_cases h : w ∈ W
  · have e : ((W.map lK).any fun kv => decide (kv.1 = (.inr w : Key))) = true := by
      rw [List.any_eq_true]
      exact ⟨lK w, List.mem_map.mpr ⟨w, h, rfl⟩, decide_eq_true rfl⟩
    rw [if_pos e, if_pos h, List.map_map]
    refine List.map_congr_left fun y _ => ?_
    show (if (lK y).1 = (.inr w : Key) then ((lK y).1, V.bl true) else lK y) = lK y
    split <;> rfl
  · have e : ¬ ((W.map lK).any fun kv => decide (kv.1 = (.inr w : Key))) = true := by
      rw [List.any_eq_true]
      rintro ⟨kv, hkv, hd⟩
      obtain ⟨y, hy, rfl⟩ := List.mem_map.mp hkv
      have z : (lK y).1 = (.inr w : Key) := of_decide_eq_true hd
      have z2 : y = w := Sum.inr.inj z
      exact h (z2 ▸ hy)
    rw [if_neg e, if_neg h, List.map_append]
    rfl
theorem neW (s : Str) : (!PyData.eqv (.str s) (.str "wish")) = !decide (s = "wish") := by
  have e : PyData.eqv (.str s) (.str "wish") = (s == "wish") := rfl
  rw [e, beq_dec]
def spNone (K : PySem.W.Frag) (T : Addr) : Sp := fun vs H Q _ => ∃ (r a rd ld : Addr) (x : Str) (l : List Int) (S : Srcs) (rk : List (Key × V)) (W : List Str), vs = [.ref r, .ref a, .str x, .ref rd, .ref ld] ∧ SrcAt K H a S ∧ SrcG S ∧ (∀ e ∈ S, KShape e.1) ∧ ShG H r x l ∧ (∀ m ∈ l, 1 ≤ m ∧ m ≤ 999) ∧ H rd = some (.dK rk) ∧ rk.length ≤ 1000 ∧
  H ld = some (.dK (W.map lK)) ∧ W.Nodup ∧ W.length ≤ 900 ∧ (∀ y ∈ W, GoodN y) ∧ GoodN x ∧ GxR.TabG H T ∧
  ∀ t rv wd R H', Kp T H H' → H t = none → H' t = some (.tup [.str "none", rv, .ref wd]) → H wd = none → H' wd = some (.dK ((addW (W.filter fun y => decide (y ≠ x)) (R.filterMap fun e => srcW e.1)).map lK)) → R.Sublist S → (S ≠ [] → R ≠ []) → leftM l (R.map (·.2)) = leftM l (S.map (·.2)) → Q (.ref t) H'
section
variable {P : Program} {w : World} {K : PySem.W.Frag} {mg : Str → Option Value} {base : Heap}
def noneN : List Str := ["shelves", "asked", "ware", "reasons", "leant", "sources", "branches", "wares", "source", "make", "reason", "other"]
theorem scNone : FnScope noneN ["shelves", "asked", "ware", "reasons", "leant"] (defScope sNone) := ⟨rfl, rfl, rfl, by decide +kernel, rfl, by decide +kernel, by decide +kernel⟩
theorem ok_none {f fF T : Addr} {fd fdF : FuncData} (F : Fun K "_none" "_none" sNone f fd)
    (GF : FnOk P w K mg base CX0 3 fF fdF ["shelves", "asked", "ware"] (spFewest K T)) (kF : PySem.W.keepIn K (.ref fF) = true) (bF : Binds K fdF ["shelves", "asked", "ware"] []) (gF : mg "_fewest" = some (.ref fF)) :
    FnOk P w K mg base CX0 4 f fd ["shelves", "asked", "ware", "reasons", "leant"] (spNone K T) := by
  refine F.ok scNone (fun vs H Q E h => ?_) (fun cdv A0 outer s H vs Q E hr h => ?_)
  · obtain ⟨r, a, rd, ld, x, l, S, rk, W, rfl, _⟩ := h
    rfl
  · obtain ⟨r, a, rd, ld, x, l, S, rk, W, rfl, hS, g, shp, B, hl, erd, hrk, eld, ndW, h900, gW, gx, ht, fin⟩ := h
    have hu := hu_of hr
    refine ⟨_, (pss_cons (ps_set (i := 5) scNone.nd rfl (by first | exact .inl rfl | exact .inr rfl) (pe_call GF (hr.mono (by decide)) (by rfl) gF kF bF .nil pass0 (pa_cons (pv 0) (pa_cons (pv 1) (pa_cons (pv 2) pa_nil)))))
      (pss_cons (ps_lock (ps_setLc (i := 6) (own := [("make", 9), ("reason", 10)]) (g := (gTup K 2 (gCons (gName 9) (gCons (gName 10) gNil)))) (tt := tYes) rfl scNone.nd rfl rfl (sw_true rfl rfl rfl (by decide +kernel)) (pi_items (pv 3)) (blkOk_by (own := [("make", 9), ("reason", 10)]) (N := noneN) (sc := defScope sNone) (by decide +kernel)) (fun _ _ _ _ _ => (pg_tup (by rfl) (pgs_cons (pg_name (i := 9) scNone.nd rfl (by first | exact Or.inl rfl | exact Or.inr rfl)) (pgs_cons (pg_name (i := 10) scNone.nd rfl (by first | exact Or.inl rfl | exact Or.inr rfl)) pgs_nil)))) (fun _ _ _ _ _ => pts_nil) (fun _ _ _ _ _ => (pe_tup (pa_cons (pv 9) (pa_cons (pv 10) pa_nil))))))
      (pss_cons (ps_lock (ps_setDcK (i := 7) (own := [("other", 11)]) (g := (gName 11)) rfl scNone.nd rfl rfl (sw_trueD rfl rfl rfl (by decide +kernel)) (pi_keys (pv 4)) (blkOk_by (own := [("other", 11)]) (N := noneN) (sc := defScope sNone) (by decide +kernel)) (fun _ _ _ _ _ => (pg_name (i := 11) scNone.nd rfl (by first | exact Or.inl rfl | exact Or.inr rfl))) (fun _ _ _ _ _ => pts_one (pt_cmpR (r := rNeD K) (op_neD hr.units) (pv 11) (pv 2) (nomark _))) (fun _ _ _ _ _ => (pv 11)) (fun _ _ _ _ _ => pe_bl)))
      (pss_cons (ps_for PassesOwn.never rfl (pi_list (pv 5)) (pg_name (i := 8) scNone.nd rfl (by first | exact .inl rfl | exact .inr rfl)) (pss_one (ps_if (pt_cmpR (op_neD hr.units) (pe_ix ix_tup (pv 8) pe_int (fun _ _ => rfl)) pe_str (nomark _)) (pss_one (ps_dput hu (pv 7) (pe_ix ix_tup (pv 8) pe_int (fun _ _ => rfl)) pe_bl rfl)) pss_nil)))
      (pss_one (ps_ret (pe_tup (pa_cons pe_str (pa_cons (pe_tup (pa_cons (pv 2) (pa_cons (pv 5) (pa_cons (pv 6) pa_nil)))) (pa_cons (pv 7) pa_nil)))))))))), ?_⟩
    refine ⟨_, rfl, _, rfl, _, rfl, r, a, x, l, S, rfl, hS, g, B, hl, ht, fun p bs R H1 k1 np ep hb sub ne eL => ?_⟩
    have erd1 := dk_kp k1 erd
    have rdT := tab_ne k1.tab erd1 fun _ z => by cases z
    -- the branches
    refine ⟨rd, _, erd1, True.intro, fun od => ?_⟩
    have tL := tab_upd (o := .frz od (.dK rk)) k1.tab rdT
    have eL1 : upd H1 rd (.frz od (.dK rk)) rd = some (.frz od (.dK rk)) := upd_same
    have un : ∀ H', Kp T (upd H1 rd (.frz od (.dK rk))) H' → Kp T H1 (upd H' rd (.dK rk)) := fun H' k => unlockP k1.tab erd1 rdT k
    generalize hHL : upd H1 rd (.frz od (.dK rk)) = HL at tL eL1 un ⊢
    refine ⟨_, rfl, rd, od, rk, rfl, eL1, fun D nD => ?_⟩
    have DT := tab_nn tL nD
    have Drd : D ≠ rd := fun z => by rw [z, eL1] at nD; cases nD
    refine lc_it walk_items (fun j H' => Kp T HL H' ∧ ∃ us, us.length ≤ j ∧ H' D = some (.lst us)) ⟨Kp.new tL nD, [], Nat.le_refl _, upd_same⟩ (fun j H' _ h => h.1.keep _ _ rdT eL1) (fun j v H2 H3 hj h y => ?_) (fun H2 h => ?_)
    · obtain ⟨kk, us, lus, eD⟩ := h
      obtain ⟨t, xk, xv, rfl, nt, rfl, e1, e2⟩ := y
      have k2 := Kp.new (o := HO.tup [xk, xv]) kk.tab nt
      have et : upd H2 t (.tup [xk, xv]) t = some (.tup [xk, xv]) := upd_same
      have kk2 := kk.trans k2
      have eD2 := k2.lst eD
      generalize upd H2 t (.tup [xk, xv]) = H3 at k2 et kk2 eD2 ⊢
      refine ⟨t, _, rfl, .inl (.inl et), rfl, _, _, rfl, _, _, rfl, rfl, rfl, ?_⟩
      refine ⟨_, rfl, _, rfl, (by show (2 : Nat) ≤ sizeLine; decide), fun t2 nt2 => ?_⟩
      have k3 := Kp.new (o := HO.tup [xk, xv]) kk2.tab nt2
      exact ⟨us, k3.lst eD2, small1000 (by omega), (kk2.trans k3).set nD DT, us ++ [V.ref t2], by rw [List.length_append, List.length_singleton]; omega, upd_same⟩
    · obtain ⟨kk, us, lus, eD⟩ := h
      refine ⟨kk.keep _ _ rdT eL1, ?_⟩
      have k2 := un H2 kk
      have nD1 : H1 D = none := by rw [← hHL, upd_ne Drd] at nD; exact nD
      generalize upd H2 rd (.dK rk) = H3 at k2 ⊢
      clear kk eD eL1 un hHL tL
      have kk2 := k1.trans k2
      have eld2 := dk_kp kk2 eld
      have ldT := tab_ne kk2.tab eld2 fun _ z => by cases z
      -- what it leans on
      refine ⟨ld, _, eld2, True.intro, fun od2 => ?_⟩
      have tL2 := tab_upd (o := .frz od2 (.dK (W.map lK))) kk2.tab ldT
      have eL2 : upd H3 ld (.frz od2 (.dK (W.map lK))) ld = some (.frz od2 (.dK (W.map lK))) := upd_same
      have un2 : ∀ H', Kp T (upd H3 ld (.frz od2 (.dK (W.map lK)))) H' → Kp T H3 (upd H' ld (.dK (W.map lK))) := fun H' k => unlockP kk2.tab eld2 ldT k
      generalize hHL2 : upd H3 ld (.frz od2 (.dK (W.map lK))) = HM at tL2 eL2 un2 ⊢
      refine ⟨_, rfl, ld, od2, rfl, .inl ⟨_, eL2, fun wd nwd => ?_⟩⟩
      have wdT := tab_nn tL2 nwd
      have wld : wd ≠ ld := fun z => by rw [z, eL2] at nwd; cases nwd
      have nwd3 : H3 wd = none := by rw [← hHL2, upd_ne wld] at nwd; exact nwd
      have nwd0 : H wd = none := kk2.free nwd3
      refine dc_it walk_keys (fun j H' => Kp T HM H' ∧ H' wd = some (.dK (((W.take j).filter fun y => decide (y ≠ x)).map lK))) ⟨Kp.new tL2 nwd, upd_same⟩ (fun j H' _ h => h.1.keep _ _ ldT eL2) (fun j v Hz H4 hj h y => ?_) (fun H4 h => ?_)
      · obtain ⟨kk4, eW⟩ := h
        obtain ⟨rfl, k, v, hk, rfl⟩ := y
        rw [List.length_map] at hj
        have ej := List.getElem?_eq_getElem hj
        have emj : W[j] ∈ W := List.getElem_mem hj
        have etj := take_succ_get ej
        have nnj : ∀ y ∈ W.take j, y ≠ W[j] := take_new (f := fun m : Str => m) (by rw [List.map_id']; exact ndW) ej
        rw [List.getElem?_map, ej] at hk
        generalize W[j] = y at hk emj etj nnj ej
        cases hk
        refine ⟨rfl, ?_⟩
        refine ⟨_, rfl, _, rfl, .str y, .str x, .str _, .str _, shaped_str (gW y emj), shaped_str gx, _, rfl, ?_⟩
        have eqv : PyData.eqv (.str y) (.str x) = decide (y = x) := (show PyData.eqv (.str y) (.str x) = (y == x) from rfl).trans (beq_dec _ _)
        rw [eqv]
        have l3 := List.length_filter_le (fun y : Str => decide (y ≠ x)) (W.take j)
        rw [List.length_take] at l3
        refine iteN (fun c => ?_) (fun c => ?_)
        · refine ⟨_, rfl, _, .inr y, rfl, eW, small1000 (by rw [List.length_map]; omega), kk4.set nwd wdT, ?_⟩
          rw [upd_same, putL, etj, List.filter_append, List.filter_cons, if_pos (decide_eq_true c), List.filter_nil]
          have z : addW ((W.take j).filter fun y => decide (y ≠ x)) [y] = (W.take j).filter (fun y => decide (y ≠ x)) ++ [y] := if_neg fun z => nnj y (List.mem_filter.mp z).1 rfl
          rw [z]
        · refine ⟨kk4, ?_⟩
          rw [etj, List.filter_append, List.filter_cons, if_neg (by rw [decide_eq_true_eq]; exact fun z => z c), List.filter_nil, List.append_nil]
          exact eW
      · obtain ⟨kk4, eW⟩ := h
        rw [List.length_map, List.take_length] at eW
        refine ⟨kk4.keep _ _ ldT eL2, ?_⟩
        have k5 := un2 H4 kk4
        have eW5 : upd H4 ld (.dK (W.map lK)) wd = some (.dK ((W.filter fun y => decide (y ≠ x)).map lK)) := by rw [upd_ne wld]; exact eW
        generalize upd H4 ld (.dK (W.map lK)) = H5 at k5 eW5 ⊢
        clear kk4 eW eL2 un2 hHL2 tL2
        have kk5 := kk2.trans k5
        have k15 := k2.trans k5
        have lb := paired_len hb
        have lR := (g.sub sub).len
        have l5 := List.length_filter_le (fun y : Str => decide (y ≠ x)) W
        refine ⟨_, rfl, p, rfl, ⟨_, .inl (.inl (k15.lst ep))⟩, for_it walk_list (fun i σ' H' => ∃ x8 : Option V, σ' = [some (.ref r), some (.ref a), some (.str x), some (.ref rd), some (.ref ld), some (.ref p), some (.ref D), some (.ref wd), x8, none, none, none] ∧ Kp T H H' ∧ SqL K H' p (bs.map V.ref) ∧ Paired (KeyR H') bs R ∧ H' wd = some (.dK ((addW (W.filter fun y => decide (y ≠ x)) ((R.take i).filterMap fun e => srcW e.1)).map lK)))
          ⟨none, rfl, kk5, .inl (.inl (k15.lst ep)), paired_mono (fun _ _ z => KeyR.kp k15 z) hb, eW5⟩ (fun i σ' H' _ ⟨_, _, _, h, _⟩ => h) ?_ ?_⟩
        · rintro i v σ' Hz H6 hi ⟨x8, rfl, kk6, hp6, hb6, eW6⟩ ⟨rfl, hv⟩
          rw [List.length_map] at hi
          have hil : i < R.length := by omega
          have ei := List.getElem?_eq_getElem hil
          have eti := take_succ_get ei
          obtain ⟨b, eb, hbe⟩ := paired_get hb6 ei
          rw [List.getElem?_map, eb] at hv
          have em : R[i] ∈ R := List.getElem_mem hil
          generalize R[i] = e at hbe em eti ei
          cases hv
          have l6 : (addW (W.filter fun y => decide (y ≠ x)) ((R.take i).filterMap fun e => srcW e.1)).length ≤ 4900 := by
            have z := addW_len (W.filter fun y => decide (y ≠ x)) ((R.take i).filterMap fun e => srcW e.1)
            have z2 := List.length_filterMap_le (fun e : List Key × N3 => srcW e.1) (R.take i)
            rw [List.length_take] at z2
            omega
          have hbt : SqT K H6 b (e.1.map kV) := .inl (.inl hbe)
          have sw : ∀ s : Str, PyData.strOk s = true → SeqAt.shaped (.str s) = true := fun s h => by
            show (PyData.strOk s && decide (PyData.depth (.str s) ≤ 64)) = true
            rw [h]
            rfl
          have go : ∀ (w : Str) (H' : Hp), srcW e.1 = some w → H' = upd H6 wd (.dK (putK ((addW (W.filter fun y => decide (y ≠ x)) ((R.take i).filterMap fun e => srcW e.1)).map lK) (.inr w : Key) (.bl true))) → Kp T H H' ∧ SqL K H' p (bs.map V.ref) ∧ Paired (KeyR H') bs R ∧ H' wd = some (.dK ((addW (W.filter fun y => decide (y ≠ x)) ((R.take (i + 1)).filterMap fun e => srcW e.1)).map lK)) := by
            rintro w H' hw rfl
            refine ⟨kk6.set nwd0 wdT, seq_mono (fun b o hs hb => by rw [upd_ne (fun z => by rw [z, eW6] at hb; cases hb; cases hs)]; exact hb) hp6, paired_mono (fun b e z => ?_) hb6, ?_⟩
            · show upd H6 wd _ b = _
              rw [upd_ne (fun z2 => by rw [z2] at z; have z3 : H6 wd = _ := z; rw [eW6] at z3; cases z3)]
              exact z
            · rw [upd_same, putL, ← addW_app, eti, List.filterMap_append]
              have z : [e].filterMap (fun e : List Key × N3 => srcW e.1) = [w] := by simp [List.filterMap_cons, hw]
              rw [z]
          have swish : SeqAt.shaped (.str "wish") = true := sw "wish" (by decide +kernel)
          rcases shp e (sub.subset em) with ⟨i', hk⟩ | ⟨w, m, hk⟩ | ⟨w, m, i', hk⟩
          · have hbt2 : SqT K H6 b [.str "wish", .int (i' : Nat)] := by rw [hk] at hbt; exact hbt
            have j0 : atI [V.str "wish", .int (i' : Nat)] 0 = some (.str "wish") := at_gen (j := 0) rfl rfl
            refine ⟨_, rfl, b, _, 0, _, rfl, rfl, hbt2, j0, .str "wish", .str "wish", .str _, .str _, swish, swish, _, rfl, ?_⟩
            rw [neW, decide_eq_true rfl]
            refine iteF ⟨_, rfl, kk6, hp6, hb6, ?_⟩
            rw [eti, List.filterMap_append]
            have z : [e].filterMap (fun e : List Key × N3 => srcW e.1) = [] := by simp [List.filterMap_cons, hk, srcW, wishK]
            rw [z, List.append_nil]
            exact eW6
          · have hbt2 : SqT K H6 b [.str "pick", .str w, .int m] := by rw [hk] at hbt; exact hbt
            have j0 : atI [V.str "pick", .str w, .int m] 0 = some (.str "pick") := at_gen (j := 0) rfl rfl
            have j1 : atI [V.str "pick", .str w, .int m] 1 = some (.str w) := at_gen (j := 1) rfl rfl
            refine ⟨_, rfl, b, _, 0, _, rfl, rfl, hbt2, j0, .str "pick", .str "wish", .str _, .str _, sw "pick" (by decide +kernel), swish, _, rfl, ?_⟩
            rw [neW, decide_eq_false (by decide)]
            exact iteT ⟨_, rfl, _, rfl, b, _, 1, _, rfl, rfl, hbt2, j1, wd, _, rfl, DPut.k (k := (.inr w : Key)) eW6 (small5000 (by rw [List.length_map]; omega)), _, rfl, go w _ (by rw [hk]; rfl) rfl⟩
          · have hbt2 : SqT K H6 b [.str "need", .str w, .int m, .int (i' : Nat)] := by rw [hk] at hbt; exact hbt
            have j0 : atI [V.str "need", .str w, .int m, .int (i' : Nat)] 0 = some (.str "need") := at_gen (j := 0) rfl rfl
            have j1 : atI [V.str "need", .str w, .int m, .int (i' : Nat)] 1 = some (.str w) := at_gen (j := 1) rfl rfl
            refine ⟨_, rfl, b, _, 0, _, rfl, rfl, hbt2, j0, .str "need", .str "wish", .str _, .str _, sw "need" (by decide +kernel), swish, _, rfl, ?_⟩
            rw [neW, decide_eq_false (by decide)]
            exact iteT ⟨_, rfl, _, rfl, b, _, 1, _, rfl, rfl, hbt2, j1, wd, _, rfl, DPut.k (k := (.inr w : Key)) eW6 (small5000 (by rw [List.length_map]; omega)), _, rfl, go w _ (by rw [hk]; rfl) rfl⟩
        · rintro σ' H6 ⟨x8, rfl, kk6, hp6, hb6, eW6⟩
          rw [List.length_map, lb, List.take_length] at eW6
          refine ⟨_, rfl, _, rfl, _, rfl, (by show (3 : Nat) ≤ sizeLine; decide), fun t1 nt1 => ?_⟩
          have k7 := Kp.new (o := HO.tup [.str x, .ref p, .ref D]) kk6.tab nt1
          have eW7 := dk_kp k7 eW6
          have kk7 := kk6.trans k7
          generalize upd H6 t1 (.tup [V.str x, .ref p, .ref D]) = H7 at k7 eW7 kk7 ⊢
          refine ⟨_, rfl, (by show (3 : Nat) ≤ sizeLine; decide), fun t2 nt2 => ?_⟩
          have k8 := Kp.new (o := HO.tup [.str "none", .ref t1, .ref wd]) kk7.tab nt2
          exact fin t2 _ wd R _ (kk7.trans k8) (kk7.free nt2) upd_same nwd0 (dk_kp k8 eW7) sub ne eL
end
end Pk

set_option Elab.async false
set_option linter.all false
set_option maxRecDepth 100000
set_option maxHeartbeats 4000000
namespace Pk
open PySem PySem.Spec PyProof.Rows L2
theorem rd_lockG {H : Hp} {d b : Addr} {od : Obj} {u o : HO} (e : H d = some u) (h : Rd H b o) (hu : ∀ z w, u ≠ .frz z w) : Rd (upd H d (.frz od u)) b o := by
  by_cases hb : b = d
  · subst hb
    rcases h with h | ⟨z, h⟩
    · rw [e] at h
      cases h
      exact .inr ⟨od, upd_same⟩
    · rw [e] at h
      exact absurd (Option.some.inj h) (hu _ _)
  · rcases h with h | ⟨z, h⟩
    · exact .inl (by rw [upd_ne hb]; exact h)
    · exact .inr ⟨z, by rw [upd_ne hb]; exact h⟩
theorem dget_lockG {H : Hp} {d a : Addr} {od : Obj} {kvs : List (Key × V)} {y : V} {r : Option V} (e : H d = some (.dK kvs)) (h : DGet H a y r) : DGet (upd H d (.frz od (.dK kvs))) a y r := by
  have nf : ∀ z w, HO.dK kvs ≠ .frz z w := fun _ _ z => by cases z
  rcases h with ⟨ks, kk, h, e1, e2⟩ | ⟨ks, kk, b, h, e1, e2, e3⟩
  · exact .inl ⟨ks, kk, rd_lockG e h nf, e1, e2⟩
  · exact .inr ⟨ks, kk, b, rd_lockG e h nf, e1, by rw [upd_ne (fun z => by rw [z, e] at e2; cases e2)]; exact e2, e3⟩
theorem shg_lockG {H : Hp} {d r : Addr} {od : Obj} {kvs : List (Key × V)} {x : Str} {l : List Int} (e : H d = some (.dK kvs)) (h : ShG H r x l) : ShG (upd H d (.frz od (.dK kvs))) r x l := by
  have nf : ∀ z w, HO.dK kvs ≠ .frz z w := fun _ _ z => by cases z
  obtain ⟨h1, h2, h⟩ := h
  refine ⟨?_, h2, ?_⟩
  · rcases h1 with ⟨ks, h1⟩ | ⟨ks, h1⟩
    · exact .inl ⟨ks, rd_lockG e h1 nf⟩
    · exact .inr ⟨ks, rd_lockG e h1 nf⟩
  · rcases h with ⟨h, e2⟩ | ⟨a, ks, h, e2, h3⟩
    · exact .inl ⟨dget_lockG e h, e2⟩
    · refine .inr ⟨a, ks, dget_lockG e h, e2, ?_⟩
      by_cases ha : a = d
      · subst ha
        rw [e] at h3
        rcases h3 with h3 | ⟨o, h3⟩
        · cases h3
          exact .inr ⟨od, upd_same⟩
        · cases h3
      · rcases h3 with h3 | ⟨o, h3⟩
        · exact .inl (by rw [upd_ne ha]; exact h3)
        · exact .inr ⟨o, by rw [upd_ne ha]; exact h3⟩
/-- a list is written -/
theorem rd_lstG {H : Hp} {p b : Addr} {us us' : List V} {o : HO} (e : H p = some (.lst us)) (n : ∀ us, o ≠ .lst us) (h : Rd H b o) : Rd (upd H p (.lst us')) b o := by
  rcases h with h | ⟨z, h⟩
  · exact .inl (by rw [upd_ne (fun z => by rw [z, e] at h; exact n _ (Option.some.inj h).symm)]; exact h)
  · exact .inr ⟨z, by rw [upd_ne (fun z => by rw [z, e] at h; cases h)]; exact h⟩
theorem dget_lstG {H : Hp} {p a : Addr} {us us' : List V} {y : V} {r : Option V} (e : H p = some (.lst us)) (h : DGet H a y r) : DGet (upd H p (.lst us')) a y r := by
  rcases h with ⟨ks, kk, h, e1, e2⟩ | ⟨ks, kk, b, h, e1, e2, e3⟩
  · exact .inl ⟨ks, kk, rd_lstG e (fun _ z => by cases z) h, e1, e2⟩
  · exact .inr ⟨ks, kk, b, rd_lstG e (fun _ z => by cases z) h, e1, by rw [upd_ne (fun z => by rw [z, e] at e2; cases e2)]; exact e2, e3⟩
theorem shg_lstG {H : Hp} {p r : Addr} {us us' : List V} {x : Str} {l : List Int} (e : H p = some (.lst us)) (h : ShG H r x l) : ShG (upd H p (.lst us')) r x l := by
  obtain ⟨h1, h2, h⟩ := h
  refine ⟨?_, h2, ?_⟩
  · rcases h1 with ⟨ks, h1⟩ | ⟨ks, h1⟩
    · exact .inl ⟨ks, rd_lstG e (fun _ z => by cases z) h1⟩
    · exact .inr ⟨ks, rd_lstG e (fun _ z => by cases z) h1⟩
  · rcases h with ⟨h, e2⟩ | ⟨a, ks, h, e2, h3⟩
    · exact .inl ⟨dget_lstG e h, e2⟩
    · refine .inr ⟨a, ks, dget_lstG e h, e2, ?_⟩
      rcases h3 with h3 | ⟨o, h3⟩
      · exact .inl (by rw [upd_ne (fun z => by rw [z, e] at h3; cases h3)]; exact h3)
      · exact .inr ⟨o, by rw [upd_ne (fun z => by rw [z, e] at h3; cases h3)]; exact h3⟩
theorem src_lstG {K : PySem.W.Frag} {H : Hp} {p a : Addr} {us us' : List V} {S : Srcs} (e : H p = some (.lst us)) (h : SrcAt K H a S) : SrcAt K (upd H p (.lst us')) a S := by
  obtain ⟨kvs, ea, h⟩ := h
  exact ⟨kvs, by rw [upd_ne (fun z => by rw [z, e] at ea; cases ea)]; exact ea, paired_mono (fun _ _ z => ⟨z.1, ndv_upd e z.2⟩) h⟩
theorem src_lockG {K : PySem.W.Frag} {H : Hp} {d a : Addr} {od : Obj} {kvs : List (Key × V)} {S : Srcs} (e : H d = some (.dK kvs)) (h : SrcAt K H a S) : SrcAt K (upd H d (.frz od (.dK kvs))) a S := by
  obtain ⟨ks, ea, h⟩ := h
  exact ⟨ks, by rw [upd_ne (fun z => by rw [z, e] at ea; cases ea)]; exact ea, paired_mono (fun _ _ z => SrcR.upd e rfl z) h⟩
def spUnasked (K : PySem.W.Frag) (T : Addr) : Sp := fun vs H Q _ => ∃ (r a : Addr) (x : Str) (m : Int) (l : List Int) (S : Srcs), vs = [.ref r, .ref a, .str x, .int m] ∧ SrcAt K H a S ∧ SrcG S ∧ S.length ≤ 3999 ∧ (∀ e ∈ S, e.1 ≠ pickK x m) ∧ GoodN x ∧ ShG H r x l ∧ (∀ m ∈ l, 1 ≤ m ∧ m ≤ 999) ∧ GxR.TabG H T ∧ ∀ t H', Kp T H H' → Q (.ref t) H'
def spAgainst (K : PySem.W.Frag) (T : Addr) : Sp := fun vs H Q _ => ∃ (r a rd d : Addr) (x : Str) (pm : Int) (l : List Int) (S : Srcs) (rk kvs : List (Key × V)), vs = [.ref r, .ref a, .str x, .int pm, .ref rd] ∧ SrcAt K H a S ∧ SrcG S ∧ S.length ≤ 3999 ∧ (∀ m, ∀ e ∈ S, e.1 ≠ pickK x m) ∧ GoodN x ∧ ShG H r x l ∧ (∀ m ∈ l, 1 ≤ m ∧ m ≤ 999) ∧
  DGet H r (.str x) (some (.ref d)) ∧ H d = some (.dK kvs) ∧ kvs.map (·.1) = l.map Sum.inl ∧ H rd = some (.dK rk) ∧ GxR.TabG H T ∧ ∀ p us H', Kp T H H' → H p = none → H' p = some (.lst us) → Q (.ref p) H'
section
variable {P : Program} {w : World} {K : PySem.W.Frag} {mg : Str → Option Value} {base : Heap}
def unaskedN : List Str := ["shelves", "asked", "ware", "make", "grown", "source"]
theorem scUnasked : FnScope unaskedN ["shelves", "asked", "ware", "make"] (defScope sUnasked) := ⟨rfl, rfl, rfl, by decide +kernel, rfl, by decide +kernel, by decide +kernel⟩
theorem ok_unasked {f fF T : Addr} {fd fdF : FuncData} (F : Fun K "_unasked" "_unasked" sUnasked f fd)
    (GF : FnOk P w K mg base CX0 3 fF fdF ["shelves", "asked", "ware"] (spFewest K T)) (kF : PySem.W.keepIn K (.ref fF) = true) (bF : Binds K fdF ["shelves", "asked", "ware"] []) (gF : mg "_fewest" = some (.ref fF)) :
    FnOk P w K mg base CX0 4 f fd ["shelves", "asked", "ware", "make"] (spUnasked K T) := by
  refine F.ok scUnasked (fun vs H Q E h => ?_) (fun cdv A0 outer s H vs Q E hr h => ?_)
  · obtain ⟨r, a, x, m, l, S, rfl, _⟩ := h
    rfl
  · obtain ⟨r, a, x, m, l, S, rfl, ⟨kvs, ea, hS⟩, g, h4000, fp, gx, B, hl, ht, fin⟩ := h
    have hu := hu_of hr
    have nd := g.nd
    refine ⟨_, (pss_cons (ps_lock (ps_setDcT (i := 4) (own := [("source", 5)]) (g := (gName 5)) (tt := tYes) rfl hu scUnasked.nd rfl rfl (sw_trueD rfl rfl rfl (by decide +kernel)) (pi_keys (pv 1)) (blkOk_by (own := [("source", 5)]) (N := unaskedN) (sc := defScope sUnasked) (by decide +kernel)) (fun _ _ _ _ _ => (pg_name (i := 5) scUnasked.nd rfl (by first | exact Or.inl rfl | exact Or.inr rfl))) (fun _ _ _ _ _ => pts_nil) (fun _ _ _ _ _ => (pv 5)) (fun _ _ _ _ _ => (pe_dget hu (pv 1) (pv 5) (fun _ _ => rfl)))))
      (pss_cons (ps_dput hu (pv 4) (pe_tup (pa_cons pe_str (pa_cons (pv 2) (pa_cons (pv 3) pa_nil)))) (pe_tup (pa_cons (pv 2) (pa_cons (pv 3) (pa_cons (pv 3) pa_nil)))) rfl)
      (pss_one (ps_ret (pe_tup (pa_cons (pv 2) (pa_cons (pe_call GF (hr.mono (by decide)) (by rfl) gF kF bF .nil pass0 (pa_cons (pv 0) (pa_cons (pv 4) (pa_cons (pv 2) pa_nil)))) (pa_cons (pe_lst pa_nil) pa_nil)))))))), ?_⟩
    have lS := paired_len hS
    have aT := tab_ne ht ea fun _ z => by cases z
    refine ⟨a, _, ea, True.intro, fun od => ?_⟩
    have tL := tab_upd (o := .frz od (.dT kvs)) ht aT
    have eqL : ∀ b, b ≠ a → upd H a (.frz od (.dT kvs)) b = H b := fun b hb => upd_ne hb
    have eL : upd H a (.frz od (.dT kvs)) a = some (.frz od (.dT kvs)) := upd_same
    have hSL : Paired (SrcR K (upd H a (.frz od (.dT kvs)))) kvs S := paired_mono (fun _ _ z => SrcR.upd ea rfl z) hS
    generalize upd H a (.frz od (.dT kvs)) = HL at tL eqL eL hSL ⊢
    refine ⟨_, rfl, a, od, rfl, .inr ⟨kvs, eL, fun D nD => ?_⟩⟩
    have DT := tab_nn tL nD
    have Da : D ≠ a := fun z => by rw [z, eL] at nD; cases nD
    have nD0 : H D = none := by rw [← eqL D Da]; exact nD
    refine dct_it walk_keysT (fun i H' => Kp T HL H' ∧ SrcAt K H' D (S.take i)) ⟨Kp.new tL nD, [], upd_same, .nil⟩ (fun i H' _ p => p.1.keep _ _ aT eL) (fun i v H1 H2 hi p y => ?_) (fun H' p => ?_)
    · obtain ⟨kk, kvs2, eD, hk⟩ := p
      obtain ⟨rfl, k, v, q, hkv, rfl, hq⟩ := y
      have hil : i < S.length := by omega
      have ei := List.getElem?_eq_getElem hil
      obtain ⟨v', ev', e1, hb⟩ := paired_get hSL ei
      rw [hkv] at ev'
      cases ev'
      have nn := take_new nd ei
      have et := take_succ_get ei
      have em : S[i] ∈ S := List.getElem_mem hil
      generalize S[i] = e at e1 hb nn et ei em
      dsimp only at e1 hb
      subst e1
      have eLa := kk.keep _ _ aT eL
      have hl2 : kvs2.length < sizeLine := by
        have z := paired_len hk
        rw [List.length_take] at z
        exact small5000 (by omega)
      have kv := valV_of (by rw [src_keys hSL]; exact nd) (List.mem_of_getElem? hkv)
      refine ⟨rfl, ?_⟩
      refine ⟨_, rfl, _, rfl, _, rfl, a, v, rfl, .inr ⟨kvs, e.1, q, .inr ⟨od, eLa⟩, rfl, hq, kv.symm⟩, kvs2, e.1, q, rfl, hq, eD, hl2, kk.set nD DT, _, upd_same, ?_⟩
      rw [et]
      exact paired_mono (fun _ _ z => SrcR.upd eD rfl z) (src_put (n := e.2) hk (valS_none.mpr nn) (NdV.kp kk hb))
    · obtain ⟨kk, kvs2, eD, hk⟩ := p
      rw [lS, List.take_length] at hk
      have eLa := kk.keep _ _ aT eL
      refine ⟨eLa, ?_⟩
      have k0 : Kp T H (upd H' a (.dT kvs)) := ⟨ht, tab_upd kk.tab aT, fun b o hb e => by
        by_cases hba : b = a
        · rw [hba, upd_same, ← ea, ← hba]
          exact e
        · rw [upd_ne hba]
          exact kk.keep b o hb (by rw [eqL b hba]; exact e)⟩
      have eD0 : upd H' a (.dT kvs) D = some (.dT kvs2) := by rw [upd_ne Da]; exact eD
      have hk0 : Paired (SrcR K (upd H' a (.dT kvs))) kvs2 S := paired_mono (fun _ _ z => SrcR.upd eLa rfl z) hk
      generalize upd H' a (.dT kvs) = H1 at k0 eD0 hk0 ⊢
      clear eLa kk eD hk
      -- the pick
      refine ⟨_, rfl, _, rfl, _, rfl, (by show (3 : Nat) ≤ sizeLine; decide), fun t1 nt1 => ?_⟩
      have k1 := Kp.new (o := HO.tup [.str x, .int m, .int m]) k0.tab nt1
      have et1 : upd H1 t1 (.tup [V.str x, .int m, .int m]) t1 = some (.tup [.str x, .int m, .int m]) := upd_same
      have kk1 := k0.trans k1
      have eD1 := k1.keep _ _ DT eD0
      have hk1 := paired_mono (fun _ _ z => SrcR.kp k1 z) hk0
      generalize upd H1 t1 (.tup [V.str x, .int m, .int m]) = H2 at k1 et1 kk1 eD1 hk1 ⊢
      refine ⟨_, rfl, _, rfl, _, rfl, (by show (3 : Nat) ≤ sizeLine; decide), fun t2 nt2 => ?_⟩
      have k2 := Kp.new (o := HO.tup [.str "pick", .str x, .int m]) kk1.tab nt2
      have et2 : upd H2 t2 (.tup [V.str "pick", .str x, .int m]) t2 = some (.tup [.str "pick", .str x, .int m]) := upd_same
      have kk2 := kk1.trans k2
      have eD2 := k2.keep _ _ DT eD1
      have hk2 := paired_mono (fun _ _ z => SrcR.kp k2 z) hk1
      have et12 := k2.sqt (a := t1) (K := K) (.inl (.inl et1))
      generalize upd H2 t2 (.tup [V.str "pick", .str x, .int m]) = H3 at k2 et2 kk2 eD2 hk2 et12 ⊢
      have l2 := paired_len hk2
      refine ⟨D, _, rfl, DPut.t (k := pickK x m) eD2 et2 (small5000 (by omega)), ?_⟩
      have kk3 : Kp T H (upd H3 D (.dT (putK kvs2 (pickK x m) (.ref t1)))) := kk2.set nD0 DT
      have hk3 := paired_mono (fun _ _ z => SrcR.upd (o' := .dT (putK kvs2 (pickK x m) (.ref t1))) eD2 rfl z) (src_put (k := pickK x m) (v := .ref t1) (n := (x, m, m)) hk2 (valS_none.mpr fp) ⟨t1, rfl, et12⟩)
      have eD3 : upd H3 D (.dT (putK kvs2 (pickK x m) (.ref t1))) D = some (.dT (putK kvs2 (pickK x m) (.ref t1))) := upd_same
      generalize upd H3 D (.dT (putK kvs2 (pickK x m) (.ref t1))) = H4 at kk3 hk3 eD3 ⊢
      refine ⟨_, rfl, _, rfl, _, rfl, _, rfl, r, D, x, l, S ++ [(pickK x m, (x, m, m))], rfl, ⟨_, eD3, hk3⟩, ⟨?_, ?_, ?_, ?_⟩, kk3.shg B, hl, kk3.tab, fun p bs R H5 k5 np ep hb sub ne eL => ?_⟩
      · rw [List.map_append]
        refine List.nodup_append.mpr ⟨g.nd, by simp, fun y hy z hz => ?_⟩
        obtain ⟨e, he, rfl⟩ := List.mem_map.mp hy
        have hz2 : z = pickK x m := by
          obtain ⟨e2, he2, rfl⟩ := List.mem_map.mp hz
          rw [List.mem_singleton.mp he2]
        rw [hz2]
        exact fp e he
      · intro e he
        rcases List.mem_append.mp he with he | he
        · exact g.gk e he
        · rw [List.mem_singleton.mp he]
          exact shape_good (.inr (.inl ⟨x, m, rfl⟩)) fun w hw => by cases hw; exact gx
      · intro e he
        rcases List.mem_append.mp he with he | he
        · exact g.gw e he
        · rw [List.mem_singleton.mp he]
          exact gx
      · rw [List.length_append, List.length_singleton]; omega
      · refine ⟨(by show (0 : Nat) ≤ sizeLine; decide), fun t4 nt4 => ?_⟩
        have k6 := Kp.new (o := HO.lst []) k5.tab nt4
        have k56 := k5.trans k6
        generalize upd H5 t4 (.lst []) = H6 at k6 k56 ⊢
        exact ⟨(by show (3 : Nat) ≤ sizeLine; decide), fun t5 nt5 => fin t5 _ (kk3.trans (k56.trans (Kp.new k6.tab nt5)))⟩
def againstN : List Str := ["shelves", "asked", "ware", "picked", "reasons", "against", "make"]
theorem scAgainst : FnScope againstN ["shelves", "asked", "ware", "picked", "reasons"] (defScope sAgainst) := ⟨rfl, rfl, rfl, by decide +kernel, rfl, by decide +kernel, by decide +kernel⟩
theorem ok_against {f fU T : Addr} {fd fdU : FuncData} (F : Fun K "_against" "_against" sAgainst f fd)
    (GU : FnOk P w K mg base CX0 4 fU fdU ["shelves", "asked", "ware", "make"] (spUnasked K T)) (kU : PySem.W.keepIn K (.ref fU) = true) (bU : Binds K fdU ["shelves", "asked", "ware", "make"] []) (gU : mg "_unasked" = some (.ref fU)) :
    FnOk P w K mg base CX0 5 f fd ["shelves", "asked", "ware", "picked", "reasons"] (spAgainst K T) := by
  refine F.ok scAgainst (fun vs H Q E h => ?_) (fun cdv A0 outer s H vs Q E hr h => ?_)
  · obtain ⟨r, a, rd, d, x, pm, l, S, rk, kvs, rfl, _⟩ := h
    rfl
  · obtain ⟨r, a, rd, d, x, pm, l, S, rk, kvs, rfl, hS, g, h3999, fp, gx, B, hl, gd, ed, hkv, erd, ht, fin⟩ := h
    have hu := hu_of hr
    refine ⟨_, (pss_cons (ps_set (i := 5) scAgainst.nd rfl (by first | exact .inl rfl | exact .inr rfl) (pe_lst pa_nil))
      (pss_cons (ps_lock (ps_for PassesOwn.never rfl (pi_keys (pe_dget hu (pv 0) (pv 2) (fun _ _ => rfl))) (pg_name (i := 6) scAgainst.nd rfl (by first | exact .inl rfl | exact .inr rfl)) (pss_one (ps_if (pt_cmp (pc_din hu (pv 6) (pv 4))) (pss_one (ps_expr (pe_bm PySem.F.plainAttrs_list PySem.F.slot_list_append PySem.F.type_list_append mt_append (pv 5) (pa_cons (pe_tup (pa_cons (pv 6) (pa_cons (pe_dget hu (pv 4) (pv 6) (fun _ _ => rfl)) pa_nil))) pa_nil)))) (pss_one (ps_if (pt_cmpR op_gt (pv 6) (pv 3) (nomark _)) (pss_one (ps_expr (pe_bm PySem.F.plainAttrs_list PySem.F.slot_list_append PySem.F.type_list_append mt_append (pv 5) (pa_cons (pe_tup (pa_cons (pv 6) (pa_cons (pe_call GU (hr.mono (by decide)) (by rfl) gU kU bU .nil pass0 (pa_cons (pv 0) (pa_cons (pv 1) (pa_cons (pv 2) (pa_cons (pv 6) pa_nil))))) pa_nil))) pa_nil)))) pss_nil))))))
      (pss_one (ps_ret (pv 5))))), ?_⟩
    refine ⟨(by show (0 : Nat) ≤ sizeLine; decide), fun out nout => ?_⟩
    have k0 := Kp.new (o := HO.lst []) ht nout
    have e0 : upd H out (.lst []) out = some (.lst ([] : List V)) := upd_same
    have outT := tab_nn ht nout
    have hkl : kvs.length = l.length := by have z := congrArg List.length hkv; rwa [List.length_map, List.length_map] at z
    have l1000 : l.length ≤ 1000 := B.2.1
    have B0 := k0.shg B
    have gd0 := k0.dget gd
    have ed0 := dk_kp k0 ed
    have erd0 := dk_kp k0 erd
    have hS0 := hS.kp k0
    generalize upd H out (.lst []) = H0 at k0 e0 B0 gd0 ed0 erd0 hS0 ⊢
    have dT := tab_ne k0.tab ed0 fun _ z => by cases z
    refine ⟨d, _, ed0, True.intro, fun od => ?_⟩
    have tL := tab_upd (o := .frz od (.dK kvs)) k0.tab dT
    have eL : upd H0 d (.frz od (.dK kvs)) d = some (.frz od (.dK kvs)) := upd_same
    have un : ∀ H', Kx T [out] (upd H0 d (.frz od (.dK kvs))) H' → Kx T [out] H0 (upd H' d (.dK kvs)) := fun H' k => unlockX k0.tab ed0 dT k
    have outd : out ≠ d := fun z => by rw [z, ed0] at e0; cases e0
    have eoL : upd H0 d (.frz od (.dK kvs)) out = some (.lst []) := by rw [upd_ne outd]; exact e0
    have BL := shg_lockG (od := od) ed0 B0
    have gdL := dget_lockG (od := od) ed0 gd0
    have grL : ∀ m : Int, DGet (upd H0 d (.frz od (.dK kvs))) rd (.int m) (valV rk (.inl m : Key)) := fun m => dget_lockG ed0 (DGet.k (k := (.inl m : Key)) erd0)
    have hSL := src_lockG (od := od) ed0 hS0
    generalize upd H0 d (.frz od (.dK kvs)) = HL at tL eL un eoL BL gdL grL hSL ⊢
    refine ⟨_, rfl, _, rfl, r, _, rfl, gdL, d, od, rfl, .inl ⟨kvs, eL, for_it walk_keys (fun i σ' H' => ∃ (x6 : Option V) (us : List V), σ' = [some (.ref r), some (.ref a), some (.str x), some (.int pm), some (.ref rd), some (.ref out), x6] ∧ Kx T [out] HL H' ∧ ShG H' r x l ∧ (∀ m : Int, DGet H' rd (.int m) (valV rk (.inl m : Key))) ∧ SrcAt K H' a S ∧ H' d = some (.frz od (.dK kvs)) ∧ H' out = some (.lst us) ∧ us.length ≤ i)
      ⟨none, [], rfl, .refl tL, BL, grL, hSL, eL, eoL, Nat.le_refl _⟩ (fun i σ' H' _ ⟨_, _, _, _, _, _, _, h, _⟩ => h) ?_ ?_⟩⟩
    · rintro i v σ' Hz H1 hi ⟨x6, us, rfl, kk, B1, gr1, hS1, e1, eo1, lus⟩ ⟨rfl, k, v', hk, rfl⟩
      have hil : i < l.length := by omega
      have ek : (kvs.map (·.1))[i]? = some k := by rw [List.getElem?_map, hk]; rfl
      rw [hkv, List.getElem?_map, List.getElem?_eq_getElem hil] at ek
      obtain rfl : (Sum.inl l[i] : Key) = k := Option.some.inj ek
      generalize l[i] = m at hk ek
      have st : ∀ {H2 : Hp}, Kp T H1 H2 → Kx T [out] HL H2 ∧ ShG H2 r x l ∧ (∀ m : Int, DGet H2 rd (.int m) (valV rk (.inl m : Key))) ∧ SrcAt K H2 a S ∧ H2 d = some (.frz od (.dK kvs)) ∧ H2 out = some (.lst us) := fun {H2} k =>
        ⟨kk.trans (Kx.of k), k.shg B1, fun m => k.dget (gr1 m), hS1.kp k, k.keep _ _ dT e1, k.lst eo1⟩
      have put : ∀ (v : V) (H2 : Hp), Kx T [out] HL H2 → ShG H2 r x l → (∀ m : Int, DGet H2 rd (.int m) (valV rk (.inl m : Key))) → SrcAt K H2 a S → H2 d = some (.frz od (.dK kvs)) → H2 out = some (.lst us) → ∃ (x6' : Option V) (us' : List V), [some (V.ref r), some (.ref a), some (.str x), some (.int pm), some (.ref rd), some (.ref out), some (.int m)] = [some (.ref r), some (.ref a), some (.str x), some (.int pm), some (.ref rd), some (.ref out), x6'] ∧ Kx T [out] HL (upd H2 out (.lst (us ++ [v]))) ∧ ShG (upd H2 out (.lst (us ++ [v]))) r x l ∧ (∀ m : Int, DGet (upd H2 out (.lst (us ++ [v]))) rd (.int m) (valV rk (.inl m : Key))) ∧ SrcAt K (upd H2 out (.lst (us ++ [v]))) a S ∧ upd H2 out (.lst (us ++ [v])) d = some (.frz od (.dK kvs)) ∧ upd H2 out (.lst (us ++ [v])) out = some (.lst us') ∧ us'.length ≤ i + 1 := fun v H2 k B2 g2 s2 d2 o2 =>
        ⟨_, us ++ [v], rfl, k.trans (Kx.upd k.tab outT (List.mem_singleton.mpr rfl)), shg_lstG o2 B2, fun m => dget_lstG o2 (g2 m), src_lstG o2 s2, by rw [upd_ne (fun z => outd z.symm)]; exact d2, upd_same, by rw [List.length_append, List.length_singleton]; omega⟩
      refine ⟨_, rfl, _, rfl, rd, _, rfl, gr1 m, _, rfl, ?_⟩
      cases hv : valV rk (.inl m : Key) with
      | some u =>
        refine iteT ⟨_, rfl, .inl ⟨rfl, _, .inl (.inl eo1)⟩, ?_⟩
        refine ⟨_, rfl, _, rfl, _, rfl, rd, u, rfl, by rw [← hv]; exact gr1 m, (by show (2 : Nat) ≤ sizeLine; decide), fun t nt => ?_⟩
        obtain ⟨z1, z2, z3, z4, z5, z6⟩ := st (Kp.new (o := HO.tup [.int m, u]) kk.tab nt)
        exact ⟨out, us, V.ref t, rfl, rfl, z6, small1000 (by omega), put (.ref t) _ z1 z2 z3 z4 z5 z6⟩
      | none =>
        refine iteF ⟨_, rfl, _, rfl, _, _, rfl, rfl, _, rfl, iteD (fun c => ?_) (fun c => ?_)⟩
        · refine ⟨_, rfl, .inl ⟨rfl, _, .inl (.inl eo1)⟩, ?_⟩
          refine ⟨_, rfl, _, rfl, _, rfl, _, rfl, _, rfl, r, a, x, m, l, S, rfl, hS1, g, h3999, fp m, gx, B1, hl, kk.tab, fun t2 H2 k2 => ?_⟩
          refine ⟨(by show (2 : Nat) ≤ sizeLine; decide), fun t nt => ?_⟩
          obtain ⟨z1, z2, z3, z4, z5, z6⟩ := st (k2.trans (Kp.new (o := HO.tup [.int m, .ref t2]) k2.tab nt))
          exact ⟨out, us, V.ref t, rfl, rfl, z6, small1000 (by omega), put (.ref t) _ z1 z2 z3 z4 z5 z6⟩
        · obtain ⟨z1, z2, z3, z4, z5, z6⟩ := st (.refl kk.tab)
          exact ⟨_, us, rfl, z1, z2, z3, z4, z5, z6, by omega⟩
    · rintro σ' H1 ⟨x6, us, rfl, kk, B1, gr1, hS1, e1, eo1, lus⟩
      refine ⟨e1, ?_⟩
      have k2 := Kx.dropNew nout k0 (un H1 kk)
      have eo2 : upd H1 d (.dK kvs) out = some (.lst us) := by rw [upd_ne outd]; exact eo1
      exact ⟨_, rfl, fin out us _ k2 nout eo2⟩
end
end Pk

set_option Elab.async false
set_option linter.all false
set_option maxRecDepth 100000
set_option maxHeartbeats 4000000
namespace Pk
open PySem PySem.Spec PyProof.Rows L2
/-! ### settling: states, solutions, what is told -/
section
variable {D : Str → List (Int × List PyData)} {wn : List N3}
/-- all sources, in order; what is granted -/
inductive Stt (D : Str → List (Int × List PyData)) (wn : List N3) : List (Str × Int) → Srcs → Prop
  | nil : Stt D wn [] (wishS wn)
  | snoc {G : List (Str × Int)} {S : Srcs} {w : Str} {m : Int} (h : Stt D wn G S) (hw : (addW [] (S.map (·.2.1)))[G.length]? = some w) (hm : m ∈ (D w).map (·.1)) : Stt D wn (G ++ [(w, m)]) (grantS S w m (ndN D w m))
def waresS (S : Srcs) : List Str := addW [] (S.map (·.2.1))
theorem zip_map {α β γ : Type} {f : Nat → β} {g : α → γ} (ns : List α) : (ns.zipIdx.map fun p => (f p.2, p.1)).map (fun e => g e.2) = ns.map g := by
  rw [List.map_map]
  have : ((fun e : β × α => g e.2) ∘ fun p : α × Nat => (f p.2, p.1)) = g ∘ Prod.fst := rfl
  rw [this, ← List.map_map, List.zipIdx_map_fst]
theorem wares_wish : waresS (wishS wn) = addW [] (wn.map (·.1)) := by
  unfold waresS wishS
  rw [zip_map (g := fun n : N3 => n.1)]
theorem wares_grant {S : Srcs} {w : Str} {m : Int} {ns : List N3} (h : w ∈ waresS S) : waresS (grantS S w m ns) = addW (waresS S) (ns.map (·.1)) := by
  unfold waresS grantS needS at *
  rw [List.map_append, List.map_append, zip_map (g := fun n : N3 => n.1), addW_app, addW_app]
  have e : addW (addW [] (S.map (·.2.1))) ([(pickK w m, ((w, m, m) : N3))].map (·.2.1)) = addW [] (S.map (·.2.1)) := by
    show (if w ∈ addW [] (S.map (·.2.1)) then _ else _) = _
    rw [if_pos h]
  rw [e]
theorem wares_nd (S : Srcs) : (waresS S).Nodup := addW_nodup List.nodup_nil _
theorem Stt.take {G : List (Str × Int)} {S : Srcs} (h : Stt D wn G S) : G.map (·.1) = (waresS S).take G.length := by
  induction h with
  | nil => rfl
  | @snoc G S w m h hw hm ih =>
    have hw' : (waresS S)[G.length]? = some w := hw
    have hmem : w ∈ waresS S := List.mem_of_getElem? hw'
    have hl := (List.getElem?_eq_some_iff.mp hw').1
    rw [wares_grant hmem, List.map_append, ih, List.length_append, List.length_singleton]
    obtain ⟨r, e⟩ := addW_pre (waresS S) ((ndN D w m).map (·.1))
    rw [e, List.take_append_of_le_length (by omega), List.take_add_one, hw']
    rfl
theorem Stt.gnd {G : List (Str × Int)} {S : Srcs} (h : Stt D wn G S) : (G.map (·.1)).Nodup := by
  rw [h.take]
  exact (List.take_sublist _ _).nodup (wares_nd S)
theorem Stt.next {G : List (Str × Int)} {S : Srcs} (h : Stt D wn G S) {w : Str} (hw : (waresS S)[G.length]? = some w) : w ∉ G.map (·.1) := by
  rw [h.take]
  intro z
  exact take_new (f := fun x : Str => x) (S := waresS S) (by rw [List.map_id']; exact wares_nd S) hw w z rfl
theorem Stt.in_ {G : List (Str × Int)} {S : Srcs} (h : Stt D wn G S) : ∀ p ∈ G, p.2 ∈ (D p.1).map (·.1) := by
  induction h with
  | nil => exact fun p hp => by cases hp
  | snoc h hw hm ih =>
    intro p hp
    rcases List.mem_append.mp hp with hp | hp
    · exact ih p hp
    · rw [List.mem_singleton.mp hp]; exact hm
/-- what each source is -/
theorem Stt.src {G : List (Str × Int)} {S : Srcs} (h : Stt D wn G S) : ∀ e ∈ S, (∃ i, e.1 = wishK i ∧ i < wn.length ∧ e.2 ∈ wn) ∨ (∃ p ∈ G, e.1 = pickK p.1 p.2 ∧ e.2 = (p.1, p.2, p.2)) ∨ ∃ p ∈ G, ∃ i, i < (ndN D p.1 p.2).length ∧ e.1 = needK p.1 p.2 i ∧ e.2 ∈ ndN D p.1 p.2 := by
  induction h with
  | nil =>
    intro e he
    obtain ⟨p, hp, rfl⟩ := List.mem_map.mp he
    exact .inl ⟨p.2, rfl, (zip_lt hp).1, (zip_lt hp).2⟩
  | @snoc G S w m h hw hm ih =>
    intro e he
    rcases List.mem_append.mp he with he | he
    · rcases List.mem_append.mp he with he | he
      · rcases ih e he with z | ⟨p, hp, z⟩ | ⟨p, hp, z⟩
        · exact .inl z
        · exact .inr (.inl ⟨p, List.mem_append_left _ hp, z⟩)
        · exact .inr (.inr ⟨p, List.mem_append_left _ hp, z⟩)
      · rw [List.mem_singleton.mp he]
        exact .inr (.inl ⟨(w, m), List.mem_append_right _ (List.mem_singleton.mpr rfl), rfl, rfl⟩)
    · obtain ⟨p, hp, rfl⟩ := List.mem_map.mp he
      exact .inr (.inr ⟨(w, m), List.mem_append_right _ (List.mem_singleton.mpr rfl), p.2, (zip_lt hp).1, rfl, (zip_lt hp).2⟩)
theorem mem_zip {α : Type} {xs : List α} {x : α} (h : x ∈ xs) : ∃ i, (x, i) ∈ xs.zipIdx := by
  obtain ⟨i, hi, rfl⟩ := List.mem_iff_getElem.mp h
  exact ⟨i, List.mem_zipIdx_iff_getElem?.mpr (List.getElem?_eq_getElem hi)⟩
/-- all that stands behind them is there -/
theorem Stt.has {G : List (Str × Int)} {S : Srcs} (h : Stt D wn G S) : (∀ n ∈ wn, ∃ e ∈ S, e.2 = n) ∧ (∀ p ∈ G, ∃ e ∈ S, e.2 = (p.1, p.2, p.2)) ∧ ∀ p ∈ G, ∀ n ∈ ndN D p.1 p.2, ∃ e ∈ S, e.2 = n := by
  induction h with
  | nil =>
    refine ⟨fun n hn => ?_, fun p hp => (by cases hp), fun p hp => (by cases hp)⟩
    obtain ⟨i, hi⟩ := mem_zip hn
    exact ⟨_, List.mem_map.mpr ⟨_, hi, rfl⟩, rfl⟩
  | @snoc G S w m h hw hm ih =>
    have up : ∀ {n : N3}, (∃ e ∈ S, e.2 = n) → ∃ e ∈ grantS S w m (ndN D w m), e.2 = n := fun ⟨e, he, h⟩ => ⟨e, List.mem_append_left _ (List.mem_append_left _ he), h⟩
    refine ⟨fun n hn => up (ih.1 n hn), fun p hp => ?_, fun p hp n hn => ?_⟩
    · rcases List.mem_append.mp hp with hp | hp
      · exact up (ih.2.1 p hp)
      · rw [List.mem_singleton.mp hp]
        exact ⟨_, List.mem_append_left _ (List.mem_append_right _ (List.mem_singleton.mpr rfl)), rfl⟩
    · rcases List.mem_append.mp hp with hp | hp
      · exact up (ih.2.2 p hp n hn)
      · rw [List.mem_singleton.mp hp] at hn
        obtain ⟨i, hi⟩ := mem_zip hn
        exact ⟨_, List.mem_append_right _ (List.mem_map.mpr ⟨_, hi, rfl⟩), rfl⟩
theorem Stt.fresh {G : List (Str × Int)} {S : Srcs} (h : Stt D wn G S) {w : Str} (hw : w ∉ G.map (·.1)) (m : Int) : ∀ e ∈ S, e.1 ≠ pickK w m ∧ ∀ i, e.1 ≠ needK w m i := by
  intro e he
  rcases h.src e he with ⟨i, h1, _⟩ | ⟨p, hp, h1, _⟩ | ⟨p, hp, i, _, h1, _⟩
  · rw [h1]
    exact ⟨fun z => (by have z2 := congrArg List.length z; cases z2), fun j z => (by have z2 := congrArg List.length z; cases z2)⟩
  · rw [h1]
    refine ⟨fun z => hw ?_, fun j z => (by have z2 := congrArg List.length z; cases z2)⟩
    have z2 := congrArg (fun l : List Key => l[1]?) z
    have z3 : p.1 = w := Sum.inr.inj (Option.some.inj z2)
    exact List.mem_map.mpr ⟨p, hp, z3⟩
  · rw [h1]
    refine ⟨fun z => (by have z2 := congrArg List.length z; cases z2), fun j z => hw ?_⟩
    have z2 := congrArg (fun l : List Key => l[1]?) z
    have z3 : p.1 = w := Sum.inr.inj (Option.some.inj z2)
    exact List.mem_map.mpr ⟨p, hp, z3⟩
theorem zip_nd {α β : Type} {f : Nat → β} (hf : ∀ i j, f i = f j → i = j) (xs : List α) : ((xs.zipIdx.map fun p => (f p.2, p.1)).map (·.1)).Nodup := by
  rw [List.map_map]
  have e : ((fun e : β × α => e.1) ∘ fun p : α × Nat => (f p.2, p.1)) = f ∘ Prod.snd := rfl
  rw [e, ← List.map_map, List.zipIdx_map_snd]
  exact List.Pairwise.map f (fun a b h z => h (hf a b z)) (List.nodup_range')
theorem Stt.nd {G : List (Str × Int)} {S : Srcs} (h : Stt D wn G S) : (S.map (·.1)).Nodup := by
  induction h with
  | nil => exact zip_nd (fun i j z => by
      have z2 := congrArg (fun l : List Key => l[1]?) z
      have z3 : (i : Int) = j := Sum.inl.inj (Option.some.inj z2)
      omega) wn
  | @snoc G S w m h hw hm ih =>
    have fr := h.fresh (h.next hw) m
    unfold grantS
    rw [List.map_append, List.map_append]
    refine List.nodup_append.mpr ⟨List.nodup_append.mpr ⟨ih, by simp, fun a ha b hb z => ?_⟩, zip_nd (fun i j z => ?_) _, fun a ha b hb z => ?_⟩
    · obtain ⟨e, he, rfl⟩ := List.mem_map.mp ha
      have hb2 : b = pickK w m := by
        obtain ⟨e2, he2, rfl⟩ := List.mem_map.mp hb
        rw [List.mem_singleton.mp he2]
      exact (fr e he).1 (z.trans hb2)
    · have z2 := congrArg (fun l : List Key => l[3]?) z
      have z3 : (i : Int) = j := Sum.inl.inj (Option.some.inj z2)
      omega
    · obtain ⟨e2, he2, rfl⟩ := List.mem_map.mp hb
      obtain ⟨p, hp, rfl⟩ := List.mem_map.mp he2
      rcases List.mem_append.mp ha with ha | ha
      · obtain ⟨e, he, rfl⟩ := List.mem_map.mp ha
        exact (fr e he).2 p.2 z
      · obtain ⟨e3, he3, rfl⟩ := List.mem_map.mp ha
        rw [List.mem_singleton.mp he3] at z
        have z2 := congrArg List.length z
        cases z2
theorem Stt.len {G : List (Str × Int)} {S : Srcs} (h : Stt D wn G S) (hd : ∀ x m, (ndN D x m).length ≤ 6) : S.length ≤ wn.length + 7 * G.length := by
  induction h with
  | nil =>
    unfold wishS
    rw [List.length_map, List.length_zipIdx]
    omega
  | @snoc G S w m h hw hm ih =>
    unfold grantS needS
    rw [List.length_append, List.length_append, List.length_singleton, List.length_map, List.length_zipIdx, List.length_append, List.length_singleton]
    have := hd w m
    omega
/-- a pick that meets the wish -/
structure Sol (D : Str → List (Int × List PyData)) (wn : List N3) (pk : List (Str × Int)) : Prop where
  nd : (pk.map (·.1)).Nodup
  in_ : ∀ e ∈ pk, e.2 ∈ (D e.1).map (·.1)
  ag : ∃ out, AgOf (needW D pk) (addW [] (wn.map (·.1))) 0 out ∧ ∀ y ∈ out, y ∈ pk.map (·.1)
  only : ∀ out, AgOf (needW D pk) (addW [] (wn.map (·.1))) 0 out → ∀ y ∈ pk.map (·.1), y ∈ out
  met : ∀ n, (n ∈ wn ∨ ∃ e ∈ pk, n ∈ ndN D e.1 e.2) → ∃ m, (n.1, m) ∈ pk ∧ okN n m = true
theorem pk_one {pk : List (Str × Int)} (nd : (pk.map (·.1)).Nodup) {w : Str} {a b : Int} (h1 : (w, a) ∈ pk) (h2 : (w, b) ∈ pk) : a = b := by
  have e1 := lkP_of nd h1
  have e2 := lkP_of nd h2
  rw [e1] at e2
  exact Option.some.inj e2
/-- the wares needed, of picks that hold what is granted -/
theorem needW_of {pk : List (Str × Int)} (nd : (pk.map (·.1)).Nodup) {w : Str} {m : Int} (h : (w, m) ∈ pk) (hn : ∀ d ∈ needsD D w m, ND d) : needW D pk w = (ndN D w m).map (·.1) := by
  unfold needW
  rw [lkP_of nd h]
  unfold ndN
  rw [List.map_map]
  exact List.map_congr_left fun d hd => (n3_wOf (hn d hd)).symm
theorem Stt.ag {G : List (Str × Int)} {S : Srcs} (h : Stt D wn G S) (hD : ∀ x m, ∀ d ∈ needsD D x m, ND d) {pk : List (Str × Int)} (nd : (pk.map (·.1)).Nodup) (hG : ∀ p ∈ G, p ∈ pk) (out : List Str) :
    AgOf (needW D pk) (addW [] (wn.map (·.1))) 0 out ↔ AgOf (needW D pk) (waresS S) G.length out := by
  induction h with
  | nil => rw [wares_wish]; exact Iff.rfl
  | @snoc G S w m h hw hm ih =>
    have hw' : (waresS S)[G.length]? = some w := hw
    rw [ih fun p hp => hG p (List.mem_append_left _ hp)]
    have hmem : (w, m) ∈ pk := hG _ (List.mem_append_right _ (List.mem_singleton.mpr rfl))
    rw [wares_grant (List.mem_of_getElem? hw'), ← needW_of nd hmem (hD w m), List.length_append, List.length_singleton]
    constructor
    · intro z
      cases z with
      | done g => rw [hw'] at g; cases g
      | step g r =>
        rw [hw'] at g
        cases g
        exact r
    · exact fun z => .step hw' z
/-- what waits stands on the agenda -/
theorem AgOf.sup {f : Str → List Str} {ws : List Str} {n : Nat} {out : List Str} (h : AgOf f ws n out) : ∃ r, out = ws ++ r := by
  induction h with
  | done => exact ⟨[], (List.append_nil _).symm⟩
  | @step ws out n w h _ ih =>
    obtain ⟨r, e⟩ := ih
    obtain ⟨q, e2⟩ := addW_pre ws (f w)
    exact ⟨q ++ r, by rw [e, e2, List.append_assoc]⟩
theorem Stt.waits {G : List (Str × Int)} {S : Srcs} (h : Stt D wn G S) (hD : ∀ x m, ∀ d ∈ needsD D x m, ND d) {pk : List (Str × Int)} (s : Sol D wn pk) (hG : ∀ p ∈ G, p ∈ pk) {x : Str} (hx : x ∈ waresS S) : ∃ m, (x, m) ∈ pk := by
  obtain ⟨out, ho, hs⟩ := s.ag
  obtain ⟨r, e⟩ := ((h.ag hD s.nd hG out).mp ho).sup
  obtain ⟨p, hp, rfl⟩ := List.mem_map.mp (hs x (by rw [e]; exact List.mem_append_left _ hx))
  exact ⟨p.2, hp⟩
/-- a source that counts for a pick is met by it -/
theorem Stt.meet {G : List (Str × Int)} {S : Srcs} (h : Stt D wn G S) {pk : List (Str × Int)} (s : Sol D wn pk) {e : List Key × N3} (he : e ∈ S) (hp : ∀ p ∈ G, srcW e.1 = some p.1 → p ∈ pk) : ∃ m, (e.2.1, m) ∈ pk ∧ okN e.2 m = true := by
  rcases h.src e he with ⟨i, h1, _, h2⟩ | ⟨p, hpG, h1, h2⟩ | ⟨p, hpG, i, _, h1, h2⟩
  · exact s.met _ (.inl h2)
  · have z := hp p hpG (by rw [h1]; rfl)
    rw [h2]
    refine ⟨p.2, z, ?_⟩
    unfold okN
    rw [decide_eq_true (Int.le_refl _)]
    rfl
  · have z := hp p hpG (by rw [h1]; rfl)
    exact s.met _ (.inr ⟨p, z, h2⟩)
def PickOut (D : Str → List (Int × List PyData)) (wn : List N3) (G R : List (Str × Int)) : Prop :=
  Sol D wn (G ++ R) ∧ AgOf (needW D (G ++ R)) (addW [] (wn.map (·.1))) 0 ((G ++ R).map (·.1)) ∧ ∀ pk, Sol D wn pk → (∀ p ∈ G, p ∈ pk) → (∀ p ∈ G ++ R, p ∈ pk) ∨ ∃ F1 w m F2 m', G ++ R = F1 ++ (w, m) :: F2 ∧ (∀ p ∈ F1, p ∈ pk) ∧ (w, m') ∈ pk ∧ m' < m
def NoneOut (D : Str → List (Int × List PyData)) (wn : List N3) (G : List (Str × Int)) (W : List Str) : Prop :=
  (∀ y ∈ W, y ∈ G.map (·.1)) ∧ ∀ pk, Sol D wn pk → ¬ ∀ p ∈ G, p.1 ∈ W → p ∈ pk
/-- the sources that are kept, and one of what is left, for a pick that agrees with them -/
theorem Stt.left {G : List (Str × Int)} {S R : Srcs} {x : Str} (h : Stt D wn G S) (sub : R.Sublist (askS S x)) (ne : R ≠ []) {pk : List (Str × Int)} (s : Sol D wn pk) (hp : ∀ p ∈ G, (∃ e ∈ R, srcW e.1 = some p.1) → p ∈ pk) : ∃ m, (x, m) ∈ pk ∧ m ∈ leftM (mks D x) (R.map (·.2)) := by
  have one : ∀ e ∈ R, e.2.1 = x ∧ ∃ m, (x, m) ∈ pk ∧ okN e.2 m = true := fun e he => by
    have z := List.mem_filter.mp (sub.subset he)
    have ex : e.2.1 = x := of_decide_eq_true z.2
    obtain ⟨m, h1, h2⟩ := h.meet s z.1 fun p hpG hs => hp p hpG ⟨e, he, hs⟩
    exact ⟨ex, m, by rw [← ex]; exact h1, h2⟩
  cases R with
  | nil => exact absurd rfl ne
  | cons e0 R =>
    obtain ⟨_, m, h1, _⟩ := one e0 (List.mem_cons_self ..)
    refine ⟨m, h1, leftM_mem.mpr ⟨mks_mem.mpr (s.in_ _ h1), fun n hn => ?_⟩⟩
    obtain ⟨e, he, rfl⟩ := List.mem_map.mp hn
    obtain ⟨_, m', h3, h4⟩ := one e he
    rw [pk_one s.nd h1 h3]
    exact h4
end
end Pk

set_option Elab.async false
set_option linter.all false
set_option maxRecDepth 100000
set_option maxHeartbeats 4000000
namespace Pk
open PySem PySem.Spec PyProof.Rows L2
section
variable {D : Str → List (Int × List PyData)} {wn : List N3} {G R : List (Str × Int)} {S : Srcs} {x : Str} {m : Int} {W : List Str}
def MetG (G : List (Str × Int)) (S : Srcs) : Prop := ∀ p ∈ G, ∀ e ∈ S, e.2.1 = p.1 → okN e.2 p.2 = true
theorem wares_of {e : List Key × N3} (he : e ∈ S) : e.2.1 ∈ waresS S := addW_mem.mpr (.inr (List.mem_map.mpr ⟨e, he, rfl⟩))
theorem ask_ne (hx : x ∈ waresS S) : askS S x ≠ [] := by
  rcases addW_mem.mp hx with h | h
  · cases h
  · obtain ⟨e, he, ex⟩ := List.mem_map.mp h
    exact List.ne_nil_of_mem (List.mem_filter.mpr ⟨he, decide_eq_true ex⟩)
theorem out_done (h : Stt D wn G S) (hD : ∀ x m, ∀ d ∈ needsD D x m, ND d) (hn : (waresS S)[G.length]? = none) (met : MetG G S) : PickOut D wn G [] := by
  have hl : (waresS S).length ≤ G.length := List.getElem?_eq_none_iff.mp hn
  have eG : G.map (·.1) = waresS S := by rw [h.take, List.take_of_length_le hl]
  have ag : AgOf (needW D G) (addW [] (wn.map (·.1))) 0 (waresS S) := (h.ag hD h.gnd (fun _ h => h) _).mpr (.done hn)
  have mt : ∀ n, (∃ e ∈ S, e.2 = n) → ∃ m, (n.1, m) ∈ G ∧ okN n m = true := fun n ⟨e, he, hn⟩ => by
    have z := wares_of he
    rw [← eG] at z
    obtain ⟨p, hp, hp2⟩ := List.mem_map.mp z
    subst hn
    exact ⟨p.2, by rw [← hp2]; exact hp, met p hp e he hp2.symm⟩
  refine ⟨?_, ?_, ?_⟩
  · rw [List.append_nil]
    refine ⟨h.gnd, h.in_, ⟨_, ag, fun y hy => by rw [eG]; exact hy⟩, fun out ho y hy => ?_, fun n hn => ?_⟩
    · rw [ho.det ag, ← eG]
      exact hy
    · rcases hn with hn | ⟨p, hp, hn⟩
      · exact mt n (h.has.1 n hn)
      · exact mt n (h.has.2.2 p hp n hn)
  · rw [List.append_nil, eG]
    exact ag
  · intro pk s hG
    rw [List.append_nil]
    exact .inl hG
theorem out_pick (h : Stt D wn G S) (hD : ∀ x m, ∀ d ∈ needsD D x m, ND d) (hx : (waresS S)[G.length]? = some x) {pre post : List Int} (eL : leftM (mks D x) ((askS S x).map (·.2)) = pre ++ m :: post) (mnd : (mks D x).Nodup)
    (hpre : ∀ m0 ∈ pre, ∃ W, NoneOut D wn (G ++ [(x, m0)]) W) (hR : PickOut D wn (G ++ [(x, m)]) R) : PickOut D wn G ((x, m) :: R) := by
  have eF : G ++ (x, m) :: R = (G ++ [(x, m)]) ++ R := by rw [List.append_assoc]; rfl
  have hxm := List.mem_of_getElem? hx
  refine ⟨by rw [eF]; exact hR.1, by rw [eF]; exact hR.2.1, fun pk s hG => ?_⟩
  obtain ⟨m', h1, h2⟩ := h.left (.refl _) (ask_ne hxm) s fun p hp _ => hG p hp
  have hGx : m' = m → ∀ p ∈ G ++ [(x, m)], p ∈ pk := fun e p hp => by
    rcases List.mem_append.mp hp with hp | hp
    · exact hG p hp
    · rw [List.mem_singleton.mp hp, ← e]; exact h1
  rw [eL] at h2
  rcases List.mem_append.mp h2 with h2 | h2
  · obtain ⟨W, _, hW⟩ := hpre m' h2
    refine absurd (fun p hp _ => ?_) (hW pk s)
    rcases List.mem_append.mp hp with hp | hp
    · exact hG p hp
    · rw [List.mem_singleton.mp hp]; exact h1
  · rcases List.mem_cons.mp h2 with e | h2
    · rcases hR.2.2 pk s (hGx e) with z | z
      · rw [eF]
        exact .inl z
      · rw [eF]
        exact .inr z
    · refine .inr ⟨G, x, m, R, m', rfl, hG, h1, ?_⟩
      have sub : (leftM (mks D x) ((askS S x).map (·.2))).Sublist (mks D x) := List.filter_sublist
      have p1 := List.Pairwise.sublist sub (mks_desc D x)
      have p2 := sub.nodup mnd
      rw [eL] at p1 p2
      have q1 := (List.pairwise_cons.mp (List.pairwise_append.mp p1).2.1).1 m' h2
      have q2 := (List.nodup_cons.mp (List.nodup_append.mp p2).2.1).1
      have q3 : m' ≠ m := fun z => q2 (z ▸ h2)
      omega
theorem out_early (hN : NoneOut D wn (G ++ [(x, m)]) W) (hx : x ∉ W) : NoneOut D wn G W := by
  refine ⟨fun y hy => ?_, fun pk s ha => hN.2 pk s fun p hp hw => ?_⟩
  · have z := hN.1 y hy
    rw [List.map_append] at z
    rcases List.mem_append.mp z with z | z
    · exact z
    · rw [List.mem_singleton.mp z] at hy
      exact absurd hy hx
  · rcases List.mem_append.mp hp with hp | hp
    · exact ha p hp hw
    · rw [List.mem_singleton.mp hp] at hw
      exact absurd hw hx
theorem out_none {RS : Srcs} {W0 W' : List Str} (h : Stt D wn G S) (sub : RS.Sublist (askS S x)) (ne : RS ≠ []) (eL : leftM (mks D x) (RS.map (·.2)) = leftM (mks D x) ((askS S x).map (·.2)))
    (hxG : leftM (mks D x) ((askS S x).map (·.2)) = [] ∨ x ∉ G.map (·.1)) (all : ∀ m0 ∈ leftM (mks D x) ((askS S x).map (·.2)), ∃ W, NoneOut D wn (G ++ [(x, m0)]) W ∧ ∀ y ∈ W, y ∈ W0)
    (h0 : ∀ y ∈ W0, y ∈ G.map (·.1) ∨ y = x) (hW : ∀ y, y ∈ W' ↔ (y ∈ W0 ∧ y ≠ x) ∨ ∃ e ∈ RS, srcW e.1 = some y) : NoneOut D wn G W' := by
  refine ⟨fun y hy => ?_, fun pk s ha => ?_⟩
  · rcases (hW y).mp hy with ⟨h1, h2⟩ | ⟨e, he, hs⟩
    · exact (h0 y h1).resolve_right h2
    · rcases h.src e (List.mem_filter.mp (sub.subset he)).1 with ⟨i, h1, _⟩ | ⟨p, hp, h1, _⟩ | ⟨p, hp, i, _, h1, _⟩
      · rw [h1] at hs; cases hs
      · rw [h1] at hs
        cases hs
        exact List.mem_map.mpr ⟨p, hp, rfl⟩
      · rw [h1] at hs
        cases hs
        exact List.mem_map.mpr ⟨p, hp, rfl⟩
  · obtain ⟨m, h1, h2⟩ := h.left sub ne s fun p hp ⟨e, he, hs⟩ => ha p hp ((hW p.1).mpr (.inr ⟨e, he, hs⟩))
    rw [eL] at h2
    obtain ⟨W, hN, hW0⟩ := all m h2
    refine hN.2 pk s fun p hp hw => ?_
    rcases List.mem_append.mp hp with hp | hp
    · refine ha p hp ((hW p.1).mpr (.inl ⟨hW0 _ hw, fun z => ?_⟩))
      rcases hxG with hxG | hxG
      · rw [hxG] at h2; cases h2
      · exact hxG (z ▸ List.mem_map.mpr ⟨p, hp, rfl⟩)
    · rw [List.mem_singleton.mp hp]; exact h1
/-- what was met, and what the last grant has added -/
theorem met_of (h : Stt D wn G S) {added : List N3} (pend : ∀ p ∈ G, ∀ e ∈ S, e.2.1 = p.1 → okN e.2 p.2 = true ∨ ∃ n ∈ added, n.1 = p.1) (chk : ∀ n ∈ added, leftM (mks D n.1) ((askS S n.1).map (·.2)) ≠ []) : MetG G S := by
  intro p hp e he ep
  rcases pend p hp e he ep with z | ⟨n, hn, en⟩
  · exact z
  · have c := chk n hn
    rw [en] at c
    obtain ⟨m, hm⟩ := List.exists_mem_of_ne_nil _ c
    have hm := (leftM_mem.mp hm).2
    obtain ⟨e2, he2, ee⟩ := h.has.2.1 p hp
    have ok : ∀ e ∈ S, e.2.1 = p.1 → okN e.2 m = true := fun e he ep => hm e.2 (List.mem_map.mpr ⟨e, List.mem_filter.mpr ⟨he, decide_eq_true ep⟩, rfl⟩)
    have z := ok e2 he2 (by rw [ee])
    rw [ee] at z
    unfold okN at z
    rw [Bool.and_eq_true] at z
    have z1 := of_decide_eq_true z.1
    have z2 := of_decide_eq_true z.2
    dsimp only at z1 z2
    have em : m = p.2 := by omega
    rw [← em]
    exact ok e he ep
theorem pend_step (h : Stt D wn G S) (met : MetG G S) (hx : (waresS S)[G.length]? = some x) (hm : m ∈ leftM (mks D x) ((askS S x).map (·.2))) :
    ∀ p ∈ G ++ [(x, m)], ∀ e ∈ grantS S x m (ndN D x m), e.2.1 = p.1 → okN e.2 p.2 = true ∨ ∃ n ∈ ndN D x m, n.1 = p.1 := by
  intro p hp e he ep
  rcases List.mem_append.mp he with he | he
  · rcases List.mem_append.mp he with he | he
    · left
      rcases List.mem_append.mp hp with hp | hp
      · exact met p hp e he ep
      · rw [List.mem_singleton.mp hp] at ep ⊢
        exact (leftM_mem.mp hm).2 e.2 (List.mem_map.mpr ⟨e, List.mem_filter.mpr ⟨he, decide_eq_true ep⟩, rfl⟩)
    · have e1 := List.mem_singleton.mp he
      subst e1
      rcases List.mem_append.mp hp with hp | hp
      · exact absurd (show x ∈ G.map (·.1) from List.mem_map.mpr ⟨p, hp, ep.symm⟩) (h.next hx)
      · rw [List.mem_singleton.mp hp]
        left
        unfold okN
        rw [decide_eq_true (Int.le_refl _)]
        rfl
  · right
    obtain ⟨q, hq, rfl⟩ := List.mem_map.mp he
    exact ⟨q.1, (zip_lt hq).2, ep⟩
end
end Pk

set_option Elab.async false
set_option linter.all false
set_option maxRecDepth 100000
set_option maxHeartbeats 4000000
namespace Pk
open PySem PySem.Spec PyProof.Rows L2
/-! ### settling, what is asked and told -/
def d3 (n : N3) : PyData := .tuple [.str n.1, .int n.2.1, .int n.2.2]
theorem d3_n3 {d : PyData} (h : ND d) : d3 (n3 d) = d := by
  obtain ⟨y, i, j, rfl, _⟩ := h
  rfl
/-- what is asked of the shop and the wish -/
structure SetOk (D : Str → List (Int × List PyData)) (wn : List N3) (ws : List Str) : Prop where
  hD : GoodSh D
  mnd : ∀ x, ((D x).map (·.1)).Nodup
  ww : ∀ x, D x ≠ [] → x ∈ ws
  gw : ∀ x ∈ ws, GoodN x
  wl : ws.length ≤ 60
  wnd : ws.Nodup
  hw : ∀ n ∈ wn, ND (d3 n)
  wnl : wn.length ≤ 8
section
variable {D : Str → List (Int × List PyData)} {wn : List N3} {ws : List Str}
theorem SetOk.needs (o : SetOk D wn ws) (x : Str) (m : Int) : (ndN D x m).length ≤ 6 ∧ (∀ n ∈ ndN D x m, ND (d3 n)) ∧ ∀ d ∈ needsD D x m, ND d := by
  have z := needsD_good o.hD x m
  unfold ndN
  rw [List.length_map]
  refine ⟨z.1, fun n hn => ?_, z.2⟩
  obtain ⟨d, hd, rfl⟩ := List.mem_map.mp hn
  rw [d3_n3 (z.2 d hd)]
  exact z.2 d hd
theorem nd_good {n : N3} (h : ND (d3 n)) : GoodN n.1 := by
  obtain ⟨y, i, j, e, g, _⟩ := h
  cases n with
  | mk a b =>
    unfold d3 at e
    injection e with e
    injection e with e1 e2
    injection e1 with e1
    rw [← e1] at g
    exact g
theorem SetOk.in_ws (o : SetOk D wn ws) {x : Str} {m : Int} (h : m ∈ (D x).map (·.1)) : x ∈ ws := o.ww x fun z => by rw [z] at h; cases h
theorem SetOk.makes (o : SetOk D wn ws) {x : Str} : ∀ m ∈ mks D x, 1 ≤ m ∧ m ≤ 999 := fun m hm => makeI (o.hD.make (mks_mem.mp hm))
theorem SetOk.src (o : SetOk D wn ws) {G : List (Str × Int)} {S : Srcs} (h : Stt D wn G S) : ∀ e ∈ S, ND (d3 e.2) ∧ KShape e.1 ∧ ∀ w, srcW e.1 = some w → GoodN w := by
  intro e he
  rcases h.src e he with ⟨i, h1, _, h2⟩ | ⟨p, hp, h1, h2⟩ | ⟨p, hp, i, _, h1, h2⟩
  · refine ⟨o.hw _ h2, .inl ⟨i, h1⟩, fun w hw => by rw [h1] at hw; cases hw⟩
  · have hm := h.in_ p hp
    have mm := o.hD.make hm
    refine ⟨?_, .inr (.inl ⟨_, _, h1⟩), fun w hw => ?_⟩
    · rw [h2]
      exact ⟨p.1, p.2, p.2, rfl, o.gw _ (o.in_ws hm), mm, mm, Int.le_refl _⟩
    · rw [h1] at hw
      cases hw
      exact o.gw _ (o.in_ws hm)
  · have hm := h.in_ p hp
    refine ⟨(o.needs _ _).2.1 _ h2, .inr (.inr ⟨_, _, _, h1⟩), fun w hw => ?_⟩
    rw [h1] at hw
    cases hw
    exact o.gw _ (o.in_ws hm)
theorem SetOk.glen (o : SetOk D wn ws) {G : List (Str × Int)} {S : Srcs} (h : Stt D wn G S) : G.length ≤ ws.length := by
  have z := sub_len (U := ws) h.gnd fun y hy => by
    obtain ⟨p, hp, rfl⟩ := List.mem_map.mp hy
    exact o.in_ws (h.in_ p hp)
  rwa [List.length_map] at z
theorem SetOk.good (o : SetOk D wn ws) {G : List (Str × Int)} {S : Srcs} (h : Stt D wn G S) : SrcG S ∧ S.length ≤ 500 := by
  have l := h.len fun x m => (o.needs x m).1
  have l1 := o.glen h
  have l2 := o.wl
  have l3 := o.wnl
  exact ⟨⟨h.nd, fun e he => shape_good (o.src h e he).2.1 (o.src h e he).2.2, fun e he => nd_good (o.src h e he).1, by omega⟩, by omega⟩
theorem shv_row {K : PySem.W.Frag} {H : Hp} {r : Addr} (h : ShvAt K H r D ws) (nd : ws.Nodup) (x : Str) : (x ∉ ws ∧ DGet H r (.str x) none) ∨ ∃ d, DGet H r (.str x) (some (.ref d)) ∧ ShelfR K H D x d := by
  obtain ⟨kvs, er, hr⟩ := h
  have g := DGet.k (k := (.inr x : Key)) er
  have key : ∀ {kvs : List (Key × V)} {ws : List Str}, Paired (RowR K H D r) kvs ws → (x ∉ ws ∧ valV kvs (.inr x : Key) = none) ∨ ∃ d, valV kvs (.inr x : Key) = some (.ref d) ∧ ShelfR K H D x d := by
    intro kvs ws hr
    induction hr with
    | nil => exact .inl ⟨List.not_mem_nil, rfl⟩
    | @cons p q ps qs hp ht ih =>
      obtain ⟨h1, d, h2, _, h3⟩ := hp
      by_cases e : q = x
      · subst e
        exact .inr ⟨d, by rw [valV_pos h1, h2], h3⟩
      · rcases ih with ⟨z1, z2⟩ | ⟨d', z1, z2⟩
        · exact .inl ⟨fun z => (List.mem_cons.mp z).elim (fun z => e z.symm) z1, by rw [valV_neg (fun z => e (by rw [h1] at z; exact Sum.inr.inj z))]; exact z2⟩
        · exact .inr ⟨d', by rw [valV_neg (fun z => e (by rw [h1] at z; exact Sum.inr.inj z))]; exact z1, z2⟩
  rcases key hr with ⟨z1, z2⟩ | ⟨d, z1, z2⟩
  · exact .inl ⟨z1, by rw [z2] at g; exact g⟩
  · exact .inr ⟨d, by rw [z1] at g; exact g, z2⟩
theorem ent_keys {K : PySem.W.Frag} {H : Hp} {x : Str} : ∀ {kvs : List (Key × V)} {l : List Int}, Paired (EntR K H D x) kvs l → kvs.map (·.1) = l.map (Sum.inl : Int → Key)
  | _, _, .nil => rfl
  | _, _, .cons hp ht => by rw [List.map_cons, List.map_cons, hp.1, ent_keys ht]
theorem shv_shg {K : PySem.W.Frag} {H : Hp} {r : Addr} (o : SetOk D wn ws) (h : ShvAt K H r D ws) (x : Str) : ShG H r x (mks D x) := by
  have hd : IsD H r := by obtain ⟨kvs, er, _⟩ := h; exact .inl ⟨_, .inl er⟩
  refine ⟨hd, by rw [mks_len]; have := o.hD.len x; omega, ?_⟩
  rcases shv_row h o.wnd x with ⟨h1, h2⟩ | ⟨d, h1, kvs, h2, h3⟩
  · refine .inl ⟨h2, ?_⟩
    have e : D x = [] := Classical.byContradiction fun z => h1 (o.ww x z)
    have l := mks_len D x
    rw [e] at l
    exact List.eq_nil_of_length_eq_zero l
  · exact .inr ⟨d, kvs, h1, ent_keys h3, .inl h2⟩
theorem shv_needs {K : PySem.W.Frag} {H : Hp} {r : Addr} (o : SetOk D wn ws) (h : ShvAt K H r D ws) {x : Str} {m : Int} (hm : m ∈ mks D x) : NeedsG K H r x m (ndN D x m) := by
  rcases shv_row h o.wnd x with ⟨h1, h2⟩ | ⟨d, h1, kvs, h2, h3⟩
  · exact absurd (o.in_ws (mks_mem.mp hm)) h1
  · have key : ∀ {kvs : List (Key × V)} {l : List Int}, Paired (EntR K H D x) kvs l → m ∈ l → ∃ l' us, valV kvs (.inl m : Key) = some (.ref l') ∧ SqL K H l' us ∧ Paired (NdV K H) us (ndN D x m) := by
      intro kvs l h
      induction h with
      | nil => exact fun z => by cases z
      | @cons p q ps qs hp ht ih =>
        intro hm
        obtain ⟨e1, l', us, e2, e3, e4⟩ := hp
        by_cases e : q = m
        · subst e
          exact ⟨l', us, by rw [valV_pos e1, e2], e3, e4⟩
        · obtain ⟨l2, us2, z1, z2⟩ := ih ((List.mem_cons.mp hm).resolve_left fun z => e z.symm)
          exact ⟨l2, us2, by rw [valV_neg (fun z => e (by rw [e1] at z; exact Sum.inl.inj z))]; exact z1, z2⟩
    obtain ⟨l', us, z1, z2, z3⟩ := key h3 hm
    have g := DGet.k (k := (.inl m : Key)) h2
    rw [z1] at g
    exact ⟨d, l', us, h1, g, z2, z3⟩
end
def PrV (K : PySem.W.Frag) (H : Hp) (v : V) (p : Str × Int) : Prop := ∃ b, v = .ref b ∧ SqT K H b [.str p.1, .int p.2]
theorem PrV.kp {K : PySem.W.Frag} {T : Addr} {H H' : Hp} (k : Kp T H H') {v : V} {p : Str × Int} (h : PrV K H v p) : PrV K H' v p := by
  obtain ⟨b, e, h⟩ := h
  exact ⟨b, e, k.sqt h⟩
structure SD where
  D : Str → List (Int × List PyData)
  wn : List N3
  ws : List Str
def spTell (K : PySem.W.Frag) (T : Addr) (o : SD) (G : List (Str × Int)) (H : Hp) (Q : VK) : Prop :=
  (∀ t pp ag vs aus R H', Kp T H H' → H t = none → H' t = some (.tup [.str "pick", .ref pp, .ref ag]) → H' pp = some (.lst vs) → Paired (PrV K H') vs R → H' ag = some (.lst aus) → aus.length ≤ R.length → PickOut o.D o.wn G R → Q (.ref t) H') ∧
  ∀ t rv wd W H', Kp T H H' → H t = none → H' t = some (.tup [.str "none", rv, .ref wd]) → H wd = none → H' wd = some (.dK (W.map lK)) → W.Nodup → NoneOut o.D o.wn G W → Q (.ref t) H'
def spSettled (K : PySem.W.Frag) (T : Addr) (o : SD) : Nat → Sp
  | 0 => fun _ _ _ _ => False
  | k + 1 => fun vs H Q _ => ∃ (r a q : Addr) (us : List V) (added : List N3) (G : List (Str × Int)) (S : Srcs), vs = [.ref r, .ref a, .ref q, .int (G.length : Nat)] ∧ ShvAt K H r o.D o.ws ∧ SrcAt K H a S ∧ Stt o.D o.wn G S ∧ SqL K H q us ∧ Paired (NdV K H) us added ∧ (∀ n ∈ added, ∃ e ∈ S, e.2 = n) ∧
    (∀ p ∈ G, ∀ e ∈ S, e.2.1 = p.1 → okN e.2 p.2 = true ∨ ∃ n ∈ added, n.1 = p.1) ∧ o.ws.length ≤ G.length + k ∧ GxR.TabG H T ∧ spTell K T o G H Q
def spTried (K : PySem.W.Frag) (T : Addr) (o : SD) (k : Nat) : Sp := fun vs H Q _ => ∃ (r a : Addr) (x : Str) (G : List (Str × Int)) (S : Srcs), vs = [.ref r, .ref a, .str x, .int (G.length : Nat)] ∧ ShvAt K H r o.D o.ws ∧ SrcAt K H a S ∧ Stt o.D o.wn G S ∧ (waresS S)[G.length]? = some x ∧ MetG G S ∧ o.ws.length ≤ G.length + k ∧ GxR.TabG H T ∧ spTell K T o G H Q
theorem ndv_d3 {K : PySem.W.Frag} {H : Hp} {l : Addr} {ws : List V} (e : H l = some (.lst ws)) {v : V} {n : N3} (h : NdV K H v n) : Dp K (hide [l] H) v (d3 n) := by
  obtain ⟨b, rfl, h⟩ := h
  have nb : ∀ {o : HO}, H b = some o → (∀ us, o ≠ .lst us) → hide [l] H b = some o := fun {o} h2 h3 => hide_of h2 fun z => by
    rw [List.mem_singleton.mp z, e] at h2
    exact h3 _ (Option.some.inj h2).symm
  have h2 : SqT K (hide [l] H) b [.str n.1, .int n.2.1, .int n.2.2] := by
    rcases h with (h | ⟨o, h⟩) | h
    · exact .inl (.inl (nb h fun _ z => by cases z))
    · exact .inl (.inr ⟨o, nb h fun _ z => by cases z⟩)
    · exact .inr h
  exact .tup h2 (.cons (.str _) (.cons (.int _) (.cons (.int _) .nil)))
theorem ndv_d3s {K : PySem.W.Frag} {H : Hp} {l : Addr} {ws : List V} (e : H l = some (.lst ws)) : ∀ {vs : List V} {ns : List N3}, Paired (NdV K H) vs ns → DpAll K (hide [l] H) vs (ns.map d3)
  | _, _, .nil => .nil
  | _, _, .cons hp ht => .cons (ndv_d3 e hp) (ndv_d3s e ht)
theorem d3_wares (S : Srcs) : ((S.map (·.2)).map d3).map wOf = S.map (·.2.1) := by
  rw [List.map_map, List.map_map]
  rfl
section
variable {P : Program} {w : World} {K : PySem.W.Frag} {mg : Str → Option Value} {base : Heap}
def settledN : List Str := ["shelves", "sources", "added", "at", "need", "asked", "wares"]
theorem scSettled : FnScope settledN ["shelves", "sources", "added", "at"] (defScope sSettled) := ⟨rfl, rfl, rfl, by decide +kernel, rfl, by decide +kernel, by decide +kernel⟩
theorem ok_settled {f fA fL fN fW fT T : Addr} {fd fdA fdL fdN fdW fdT : FuncData} {o : SD} {k : Nat} (ok : SetOk o.D o.wn o.ws) (F : Fun K "_settled" "_settled" sSettled f fd)
    (GA : FnOk P w K mg base CX0 1 fA fdA ["sources", "ware"] (spAsked K T)) (kA : PySem.W.keepIn K (.ref fA) = true) (bA : Binds K fdA ["sources", "ware"] []) (gA : mg "_asked_of" = some (.ref fA))
    (GL : FnOk P w K mg base CX0 2 fL fdL ["shelves", "ware", "needs"] (spLeft K T)) (kL : PySem.W.keepIn K (.ref fL) = true) (bL : Binds K fdL ["shelves", "ware", "needs"] []) (gL : mg "makes_left" = some (.ref fL))
    (GN : FnOk P w K mg base CX0 4 fN fdN ["shelves", "asked", "ware", "reasons", "leant"] (spNone K T)) (kN : PySem.W.keepIn K (.ref fN) = true) (bN : Binds K fdN ["shelves", "asked", "ware", "reasons", "leant"] []) (gN : mg "_none" = some (.ref fN))
    (GW : FnOk P w K mg base CX0 1 fW fdW ["wares", "needs"] (spAddW K T)) (kW : PySem.W.keepIn K (.ref fW) = true) (bW : Binds K fdW ["wares", "needs"] []) (gW : mg "add_wares" = some (.ref fW))
    (GT : FnOk P w K mg base CX0 (5 + 2 * k + 1) fT fdT ["shelves", "sources", "ware", "at"] (spTried K T o k)) (kT : PySem.W.keepIn K (.ref fT) = true) (bT : Binds K fdT ["shelves", "sources", "ware", "at"] []) (gT : mg "_tried" = some (.ref fT))
    (y_list : mg "list" = none) (y_len : mg "len" = none) : FnOk P w K mg base CX0 (6 + 2 * k + 1) f fd ["shelves", "sources", "added", "at"] (spSettled K T o (k + 1)) := by
  refine F.ok scSettled (fun vs H Q E h => ?_) (fun cdv A0 outer s H vs Q E hr h => ?_)
  · obtain ⟨r, a, q, us, added, G, S, rfl, _⟩ := h
    rfl
  · obtain ⟨r, a, q, us, added, G, S, rfl, hshv, hS, st, hq, hus, hadd, pend, hk, ht, tell⟩ := h
    have hu := hu_of hr
    obtain ⟨g, l500⟩ := ok.good st
    have lus := paired_len hus
    refine ⟨_, (pss_cons (ps_for PassesOwn.never rfl (pi_list (pv 2)) (pg_name (i := 4) scSettled.nd rfl (by first | exact .inl rfl | exact .inr rfl)) (pss_cons (ps_set (i := 5) scSettled.nd rfl (by first | exact .inl rfl | exact .inr rfl) (pe_call GA (hr.mono (by omega)) (by rfl) gA kA bA .nil pass0 (pa_cons (pv 1) (pa_cons (pe_ix ix_tup (pv 4) pe_int (fun _ _ => rfl)) pa_nil))))
      (pss_one (ps_if (pt_not (pt_truth (pe_call GL (hr.mono (by omega)) (by rfl) gL kL bL .nil pass0 (pa_cons (pv 0) (pa_cons (pe_ix ix_tup (pv 4) pe_int (fun _ _ => rfl)) (pa_cons (pe_callTy (call_list_valsT rfl) (by rfl) y_list boot_list (pa_cons (pe_bm0 PySem.F.plainAttrs_dict PySem.F.slot_dict_values PySem.F.type_dict_values mtd_valsT (pv 5)) pa_nil)) pa_nil)))) (by intro _; rfl))) (pss_one (ps_ret (pe_call GN (hr.mono (by omega)) (by rfl) gN kN bN .nil pass0 (pa_cons (pv 0) (pa_cons (pv 5) (pa_cons (pe_ix ix_tup (pv 4) pe_int (fun _ _ => rfl)) (pa_cons pe_dnewK (pa_cons pe_dnewK pa_nil)))))))) pss_nil))))
      (pss_cons (ps_set (i := 6) scSettled.nd rfl (by first | exact .inl rfl | exact .inr rfl) (pe_lst pa_nil))
      (pss_cons (ps_expr (pe_call GW (hr.mono (by omega)) (by rfl) gW kW bW .nil pass0 (pa_cons (pv 6) (pa_cons (pe_callTy (call_list_valsT rfl) (by rfl) y_list boot_list (pa_cons (pe_bm0 PySem.F.plainAttrs_dict PySem.F.slot_dict_values PySem.F.type_dict_values mtd_valsT (pv 1)) pa_nil)) pa_nil))))
      (pss_cons (ps_if (pt_cmpR op_eq (pv 3) (pe_callB call_len_seq (by rfl) y_len PySem.boot_len (pa_cons (pv 6) pa_nil)) (nomark _)) (pss_one (ps_ret (pe_tup (pa_cons pe_str (pa_cons (pe_lst pa_nil) (pa_cons (pe_lst pa_nil) pa_nil)))))) pss_nil)
      (pss_one (ps_ret (pe_call GT (hr.mono (by omega)) (by rfl) gT kT bT .nil pass0 (pa_cons (pv 0) (pa_cons (pv 1) (pa_cons (pe_ix ix_list (pv 6) (pv 3) (fun _ _ => rfl)) (pa_cons (pv 3) pa_nil))))))))))), ?_⟩
    refine ⟨_, rfl, q, rfl, ⟨_, hq⟩, for_list (K := K) (a := q) (xs := us) (fun i σ' H' => ∃ x4 x5 : Option V, σ' = [some (.ref r), some (.ref a), some (.ref q), some (.int (G.length : Nat)), x4, x5, none] ∧ Kp T H H' ∧ ∀ n ∈ added.take i, leftM (mks o.D n.1) ((askS S n.1).map (·.2)) ≠ [])
      ⟨none, none, rfl, .refl ht, fun n hn => by cases hn⟩ (fun i σ' H' _ ⟨_, _, _, kk, _⟩ => kk.seq hq) ?_ ?_⟩
    · rintro i v σ' H1 hi ⟨x4, x5, rfl, kk, chk⟩
      have hil : i < added.length := by have z := (List.getElem?_eq_some_iff.mp hi).1; omega
      have ei := List.getElem?_eq_getElem hil
      have eti := take_succ_get ei
      obtain ⟨v', ev', b, rfl, hb⟩ := paired_get hus ei
      rw [hi] at ev'
      cases ev'
      have em : added[i] ∈ added := List.getElem_mem hil
      generalize added[i] = n at hb em eti ei
      obtain ⟨e0, he0, en0⟩ := hadd n em
      have gn : GoodN n.1 := by rw [← en0]; exact nd_good (ok.src st e0 he0).1
      have hb1 := kk.sqt hb
      have j0 : atI [V.str n.1, .int n.2.1, .int n.2.2] 0 = some (.str n.1) := at_gen (j := 0) rfl rfl
      refine ⟨_, rfl, _, rfl, b, _, 0, _, rfl, rfl, hb1, j0, a, n.1, S, rfl, hS.kp kk, g.nd, g.gw, gn, g.len, kk.tab, fun p H2 k2 np hask => ?_⟩
      have kk2 := kk.trans k2
      have hb2 := kk2.sqt hb
      have gask : SrcG (askS S n.1) := g.sub List.filter_sublist
      obtain ⟨kvs, ep, hkv⟩ := hask
      refine ⟨_, rfl, _, rfl, b, _, 0, _, rfl, rfl, hb2, j0, _, rfl, .inr (.inr (.inl ⟨rfl, .inr ⟨_, ep⟩⟩)), p, kvs, rfl, rfl, ep, fun pv npv => ?_⟩
      have k3 := Kp.new (o := valsO pv p) kk2.tab npv
      have epv : upd H2 pv (valsO pv p) pv = some (valsO pv p) := upd_same
      have kk3 := kk2.trans k3
      have ep3 := k3.keep _ _ (tab_ne kk2.tab ep fun _ z => by cases z) ep
      have hkv3 := paired_mono (fun _ _ z => SrcR.kp k3 z) hkv
      generalize upd H2 pv (valsO pv p) = H3 at k3 epv kk3 ep3 hkv3 ⊢
      refine ⟨pv, p, kvs, rfl, epv, ep3, fun pl npl => ?_⟩
      have k4 := Kp.new (o := HO.lst (kvs.map Prod.snd)) kk3.tab npl
      have epl : upd H3 pl (.lst (kvs.map Prod.snd)) pl = some (.lst (kvs.map Prod.snd)) := upd_same
      have kk4 := kk3.trans k4
      have ep4 := k4.keep _ _ (tab_ne kk3.tab ep3 fun _ z => by cases z) ep3
      have hkv4 := paired_mono (fun _ _ z => SrcR.kp k4 z) hkv3
      generalize upd H3 pl (.lst (kvs.map Prod.snd)) = H4 at k4 epl kk4 ep4 hkv4 ⊢
      refine ⟨r, pl, n.1, mks o.D n.1, _, _, rfl, shv_shg ok (hshv.kp kk4) n.1, ok.makes, .inl (.inl epl), src_vals hkv4, kk4.tab, fun pm H5 k5 npm epm => ?_⟩
      have kk5 := kk4.trans k5
      refine ⟨_, .inl ⟨_, .inl (.inl epm), rfl⟩, ?_⟩
      cases hL : leftM (mks o.D n.1) ((askS S n.1).map (·.2)) with
      | cons m ms =>
        refine iteF ⟨_, _, rfl, kk5, fun n' hn' => ?_⟩
        rw [eti] at hn'
        rcases List.mem_append.mp hn' with hn' | hn'
        · exact chk n' hn'
        · rw [List.mem_singleton.mp hn', hL]
          exact List.cons_ne_nil _ _
      | nil =>
        refine iteT ?_
        have hb5 := kk5.sqt hb
        refine ⟨_, rfl, _, rfl, _, rfl, b, _, 0, _, rfl, rfl, hb5, j0, fun d1 nd1 => ?_⟩
        have k6 := Kp.new (o := HO.dK []) kk5.tab nd1
        have ed1 : upd H5 d1 (.dK []) d1 = some (.dK []) := upd_same
        have kk6 := kk5.trans k6
        generalize upd H5 d1 (.dK []) = H6 at k6 ed1 kk6 ⊢
        intro d2 nd2
        have k7 := Kp.new (o := HO.dK []) kk6.tab nd2
        have ed2 : upd H6 d2 (.dK []) d2 = some (.dK []) := upd_same
        have kk7 := kk6.trans k7
        have ed17 := dk_kp k7 ed1
        generalize upd H6 d2 (.dK []) = H7 at k7 ed2 kk7 ed17 ⊢
        have k47 := k5.trans (k6.trans k7)
        refine ⟨r, p, d1, d2, n.1, mks o.D n.1, askS S n.1, [], [], rfl, ⟨kvs, k47.keep _ _ (tab_ne kk4.tab ep4 fun _ z => by cases z) ep4, paired_mono (fun _ _ z => SrcR.kp k47 z) hkv4⟩, gask, fun e he => (ok.src st e (List.mem_filter.mp he).1).2.1, shv_shg ok (hshv.kp kk7) n.1, ok.makes, ed17, Nat.zero_le _, ed2, List.nodup_nil, Nat.zero_le _, (fun y hy => by cases hy), gn, kk7.tab, fun t rv wd R H8 k8 nt et nwd ewd sub ne eL => ?_⟩
        refine tell.2 t rv wd _ H8 (kk7.trans k8) (kk7.free nt) et (kk7.free nwd) ewd (addW_nodup List.nodup_nil _) ?_
        have ane : askS S n.1 ≠ [] := ask_ne (by rw [← en0]; exact wares_of he0)
        refine out_none (W0 := []) st sub (ne ane) eL (.inl hL) (fun m0 hm0 => by rw [hL] at hm0; cases hm0) (fun y hy => by cases hy) fun y => ?_
        rw [addW_mem]
        constructor
        · rintro (h | h)
          · cases h
          · obtain ⟨e, he, hs⟩ := List.mem_filterMap.mp h
            exact .inr ⟨e, he, hs⟩
        · rintro (⟨h, _⟩ | ⟨e, he, hs⟩)
          · cases h
          · exact .inr (List.mem_filterMap.mpr ⟨e, he, hs⟩)
    · rintro σ' H1 ⟨x4, x5, rfl, kk, chk⟩
      rw [lus, List.take_length] at chk
      have met := met_of st pend chk
      refine ⟨(by show (0 : Nat) ≤ sizeLine; decide), fun wl nwl => ?_⟩
      have k2 := Kp.new (o := HO.lst []) kk.tab nwl
      have ewl : upd H1 wl (.lst []) wl = some (.lst ([] : List V)) := upd_same
      have wlT := tab_nn kk.tab nwl
      have kk2 := kk.trans k2
      generalize upd H1 wl (.lst []) = H2 at k2 ewl kk2 ⊢
      obtain ⟨kvs, ea, hkv⟩ := hS.kp kk2
      refine ⟨_, rfl, _, rfl, .inr (.inr (.inl ⟨rfl, .inr ⟨_, ea⟩⟩)), a, kvs, rfl, rfl, ea, fun pv npv => ?_⟩
      have k3 := Kp.new (o := valsO pv a) kk2.tab npv
      have epv : upd H2 pv (valsO pv a) pv = some (valsO pv a) := upd_same
      have kk3 := kk2.trans k3
      have ea3 := k3.keep _ _ (tab_ne kk2.tab ea fun _ z => by cases z) ea
      have hkv3 := paired_mono (fun _ _ z => SrcR.kp k3 z) hkv
      have ewl3 := k3.lst ewl
      generalize upd H2 pv (valsO pv a) = H3 at k3 epv kk3 ea3 hkv3 ewl3 ⊢
      refine ⟨pv, a, kvs, rfl, epv, ea3, fun pl npl => ?_⟩
      have k4 := Kp.new (o := HO.lst (kvs.map Prod.snd)) kk3.tab npl
      have epl : upd H3 pl (.lst (kvs.map Prod.snd)) pl = some (.lst (kvs.map Prod.snd)) := upd_same
      have hkv4 := paired_mono (fun _ _ z => SrcR.kp k4 z) hkv3
      have ewl4 := k4.lst ewl3
      have pw : pl ≠ wl := fun z => by rw [z, ewl3] at npl; cases npl
      have k14 := k2.trans (k3.trans k4)
      generalize upd H3 pl (.lst (kvs.map Prod.snd)) = H4 at k4 epl hkv4 ewl4 k14 ⊢
      have lS := (ok.good st).2
      refine ⟨wl, pl, [], _, (S.map (·.2)).map d3, rfl, ewl4, .inl (.inl (hide_of epl fun z => pw (List.mem_singleton.mp z))), ndv_d3s ewl4 (src_vals hkv4), fun d hd => ?_, by rw [List.length_map, List.length_map]; simp; omega, k14.tab, fun H5 k5 ewl5 => ?_⟩
      · obtain ⟨n, hn, rfl⟩ := List.mem_map.mp hd
        obtain ⟨e, he, rfl⟩ := List.mem_map.mp hn
        exact (ok.src st e he).1
      rw [d3_wares] at ewl5
      have ewl5 : H5 wl = some (.lst ((waresS S).map V.str)) := ewl5
      have k15 : Kp T H1 H5 := Kx.dropNew nwl k14 k5
      have kk5 := kk.trans k15
      have hle : G.length ≤ (waresS S).length := by
        have z := congrArg List.length st.take
        rw [List.length_map, List.length_take] at z
        omega
      refine ⟨_, rfl, _, rfl, wl, _, rfl, .inl (.inl (.inl ewl5)), rfl, _, rfl, iteD (fun c => ?_) (fun c => ?_)⟩
      · refine ⟨(by show (0 : Nat) ≤ sizeLine; decide), fun p1 np1 => ?_⟩
        have k6 := Kp.new (o := HO.lst []) kk5.tab np1
        have ep1 : upd H5 p1 (.lst []) p1 = some (.lst ([] : List V)) := upd_same
        have kk6 := kk5.trans k6
        generalize upd H5 p1 (.lst []) = H6 at k6 ep1 kk6 ⊢
        refine ⟨(by show (0 : Nat) ≤ sizeLine; decide), fun p2 np2 => ?_⟩
        have k7 := Kp.new (o := HO.lst []) kk6.tab np2
        have ep2 : upd H6 p2 (.lst []) p2 = some (.lst ([] : List V)) := upd_same
        have kk7 := kk6.trans k7
        have ep17 := k7.lst ep1
        generalize upd H6 p2 (.lst []) = H7 at k7 ep2 kk7 ep17 ⊢
        refine ⟨(by show (3 : Nat) ≤ sizeLine; decide), fun t nt => ?_⟩
        have k8 := Kp.new (o := HO.tup [.str "pick", .ref p1, .ref p2]) kk7.tab nt
        refine tell.1 t p1 p2 [] [] [] _ (kk7.trans k8) (kk7.free nt) upd_same (k8.lst ep17) .nil (k8.lst ep2) (Nat.le_refl _) (out_done st (fun x m => (ok.needs x m).2.2) ?_ met)
        rw [List.length_map] at c
        have c := V.int.inj c
        exact List.getElem?_eq_none_iff.mpr (by omega)
      · rw [List.length_map] at c
        have hlt : G.length < (waresS S).length := by
          rcases Nat.lt_or_ge G.length (waresS S).length with z | z
          · exact z
          · exact absurd (by rw [show G.length = (waresS S).length by omega]) c
        have hx := List.getElem?_eq_getElem hlt
        generalize (waresS S)[G.length] = x at hx
        exact ⟨_, rfl, _, rfl, _, rfl, _, rfl, wl, _, _, _, rfl, rfl, .inl (.inl ewl5), at_gen (j := G.length) rfl (by rw [List.getElem?_map, hx]; rfl), _, rfl, r, a, x, G, S, rfl, hshv.kp kk5, hS.kp kk5, st, hx, met, hk, kk5.tab, fun t pp ag vs aus R H' k nt => tell.1 t pp ag vs aus R H' (kk5.trans k) (kk5.free nt), fun t rv wd W H' k nt et nwd => tell.2 t rv wd W H' (kk5.trans k) (kk5.free nt) et (kk5.free nwd)⟩
end
end Pk

set_option Elab.async false
set_option linter.all false
set_option maxRecDepth 100000
set_option maxHeartbeats 4000000
namespace Pk
open PySem PySem.Spec PyProof.Rows L2
theorem mergeL (W0 : List Str) : ∀ W : List Str, mergeK (W0.map lK) (W.map lK) = (addW W0 W).map lK := by
  intro W
  induction W generalizing W0 with
  | nil => rfl
  | cons y r ih =>
    have e : mergeK (W0.map lK) ((y :: r).map lK) = mergeK (putK (W0.map lK) (.inr y : Key) (.bl true)) (r.map lK) := rfl
    rw [e, putL]
    show mergeK ((addW W0 [y]).map lK) (r.map lK) = _
    rw [ih, ← addW_app]
    rfl
theorem eqP (s : Str) : PyData.eqv (.str s) (.str "pick") = decide (s = "pick") := by
  have e : PyData.eqv (.str s) (.str "pick") = (s == "pick") := rfl
  rw [e, beq_dec]
theorem valL (W : List Str) (x : Str) : (valV (W.map lK) (.inr x : Key)).isSome = decide (x ∈ W) := by
  rw [← valV_any]
  by_cases h : x ∈ W
  · rw [decide_eq_true h, List.any_eq_true]
    exact ⟨lK x, List.mem_map.mpr ⟨x, h, rfl⟩, decide_eq_true rfl⟩
  · rw [decide_eq_false h, List.any_eq_false]
    intro kv hkv z
    obtain ⟨y, hy, rfl⟩ := List.mem_map.mp hkv
    have z2 : (lK y).1 = (.inr x : Key) := of_decide_eq_true z
    have z3 : y = x := Sum.inr.inj z2
    exact h (z3 ▸ hy)
theorem src_dk {K : PySem.W.Frag} {H : Hp} {d a : Addr} {kvs : List (Key × V)} {o : HO} {S : Srcs} (e : H d = some (.dK kvs)) (h : SrcAt K H a S) : SrcAt K (upd H d o) a S := by
  obtain ⟨ks, ea, h⟩ := h
  exact ⟨ks, by rw [upd_ne (fun z => by rw [z, e] at ea; cases ea)]; exact ea, paired_mono (fun _ _ z => SrcR.upd e rfl z) h⟩
theorem seq_dk {K : PySem.W.Frag} {H : Hp} {d a : Addr} {kvs : List (Key × V)} {o : HO} {xs : List V} (e : H d = some (.dK kvs)) (h : SqL K H a xs) : SqL K (upd H d o) a xs :=
  seq_mono (fun b o hs hb => by rw [upd_ne (fun z => by rw [z, e] at hb; cases hb; cases hs)]; exact hb) h
theorem shaped_lit {s : Str} (h : PyData.strOk s = true) : SeqAt.shaped (.str s) = true := by
  show (PyData.strOk s && decide (PyData.depth (.str s) ≤ 64)) = true
  rw [h]
  rfl
section
variable {P : Program} {w : World} {K : PySem.W.Frag} {mg : Str → Option Value} {base : Heap}
def triedN : List Str := ["shelves", "sources", "ware", "at", "asked", "reasons", "leant", "make", "grown", "told", "against"]
theorem scTried : FnScope triedN ["shelves", "sources", "ware", "at"] (defScope sTried) := ⟨rfl, rfl, rfl, by decide +kernel, rfl, by decide +kernel, by decide +kernel⟩
theorem ok_tried {f fA fL fG fB fN fS T : Addr} {fd fdA fdL fdG fdB fdN fdS : FuncData} {o : SD} {k : Nat} (ok : SetOk o.D o.wn o.ws) (F : Fun K "_tried" "_tried" sTried f fd)
    (GA : FnOk P w K mg base CX0 1 fA fdA ["sources", "ware"] (spAsked K T)) (kA : PySem.W.keepIn K (.ref fA) = true) (bA : Binds K fdA ["sources", "ware"] []) (gA : mg "_asked_of" = some (.ref fA))
    (GL : FnOk P w K mg base CX0 2 fL fdL ["shelves", "ware", "needs"] (spLeft K T)) (kL : PySem.W.keepIn K (.ref fL) = true) (bL : Binds K fdL ["shelves", "ware", "needs"] []) (gL : mg "makes_left" = some (.ref fL))
    (GG : FnOk P w K mg base CX0 1 fG fdG ["sources", "shelves", "ware", "make"] (spGrant K T)) (kG : PySem.W.keepIn K (.ref fG) = true) (bG : Binds K fdG ["sources", "shelves", "ware", "make"] []) (gG : mg "granting" = some (.ref fG))
    (GB : FnOk P w K mg base CX0 5 fB fdB ["shelves", "asked", "ware", "picked", "reasons"] (spAgainst K T)) (kB : PySem.W.keepIn K (.ref fB) = true) (bB : Binds K fdB ["shelves", "asked", "ware", "picked", "reasons"] []) (gB : mg "_against" = some (.ref fB))
    (GN : FnOk P w K mg base CX0 4 fN fdN ["shelves", "asked", "ware", "reasons", "leant"] (spNone K T)) (kN : PySem.W.keepIn K (.ref fN) = true) (bN : Binds K fdN ["shelves", "asked", "ware", "reasons", "leant"] []) (gN : mg "_none" = some (.ref fN))
    (GS : FnOk P w K mg base CX0 (5 + 2 * k) fS fdS ["shelves", "sources", "added", "at"] (spSettled K T o k)) (kS : PySem.W.keepIn K (.ref fS) = true) (bS : Binds K fdS ["shelves", "sources", "added", "at"] []) (gS : mg "_settled" = some (.ref fS))
    (y_list : mg "list" = none) : FnOk P w K mg base CX0 (5 + 2 * k + 1) f fd ["shelves", "sources", "ware", "at"] (spTried K T o k) := by
  refine F.ok scTried (fun vs H Q E h => ?_) (fun cdv A0 outer s H vs Q E hr h => ?_)
  · obtain ⟨r, a, x, G, S, rfl, _⟩ := h
    rfl
  · obtain ⟨r, a, x, G, S, rfl, hshv, hS, st, hx, met, hk, ht, tell⟩ := h
    have hu := hu_of hr
    obtain ⟨g, l500⟩ := ok.good st
    have gask : SrcG (askS S x) := g.sub List.filter_sublist
    have hxm := List.mem_of_getElem? hx
    have gx : GoodN x := by
      rcases addW_mem.mp hxm with h | h
      · cases h
      · obtain ⟨e, he, ex⟩ := List.mem_map.mp h
        rw [← ex]
        exact nd_good (ok.src st e he).1
    have hxG := st.next hx
    have frs := fun m => st.fresh hxG m
    have mknd : (mks o.D x).Nodup := (mks_perm _ _).nodup_iff.mpr (ok.mnd x)
    refine ⟨_, (pss_cons (ps_set (i := 4) scTried.nd rfl (by first | exact .inl rfl | exact .inr rfl) (pe_call GA (hr.mono (by omega)) (by rfl) gA kA bA .nil pass0 (pa_cons (pv 1) (pa_cons (pv 2) pa_nil))))
      (pss_cons (ps_set (i := 5) scTried.nd rfl (by first | exact .inl rfl | exact .inr rfl) pe_dnewK)
      (pss_cons (ps_set (i := 6) scTried.nd rfl (by first | exact .inl rfl | exact .inr rfl) pe_dnewK)
      (pss_cons (ps_for PassesOwn.never rfl (pi_list (pe_call GL (hr.mono (by omega)) (by rfl) gL kL bL .nil pass0 (pa_cons (pv 0) (pa_cons (pv 2) (pa_cons (pe_callTy (call_list_valsT rfl) (by rfl) y_list boot_list (pa_cons (pe_bm0 PySem.F.plainAttrs_dict PySem.F.slot_dict_values PySem.F.type_dict_values mtd_valsT (pv 4)) pa_nil)) pa_nil))))) (pg_name (i := 7) scTried.nd rfl (by first | exact .inl rfl | exact .inr rfl)) (pss_cons (ps_set (i := 8) scTried.nd rfl (by first | exact .inl rfl | exact .inr rfl) (pe_call GG (hr.mono (by omega)) (by rfl) gG kG bG .nil pass0 (pa_cons (pv 1) (pa_cons (pv 0) (pa_cons (pv 2) (pa_cons (pv 7) pa_nil))))))
      (pss_cons (ps_set (i := 9) scTried.nd rfl (by first | exact .inl rfl | exact .inr rfl) (pe_call GS (hr.mono (by omega)) (by rfl) gS kS bS .nil pass0 (pa_cons (pv 0) (pa_cons (pv 8) (pa_cons (pe_dget hu (pe_dget hu (pv 0) (pv 2) (fun _ _ => rfl)) (pv 7) (fun _ _ => rfl)) (pa_cons (pe_op op_add (pv 3) pe_int) pa_nil))))))
      (pss_cons (ps_if (pt_cmpR (op_eqD hr.units) (pe_ix ix_tup (pv 9) pe_int (fun _ _ => rfl)) pe_str (nomark _)) (pss_cons (ps_set (i := 10) scTried.nd rfl (by first | exact .inl rfl | exact .inr rfl) (pe_call GB (hr.mono (by omega)) (by rfl) gB kB bB .nil pass0 (pa_cons (pv 0) (pa_cons (pv 4) (pa_cons (pv 2) (pa_cons (pv 7) (pa_cons (pv 5) pa_nil)))))))
      (pss_one (ps_ret (pe_tup (pa_cons pe_str (pa_cons (pe_op op_cat (pe_lst (pa_cons (pe_tup (pa_cons (pv 2) (pa_cons (pv 7) pa_nil))) pa_nil)) (pe_ix ix_tup (pv 9) pe_int (fun _ _ => rfl))) (pa_cons (pe_op op_cat (pe_lst (pa_cons (pv 10) pa_nil)) (pe_ix ix_tup (pv 9) pe_int (fun _ _ => rfl))) pa_nil))))))) pss_nil)
      (pss_cons (ps_if (pt_cmp (pc_dnotin hu (pv 2) (pe_ix ix_tup (pv 9) pe_int (fun _ _ => rfl)))) (pss_one (ps_ret (pv 9))) pss_nil)
      (pss_cons (ps_dput hu (pv 5) (pv 7) (pe_ix ix_tup (pv 9) pe_int (fun _ _ => rfl)) rfl)
      (pss_one (ps_expr (pe_bm PySem.F.plainAttrs_dict PySem.F.slot_dict_update PySem.F.type_dict_update mtd_updateK (pv 6) (pa_cons (pe_ix ix_tup (pv 9) pe_int (fun _ _ => rfl)) pa_nil))))))))))
      (pss_one (ps_ret (pe_call GN (hr.mono (by omega)) (by rfl) gN kN bN .nil pass0 (pa_cons (pv 0) (pa_cons (pv 4) (pa_cons (pv 2) (pa_cons (pv 5) (pa_cons (pv 6) pa_nil)))))))))))), ?_⟩
    refine ⟨_, rfl, _, rfl, a, x, S, rfl, hS, g.nd, g.gw, gx, g.len, ht, fun p H1 k1 np hask => ?_⟩
    intro rd nrd
    have k2 := Kp.new (o := HO.dK []) k1.tab nrd
    have erd : upd H1 rd (.dK []) rd = some (.dK []) := upd_same
    have rdT := tab_nn k1.tab nrd
    have kk2 := k1.trans k2
    have hask2 := hask.kp k2
    have nrd0 := k1.free nrd
    generalize upd H1 rd (.dK []) = H2 at k2 erd kk2 hask2 ⊢
    intro ld nld
    have k3 := Kp.new (o := HO.dK []) kk2.tab nld
    have eld : upd H2 ld (.dK []) ld = some (.dK []) := upd_same
    have ldT := tab_nn kk2.tab nld
    have rl : rd ≠ ld := fun z => by rw [z, nld] at erd; cases erd
    have erd3 := dk_kp k3 erd
    have kk3 := kk2.trans k3
    have hask3 := hask2.kp k3
    have nld0 := kk2.free nld
    generalize upd H2 ld (.dK []) = H3 at k3 eld erd3 kk3 hask3 ⊢
    obtain ⟨kvs, ep, hkv⟩ := id hask3
    -- what is left
    refine ⟨_, rfl, _, rfl, _, rfl, .inr (.inr (.inl ⟨rfl, .inr ⟨_, ep⟩⟩)), p, kvs, rfl, rfl, ep, fun pv npv => ?_⟩
    have k4 := Kp.new (o := valsO pv p) kk3.tab npv
    have epv : upd H3 pv (valsO pv p) pv = some (valsO pv p) := upd_same
    have ep4 := k4.keep _ _ (tab_ne kk3.tab ep fun _ z => by cases z) ep
    generalize upd H3 pv (valsO pv p) = H4 at k4 epv ep4 ⊢
    refine ⟨pv, p, kvs, rfl, epv, ep4, fun pl npl => ?_⟩
    have k5 := Kp.new (o := HO.lst (kvs.map Prod.snd)) k4.tab npl
    have epl : upd H4 pl (.lst (kvs.map Prod.snd)) pl = some (.lst (kvs.map Prod.snd)) := upd_same
    have k35 := k4.trans k5
    generalize upd H4 pl (.lst (kvs.map Prod.snd)) = H5 at k5 epl k35 ⊢
    have kk5 := kk3.trans k35
    refine ⟨r, pl, x, mks o.D x, _, _, rfl, shv_shg ok (hshv.kp kk5) x, ok.makes, .inl (.inl epl), paired_mono (fun _ _ z => NdV.kp k35 z) (src_vals hkv), kk5.tab, fun pm H6 k6 npm epm => ?_⟩
    have k36 := k35.trans k6
    have kk6 := kk3.trans k36
    have hL8 : (leftM (mks o.D x) ((askS S x).map (·.2))).length ≤ 8 := by
      have z := List.length_filter_le (fun m => ((askS S x).map (·.2)).all fun n => okN n m) (mks o.D x)
      rw [mks_len] at z
      exact Nat.le_trans z (ok.hD.len x)
    have eL0 : ∀ m ∈ leftM (mks o.D x) ((askS S x).map (·.2)), m ∈ mks o.D x := fun m hm => (leftM_mem.mp hm).1
    have hall : ∀ m ∈ leftM (mks o.D x) ((askS S x).map (·.2)), m ∈ leftM (mks o.D x) ((askS S x).map (·.2)) := fun _ h => h
    generalize hLdef : leftM (mks o.D x) ((askS S x).map (·.2)) = L at epm hL8 eL0 hall
    refine ⟨pm, rfl, ⟨_, .inl (.inl epm)⟩, for_list (K := K) (a := pm) (xs := L.map V.int) (fun i σ' H' => ∃ (x7 x8 x9 x10 : Option V) (rk : List (Key × V)) (W0 : List Str), σ' = [some (.ref r), some (.ref a), some (.str x), some (.int (G.length : Nat)), some (.ref p), some (.ref rd), some (.ref ld), x7, x8, x9, x10] ∧ Kp T H H' ∧ SqL K H' pm (L.map V.int) ∧ SrcAt K H' p (askS S x) ∧ H' rd = some (.dK rk) ∧ rk.length ≤ i ∧ H' ld = some (.dK (W0.map lK)) ∧ W0.Nodup ∧ (∀ y ∈ W0, y ∈ G.map (·.1) ∨ y = x) ∧ ∀ m ∈ L.take i, ∃ W, NoneOut o.D o.wn (G ++ [(x, m)]) W ∧ ∀ y ∈ W, y ∈ W0)
      ⟨none, none, none, none, [], [], rfl, kk6, .inl (.inl epm), hask3.kp k36, dk_kp k36 erd3, Nat.le_refl _, dk_kp k36 eld, List.nodup_nil, fun y hy => (by cases hy), fun m hm => (by cases hm)⟩ (fun i σ' H' _ ⟨_, _, _, _, _, _, _, _, h, _⟩ => h) ?_ ?_⟩
    · rintro i v σ' H7 hi ⟨x7, x8, x9, x10, rk, W0, rfl, kk7, hpm7, hask7, erd7, lrk, eld7, ndW, hW0, hno⟩
      have hil : i < L.length := by have z := (List.getElem?_eq_some_iff.mp hi).1; rw [List.length_map] at z; exact z
      have ei := List.getElem?_eq_getElem hil
      have eti := take_succ_get ei
      have em : L[i] ∈ L := List.getElem_mem hil
      have split : L = L.take i ++ L[i] :: L.drop (i + 1) := by rw [List.getElem_cons_drop, List.take_append_drop]
      rw [List.getElem?_map, ei] at hi
      generalize L[i] = m at hi em eti split ei
      cases hi
      have hm := eL0 m em
      have hmD := mks_mem.mp hm
      have st' := st.snoc hx hmD
      have lns := (ok.needs x m).1
      refine ⟨_, rfl, _, rfl, _, rfl, _, rfl, a, r, x, m, S, ndN o.D x m, rfl, hS.kp kk7, shv_needs ok (hshv.kp kk7) hm, st.nd, frs m, by omega, kk7.tab, fun p2 H8 k8 np2 hgr => ?_⟩
      have kk8 := kk7.trans k8
      obtain ⟨d, l, us, gd1, gd2, hl, hus⟩ := shv_needs ok (hshv.kp kk8) hm
      have hxw := ok.in_ws hmD
      have room : G.length + 1 ≤ o.ws.length := by
        have z := sub_len (ws := x :: G.map (·.1)) (U := o.ws) (List.nodup_cons.mpr ⟨hxG, st.gnd⟩) fun y hy => by
          rcases List.mem_cons.mp hy with e | hy
          · rw [e]; exact hxw
          · obtain ⟨q, hq, rfl⟩ := List.mem_map.mp hy
            exact ok.in_ws (st.in_ q hq)
        rw [List.length_cons, List.length_map] at z
        exact z
      cases k with
      | zero => omega
      | succ k =>
      have lG : (G ++ [(x, m)]).length = G.length + 1 := by rw [List.length_append, List.length_singleton]
      refine ⟨_, rfl, _, rfl, _, rfl, _, rfl, r, _, rfl, gd1, _, rfl, d, _, rfl, gd2, _, rfl, _, _, rfl, rfl, r, p2, l, us, ndN o.D x m, G ++ [(x, m)], grantS S x m (ndN o.D x m), (by rw [lG]; rfl), hshv.kp kk8, hgr, st', hl, hus, fun n hn => st'.has.2.2 (x, m) (List.mem_append_right _ (List.mem_singleton.mpr rfl)) n hn, pend_step st met hx (by rw [hLdef]; exact em), by omega, kk8.tab, fun t pp ag vs aus R H9 k9 nt et epp hvs eag lau out => ?_, fun t rv wd W H9 k9 nt et nwd ewd ndW' out => ?_⟩
      · have kk9 := kk8.trans k9
        have k79 := k8.trans k9
        have sqt : SqT K H9 t [.str "pick", .ref pp, .ref ag] := .inl (.inl et)
        have j0 : atI [V.str "pick", .ref pp, .ref ag] 0 = some (.str "pick") := at_gen (j := 0) rfl rfl
        have j1 : atI [V.str "pick", .ref pp, .ref ag] 1 = some (.ref pp) := at_gen (j := 1) rfl rfl
        have j2 : atI [V.str "pick", .ref pp, .ref ag] 2 = some (.ref ag) := at_gen (j := 2) rfl rfl
        have lR : R.length ≤ 60 := by
          have z := sub_len (U := o.ws) out.1.nd fun y hy => by
            obtain ⟨q, hq, rfl⟩ := List.mem_map.mp hy
            exact ok.in_ws (out.1.in_ q hq)
          rw [List.length_map, List.length_append] at z
          have := ok.wl
          omega
        have lvs := paired_len hvs
        refine ⟨_, rfl, t, _, 0, _, rfl, rfl, sqt, j0, .str "pick", .str "pick", .str _, .str _, shaped_lit (by decide +kernel), shaped_lit (by decide +kernel), _, rfl, ?_⟩
        rw [eqP, decide_eq_true rfl]
        refine iteT ?_
        rcases shv_row (hshv.kp kk9) ok.wnd x with ⟨z, _⟩ | ⟨d9, gd9, kvs9, ed9, hents9⟩
        · exact absurd hxw z
        refine ⟨_, rfl, _, rfl, _, rfl, _, rfl, _, rfl, r, p, rd, d9, x, m, mks o.D x, askS S x, rk, kvs9, rfl, hask7.kp k79, gask, by have := List.length_filter_le (fun e : List Key × N3 => decide (e.2.1 = x)) S; unfold askS; omega, fun m' e he => (frs m' e (List.mem_filter.mp he).1).1, gx, shv_shg ok (hshv.kp kk9) x, ok.makes, gd9, ed9, ent_keys hents9, dk_kp k79 erd7, kk9.tab, fun ab aus2 H10 k10 nab eab => ?_⟩
        have kk10 := kk9.trans k10
        refine ⟨_, rfl, _, rfl, (by show (2 : Nat) ≤ sizeLine; decide), fun t1 nt1 => ?_⟩
        have k11 := Kp.new (o := HO.tup [.str x, .int m]) kk10.tab nt1
        have et1 : upd H10 t1 (.tup [V.str x, .int m]) t1 = some (.tup [.str x, .int m]) := upd_same
        have k911 := k10.trans k11
        generalize upd H10 t1 (.tup [V.str x, .int m]) = H11 at k11 et1 k911 ⊢
        refine ⟨(by show (1 : Nat) ≤ sizeLine; decide), fun l1 nl1 => ?_⟩
        have k12 := Kp.new (o := HO.lst [.ref t1]) k911.tab nl1
        have el1 : upd H11 l1 (.lst [V.ref t1]) l1 = some (.lst [.ref t1]) := upd_same
        have k912 := k911.trans k12
        have et12 := k12.sqt (K := K) (a := t1) (.inl (.inl et1))
        generalize upd H11 l1 (.lst [V.ref t1]) = H12 at k12 el1 k912 et12 ⊢
        refine ⟨_, rfl, t, _, 1, _, rfl, rfl, k912.sqt sqt, j1, l1, pp, _, _, rfl, rfl, el1, k912.lst epp, line1000 (by rw [List.length_singleton]; omega), fun c1 nc1 => ?_⟩
        have k13 := Kp.new (o := HO.lst ([V.ref t1] ++ vs)) k912.tab nc1
        have ec1 : upd H12 c1 (.lst ([V.ref t1] ++ vs)) c1 = some (.lst ([.ref t1] ++ vs)) := upd_same
        have k913 := k912.trans k13
        have et13 := k13.sqt et12
        generalize upd H12 c1 (.lst ([V.ref t1] ++ vs)) = H13 at k13 ec1 k913 et13 ⊢
        refine ⟨_, rfl, (by show (1 : Nat) ≤ sizeLine; decide), fun l2 nl2 => ?_⟩
        have k14 := Kp.new (o := HO.lst [.ref ab]) k913.tab nl2
        have el2 : upd H13 l2 (.lst [V.ref ab]) l2 = some (.lst [.ref ab]) := upd_same
        have k914 := k913.trans k14
        have et14 := k14.sqt et13
        have ec14 := k14.lst ec1
        generalize upd H13 l2 (.lst [V.ref ab]) = H14 at k14 el2 k914 et14 ec14 ⊢
        refine ⟨_, rfl, t, _, 2, _, rfl, rfl, k914.sqt sqt, j2, l2, ag, _, _, rfl, rfl, el2, k914.lst eag, line1000 (by rw [List.length_singleton]; omega), fun c2 nc2 => ?_⟩
        have k15 := Kp.new (o := HO.lst ([V.ref ab] ++ aus)) k914.tab nc2
        have ec2 : upd H14 c2 (.lst ([V.ref ab] ++ aus)) c2 = some (.lst ([.ref ab] ++ aus)) := upd_same
        have k915 := k914.trans k15
        have et15 := k15.sqt et14
        have ec15 := k15.lst ec14
        generalize upd H14 c2 (.lst ([V.ref ab] ++ aus)) = H15 at k15 ec2 k915 et15 ec15 ⊢
        refine ⟨(by show (3 : Nat) ≤ sizeLine; decide), fun t3 nt3 => ?_⟩
        have k16 := Kp.new (o := HO.tup [.str "pick", .ref c1, .ref c2]) k915.tab nt3
        have k916 := k915.trans k16
        refine tell.1 t3 c1 c2 ([V.ref t1] ++ vs) ([V.ref ab] ++ aus) ((x, m) :: R) _ (kk9.trans k916) (kk9.free (k915.free nt3)) upd_same (k16.lst ec15) (.cons ⟨t1, rfl, k16.sqt et15⟩ (paired_mono (fun _ _ z => PrV.kp k916 z) hvs)) (k16.lst ec2) (by rw [List.length_append, List.length_singleton, List.length_cons]; omega) ?_
        refine out_pick st (fun x m => (ok.needs x m).2.2) hx (hLdef.trans split) mknd (fun m0 hm0 => ?_) out
        obtain ⟨W, h1, _⟩ := hno m0 hm0
        exact ⟨W, h1⟩
      · have kk9 := kk8.trans k9
        have k79 := k8.trans k9
        have sqt : SqT K H9 t [.str "none", rv, .ref wd] := .inl (.inl et)
        have j0 : atI [V.str "none", rv, .ref wd] 0 = some (.str "none") := at_gen (j := 0) rfl rfl
        have j1 : atI [V.str "none", rv, .ref wd] 1 = some rv := at_gen (j := 1) rfl rfl
        have j2 : atI [V.str "none", rv, .ref wd] 2 = some (.ref wd) := at_gen (j := 2) rfl rfl
        refine ⟨_, rfl, t, _, 0, _, rfl, rfl, sqt, j0, .str "none", .str "pick", .str _, .str _, shaped_lit (by decide +kernel), shaped_lit (by decide +kernel), _, rfl, ?_⟩
        rw [eqP, decide_eq_false (by decide)]
        refine iteF ?_
        have gd := DGet.k (k := (.inr x : Key)) ewd
        refine ⟨_, rfl, _, rfl, t, _, 2, _, rfl, rfl, sqt, j2, wd, _, rfl, gd, _, rfl, ?_⟩
        rw [valL]
        refine iteN (fun hxW => ?_) (fun hxW => ?_)
        · exact ⟨_, rfl, tell.2 t rv wd W H9 kk9 (kk8.free nt) et (kk8.free nwd) ewd ndW' (out_early out hxW)⟩
        · have hWG : ∀ y ∈ W, y ∈ G.map (·.1) ∨ y = x := fun y hy => by
            have z := out.1 y hy
            rw [List.map_append] at z
            rcases List.mem_append.mp z with z | z
            · exact .inl z
            · exact .inr (List.mem_singleton.mp z)
          have wlen : ∀ (W : List Str), W.Nodup → (∀ y ∈ W, y ∈ G.map (·.1) ∨ y = x) → W.length ≤ 61 := fun W nd h => by
            have z := sub_len (U := x :: G.map (·.1)) nd fun y hy => (h y hy).elim (fun z => List.mem_cons_of_mem _ z) fun z => by rw [z]; exact List.mem_cons_self ..
            rw [List.length_cons, List.length_map] at z
            have := ok.wl
            omega
          have l1 := wlen W ndW' hWG
          have l2 := wlen W0 ndW hW0
          have erd9 := dk_kp k79 erd7
          have eld9 := dk_kp k79 eld7
          have ldn : ld ≠ wd := fun z => by
            have z2 := dk_kp k8 eld7
            rw [z, nwd] at z2; cases z2
          have rdn : rd ≠ wd := fun z => by
            have z2 := dk_kp k8 erd7
            rw [z, nwd] at z2; cases z2
          refine ⟨_, rfl, t, _, 1, _, rfl, rfl, sqt, j1, _, rfl, _, rfl, rd, _, rfl, DPut.k (k := (.inl m : Key)) erd9 (small1000 (by omega)), ?_⟩
          have hpm9 := seq_dk (o := .dK (putK rk (.inl m : Key) rv)) erd9 (k79.seq hpm7)
          have hask9 := src_dk (o := .dK (putK rk (.inl m : Key) rv)) erd9 (hask7.kp k79)
          have kkA : Kp T H (upd H9 rd (.dK (putK rk (.inl m : Key) rv))) := kk9.set nrd0 rdT
          have eldA : upd H9 rd (.dK (putK rk (.inl m : Key) rv)) ld = some (.dK (W0.map lK)) := by rw [upd_ne (fun z => rl z.symm)]; exact eld9
          have ewdA : upd H9 rd (.dK (putK rk (.inl m : Key) rv)) wd = some (.dK (W.map lK)) := by rw [upd_ne (fun z => rdn z.symm)]; exact ewd
          have erdA : upd H9 rd (.dK (putK rk (.inl m : Key) rv)) rd = some (.dK (putK rk (.inl m : Key) rv)) := upd_same
          have sqtA : SqT K (upd H9 rd (.dK (putK rk (.inl m : Key) rv))) t [.str "none", rv, .ref wd] := .inl (.inl (by rw [upd_ne (fun z => by rw [z, erd9] at et; cases et)]; exact et))
          generalize upd H9 rd (.dK (putK rk (.inl m : Key) rv)) = HA at hpm9 hask9 kkA eldA ewdA erdA sqtA ⊢
          refine ⟨_, rfl, .inr (.inr (.inl ⟨rfl, .inl ⟨_, eldA⟩⟩)), _, rfl, t, _, 2, _, rfl, rfl, sqtA, j2, ld, wd, _, _, rfl, rfl, ldn, eldA, ewdA, line1000 (by rw [List.length_map, List.length_map]; omega), ?_⟩
          rw [mergeL]
          have lrk2 := length_putK rk (.inl m : Key) rv
          refine ⟨_, _, _, _, putK rk (.inl m : Key) rv, addW W0 W, rfl, kkA.set nld0 ldT, seq_dk eldA hpm9, src_dk eldA hask9, by rw [upd_ne rl]; exact erdA, by omega, upd_same, addW_nodup ndW _, fun y hy => (addW_mem.mp hy).elim (hW0 y) (hWG y), fun m0 hm0 => ?_⟩
          rw [eti] at hm0
          rcases List.mem_append.mp hm0 with hm0 | hm0
          · obtain ⟨W1, h1, h2⟩ := hno m0 hm0
            exact ⟨W1, h1, fun y hy => addW_mem.mpr (.inl (h2 y hy))⟩
          · rw [List.mem_singleton.mp hm0]
            exact ⟨W, out, fun y hy => addW_mem.mpr (.inr hy)⟩
    · rintro σ' H7 ⟨x7, x8, x9, x10, rk, W0, rfl, kk7, hpm7, hask7, erd7, lrk, eld7, ndW, hW0, hno⟩
      rw [List.length_map, List.take_length] at hno
      rw [List.length_map] at lrk
      have wlen : W0.length ≤ 61 := by
        have z := sub_len (U := x :: G.map (·.1)) ndW fun y hy => (hW0 y hy).elim (fun z => List.mem_cons_of_mem _ z) fun z => by rw [z]; exact List.mem_cons_self ..
        rw [List.length_cons, List.length_map] at z
        have z2 := ok.glen st
        have := ok.wl
        omega
      refine ⟨_, rfl, _, rfl, _, rfl, _, rfl, _, rfl, r, p, rd, ld, x, mks o.D x, askS S x, rk, W0, rfl, hask7, gask, fun e he => (ok.src st e (List.mem_filter.mp he).1).2.1, shv_shg ok (hshv.kp kk7) x, ok.makes, erd7, by omega, eld7, ndW, by omega, fun y hy => ?_, gx, kk7.tab, fun t rv wd R H8 k8 nt et nwd ewd sub ne eL => ?_⟩
      · rcases hW0 y hy with z | z
        · obtain ⟨q, hq, rfl⟩ := List.mem_map.mp z
          exact ok.gw _ (ok.in_ws (st.in_ q hq))
        · rw [z]; exact gx
      · refine tell.2 t rv wd _ H8 (kk7.trans k8) (kk7.free nt) et (kk7.free nwd) ewd (addW_nodup (List.Nodup.sublist List.filter_sublist ndW) _) ?_
        refine out_none (W0 := W0) st sub (ne (ask_ne hxm)) eL (.inr hxG) (fun m0 hm0 => hno m0 (hLdef ▸ hm0)) hW0 fun y => ?_
        rw [addW_mem, List.mem_filter, List.mem_filterMap, decide_eq_true_eq]
end
end Pk

set_option Elab.async false
set_option linter.all false
set_option maxRecDepth 100000
set_option maxHeartbeats 4000000
namespace Pk
open PySem PySem.Spec PyProof.Rows L2
theorem eqN (s : Str) : PyData.eqv (.str s) (.str "none") = decide (s = "none") := by
  have e : PyData.eqv (.str s) (.str "none") = (s == "none") := rfl
  rw [e, beq_dec]
def spSettledA (K : PySem.W.Frag) (T : Addr) : Sp := fun vs H Q E => ∃ o : SD, SetOk o.D o.wn o.ws ∧ spSettled K T o 9 vs H Q E
def spSettle (K : PySem.W.Frag) (C T : Addr) : Sp := fun vs H Q _ => ∃ (A : List Addr) (p D q : Addr) (st : List Shelf) (xs : List V) (ds : List PyData), vs = [.ref p, .ref q] ∧ ShopAt K C A H p D st ∧ GoodSh (dataOf st) ∧ (∀ s ∈ st, GoodN s.ware) ∧ st.length ≤ 8 ∧ H q = some (.lst xs) ∧ DpAll K H xs ds ∧ (∀ d ∈ ds, ND d) ∧ ds.length ≤ 8 ∧ GxR.TabG H T ∧
  (∀ t pp ag vs R H', Kp T H H' → H t = none → H' t = some (.tup [.str "pick", .ref pp, .ref ag]) → H' pp = some (.lst vs) → Paired (PrV K H') vs R → PickOut (dataOf st) (ds.map n3) [] R → Q (.ref t) H') ∧
  ∀ t rv H', Kp T H H' → H t = none → H' t = some (.tup [.str "none", rv]) → (∀ pk, ¬ Sol (dataOf st) (ds.map n3) pk) → Q (.ref t) H'
section
variable {P : Program} {w : World} {K : PySem.W.Frag} {mg : Str → Option Value} {base : Heap}
theorem ok_rec {fS fT fA fL fG fB fN fW T : Addr} {fdS fdT fdA fdL fdG fdB fdN fdW : FuncData} {o : SD} (ok : SetOk o.D o.wn o.ws)
    (FS : Fun K "_settled" "_settled" sSettled fS fdS) (FT : Fun K "_tried" "_tried" sTried fT fdT)
    (GA : FnOk P w K mg base CX0 1 fA fdA ["sources", "ware"] (spAsked K T)) (kA : PySem.W.keepIn K (.ref fA) = true) (bA : Binds K fdA ["sources", "ware"] []) (gA : mg "_asked_of" = some (.ref fA))
    (GL : FnOk P w K mg base CX0 2 fL fdL ["shelves", "ware", "needs"] (spLeft K T)) (kL : PySem.W.keepIn K (.ref fL) = true) (bL : Binds K fdL ["shelves", "ware", "needs"] []) (gL : mg "makes_left" = some (.ref fL))
    (GG : FnOk P w K mg base CX0 1 fG fdG ["sources", "shelves", "ware", "make"] (spGrant K T)) (kG : PySem.W.keepIn K (.ref fG) = true) (bG : Binds K fdG ["sources", "shelves", "ware", "make"] []) (gG : mg "granting" = some (.ref fG))
    (GB : FnOk P w K mg base CX0 5 fB fdB ["shelves", "asked", "ware", "picked", "reasons"] (spAgainst K T)) (kB : PySem.W.keepIn K (.ref fB) = true) (bB : Binds K fdB ["shelves", "asked", "ware", "picked", "reasons"] []) (gB : mg "_against" = some (.ref fB))
    (GN : FnOk P w K mg base CX0 4 fN fdN ["shelves", "asked", "ware", "reasons", "leant"] (spNone K T)) (kN : PySem.W.keepIn K (.ref fN) = true) (bN : Binds K fdN ["shelves", "asked", "ware", "reasons", "leant"] []) (gN : mg "_none" = some (.ref fN))
    (GW : FnOk P w K mg base CX0 1 fW fdW ["wares", "needs"] (spAddW K T)) (kW : PySem.W.keepIn K (.ref fW) = true) (bW : Binds K fdW ["wares", "needs"] []) (gW : mg "add_wares" = some (.ref fW))
    (kS : PySem.W.keepIn K (.ref fS) = true) (bS : Binds K fdS ["shelves", "sources", "added", "at"] []) (gS : mg "_settled" = some (.ref fS))
    (kT : PySem.W.keepIn K (.ref fT) = true) (bT : Binds K fdT ["shelves", "sources", "ware", "at"] []) (gT : mg "_tried" = some (.ref fT))
    (y_list : mg "list" = none) (y_len : mg "len" = none) : ∀ k, FnOk P w K mg base CX0 (5 + 2 * k) fS fdS ["shelves", "sources", "added", "at"] (spSettled K T o k) ∧ FnOk P w K mg base CX0 (5 + 2 * k + 1) fT fdT ["shelves", "sources", "ware", "at"] (spTried K T o k) := by
  intro k
  induction k with
  | zero =>
    have z : FnOk P w K mg base CX0 (4 + 1) fS fdS ["shelves", "sources", "added", "at"] (spSettled K T o 0) := FS.ok scSettled (fun vs H Q E h => h.elim) (fun cdv A0 outer s H vs Q E hr h => h.elim)
    exact ⟨z, ok_tried ok FT GA kA bA gA GL kL bL gL GG kG bG gG GB kB bB gB GN kN bN gN (show FnOk P w K mg base CX0 (5 + 2 * 0) fS fdS _ _ from z) kS bS gS y_list⟩
  | succ k ih =>
    have z := ok_settled (k := k) ok FS GA kA bA gA GL kL bL gL GN kN bN gN GW kW bW gW ih.2 kT bT gT y_list y_len
    have z2 : FnOk P w K mg base CX0 (5 + 2 * (k + 1)) fS fdS ["shelves", "sources", "added", "at"] (spSettled K T o (k + 1)) := by
      have e : 5 + 2 * (k + 1) = 6 + 2 * k + 1 := by omega
      rw [e]
      exact z
    exact ⟨z2, ok_tried ok FT GA kA bA gA GL kL bL gL GG kG bG gG GB kB bB gB GN kN bN gN z2 kS bS gS y_list⟩
theorem ok_settledA {fS fT fA fL fG fB fN fW T : Addr} {fdS fdT fdA fdL fdG fdB fdN fdW : FuncData}
    (FS : Fun K "_settled" "_settled" sSettled fS fdS) (FT : Fun K "_tried" "_tried" sTried fT fdT)
    (GA : FnOk P w K mg base CX0 1 fA fdA ["sources", "ware"] (spAsked K T)) (kA : PySem.W.keepIn K (.ref fA) = true) (bA : Binds K fdA ["sources", "ware"] []) (gA : mg "_asked_of" = some (.ref fA))
    (GL : FnOk P w K mg base CX0 2 fL fdL ["shelves", "ware", "needs"] (spLeft K T)) (kL : PySem.W.keepIn K (.ref fL) = true) (bL : Binds K fdL ["shelves", "ware", "needs"] []) (gL : mg "makes_left" = some (.ref fL))
    (GG : FnOk P w K mg base CX0 1 fG fdG ["sources", "shelves", "ware", "make"] (spGrant K T)) (kG : PySem.W.keepIn K (.ref fG) = true) (bG : Binds K fdG ["sources", "shelves", "ware", "make"] []) (gG : mg "granting" = some (.ref fG))
    (GB : FnOk P w K mg base CX0 5 fB fdB ["shelves", "asked", "ware", "picked", "reasons"] (spAgainst K T)) (kB : PySem.W.keepIn K (.ref fB) = true) (bB : Binds K fdB ["shelves", "asked", "ware", "picked", "reasons"] []) (gB : mg "_against" = some (.ref fB))
    (GN : FnOk P w K mg base CX0 4 fN fdN ["shelves", "asked", "ware", "reasons", "leant"] (spNone K T)) (kN : PySem.W.keepIn K (.ref fN) = true) (bN : Binds K fdN ["shelves", "asked", "ware", "reasons", "leant"] []) (gN : mg "_none" = some (.ref fN))
    (GW : FnOk P w K mg base CX0 1 fW fdW ["wares", "needs"] (spAddW K T)) (kW : PySem.W.keepIn K (.ref fW) = true) (bW : Binds K fdW ["wares", "needs"] []) (gW : mg "add_wares" = some (.ref fW))
    (kS : PySem.W.keepIn K (.ref fS) = true) (bS : Binds K fdS ["shelves", "sources", "added", "at"] []) (gS : mg "_settled" = some (.ref fS))
    (kT : PySem.W.keepIn K (.ref fT) = true) (bT : Binds K fdT ["shelves", "sources", "ware", "at"] []) (gT : mg "_tried" = some (.ref fT))
    (y_list : mg "list" = none) (y_len : mg "len" = none) : FnOk P w K mg base CX0 23 fS fdS ["shelves", "sources", "added", "at"] (spSettledA K T) :=
  ⟨fun vs H Q E ⟨o, ok, h⟩ => (ok_rec ok FS FT GA kA bA gA GL kL bL gL GG kG bG gG GB kB bB gB GN kN bN gN GW kW bW gW kS bS gS kT bT gT y_list y_len 9).1.len vs H Q E h,
    fun A outer s H args us vs Q E hr he hb hv ⟨o, ok, h⟩ => (ok_rec ok FS FT GA kA bA gA GL kL bL gL GG kG bG gG GB kB bB gB GN kN bN gN GW kW bW gW kS bS gS kT bT gT y_list y_len 9).1.run A outer s H args us vs Q E hr he hb hv h⟩
def settleN : List Str := ["shop", "wish", "told"]
theorem scSettle : FnScope settleN ["shop", "wish"] (defScope sSettle) := ⟨rfl, rfl, rfl, by decide +kernel, rfl, by decide +kernel, by decide +kernel⟩
theorem ok_settle {f fC fS fH fW C T BI : Addr} {fd fdC fdS fdH fdW : FuncData} (F : Fun K "settle" "settle" sSettle f fd)
    (GC : FnOk P w K mg base (L2N.CX P w) 4 fC fdC ["thing"] (spChkW K T BI)) (kC : PySem.W.keepIn K (.ref fC) = true) (bC : Binds K fdC ["thing"] []) (gC : mg "check_wish" = some (.ref fC))
    (GS : FnOk P w K mg base CX0 23 fS fdS ["shelves", "sources", "added", "at"] (spSettledA K T)) (kS : PySem.W.keepIn K (.ref fS) = true) (bS : Binds K fdS ["shelves", "sources", "added", "at"] []) (gS : mg "_settled" = some (.ref fS))
    (GH : FnOk P w K mg base CX0 5 fH fdH ["shop"] (spShelves K C T)) (kH : PySem.W.keepIn K (.ref fH) = true) (bH : Binds K fdH ["shop"] []) (gH : mg "shelves_of" = some (.ref fH))
    (GW : FnOk P w K mg base CX0 1 fW fdW ["wish"] (spWished K T)) (kW : PySem.W.keepIn K (.ref fW) = true) (bW : Binds K fdW ["wish"] []) (gW : mg "wished" = some (.ref fW))
    (y_list : mg "list" = none) : FnOk P w K mg base CX0 24 f fd ["shop", "wish"] (spSettle K C T) := by
  refine F.ok scSettle (fun vs H Q E h => ?_) (fun cdv A0 outer s H vs Q E hr h => ?_)
  · obtain ⟨A, p, D, q, st, xs, ds, rfl, _⟩ := h
    rfl
  · obtain ⟨A, p, D, q, st, xs, ds, rfl, S, G, gst, h8, hq, hds, hnd, d8, ht, pick, non⟩ := h
    refine ⟨_, (pss_cons (ps_expr (pe_call (E := E0) GC (hr.mono (by decide)) (by rfl) gC kC bC .nil passN (pa_cons (pv 1) pa_nil)))
      (pss_cons (ps_set (i := 2) scSettle.nd rfl (by first | exact .inl rfl | exact .inr rfl) (pe_call GS (hr.mono (by decide)) (by rfl) gS kS bS .nil pass0 (pa_cons (pe_call GH (hr.mono (by decide)) (by rfl) gH kH bH .nil pass0 (pa_cons (pv 0) pa_nil)) (pa_cons (pe_call GW (hr.mono (by decide)) (by rfl) gW kW bW .nil pass0 (pa_cons (pv 1) pa_nil)) (pa_cons (pe_callTy call_list_of (by rfl) y_list boot_list (pa_cons (pv 1) pa_nil)) (pa_cons pe_int pa_nil))))))
      (pss_cons (ps_if (pt_cmpR (op_eqD hr.units) (pe_ix ix_tup (pv 2) pe_int (fun _ _ => rfl)) pe_str (nomark _)) (pss_one (ps_ret (pe_tup (pa_cons pe_str (pa_cons (pe_ix ix_tup (pv 2) pe_int (fun _ _ => rfl)) pa_nil))))) pss_nil)
      (pss_one (ps_ret (pv 2)))))), ?_⟩
    have hw := wish_good hnd d8
    refine ⟨_, rfl, _, .list ds, rfl, Dq.of (.lst (.inl (.inl hq)) hds), wish_okL hnd d8, ht, fun z => (by rw [hw] at z; cases z), fun _ H1 k1 => ?_⟩
    refine ⟨_, rfl, A, p, D, st, rfl, S.keptP k1, G, gst, by omega, k1.tab, fun ws r H2 hws k2 nr hshv => ?_⟩
    have kk2 := k1.trans k2
    have hus := ndv_all (kk2.dpAll _ _ hds) hnd
    refine ⟨_, rfl, q, xs, ds.map n3, rfl, .inl (.inl (kk2.lst hq)), hus, by rw [List.length_map]; omega, kk2.tab, fun a H3 k3 na hS => ?_⟩
    have kk3 := kk2.trans k3
    refine ⟨_, rfl, q, xs, rfl, .inl (.inl (.inl (kk3.lst hq))), fun nl nnl => ?_⟩
    have k4 := Kp.new (o := HO.lst xs) kk3.tab nnl
    have enl : upd H3 nl (.lst xs) nl = some (.lst xs) := upd_same
    have kk4 := kk3.trans k4
    have hS4 := hS.kp k4
    have hshv4 := hshv.kp (k3.trans k4)
    have hus4 := paired_mono (fun _ _ z => NdV.kp (k3.trans k4) z) hus
    generalize upd H3 nl (.lst xs) = H4 at k4 enl kk4 hS4 hshv4 hus4 ⊢
    have ok : SetOk (dataOf st) (ds.map n3) ws := by
      refine ⟨G, data_nd S, fun x hx => ?_, fun x hx => ?_, by rw [hws.length_eq, List.length_map]; omega, hws.nodup_iff.mpr S.bx.nd, fun n hn => ?_, by rw [List.length_map]; exact d8⟩
      · unfold dataOf at hx
        cases hl : look st x with
        | none => rw [hl] at hx; exact absurd rfl hx
        | some s =>
          obtain ⟨h1, h2⟩ := look_mem hl
          exact hws.mem_iff.mpr (List.mem_map.mpr ⟨s, h1, h2⟩)
      · obtain ⟨s, hs, rfl⟩ := List.mem_map.mp (hws.mem_iff.mp hx)
        exact gst s hs
      · obtain ⟨d, hd, rfl⟩ := List.mem_map.mp hn
        rw [d3_n3 (hnd d hd)]
        exact hnd d hd
    refine ⟨⟨dataOf st, ds.map n3, ws⟩, ok, r, a, nl, xs, ds.map n3, [], wishS (ds.map n3), rfl, hshv4, hS4, .nil, .inl (.inl enl), hus4, fun n hn => (Stt.nil (D := dataOf st)).has.1 n hn, (fun p hp => by cases hp), by have := ok.wl; show ws.length ≤ 0 + 8; rw [hws.length_eq, List.length_map]; omega, kk4.tab, fun t pp ag vs aus R H5 k5 nt et epp hvs eag lau out => ?_, fun t rv wd W H5 k5 nt et nwd ewd ndW out => ?_⟩
    · have sqt : SqT K H5 t [.str "pick", .ref pp, .ref ag] := .inl (.inl et)
      have j0 : atI [V.str "pick", .ref pp, .ref ag] 0 = some (.str "pick") := at_gen (j := 0) rfl rfl
      refine ⟨_, rfl, t, _, 0, _, rfl, rfl, sqt, j0, .str "pick", .str "none", .str _, .str _, shaped_lit (by decide +kernel), shaped_lit (by decide +kernel), _, rfl, ?_⟩
      rw [eqN, decide_eq_false (by decide)]
      exact iteF ⟨_, rfl, pick t pp ag vs R H5 (kk4.trans k5) (kk4.free nt) et epp hvs out⟩
    · have sqt : SqT K H5 t [.str "none", rv, .ref wd] := .inl (.inl et)
      have j0 : atI [V.str "none", rv, .ref wd] 0 = some (.str "none") := at_gen (j := 0) rfl rfl
      have j1 : atI [V.str "none", rv, .ref wd] 1 = some rv := at_gen (j := 1) rfl rfl
      refine ⟨_, rfl, t, _, 0, _, rfl, rfl, sqt, j0, .str "none", .str "none", .str _, .str _, shaped_lit (by decide +kernel), shaped_lit (by decide +kernel), _, rfl, ?_⟩
      rw [eqN, decide_eq_true rfl]
      refine iteT ⟨_, rfl, t, _, 1, _, rfl, rfl, sqt, j1, (by show (2 : Nat) ≤ sizeLine; decide), fun t2 nt2 => ?_⟩
      have k6 := Kp.new (o := HO.tup [.str "none", rv]) k5.tab nt2
      exact non t2 rv _ (kk4.trans (k5.trans k6)) (kk4.free (k5.free nt2)) upd_same fun pk s => out.2 pk s fun p hp _ => by cases hp
end
end Pk

set_option Elab.async false
set_option linter.all false
set_option maxRecDepth 100000
set_option maxHeartbeats 4000000
namespace Pk
open PySem PySem.Spec PyProof.Rows L2
/-! ### _law_all_picks: none is missing -/
def SameP (pk pk' : List (Str × Int)) : Prop := ∀ w, lkP pk w = lkP pk' w
theorem lkP_nil (w : Str) : lkP [] w = none := rfl
theorem lkP_app {pk : List (Str × Int)} {x : Str} {m : Int} (h : x ∉ pk.map (·.1)) (w : Str) : lkP (pk ++ [(x, m)]) w = if w = x then some m else lkP pk w := by
  unfold lkP
  rw [List.find?_append]
  by_cases e : w = x
  · subst e
    rw [if_pos rfl]
    have : pk.find? (fun e => decide (e.1 = w)) = none := List.find?_eq_none.mpr fun e he z => h (List.mem_map.mpr ⟨e, he, of_decide_eq_true z⟩)
    rw [this]
    simp
  · rw [if_neg e]
    have e2 : ¬ x = w := fun z => e z.symm
    cases hf : pk.find? (fun e => decide (e.1 = w)) with
    | none => simp [e2]
    | some v => simp
theorem lkP_no {pk : List (Str × Int)} {x : Str} (h : x ∉ pk.map (·.1)) : lkP pk x = none := by
  unfold lkP
  rw [Option.map_eq_none_iff, List.find?_eq_none]
  exact fun e he z => h (List.mem_map.mpr ⟨e, he, of_decide_eq_true z⟩)
/-- a pick of i + 1 rows is one of i rows, or that with a make of the last -/
theorem PkI.cases {cl : List Shelf} {i : Nat} {s : Shelf} {pk : List (Str × Int)} (nd : (cl.map (·.ware)).Nodup) (es : cl[i]? = some s) (h : PkI cl (i + 1) pk) : PkI cl i pk ∨ ∃ pk1 e, PkI cl i pk1 ∧ e ∈ s.ents ∧ s.ware ∉ pk1.map (·.1) ∧ ∀ w, lkP pk w = if w = s.ware then some e.1 else lkP pk1 w := by
  have lk : look cl s.ware = some s := look_of nd (List.mem_of_getElem? es) rfl
  have old : ∀ y ∈ pk.map (·.1), y ≠ s.ware → y ∈ (cl.take i).map (·.ware) := fun y hy hn => by
    have z := h.2 y hy
    rw [List.take_add_one, es, List.map_append] at z
    rcases List.mem_append.mp z with z | z
    · exact z
    · exact absurd (List.mem_singleton.mp z) hn
  by_cases hs : s.ware ∈ pk.map (·.1)
  · right
    obtain ⟨p, hp, ep⟩ := List.mem_map.mp hs
    have hin := h.1.in_ p hp
    rw [ep, look_data lk, List.map_map] at hin
    obtain ⟨e, he, ee⟩ := List.mem_map.mp hin
    have ee : e.1 = p.2 := ee
    have sub : (pk.filter fun q => decide (q.1 ≠ s.ware)).Sublist pk := List.filter_sublist
    have nin : s.ware ∉ (pk.filter fun q => decide (q.1 ≠ s.ware)).map (·.1) := fun z => by
      obtain ⟨q, hq, eq⟩ := List.mem_map.mp z
      exact of_decide_eq_true (List.mem_filter.mp hq).2 eq
    have nd1 := (sub.map (·.1)).nodup h.1.nd
    refine ⟨pk.filter fun q => decide (q.1 ≠ s.ware), e, ⟨⟨nd1, Nat.le_trans sub.length_le h.1.len, fun q hq => h.1.gd q (sub.subset hq), fun q hq => h.1.in_ q (sub.subset hq)⟩, fun y hy => ?_⟩, he, nin, fun w => ?_⟩
    · obtain ⟨q, hq, rfl⟩ := List.mem_map.mp hy
      exact old q.1 (List.mem_map.mpr ⟨q, sub.subset hq, rfl⟩) (of_decide_eq_true (List.mem_filter.mp hq).2)
    · by_cases hw : w = s.ware
      · rw [if_pos hw, hw, ee]
        exact lkP_of h.1.nd (by rw [← ep]; exact hp)
      · rw [if_neg hw]
        cases hl : lkP pk w with
        | some m =>
          exact (lkP_of nd1 (List.mem_filter.mpr ⟨lkP_mem hl, decide_eq_true hw⟩)).symm
        | none =>
          refine (lkP_no fun z => lkP_none hl ?_).symm
          obtain ⟨q, hq, rfl⟩ := List.mem_map.mp z
          exact List.mem_map.mpr ⟨q, sub.subset hq, rfl⟩
  · exact .inl ⟨h.1, fun y hy => old y hy fun z => hs (z ▸ hy)⟩
theorem perm_ndC {a b : List Str} (ha : a.Nodup) (hb : b.Nodup) (h : ∀ x, x ∈ a ↔ x ∈ b) : a.Perm b := (List.perm_ext_iff_of_nodup ha hb).mpr h
theorem lk_keyC {pk : List (Str × Int)} {w : Str} (h : w ∈ pk.map (·.1)) (nd : (pk.map (·.1)).Nodup) : ∃ m, (w, m) ∈ pk ∧ lkP pk w = some m := by
  obtain ⟨e, he, rfl⟩ := List.mem_map.mp h
  exact ⟨e.2, he, lkP_of nd (show (e.1, e.2) ∈ pk from he)⟩
theorem same_metsC {D : Str → List (Int × List PyData)} {ds : List PyData} {pk pk' : List (Str × Int)} (nd : (pk.map (·.1)).Nodup) (O' : PickOk D pk') (e : ∀ w, lkP pk w = lkP pk' w) (M : Mets D ds pk') : Mets D ds pk := by
  obtain ⟨out, ag, hm⟩ := M
  have en : ∀ w, needW D pk' w = needW D pk w := fun w => by unfold needW; rw [e w]
  have em : metD pk = metD pk' := funext fun d => by
    unfold metD
    split
    · rw [e]
    · rfl
  refine ⟨out, ag.congr en, ?_⟩
  unfold mB at hm ⊢
  rw [Bool.and_eq_true] at hm ⊢
  refine ⟨decide_eq_true ((perm_ndC nd O'.nd fun x => ⟨fun hx => ?_, fun hx => ?_⟩).trans (of_decide_eq_true hm.1)), List.all_eq_true.mpr fun d hd => ?_⟩
  · obtain ⟨m, _, h⟩ := lk_keyC hx nd
    rw [e] at h
    exact List.mem_map.mpr ⟨_, lkP_mem h, rfl⟩
  · obtain ⟨m, _, h⟩ := lk_keyC hx O'.nd
    rw [← e] at h
    exact List.mem_map.mpr ⟨_, lkP_mem h, rfl⟩
  · rw [em]
    refine List.all_eq_true.mp hm.2 d ?_
    rcases List.mem_append.mp hd with hd | hd
    · exact List.mem_append_left _ hd
    · obtain ⟨x, hx, hd⟩ := List.mem_flatMap.mp hd
      have h := lkP_of nd (show (x.1, x.2) ∈ pk from hx)
      rw [e] at h
      exact List.mem_append_right _ (List.mem_flatMap.mpr ⟨(x.1, x.2), lkP_mem h, hd⟩)
section
variable {P : Program} {w : World} {K : PySem.W.Frag} {mg : Str → Option Value} {base : Heap}
def spAllPC (K : PySem.W.Frag) (T : Addr) : Sp := fun vs H Q _ => ∃ (A : List Addr) (r q : Addr) (cl : List Shelf) (xs : List V) (ds : List PyData), vs = [.ref r, .ref q] ∧ BoxOk K A H r cl ∧ RowsG 3 cl ∧ cl.length ≤ 4 ∧ SqL K H q xs ∧ DpAll K H xs ds ∧ (∀ d ∈ ds, ND d) ∧ ds.length ≤ 8 ∧ RawB K H cl ∧ GxR.TabG H T ∧
  ∀ l vs pks H', Kp T H H' → H l = none → H' l = some (.lst vs) → Paired (PkN H H') vs pks → (∀ pk ∈ pks, PickOk (dataOf cl) pk ∧ Mets (dataOf cl) ds pk) → pks.length ≤ 256 → (∀ pk0, PickOk (dataOf cl) pk0 → Mets (dataOf cl) ds pk0 → ∃ pk ∈ pks, SameP pk pk0) → Q (.ref l) H'
theorem ok_allpC {f fM T : Addr} {fd fdM : FuncData} (F : Fun K "_law_all_picks" "_law_all_picks" sAllP f fd)
    (GM : FnOk P w K mg base CX0 2 fM fdM ["_law_rows_here", "_law_wish_here", nPick] (spLMt K T)) (kM : PySem.W.keepIn K (.ref fM) = true) (bM : Binds K fdM ["_law_rows_here", "_law_wish_here", nPick] []) (gM : mg "_law_meets" = some (.ref fM))
    (y_dict : mg "dict" = none) : FnOk P w K mg base CX0 3 f fd ["_law_rows_here", "_law_wish_here"] (spAllPC K T) := by
  refine F.ok scAllP (fun vs H Q E h => ?_) (fun cdv A0 outer s H vs Q E hr h => ?_)
  · obtain ⟨A, r, q, cl, xs, ds, rfl, _⟩ := h
    rfl
  · obtain ⟨A, r, q, cl, xs, ds, rfl, B, G, h4, hq, hds, hnd, h8, hR, ht, fin⟩ := h
    have hu := hu_of hr
    refine ⟨_, (pss_cons (ps_set (i := 2) scAllP.nd rfl (by first | exact .inl rfl | exact .inr rfl) (pe_lst (pa_cons pe_dnewK pa_nil)))
      (pss_cons (ps_lock (ps_for PassesOwn.never rfl (pi_keys (pv 0)) (pg_name (i := 3) scAllP.nd rfl (by first | exact .inl rfl | exact .inr rfl)) (pss_cons (ps_set (i := 4) scAllP.nd rfl (by first | exact .inl rfl | exact .inr rfl) (pe_lst pa_nil))
      (pss_cons (ps_for PassesOwn.never rfl (pi_list (pv 2)) (pg_name (i := 5) scAllP.nd rfl (by first | exact .inl rfl | exact .inr rfl)) (pss_cons (ps_expr (pe_bm PySem.F.plainAttrs_list PySem.F.slot_list_append PySem.F.type_list_append mt_append (pv 4) (pa_cons (pv 5) pa_nil)))
      (pss_one (ps_lock (ps_for PassesOwn.never rfl (pi_keys (pe_dget hu (pv 0) (pv 3) (fun _ _ => rfl))) (pg_name (i := 6) scAllP.nd rfl (by first | exact .inl rfl | exact .inr rfl)) (pss_cons (ps_set (i := 7) scAllP.nd rfl (by first | exact .inl rfl | exact .inr rfl) (pe_callTy call_dictD (by rfl) y_dict boot_dict (pa_cons (pv 5) pa_nil)))
      (pss_cons (ps_dput hu (pv 7) (pv 3) (pv 6) rfl)
      (pss_one (ps_expr (pe_bm PySem.F.plainAttrs_list PySem.F.slot_list_append PySem.F.type_list_append mt_append (pv 4) (pa_cons (pv 7) pa_nil)))))))))))
      (pss_one (ps_set (i := 2) scAllP.nd rfl (by first | exact .inl rfl | exact .inr rfl) (pv 4)))))))
      (pss_one (ps_ret (pe_lc (own := [("_law_pick", 5)]) (g := (gName 5)) rfl scAllP.nd (pi_list (pv 2)) (blkOk_by (own := [("_law_pick", 5)]) (N := allPN) (sc := defScope sAllP) (by decide +kernel)) (fun _ _ _ _ _ => (pg_name (i := 5) scAllP.nd rfl (by first | exact Or.inl rfl | exact Or.inr rfl))) (fun _ _ _ _ _ => pts_one (pt_val (pe_call GM (hr.mono (by decide)) (by rfl) gM kM bM .nil pass0 (pa_cons (pv 0) (pa_cons (pv 1) (pa_cons (pv 5) pa_nil)))))) (fun _ _ _ _ _ => (pv 5))))))), ?_⟩
    -- one empty pick
    intro d0 n0
    have k1 := Kp.new (o := HO.dK []) ht n0
    have e1 : upd H d0 (.dK []) d0 = some (.dK (pkD [])) := upd_same
    generalize upd H d0 (.dK []) = H1 at k1 e1 ⊢
    refine ⟨(by show (1 : Nat) ≤ sizeLine; decide), fun P0 nP => ?_⟩
    have k2 := Kp.new (o := HO.lst [.ref d0]) k1.tab nP
    have eP : upd H1 P0 (.lst [.ref d0]) P0 = some (.lst [.ref d0]) := upd_same
    have e12 := dict_kp k2 e1
    have k12 := k1.trans k2
    generalize upd H1 P0 (.lst [.ref d0]) = H2 at k2 eP e12 k12 ⊢
    have B2 := B.keptP k12
    have t2 := k2.tab
    have rT := B2.foot_ne t2 r (List.mem_cons_self ..)
    have rH : H r ≠ none := by rw [B.dc]; exact fun z => by cases z
    -- the rows, one behind the other
    refine ⟨r, _, B2.dc, True.intro, fun od => ?_⟩
    have eb : upd H2 r (.frz od (.dK (cl.map keyW))) r = some (.frz od (.dK (cl.map keyW))) := upd_same
    have BR := (BoxR.of B2).lock (od := od) B2.dc
    have un : ∀ H', Kp T (upd H2 r (.frz od (.dK (cl.map keyW)))) H' → Kp T H2 (upd H' r (.dK (cl.map keyW))) := fun H' k => unlockP t2 B2.dc rT k
    have tb : GxR.TabG (upd H2 r (.frz od (.dK (cl.map keyW)))) T := tab_upd t2 rT
    have dcb : ∀ s ∈ cl, upd H2 r (.frz od (.dK (cl.map keyW))) s.at_ = some (.dK (s.ents.map entK)) := fun s hs => by
      have na := B2.na
      rw [List.nodup_cons] at na
      rw [upd_ne (fun z => na.1 (by rw [← z]; exact List.mem_map.mpr ⟨s, hs, rfl⟩))]
      exact (B2.sh s hs).dc
    have ePb : upd H2 r (.frz od (.dK (cl.map keyW))) P0 = some (.lst [.ref d0]) := by rw [upd_ne (fun z => by rw [z, B2.dc] at eP; cases eP)]; exact eP
    have pb : PkN H (upd H2 r (.frz od (.dK (cl.map keyW)))) (.ref d0) [] := PkN.upd rH ⟨d0, rfl, n0, e12⟩
    have frb : ∀ f, upd H2 r (.frz od (.dK (cl.map keyW))) f = none → H f = none := fun f hf => by
      rw [upd_ne (fun z => by rw [z, upd_same] at hf; cases hf)] at hf
      exact k12.free hf
    generalize upd H2 r (.frz od (.dK (cl.map keyW))) = HB at eb BR un tb dcb ePb pb frb ⊢
    refine ⟨_, rfl, r, od, rfl, .inl ⟨_, eb, for_it walk_keys (fun i σ' H' => ∃ (x3 x4 x5 x6 x7 : Option V) (cur : Addr) (vs : List V) (pks : List (List (Str × Int))), σ' = [some (.ref r), some (.ref q), some (.ref cur), x3, x4, x5, x6, x7] ∧ Kp T HB H' ∧ H cur = none ∧ H' cur = some (.lst vs) ∧ Paired (PkN H H') vs pks ∧ (∀ pk ∈ pks, PkI cl i pk) ∧ pks.length ≤ 4 ^ i ∧ ∀ pk0, PkI cl i pk0 → ∃ pk ∈ pks, SameP pk pk0)
      ⟨none, none, none, none, none, P0, _, [[]], rfl, .refl tb, k1.free nP, ePb, .cons pb .nil, (fun pk hp => by rw [List.mem_singleton.mp hp]; exact ⟨.nil, fun y hy => by cases hy⟩), Nat.le_refl _, fun pk0 h0 => ⟨[], List.mem_singleton.mpr rfl, fun w => ((lkP_nil w).trans (lkP_no fun z => (by have z2 := h0.2 w z; cases z2)).symm)⟩⟩ (fun i σ' H' _ ⟨_, _, _, _, _, _, _, _, _, kk, _⟩ => kk.keep _ _ rT eb) ?_ ?_⟩⟩
    · rintro i v σ' H3 H3' hi ⟨x3, x4, x5, x6, x7, cur, vs, pks, rfl, k3, ncur, ecur, hP, hI, hl, hC⟩ ⟨rfl, k0, v0, hk, rfl⟩
      have hil : i < cl.length := by rw [List.length_map] at hi; exact hi
      have es : cl[i]? = some cl[i] := List.getElem?_eq_getElem hil
      have hs := List.getElem_mem hil
      rw [List.getElem?_map, es] at hk
      have hk := Option.some.inj hk
      have ek : k0 = Sum.inr cl[i].ware := (congrArg Prod.fst hk).symm
      subst ek
      clear hk
      generalize cl[i] = s at es hs ⊢
      have sT := B.foot_ne ht s.at_ (List.mem_cons_of_mem _ (List.mem_map.mpr ⟨s, hs, rfl⟩))
      have sH : H s.at_ ≠ none := by rw [(B.sh s hs).dc]; exact fun z => by cases z
      have lk : look cl s.ware = some s := look_of B.nd hs rfl
      have gw := G.w s hs
      have h3 := G.el s hs
      have p1 : 4 ^ (i + 1) = 4 * 4 ^ i := by rw [Nat.pow_succ, Nat.mul_comm]
      have p2 : 4 ^ (i + 1) ≤ 4 ^ 4 := Nat.pow_le_pow_right (by decide) (by omega)
      have p3 : (4 : Nat) ^ 4 = 256 := rfl
      refine ⟨(by show (0 : Nat) ≤ sizeLine; decide), fun M nM => ?_⟩
      have k4 := Kp.new (o := HO.lst []) k3.tab nM
      have nMB := k3.free nM
      have nMH := frb _ nMB
      have MT := tab_nn k3.tab nM
      have Ms : M ≠ s.at_ := fun z => sH (by rw [← z]; exact nMH)
      have cs : cur ≠ s.at_ := fun z => sH (by rw [← z]; exact ncur)
      have Mc : cur ≠ M := fun z => by rw [z, nM] at ecur; cases ecur
      have hlv := paired_len hP
      refine ⟨_, rfl, cur, rfl, ⟨_, .inl (.inl (k4.lst ecur))⟩, for_list (K := K) (a := cur) (xs := vs) (fun k σ' H' => ∃ (x5 x6 x7 : Option V) (mv : List V) (mp : List (List (Str × Int))), σ' = [some (.ref r), some (.ref q), some (.ref cur), some (.str s.ware), some (.ref M), x5, x6, x7] ∧ Kp T HB H' ∧ H' cur = some (.lst vs) ∧ Paired (PkN H H') vs pks ∧ H' M = some (.lst mv) ∧ Paired (PkN H H') mv mp ∧ (∀ pk ∈ mp, PkI cl (i + 1) pk) ∧ mp.length ≤ 4 * k ∧ ∀ y ∈ pks.take k, y ∈ mp ∧ ∀ e ∈ s.ents, y ++ [(s.ware, e.1)] ∈ mp)
        ⟨x5, x6, x7, [], [], rfl, k3.trans k4, k4.lst ecur, paired_mono (fun _ _ => PkN.kept k4) hP, upd_same, .nil, (fun pk hp => by cases hp), Nat.zero_le _, fun y hy => (by cases hy)⟩ (fun k σ' H' _ ⟨_, _, _, _, _, _, _, e, _⟩ => .inl (.inl e)) ?_ ?_⟩
      · rintro k v σ' H5 hk ⟨x5, x6, x7, mv, mp, rfl, k5, ec5, hP5, eM5, hM5, hI5, hl5, hC5⟩
        have hkl : k < pks.length := by
          rw [← hlv]
          exact (List.getElem?_eq_some_iff.mp hk).1
        have ek := List.getElem?_eq_getElem hkl
        obtain ⟨v', ev', pa⟩ := paired_get hP5 ek
        rw [hk] at ev'
        cases ev'
        have hIk := hI _ (List.getElem_mem hkl)
        have etk := take_succ_get ek
        generalize pks[k] = pk at pa hIk etk
        have hmv := paired_len hM5
        -- the pick itself
        refine ⟨_, rfl, .inl ⟨rfl, _, .inl (.inl eM5)⟩, _, rfl, M, _, _, rfl, rfl, eM5, small1000 (by omega), ?_⟩
        obtain ⟨a, rfl, na, ea⟩ := pa
        have k6 := k5.set nMB MT (o := HO.lst (mv ++ [.ref a]))
        have ec6 : upd H5 M (.lst (mv ++ [.ref a])) cur = some (.lst vs) := by rw [upd_ne Mc]; exact ec5
        have hP6 := paired_mono (S := PkN H (upd H5 M (.lst (mv ++ [.ref a])))) (fun _ _ => PkN.set eM5) hP5
        have pa6 : PkN H (upd H5 M (.lst (mv ++ [.ref a]))) (.ref a) pk := PkN.set eM5 ⟨a, rfl, na, ea⟩
        have hM6 := paired_app2 (paired_mono (S := PkN H (upd H5 M (.lst (mv ++ [.ref a])))) (fun _ _ => PkN.set eM5) hM5) (.cons pa6 .nil)
        have eM6 : upd H5 M (.lst (mv ++ [.ref a])) M = some (.lst (mv ++ [.ref a])) := upd_same
        generalize upd H5 M (.lst (mv ++ [.ref a])) = H6 at k6 ec6 hP6 pa6 hM6 eM6 ⊢
        clear hM5 eM5 hP5 ec5 k5 ea
        -- and one for each make
        have ed := k6.keep _ _ sT (dcb s hs)
        refine ⟨s.at_, _, ed, True.intro, fun od2 => ?_⟩
        have kL := Kp.both (d := s.at_) (o := .frz od2 (.dK (s.ents.map entK))) k6 sT
        have eb2 : upd HB s.at_ (.frz od2 (.dK (s.ents.map entK))) s.at_ = some (.frz od2 (.dK (s.ents.map entK))) := upd_same
        have BR2 := BR.lock (od := od2) (dcb s hs)
        have un2 : ∀ H', Kp T (upd HB s.at_ (.frz od2 (.dK (s.ents.map entK)))) H' → Kp T HB (upd H' s.at_ (.dK (s.ents.map entK))) := fun H' k => unlockP k6.t0 (dcb s hs) sT k
        have nMb2 : upd HB s.at_ (.frz od2 (.dK (s.ents.map entK))) M = none := by rw [upd_ne Ms]; exact nMB
        have ecL : upd H6 s.at_ (.frz od2 (.dK (s.ents.map entK))) cur = some (.lst vs) := by rw [upd_ne cs]; exact ec6
        have eML : upd H6 s.at_ (.frz od2 (.dK (s.ents.map entK))) M = some (.lst (mv ++ [.ref a])) := by rw [upd_ne Ms]; exact eM6
        have hPL := paired_mono (S := PkN H (upd H6 s.at_ (.frz od2 (.dK (s.ents.map entK))))) (fun _ _ => PkN.upd sH) hP6
        have hML := paired_mono (S := PkN H (upd H6 s.at_ (.frz od2 (.dK (s.ents.map entK))))) (fun _ _ => PkN.upd sH) hM6
        have paL : PkN H (upd H6 s.at_ (.frz od2 (.dK (s.ents.map entK)))) (.ref a) pk := PkN.upd sH pa6
        have frb2 : ∀ f, upd HB s.at_ (.frz od2 (.dK (s.ents.map entK))) f = none → H f = none := fun f hf => by
          rw [upd_ne (fun z => by rw [z, upd_same] at hf; cases hf)] at hf
          exact frb f hf
        generalize upd HB s.at_ (.frz od2 (.dK (s.ents.map entK))) = HBL at kL eb2 BR2 un2 nMb2 frb2 ⊢
        generalize upd H6 s.at_ (.frz od2 (.dK (s.ents.map entK))) = HL at kL ecL eML hPL hML paL ⊢
        clear hM6 eM6 hP6 ec6 pa6 ed k6
        have c1 := cell_rd (BR2.keptP kL) s.ware
        rw [lk] at c1
        refine ⟨_, rfl, _, rfl, r, _, rfl, c1, s.at_, od2, rfl, .inl ⟨_, kL.keep _ _ sT eb2, for_it walk_keys (fun j σ' H' => ∃ (x6 x7 : Option V) (mv : List V) (mp : List (List (Str × Int))), σ' = [some (.ref r), some (.ref q), some (.ref cur), some (.str s.ware), some (.ref M), some (.ref a), x6, x7] ∧ Kp T HBL H' ∧ H' cur = some (.lst vs) ∧ Paired (PkN H H') vs pks ∧ PkN H H' (.ref a) pk ∧ H' M = some (.lst mv) ∧ Paired (PkN H H') mv mp ∧ (∀ pk ∈ mp, PkI cl (i + 1) pk) ∧ mp.length ≤ 4 * k + 1 + j ∧ (∀ y ∈ pks.take k, y ∈ mp ∧ ∀ e ∈ s.ents, y ++ [(s.ware, e.1)] ∈ mp) ∧ pk ∈ mp ∧ ∀ e ∈ s.ents.take j, pk ++ [(s.ware, e.1)] ∈ mp)
          ⟨x6, x7, _, mp ++ [pk], rfl, kL, ecL, hPL, paL, eML, hML, (fun y hy => ?_), (by rw [List.length_append, List.length_singleton]; omega), fun y hy => ⟨List.mem_append_left _ (hC5 y hy).1, fun e he => List.mem_append_left _ ((hC5 y hy).2 e he)⟩, List.mem_append_right _ (List.mem_singleton.mpr rfl), fun e he => (by cases he)⟩ (fun j σ' H' _ ⟨_, _, _, _, _, kk, _⟩ => kk.keep _ _ sT eb2) ?_ ?_⟩⟩
        · rcases List.mem_append.mp hy with hy | hy
          · exact hI5 y hy
          · rw [List.mem_singleton.mp hy]; exact hIk.up
        · rintro j v σ' H7 H7' hj ⟨x6, x7, mv, mp, rfl, k7, ec7, hP7, pa7, eM7, hM7, hI7, hl7, hC7, hpk7, hE7⟩ ⟨rfl, kk1, vv, hk2, rfl⟩
          have hjl : j < s.ents.length := by rw [List.length_map] at hj; exact hj
          rw [List.getElem?_map, List.getElem?_eq_getElem hjl] at hk2
          have hk2 := Option.some.inj hk2
          have ek2 : kk1 = Sum.inl s.ents[j].1 := (congrArg Prod.fst hk2).symm
          subst ek2
          clear hk2
          have he := List.getElem_mem hjl
          have etj := take_succ_get (List.getElem?_eq_getElem hjl)
          generalize s.ents[j] = e at he etj ⊢
          have hmv := paired_len hM7
          obtain ⟨a', ea', na', ea7⟩ := id pa7
          cases ea'
          refine ⟨_, rfl, a, _, rfl, .inl ea7, fun b nb => ?_⟩
          have nbH := frb2 _ (k7.free nb)
          have k8 := Kp.new (o := HO.dK (pkD pk)) k7.tab nb
          have eb8 : upd H7' b (.dK (pkD pk)) b = some (.dK (pkD pk)) := upd_same
          have k78 := k7.trans k8
          have nbT := tab_nn k7.tab nb
          have nbB := k7.free nb
          have O := hIk.1
          have hpl := O.le
          have hm : e.1 ∈ s.ents.map (·.1) := List.mem_map.mpr ⟨e, he, rfl⟩
          obtain ⟨fresh, hIn⟩ := hIk.new B.nd es gw hm (by omega)
          have ec8 := k8.lst ec7
          have eM8 := k8.lst eM7
          have hP8 := paired_mono (S := PkN H (upd H7' b (.dK (pkD pk)))) (fun _ _ => PkN.kept k8) hP7
          have hM8 := paired_mono (S := PkN H (upd H7' b (.dK (pkD pk)))) (fun _ _ => PkN.kept k8) hM7
          have pa8 : PkN H (upd H7' b (.dK (pkD pk))) (.ref a) pk := pa7.kept k8
          have nbV : ∀ {x : V} {y : List (Str × Int)}, PkN H H7' x y → ∀ {u : HO}, PkN H (upd (upd H7' b (.dK (pkD pk))) b u) x y := fun {x y} h {u} => by
            obtain ⟨a2, e2, n2, h2⟩ := h
            refine ⟨a2, e2, n2, ?_⟩
            have ne : a2 ≠ b := fun z => by rw [z, nb] at h2; cases h2
            rw [upd_ne ne, upd_ne ne]
            exact h2
          have hP9 := paired_mono (S := PkN H (upd (upd H7' b (.dK (pkD pk))) b (.dK (putK (pkD pk) (Sum.inr s.ware) (L2.kV (Sum.inl e.1)))))) (fun _ _ h => nbV h) hP7
          have hM9 := paired_mono (S := PkN H (upd (upd H7' b (.dK (pkD pk))) b (.dK (putK (pkD pk) (Sum.inr s.ware) (L2.kV (Sum.inl e.1)))))) (fun _ _ h => nbV h) hM7
          have pa9 : PkN H (upd (upd H7' b (.dK (pkD pk))) b (.dK (putK (pkD pk) (Sum.inr s.ware) (L2.kV (Sum.inl e.1))))) (.ref a) pk := nbV pa7
          have bc : b ≠ cur := fun z => by rw [z, ec7] at nb; cases nb
          have bM : b ≠ M := fun z => by rw [z, eM7] at nb; cases nb
          have ec9 : upd (upd H7' b (.dK (pkD pk))) b (.dK (putK (pkD pk) (Sum.inr s.ware) (L2.kV (Sum.inl e.1)))) cur = some (.lst vs) := by rw [upd_ne bc.symm]; exact ec8
          have eM9 : upd (upd H7' b (.dK (pkD pk))) b (.dK (putK (pkD pk) (Sum.inr s.ware) (L2.kV (Sum.inl e.1)))) M = some (.lst mv) := by rw [upd_ne bM.symm]; exact eM8
          refine ⟨_, rfl, _, rfl, _, rfl, b, _, rfl, DPut.k (k := Sum.inr s.ware) eb8 (small1000 (by unfold pkD; rw [List.length_map]; omega)), ?_⟩
          have k9 := k78.set nbB nbT (o := HO.dK (putK (pkD pk) (Sum.inr s.ware) (L2.kV (Sum.inl e.1))))
          have eb9 : upd (upd H7' b (.dK (pkD pk))) b (.dK (putK (pkD pk) (Sum.inr s.ware) (L2.kV (Sum.inl e.1)))) b = some (.dK (putK (pkD pk) (Sum.inr s.ware) (L2.kV (Sum.inl e.1)))) := upd_same
          generalize upd (upd H7' b (.dK (pkD pk))) b (.dK (putK (pkD pk) (Sum.inr s.ware) (L2.kV (Sum.inl e.1)))) = H9 at k9 eb9 hP9 hM9 pa9 ec9 eM9 ⊢
          have eb9 : H9 b = some (.dK (pkD (pk ++ [(s.ware, e.1)]))) := by rw [← pkD_put fresh]; exact eb9
          refine ⟨_, rfl, .inl ⟨rfl, _, .inl (.inl eM9)⟩, _, rfl, M, _, _, rfl, rfl, eM9, small1000 (by omega), ?_⟩
          refine ⟨_, _, _, mp ++ [pk ++ [(s.ware, e.1)]], rfl, k9.set nMb2 MT, by rw [upd_ne Mc]; exact ec9, paired_mono (fun _ _ => PkN.set eM9) hP9, PkN.set eM9 pa9, upd_same, paired_app2 (paired_mono (fun _ _ => PkN.set eM9) hM9) (.cons (PkN.set eM9 ⟨b, rfl, nbH, eb9⟩) .nil), fun y hy => ?_, (by rw [List.length_append, List.length_singleton]; omega), fun y hy => ⟨List.mem_append_left _ (hC7 y hy).1, fun e he => List.mem_append_left _ ((hC7 y hy).2 e he)⟩, List.mem_append_left _ hpk7, fun e' he' => (by
            rw [etj] at he'
            rcases List.mem_append.mp he' with he' | he'
            · exact List.mem_append_left _ (hE7 e' he')
            · rw [List.mem_singleton.mp he']; exact List.mem_append_right _ (List.mem_singleton.mpr rfl))⟩
          rcases List.mem_append.mp hy with hy | hy
          · exact hI7 y hy
          · rw [List.mem_singleton.mp hy]; exact hIn
        · rintro σ' H7 ⟨x6, x7, mv, mp, rfl, k7, ec7, hP7, pa7, eM7, hM7, hI7, hl7, hC7, hpk7, hE7⟩
          have er := k7.keep _ _ sT eb2
          refine ⟨er, ?_⟩
          rw [List.length_map] at hl7 hE7
          rw [List.take_length] at hE7
          exact ⟨_, _, _, mv, mp, rfl, un2 H7 k7, by rw [upd_ne cs]; exact ec7, paired_mono (fun _ _ => PkN.upd sH) hP7, by rw [upd_ne Ms]; exact eM7, paired_mono (fun _ _ => PkN.upd sH) hM7, hI7, by omega, fun y hy => (by
            rw [etk] at hy
            rcases List.mem_append.mp hy with hy | hy
            · exact hC7 y hy
            · rw [List.mem_singleton.mp hy]; exact ⟨hpk7, hE7⟩)⟩
      · rintro σ' H5 ⟨x5, x6, x7, mv, mp, rfl, k5, ec5, hP5, eM5, hM5, hI5, hl5, hC5⟩
        rw [hlv, List.take_length] at hC5
        refine ⟨_, rfl, _, _, _, _, _, M, mv, mp, rfl, k5, nMH, eM5, hM5, hI5, by omega, fun pk0 h0 => ?_⟩
        rcases PkI.cases B.nd es h0 with h1 | ⟨pk1, e, h1, he, hn, hlk⟩
        · obtain ⟨pk, hpk, sm⟩ := hC pk0 h1
          exact ⟨pk, (hC5 pk hpk).1, sm⟩
        · obtain ⟨pk, hpk, sm⟩ := hC pk1 h1
          have nin : s.ware ∉ pk.map (·.1) := fun z => by
            obtain ⟨q, hq, eq⟩ := List.mem_map.mp z
            have l1 := lkP_of (hI pk hpk).1.nd (show (q.1, q.2) ∈ pk from hq)
            rw [eq, sm, lkP_no hn] at l1
            cases l1
          exact ⟨_, (hC5 pk hpk).2 e he, fun w => by rw [lkP_app nin, hlk, sm]⟩
    · rintro σ' H3 ⟨x3, x4, x5, x6, x7, cur, vs, pks, rfl, k3, ncur, ecur, hP, hI, hl, hC⟩
      have er := k3.keep _ _ rT eb
      refine ⟨er, ?_⟩
      have k4 := k12.trans (un H3 k3)
      have cr : cur ≠ r := fun z => rH (by rw [← z]; exact ncur)
      have ec4 : upd H3 r (.dK (cl.map keyW)) cur = some (.lst vs) := by rw [upd_ne cr]; exact ecur
      have hP4 := paired_mono (S := PkN H (upd H3 r (.dK (cl.map keyW)))) (fun _ _ => PkN.upd rH) hP
      generalize upd H3 r (.dK (cl.map keyW)) = H4 at k4 ec4 hP4 ⊢
      rw [List.length_map] at hl
      have h256 : pks.length ≤ 256 := Nat.le_trans hl (Nat.pow_le_pow_right (n := 4) (by decide) h4)
      -- those that meet the wish
      refine ⟨_, rfl, cur, rfl, ⟨_, .inl (.inl ec4)⟩, fun L nL => ?_⟩
      have LT := tab_nn k4.tab nL
      have nLH := k4.free nL
      have hlv := paired_len hP4
      refine lc_list (K := K) (a := cur) (xs := vs) (fun i H' => Kp T H4 H' ∧ ∃ ov op, H' L = some (.lst ov) ∧ Paired (PkN H H') ov op ∧ (∀ pk ∈ op, PickOk (dataOf cl) pk ∧ Mets (dataOf cl) ds pk) ∧ op.length ≤ i ∧ ∀ pk ∈ pks.take i, Mets (dataOf cl) ds pk → pk ∈ op) ⟨Kp.new k4.tab nL, [], [], upd_same, .nil, (fun pk hp => by cases hp), Nat.le_refl _, fun pk hp => (by cases hp)⟩ (fun i H' _ ⟨kk, _⟩ => .inl (.inl (kk.lst ec4))) (fun i v H' hi hv => ?_) (fun H5 hv => ?_)
      · obtain ⟨kk, ov, op, eL, hO, hIo, hlo, hCo⟩ := hv
        have hil : i < pks.length := by
          rw [← hlv]
          exact (List.getElem?_eq_some_iff.mp hi).1
        have ei := List.getElem?_eq_getElem hil
        obtain ⟨v', ev', pa⟩ := paired_get hP4 ei
        rw [hi] at ev'
        cases ev'
        have hIk := hI _ (List.getElem_mem hil)
        have eti := take_succ_get ei
        generalize pks[i] = pk at pa hIk eti
        obtain ⟨a, rfl, na, ea⟩ := pa.kept kk
        have kk4 := k4.trans kk
        have fl : ∀ {b : Bool} {H3 : Hp} {X : Prop}, Kp T H' H3 → (b = true ↔ Mets (dataOf cl) ds pk) → ((∃ acc, H3 L = some (.lst acc) ∧ acc.length < sizeLine ∧ (Kp T H4 (upd H3 L (.lst (acc ++ [.ref a]))) ∧ ∃ ov op, upd H3 L (.lst (acc ++ [.ref a])) L = some (.lst ov) ∧ Paired (PkN H (upd H3 L (.lst (acc ++ [.ref a])))) ov op ∧ (∀ pk ∈ op, PickOk (dataOf cl) pk ∧ Mets (dataOf cl) ds pk) ∧ op.length ≤ i + 1 ∧ ∀ pk ∈ pks.take (i + 1), Mets (dataOf cl) ds pk → pk ∈ op)) → X) → (if b = true then X else Kp T H4 H3 ∧ ∃ ov op, H3 L = some (.lst ov) ∧ Paired (PkN H H3) ov op ∧ (∀ pk ∈ op, PickOk (dataOf cl) pk ∧ Mets (dataOf cl) ds pk) ∧ op.length ≤ i + 1 ∧ ∀ pk ∈ pks.take (i + 1), Mets (dataOf cl) ds pk → pk ∈ op) := fun {b H3 X} k5 hb hx => by
          have kk5 := kk.trans k5
          have eL5 := k5.lst eL
          have hO5 := paired_mono (S := PkN H H3) (fun _ _ => PkN.kept k5) hO
          have pa5 : PkN H H3 (.ref a) pk := PkN.kept k5 ⟨a, rfl, na, ea⟩
          cases b with
          | true =>
            refine iteT (hx ⟨ov, eL5, small1000 (by rw [paired_len hO5]; omega), kk5.set nL LT, _, op ++ [pk], upd_same, paired_app2 (paired_mono (fun _ _ => PkN.set eL5) hO5) (.cons (PkN.set eL5 pa5) .nil), fun y hy => ?_, (by rw [List.length_append, List.length_singleton]; omega), fun y hy hm => (by
              rw [eti] at hy
              rcases List.mem_append.mp hy with hy | hy
              · exact List.mem_append_left _ (hCo y hy hm)
              · rw [List.mem_singleton.mp hy]; exact List.mem_append_right _ (List.mem_singleton.mpr rfl))⟩)
            rcases List.mem_append.mp hy with hy | hy
            · exact hIo y hy
            · rw [List.mem_singleton.mp hy]; exact ⟨hIk.1, hb.mp rfl⟩
          | false => exact iteF ⟨kk5, ov, op, eL5, hO5, hIo, by omega, fun y hy hm => (by
              rw [eti] at hy
              rcases List.mem_append.mp hy with hy | hy
              · exact hCo y hy hm
              · rw [List.mem_singleton.mp hy] at hm; exact absurd (hb.mpr hm) (by decide))⟩
        have har : a ∉ foot r cl := fun z => by
          obtain ⟨kvs, e⟩ := B.foot_dict a z
          rw [na] at e
          cases e
        refine ⟨rfl, _, rfl, _, rfl, _, rfl, A, r, q, a, cl, xs, ds, pk, rfl, B.keptP kk4, G.good (by decide), kk4.seq hq, kk4.dpAll _ _ hds, hnd, h8, ea, har, hIk.1, Nat.le_trans hIk.1.le (by omega), hR.kp kk4, kk.tab, fun H6 k6 hf => ⟨_, rfl, fl k6 ⟨fun z => (by cases z), fun ⟨o, _, z⟩ => (by unfold mB at z; rw [hf, Bool.and_false] at z; cases z)⟩ (fun h => ⟨_, rfl, h⟩)⟩, fun out H6 ag k6 => ⟨_, rfl, fl k6 ⟨fun z => ⟨out, ag, z⟩, fun ⟨o, ag2, z⟩ => (by rw [ag.det ag2]; exact z)⟩ (fun h => ⟨_, rfl, h⟩)⟩⟩
      · obtain ⟨kk, ov, op, eL, hO, hIo, hlo, hCo⟩ := hv
        rw [hlv, List.take_length] at hCo
        refine fin L ov op H5 (k4.trans kk) nLH eL hO hIo (by omega) fun pk0 O0 M0 => ?_
        have hin : ∀ y ∈ pk0.map (·.1), y ∈ (cl.take (cl.map keyW).length).map (·.ware) := fun y hy => by
          obtain ⟨e, he, rfl⟩ := List.mem_map.mp hy
          have z := O0.in_ e he
          obtain ⟨s, hs⟩ := look_cons (st := cl) (x := e.1) (fun q => by rw [q] at z; cases z)
          obtain ⟨g1, g2⟩ := look_mem hs
          rw [List.length_map, List.take_length]
          exact List.mem_map.mpr ⟨s, g1, g2⟩
        obtain ⟨pk, hpk, sm⟩ := hC pk0 ⟨O0, hin⟩
        exact ⟨pk, hCo pk hpk (same_metsC (hI pk hpk).1.nd O0 sm M0), sm⟩
end
end Pk

set_option Elab.async false
set_option linter.all false
set_option maxRecDepth 100000
set_option maxHeartbeats 4000000
namespace Pk
open PySem PySem.Spec PyProof.Rows L2
theorem ps_never {X : Cx} {st : Stmt} : PS X st (fun _ _ _ => False) := ⟨fun pins s σ H D I h => h.elim⟩
/-- of two picks the one is ahead: the first ware of the agenda at which they differ tells -/
def aheadB (pk pk2 : List (Str × Int)) : List Str → Bool
  | [] => false
  | w :: r => match lkP pk w, lkP pk2 w with
    | some m, some n => if m = n then aheadB pk pk2 r else decide (n < m)
    | _, _ => false
theorem ahead_drop {pk pk2 : List (Str × Int)} {out : List Str} {i : Nat} {w : Str} {m n : Int} (h : out[i]? = some w) (em : lkP pk w = some m) (en : lkP pk2 w = some n) : aheadB pk pk2 (out.drop i) = if m = n then aheadB pk pk2 (out.drop (i + 1)) else decide (n < m) := by
  have hl := (List.getElem?_eq_some_iff.mp h).1
  have e : out.drop i = w :: out.drop (i + 1) := by
    rw [List.drop_eq_getElem_cons hl]
    congr 1
    rw [List.getElem?_eq_getElem hl] at h
    exact Option.some.inj h
  rw [e]
  show (match lkP pk w, lkP pk2 w with | some m, some n => if m = n then aheadB pk pk2 (out.drop (i + 1)) else decide (n < m) | _, _ => false) = _
  rw [em, en]
theorem AgOf.pre {f : Str → List Str} : ∀ {ws : List Str} {n : Nat} {out : List Str}, AgOf f ws n out → ∃ r, out = ws ++ r
  | _, _, _, .done _ => ⟨[], (List.append_nil _).symm⟩
  | ws, n, _, .step (w := w) h r => by
    obtain ⟨q, e⟩ := AgOf.pre r
    obtain ⟨r', er⟩ := addW_pre ws (f w)
    exact ⟨r' ++ q, by rw [e, er, List.append_assoc]⟩
/-- two agendas are alike as far as what is picked is -/
theorem AgOf.agree {f g : Str → List Str} : ∀ {ws : List Str} {n : Nat} {a b : List Str}, AgOf f ws n a → AgOf g ws n b → ∀ {i : Nat} {w : Str}, a[i]? = some w → (∀ j v, j < i → a[j]? = some v → f v = g v) → b[i]? = some w
  | ws, n, _, b, .done h, hb, i, w, hi, _ => by
    cases hb with
    | done _ => exact hi
    | step h2 _ => rw [h] at h2; cases h2
  | ws, n, a, b, .step (w := w0) h r, hb, i, w, hi, hag => by
    have hn := (List.getElem?_eq_some_iff.mp h).1
    obtain ⟨ra, ea⟩ := AgOf.pre (.step h r)
    cases hb with
    | done h2 => rw [h] at h2; cases h2
    | step h2 r2 =>
      rw [h] at h2
      cases h2
      obtain ⟨rb, eb⟩ := AgOf.pre (.step h r2)
      by_cases hin : i ≤ n
      · rw [ea, List.getElem?_append_left (by omega)] at hi
        rw [eb, List.getElem?_append_left (by omega)]
        exact hi
      · have e : f w0 = g w0 := hag n w0 (by omega) (by rw [ea, List.getElem?_append_left hn]; exact h)
        rw [← e] at r2
        exact AgOf.agree r r2 hi hag
theorem Mets.keys {D : Str → List (Int × List PyData)} {ds : List PyData} {pk : List (Str × Int)} {out : List Str} (h : Mets D ds pk) (ag : AgOf (needW D pk) (addW [] (ds.map wOf)) 0 out) : (pk.map (·.1)).Perm out := by
  obtain ⟨o, ag1, hm⟩ := h
  rw [← ag1.det ag]
  unfold mB at hm
  rw [Bool.and_eq_true] at hm
  exact of_decide_eq_true hm.1
theorem lkP_key {pk : List (Str × Int)} {w : Str} (h : w ∈ pk.map (·.1)) : ∃ m, lkP pk w = some m := by
  cases e : lkP pk w with
  | none => exact absurd h (lkP_none e)
  | some m => exact ⟨m, rfl⟩
theorem ahead_at {D : Str → List (Int × List PyData)} {ds : List PyData} {pk pk2 : List (Str × Int)} {out : List Str} (ag : AgOf (needW D pk) (addW [] (ds.map wOf)) 0 out) (h1 : Mets D ds pk) (h2 : Mets D ds pk2) {i : Nat} {w : Str} (hi : out[i]? = some w) (hag : ∀ j v, j < i → out[j]? = some v → lkP pk v = lkP pk2 v) : ∃ m n, lkP pk w = some m ∧ lkP pk2 w = some n := by
  obtain ⟨m, em⟩ := lkP_key ((h1.keys ag).mem_iff.mpr (List.mem_of_getElem? hi))
  obtain ⟨o2, ag2, hm2⟩ := id h2
  have z := ag.agree ag2 hi fun j v hj hv => by
    unfold needW
    rw [hag j v hj hv]
  obtain ⟨n, en⟩ := lkP_key ((h2.keys ag2).mem_iff.mpr (List.mem_of_getElem? z))
  exact ⟨m, n, em, en⟩
section
variable {P : Program} {w : World} {K : PySem.W.Frag} {mg : Str → Option Value} {base : Heap}
def newerN : List Str := ["shop", "wish", "one", "other", "pick", "ware"]
def aheadN : List Str := ["_law_rows_here", "_law_wish_here", "_law_one", nOther, "_law_ware"]
theorem scAhead : FnScope aheadN ["_law_rows_here", "_law_wish_here", "_law_one", nOther] (defScope sAhead) := ⟨rfl, rfl, rfl, by decide +kernel, rfl, by decide +kernel, by decide +kernel⟩
def spAhead (K : PySem.W.Frag) (T : Addr) : Sp := fun vs H Q _ => ∃ (A : List Addr) (r q a b : Addr) (cl : List Shelf) (xs : List V) (ds : List PyData) (pk pk2 : List (Str × Int)), vs = [.ref r, .ref q, .ref a, .ref b] ∧ BoxOk K A H r cl ∧ GoodSh (dataOf cl) ∧ SqL K H q xs ∧ DpAll K H xs ds ∧ (∀ d ∈ ds, ND d) ∧ ds.length ≤ 8 ∧
  H a = some (.dK (pkD pk)) ∧ H b = some (.dK (pkD pk2)) ∧ PickOk (dataOf cl) pk ∧ PickOk (dataOf cl) pk2 ∧ Mets (dataOf cl) ds pk ∧ Mets (dataOf cl) ds pk2 ∧ GxR.TabG H T ∧ ∀ out H', AgOf (needW (dataOf cl) pk) (addW [] (ds.map wOf)) 0 out → Kp T H H' → Q (.bl (aheadB pk pk2 out)) H'
theorem ok_ahead {f fL T : Addr} {fd fdL : FuncData} (F : Fun K "_law_ahead" "_law_ahead" sAhead f fd)
    (GL : FnOk P w K mg base CX0 1 fL fdL ["_law_rows_here", "_law_wish_here", nPick] (spLAg K T)) (kL : PySem.W.keepIn K (.ref fL) = true) (bL : Binds K fdL ["_law_rows_here", "_law_wish_here", nPick] []) (gL : mg "_law_agenda" = some (.ref fL)) :
    FnOk P w K mg base CX0 2 f fd ["_law_rows_here", "_law_wish_here", "_law_one", nOther] (spAhead K T) := by
  refine F.ok scAhead (fun vs H Q E h => ?_) (fun cdv A0 outer s H vs Q E hr h => ?_)
  · obtain ⟨A, r, q, a, b, cl, xs, ds, pk, pk2, rfl, _⟩ := h
    rfl
  · obtain ⟨A, r, q, a, b, cl, xs, ds, pk, pk2, rfl, B, G, hq, hds, hnd, h8, ha, hb, O, O2, M1, M2, ht, fin⟩ := h
    have hu := hu_of hr
    refine ⟨_, (pss_cons (ps_for PassesOwn.never rfl (pi_list (pe_call GL (hr.mono (by decide)) (by rfl) gL kL bL .nil pass0 (pa_cons (pv 0) (pa_cons (pv 1) (pa_cons (pv 2) pa_nil))))) (pg_name (i := 4) scAhead.nd rfl (by first | exact .inl rfl | exact .inr rfl)) (pss_one (ps_if (pt_cmpR op_ne (pe_dget hu (pv 2) (pv 4) (fun _ _ => rfl)) (pe_dget hu (pv 3) (pv 4) (fun _ _ => rfl)) (nomark _)) (pss_one (ps_ret (pe_cmpR op_gt (pe_dget hu (pv 2) (pv 4) (fun _ _ => rfl)) (pe_dget hu (pv 3) (pv 4) (fun _ _ => rfl)) (nomark _)))) pss_nil)))
      (pss_one (ps_ret pe_bl))), ?_⟩
    refine ⟨_, rfl, _, rfl, _, rfl, A, r, q, a, cl, xs, ds, pk, rfl, .of B, G, hq, hds, hnd, h8, .inl ha, O, ht, fun out l H4 ag gd nd o7 k4 nl el => ?_⟩
    have ea4 := dict_kp k4 ha
    have eb4 := dict_kp k4 hb
    refine ⟨l, rfl, ⟨_, .inl (.inl el)⟩, for_list (K := K) (a := l) (xs := out.map V.str) (fun i σ' H' => ∃ (x4 : Option V), σ' = [some (.ref r), some (.ref q), some (.ref a), some (.ref b), x4] ∧ H' = H4 ∧ aheadB pk pk2 out = aheadB pk pk2 (out.drop i) ∧ ∀ j v, j < i → out[j]? = some v → lkP pk v = lkP pk2 v) ⟨_, rfl, rfl, rfl, fun j v hj => absurd hj (Nat.not_lt_zero _)⟩ (fun i σ' H' _ ⟨_, _, e, _⟩ => by rw [e]; exact .inl (.inl el)) ?_ ?_⟩
    · rintro i v σ' H' hi ⟨x4, rfl, rfl, heq, hag⟩
      obtain ⟨w, ew, hw⟩ : ∃ w, out[i]? = some w ∧ v = .str w := by
        rw [List.getElem?_map] at hi
        cases e : out[i]? with
        | none => rw [e] at hi; cases hi
        | some w => rw [e] at hi; exact ⟨w, rfl, (Option.some.inj hi).symm⟩
      subst hw
      obtain ⟨m, n, em, en⟩ := ahead_at ag M1 M2 ew hag
      have dga : DGet H' a (.str w) (some (.int m)) := by have z := DGet.k (k := (Sum.inr w : Key)) ea4; rw [pkD_val, em] at z; exact z
      have dgb : DGet H' b (.str w) (some (.int n)) := by have z := DGet.k (k := (Sum.inr w : Key)) eb4; rw [pkD_val, en] at z; exact z
      have ed := ahead_drop ew em en
      refine ⟨_, rfl, _, rfl, a, _, rfl, dga, _, rfl, _, rfl, b, _, rfl, dgb, ?_⟩
      refine ⟨rfl, _, rfl, iteN (fun c => ?_) (fun c => ?_)⟩
      · have c : ¬ m = n := fun z => c (by rw [z])
        rw [if_neg c] at ed
        have z := fin out H' ag k4
        rw [heq, ed] at z
        exact ⟨_, rfl, _, rfl, a, _, rfl, dga, _, rfl, _, rfl, b, _, rfl, dgb, _, _, rfl, rfl, z⟩
      · have c : m = n := by injection c
        rw [if_pos c] at ed
        refine ⟨_, rfl, rfl, by rw [heq, ed], fun j u hj hu => ?_⟩
        by_cases hji : j < i
        · exact hag j u hji hu
        · have : j = i := by omega
          subst this
          rw [ew] at hu
          cases hu
          rw [em, en, c]
    · rintro σ' H' ⟨x4, rfl, rfl, heq, hag⟩
      have z := fin out H' ag k4
      rw [heq, List.length_map, List.drop_length] at z
      exact z
end
end Pk

set_option Elab.async false
set_option linter.all false
set_option maxRecDepth 100000
set_option maxHeartbeats 4000000
namespace Pk
open PySem PySem.Spec PyProof.Rows L2
/-! ### the best pick, by its data -/
section
variable {D : Str → List (Int × List PyData)} {ds : List PyData}
theorem wares_n3 (hnd : ∀ d ∈ ds, ND d) : (ds.map n3).map (·.1) = ds.map wOf := by
  rw [List.map_map]
  exact List.map_congr_left fun d hd => n3_wOf (hnd d hd)
theorem met_okN {pk : List (Str × Int)} {d : PyData} (hd : ND d) (h : metD pk d = true) : ∃ m, ((n3 d).1, m) ∈ pk ∧ okN (n3 d) m = true := by
  obtain ⟨y, i, j, rfl, _⟩ := hd
  have h : (match lkP pk y with | some m => decide (i ≤ m) && decide (m ≤ j) | none => false) = true := h
  cases e : lkP pk y with
  | none => rw [e] at h; cases h
  | some m =>
    rw [e] at h
    exact ⟨m, lkP_mem e, h⟩
theorem okN_met {pk : List (Str × Int)} (nd : (pk.map (·.1)).Nodup) {d : PyData} (hd : ND d) {m : Int} (h1 : ((n3 d).1, m) ∈ pk) (h2 : okN (n3 d) m = true) : metD pk d = true := by
  obtain ⟨y, i, j, rfl, _⟩ := hd
  show (match lkP pk y with | some m => decide (i ≤ m) && decide (m ≤ j) | none => false) = true
  have h1 : (y, m) ∈ pk := h1
  rw [lkP_of nd h1]
  exact h2
theorem sol_of (hnd : ∀ d ∈ ds, ND d) (hD : ∀ x m, ∀ d ∈ needsD D x m, ND d) {pk : List (Str × Int)} (O : PickOk D pk) (M : Mets D ds pk) : Sol D (ds.map n3) pk := by
  obtain ⟨out, ag, hm⟩ := id M
  have hk := M.keys ag
  unfold mB at hm
  rw [Bool.and_eq_true] at hm
  have all := List.all_eq_true.mp hm.2
  refine ⟨O.nd, O.in_, ⟨out, by rw [wares_n3 hnd]; exact ag, fun y hy => hk.mem_iff.mpr hy⟩, fun o ho y hy => ?_, fun n hn => ?_⟩
  · rw [wares_n3 hnd] at ho
    rw [ho.det ag]
    exact hk.mem_iff.mp hy
  · rcases hn with hn | ⟨e, he, hn⟩
    · obtain ⟨d, hd, rfl⟩ := List.mem_map.mp hn
      exact met_okN (hnd d hd) (all d (List.mem_append_left _ hd))
    · obtain ⟨d, hd, rfl⟩ := List.mem_map.mp hn
      exact met_okN (hD _ _ d hd) (all d (List.mem_append_right _ (List.mem_flatMap.mpr ⟨e, he, hd⟩)))
theorem mets_of (hnd : ∀ d ∈ ds, ND d) (hD : ∀ x m, ∀ d ∈ needsD D x m, ND d) {F : List (Str × Int)} (s : Sol D (ds.map n3) F) (ag : AgOf (needW D F) (addW [] ((ds.map n3).map (·.1))) 0 (F.map (·.1))) : Mets D ds F := by
  rw [wares_n3 hnd] at ag
  refine ⟨_, ag, ?_⟩
  unfold mB
  rw [decide_eq_true (List.Perm.refl _), Bool.true_and, List.all_eq_true]
  intro d hd
  rcases List.mem_append.mp hd with hd | hd
  · obtain ⟨m, h1, h2⟩ := s.met (n3 d) (.inl (List.mem_map.mpr ⟨d, hd, rfl⟩))
    exact okN_met s.nd (hnd d hd) h1 h2
  · obtain ⟨e, he, hd⟩ := List.mem_flatMap.mp hd
    obtain ⟨m, h1, h2⟩ := s.met (n3 d) (.inr ⟨e, he, List.mem_map.mpr ⟨d, hd, rfl⟩⟩)
    exact okN_met s.nd (hD _ _ d hd) h1 h2
theorem needW_same {pk pk' : List (Str × Int)} {w : Str} (h : lkP pk w = lkP pk' w) : needW D pk w = needW D pk' w := by
  unfold needW
  rw [h]
/-- what holds all of a pick is that pick -/
theorem same_of {F pk : List (Str × Int)} {W : List Str} {out : List Str} (ndF : (F.map (·.1)).Nodup) (ndp : (pk.map (·.1)).Nodup) (agF : AgOf (needW D F) W 0 (F.map (·.1))) (agp : AgOf (needW D pk) W 0 out) (hk : ∀ y ∈ pk.map (·.1), y ∈ out) (sub : ∀ p ∈ F, p ∈ pk) : SameP pk F := by
  have lk : ∀ v ∈ F.map (·.1), lkP pk v = lkP F v := fun v hv => by
    obtain ⟨p, hp, rfl⟩ := List.mem_map.mp hv
    rw [lkP_of ndF (show (p.1, p.2) ∈ F from hp), lkP_of ndp (show (p.1, p.2) ∈ pk from sub p hp)]
  have at_ : ∀ (i : Nat) (w : Str), out[i]? = some w → (F.map (·.1))[i]? = some w := by
    intro i
    induction i using Nat.strongRecOn with
    | _ i ih =>
      intro w hw
      exact agp.agree agF hw fun j v hj hv => needW_same (lk v (List.mem_of_getElem? (ih j hj v hv)))
  intro w
  cases e : lkP pk w with
  | some m =>
    have z := hk w (List.mem_map.mpr ⟨_, lkP_mem e, rfl⟩)
    obtain ⟨i, hi⟩ := List.mem_iff_getElem?.mp z
    rw [← lk w (List.mem_of_getElem? (at_ i w hi)), e]
  | none =>
    cases e2 : lkP F w with
    | none => rfl
    | some m =>
      rw [lkP_of ndp (sub _ (lkP_mem e2))] at e
      cases e
theorem same_sym {a b : List (Str × Int)} (h : SameP a b) : SameP b a := fun w => (h w).symm
/-- one is ahead of another by the first place where they differ -/
theorem ahead_first {a b : List (Str × Int)} {out : List Str} {k : Nat} {w : Str} {m n : Int} (hk : out[k]? = some w) (hm : lkP a w = some m) (hn : lkP b w = some n) (ne : m ≠ n) (pre : ∀ j v, j < k → out[j]? = some v → ∃ c, lkP a v = some c ∧ lkP b v = some c) : aheadB a b out = decide (n < m) := by
  have key : ∀ i, i ≤ k → aheadB a b (out.drop (k - i)) = decide (n < m) := by
    intro i
    induction i with
    | zero =>
      intro _
      rw [Nat.sub_zero, ahead_drop hk hm hn, if_neg ne]
    | succ i ih =>
      intro hi
      have hl := (List.getElem?_eq_some_iff.mp hk).1
      have hv := List.getElem?_eq_getElem (l := out) (i := k - (i + 1)) (by omega)
      obtain ⟨c, h1, h2⟩ := pre _ _ (by omega) hv
      rw [ahead_drop hv h1 h2, if_pos rfl, show k - (i + 1) + 1 = k - i by omega]
      exact ih (by omega)
  have z := key k (Nat.le_refl _)
  rw [Nat.sub_self, List.drop_zero] at z
  exact z
/-- the pick that is told is ahead of all others, none is ahead of it -/
theorem best_of {F : List (Str × Int)} {W : List Str} (ndF : (F.map (·.1)).Nodup) (agF : AgOf (needW D F) W 0 (F.map (·.1))) {pk best : List (Str × Int)} (ndp : (pk.map (·.1)).Nodup) {outp : List Str} (agp : AgOf (needW D pk) W 0 outp)
    (h : ∃ F1 w m F2 m', F = F1 ++ (w, m) :: F2 ∧ (∀ p ∈ F1, p ∈ pk) ∧ (w, m') ∈ pk ∧ m' < m) (sb : SameP best F) {outb : List Str} (agb : AgOf (needW D best) W 0 outb) : aheadB best pk outb = true ∧ aheadB pk best outp = false := by
  obtain ⟨F1, w, m, F2, m', eF, h1, h2, h3⟩ := h
  have eb : outb = F.map (·.1) := (agb.congr fun w => needW_same (sb w)).det agF
  have hF : ∀ p ∈ F1, p ∈ F := fun p hp => by rw [eF]; exact List.mem_append_left _ hp
  have hw : (w, m) ∈ F := by rw [eF]; exact List.mem_append_right _ (List.mem_cons_self ..)
  have bm : lkP best w = some m := by rw [sb]; exact lkP_of ndF hw
  have pm : lkP pk w = some m' := lkP_of ndp h2
  have atk : (F.map (·.1))[F1.length]? = some w := by rw [eF, List.map_append, List.getElem?_append_right (by rw [List.length_map]; exact Nat.le_refl _), List.length_map, Nat.sub_self]; rfl
  have pre : ∀ (j : Nat) (v : Str), j < F1.length → (F.map (·.1))[j]? = some v → ∃ c, lkP best v = some c ∧ lkP pk v = some c := fun j v hj hv => by
    rw [eF, List.map_append, List.getElem?_append_left (by rw [List.length_map]; exact hj), List.getElem?_map, List.getElem?_eq_getElem hj] at hv
    have hm := List.getElem_mem hj
    generalize F1[j] = p at hv hm
    cases hv
    exact ⟨p.2, by rw [sb]; exact lkP_of ndF (hF p hm), lkP_of ndp (h1 p hm)⟩
  have atp : ∀ (j : Nat) (v : Str), j ≤ F1.length → (F.map (·.1))[j]? = some v → outp[j]? = some v := fun j v hj hv =>
    agF.agree agp hv fun i u hi hu => by
      obtain ⟨c, c1, c2⟩ := pre i u (by omega) hu
      exact needW_same (by rw [← sb u, c1, c2])
  constructor
  · rw [eb, ahead_first atk bm pm (by omega) pre]
    exact decide_eq_true h3
  · have hl := (List.getElem?_eq_some_iff.mp atk).1
    rw [ahead_first (atp _ _ (Nat.le_refl _) atk) pm bm (by omega) fun j v hj hv => ?_]
    · exact decide_eq_false (by omega)
    · have hj2 := List.getElem?_eq_getElem (l := F.map (·.1)) (i := j) (by omega)
      have z := atp j _ (by omega) hj2
      rw [hv] at z
      have z := Option.some.inj z
      rw [← z] at hj2
      obtain ⟨c, c1, c2⟩ := pre j v hj hj2
      exact ⟨c, c2, c1⟩
end
end Pk

set_option Elab.async false
set_option linter.all false
set_option maxRecDepth 100000
set_option maxHeartbeats 4000000
namespace PySem.SeqAt
open AutoSeq1 (wpAny_loadPart')
open MeetsSeq MeetsSeq2 MeetsSeq3 SeqRoads2
namespace NeL
/-! ### xs != ys for two lists whose items are the same, for one program and one world -/
section
variable {prog : Program} {w : World} (p q : Addr) (xs ys : Array Value) (cx cy : Nat) (dx dy : Option Addr) (tx ty : Array (Option Value))
/-- the two lists, and their items the same -/
structure Two (s : Shared) (A : Around) : Prop where
  hx : s.heap.get? p = some { cls := .type "list", dict := dx, data := .seq xs cx, slots := tx }
  hy : s.heap.get? q = some { cls := .type "list", dict := dy, data := .seq ys cy, slots := ty }
  he : ∀ j (h1 : j < xs.size) (h2 : j < ys.size), EqIn prog w A.in1 s xs[j] ys[j] true
theorem loop (hz : xs.size = ys.size) : ∀ m i : Nat, xs.size - i = m →
    MeetsIn prog w (Builtin.«list.__eq__.loop» ⟨[.ref p, .ref q, rawInt i, rawInt 3], []⟩) (fun A R s => Two (prog := prog) (w := w) p q xs ys cx cy dx dy tx ty s A ∧ R (.ok (.ret (.bool false))) s)
  | 0, i, hk => by
    intro A R s h
    obtain ⟨⟨u1, u2, u3⟩, r⟩ := h
    obtain ⟨hp, g, d, tk, os⟩ := s
    wp_walk using wpAny_loadPart' u1, wpAny_loadPart' u2
    have o1 : xs[((i : Nat) : Int).toNat]? = none := by simp; omega
    have o2 : ys[((i : Nat) : Int).toNat]? = none := by simp; omega
    rw [o1, o2]
    wp_walk using wpAny_loadPart' u1, wpAny_loadPart' u2
    show R (.ok (.ret (.bool (xs.size != ys.size)))) _
    rw [hz]
    simpa using r
  | m + 1, i, hk => by
    intro A R s h
    obtain ⟨⟨u1, u2, u3⟩, r⟩ := h
    obtain ⟨hp, g, d, tk, os⟩ := s
    wp_walk using wpAny_loadPart' u1, wpAny_loadPart' u2
    have lx : i < xs.size := by omega
    have ly : i < ys.size := by omega
    have o1 : xs[((i : Nat) : Int).toNat]? = some xs[i] := by simp [lx]
    have o2 : ys[((i : Nat) : Int).toNat]? = some ys[i] := by simp [ly]
    have oc : ((i : Int) + 1) = ((i + 1 : Nat) : Int) := by omega
    rw [o1, o2]
    refine wpAny_bind (u3 i lx ly _ _ ?_)
    wp_walk
    rw [oc]
    have go := loop hz m (i + 1) (by omega) A R _ ⟨⟨u1, u2, u3⟩, r⟩
    exact ⟨plainId_quiet plain_eq_loop _, codeAny_builtin entry_eq_loop (by rw [Around.under_plainId plain_eq_loop _]; exact go)⟩
theorem ne (hz : xs.size = ys.size) : MeetsIn prog w (Builtin.«list.__ne__» ⟨[.ref p, .ref q], []⟩) (fun A R s => Two (prog := prog) (w := w) p q xs ys cx cy dx dy tx ty s A ∧ R (.ok (.ret (.bool false))) s) := by
  intro A R s h
  obtain ⟨t, r⟩ := h
  obtain ⟨u1, u2, u3⟩ := id t
  obtain ⟨hp, g, d, tk, os⟩ := s
  have fl := AutoSeq1.sub_list_list
  have hn : ¬ (xs.size != ys.size) = true := by simp [hz]
  wp_walk using wpAny_loadPart' u1, wpAny_loadPart' u2
  have go := loop p q xs ys cx cy dx dy tx ty hz _ 0 rfl A R _ ⟨t, r⟩
  exact ⟨plainId_quiet plain_eq_loop _, codeAny_builtin entry_eq_loop (by rw [Around.under_plainId plain_eq_loop _]; exact go)⟩
end
theorem rc {prog : Program} {w : World} {A : Around} {s : Shared} {E : Value → Shared → Prop} {p q : Addr} {xs ys : Array Value} {Q : Value → Shared → Prop} (h1 : s.heap.IsList p xs) (h2 : s.heap.IsList q ys) (hz : xs.size = ys.size) (hu : A.units < cLine)
    (he : ∀ j (h1 : j < xs.size) (h2 : j < ys.size), EqIn prog w A.in1 s xs[j] ys[j] true) (h : Q (.bool false) s) : wpAny (model prog w) A (richCompare .NotEq (.ref p) (.ref q)) Q E s := by
  obtain ⟨⟨c1, d1, a1, t1⟩, o1, k1, n1, e1⟩ := id h1
  obtain ⟨⟨c2, d2, a2, t2⟩, o2, k2, n2, e2⟩ := id h2
  simp only at k1 e1 k2 e2
  subst k1 e1 k2 e2
  refine wpAny_richCompare_same_room (T := "list") (op := .NotEq) ⟨_, o1, rfl⟩ ⟨_, o2, rfl⟩ F.slot_list_ne ?_ hu
  exact call_meetsIn F.slot_list_ne ⟨_, o1, rfl⟩ F.entry_list_ne (F.args_list_ne_2 _ _) (ne p q xs ys n1 n2 d1 d2 t1 t2 hz) ⟨⟨o1, o2, he⟩, show Value.bool false ≠ Value.notImplemented ∧ Q (.bool false) s from ⟨(fun x => nomatch x), h⟩⟩
end NeL
end PySem.SeqAt

set_option Elab.async false
set_option linter.all false
set_option maxRecDepth 100000
set_option maxHeartbeats 4000000
namespace Pk
open PySem PySem.Spec PyProof.Rows L2
/-! ### lists that hold data and dicts, compared: they hold the same -/
inductive SameV (K : PySem.W.Frag) (H : Hp) : V → V → Prop
  | dat {v u : V} {d : PyData} : Dp K H v d → Dp K H u d → SeqAt.shaped d = true → PyData.eqv d d = true → SameV K H v u
  | dct {a b : Addr} {ks ls : List (Key × V)} : a ≠ b → H a = some (.dK ks) → H b = some (.dK ls) → ks.length = ls.length → (∀ p ∈ ks, valV ls p.1 = some p.2 ∧ flatB p.2 = true) → SameV K H (.ref a) (.ref b)
def rNeH (K : PySem.W.Frag) : R2 := fun x y H Q => ∃ a b xs ys, x = .ref a ∧ y = .ref b ∧ H a = some (.lst xs) ∧ H b = some (.lst ys) ∧ Paired (SameV K H) xs ys ∧ Q (.bl false) H
theorem paired_at {α β : Type} {R : α → β → Prop} : ∀ {a : List α} {b : List β}, Paired R a b → ∀ {i : Nat} {x : α} {y : β}, a[i]? = some x → b[i]? = some y → R x y
  | _, _, .nil, i, x, y, e, _ => by simp at e
  | _, _, .cons h t, i, x, y, e, e2 => by
    cases i with
    | zero => cases e; cases e2; exact h
    | succ i => exact paired_at t (i := i) (by simpa using e) (by simpa using e2)
theorem paired_lenQ {α β : Type} {R : α → β → Prop} {a : List α} {b : List β} (h : Paired R a b) : a.length = b.length := by
  induction h with
  | nil => rfl
  | cons _ _ ih => simp [ih]
theorem vals_at : ∀ {xs : List V} {us : List Value}, Vals xs us → ∀ {i : Nat} {x : V} {u : Value}, xs[i]? = some x → us[i]? = some u → RelV x u
  | _, _, .nil, i, x, u, e, _ => by simp at e
  | _, _, .cons r t, i, x, u, e, e2 => by
    cases i with
    | zero => cases e; cases e2; exact r
    | succ i => exact vals_at t (i := i) (by simpa using e) (by simpa using e2)
theorem vals_lenQ {xs : List V} {us : List Value} (h : Vals xs us) : xs.length = us.length := by
  induction h with
  | nil => rfl
  | cons _ _ ih => simp [ih]
theorem room66 {k : Nat} {A : Around} (r : Room k A) : A.units + 66 < cLine := by have := r.un; omega
theorem op_neH {X : Cx} (hu : X.A.units + 66 < cLine) : OpR X (compareOp .NotEq) (rNeH X.K) := by
  intro pins s σ H x y v u Q I rx ry h
  obtain ⟨a, b, xs, ys, rfl, rfl, ea, eb, hp, q⟩ := h
  obtain rfl : v = Value.ref a := rx
  obtain rfl : u = Value.ref b := ry
  obtain ⟨_, ia, na, va, oa⟩ := (show ObjOk X.prog X.w H s.heap a (.lst xs) from I.hok a _ ea)
  obtain ⟨_, ib, nb, vb, ob⟩ := (show ObjOk X.prog X.w H s.heap b (.lst ys) from I.hok b _ eb)
  have lx := vals_lenQ va
  have ly := vals_lenQ vb
  have lp := paired_lenQ hp
  refine SeqAt.NeL.rc (p := a) (q := b) (xs := ia.toArray) (ys := ib.toArray) ⟨_, oa, rfl, _, rfl⟩ ⟨_, ob, rfl, _, rfl⟩ (by simp; omega) (by omega) (fun j h1 h2 => ?_) ⟨.bl false, H, I, rfl, q⟩
  have h1' : j < ia.length := by simpa using h1
  have h2' : j < ib.length := by simpa using h2
  have e1 : ia.toArray[j] = ia[j] := by simp
  have e2 : ib.toArray[j] = ib[j] := by simp
  rw [e1, e2]
  have x1 : xs[j]? = some xs[j] := List.getElem?_eq_getElem (by omega)
  have y1 : ys[j]? = some ys[j] := List.getElem?_eq_getElem (by omega)
  have r1 := vals_at va x1 (List.getElem?_eq_getElem h1')
  have r2 := vals_at vb y1 (List.getElem?_eq_getElem h2')
  have hs := paired_at hp x1 y1
  generalize xs[j] = v1 at r1 hs
  generalize ys[j] = v2 at r2 hs
  generalize ia[j] = u1 at r1
  generalize ib[j] = u2 at r2
  cases hs with
  | @dat _ _ d d1 d2 sd ev =>
    obtain ⟨as, z1⟩ := Dp.reads I d v1 u1 d1 r1
    obtain ⟨bs, z2⟩ := Dp.reads I d v2 u2 d2 r2
    have cd := SeqAt.canLay_of_shaped sd
    have z := SeqAt.eqAt_reads d d X.A.in1 s u1 u2 as bs z1 z2 cd cd (SeqAt.room_of_shaped (A := X.A.in1) (db := d) sd (by show X.A.units + 1 + 64 < _; omega))
    rw [ev] at z
    exact z.inModel X.prog X.w
  | @dct a1 b1 ks ls ne k1 k2 hlen hpp =>
    obtain rfl : u1 = Value.ref a1 := r1
    obtain rfl : u2 = Value.ref b1 := r2
    obtain ⟨_, ya, wa, ra, da⟩ := (show ObjOk X.prog X.w H s.heap a1 (.dK ks) from I.hok a1 _ k1)
    obtain ⟨_, yb, wb, rb, db⟩ := (show ObjOk X.prog X.w H s.heap b1 (.dK ls) from I.hok b1 _ k2)
    have hl : wa.length = wb.length := by rw [← ra.length, ← rb.length]; exact hlen
    refine SeqAt.EqIn.of_refs ne fun E Q h => ?_
    exact PySem.W.keq_eq (knd := mixKind X.prog X.w) (r := true) ya yb da db (by show X.A.units + 1 < _; omega) (fun _ => hits_all rb ra hpp) (by simp [hl]; exact h)
end Pk

set_option Elab.async false
set_option linter.all false
set_option maxRecDepth 100000
set_option maxHeartbeats 4000000
namespace PySem.SeqAt
open AutoSeq1 (wpAny_loadPart')
open MeetsSeq MeetsSeq2 MeetsSeq3 SeqRoads2
namespace InL
/-! ### x in xs for a list, for one program and one world: what is told if it is found -/
section
variable {prog : Program} {w : World} (p : Addr) (xs : Array Value) (cx : Nat) (dx : Option Addr) (tx : Array (Option Value)) (x : Value) (G : Value → Prop)
structure One (s : Shared) (A : Around) : Prop where
  hx : s.heap.get? p = some { cls := .type "list", dict := dx, data := .seq xs cx, slots := tx }
  he : ∀ y, y ∈ xs → ∃ t : Bool, EqIn prog w A.in1 s y x t ∧ (t = true → G y)
theorem loop : ∀ m i : Nat, xs.size - i = m →
    MeetsIn prog w (Builtin.«list.__contains__.loop» ⟨[.ref p, x, rawInt i], []⟩) (fun A R s => One (prog := prog) (w := w) p xs cx dx tx x G s A ∧ ∀ t : Bool, (t = true → ∃ y ∈ xs, G y) → R (.ok (.ret (.bool t))) s)
  | 0, i, hk => by
    intro A R s h
    obtain ⟨⟨u1, u3⟩, r⟩ := h
    obtain ⟨hp, g, d, tk, os⟩ := s
    wp_walk using wpAny_loadPart' u1
    have o1 : xs[((i : Nat) : Int).toNat]? = none := by simp; omega
    rw [o1]
    wp_walk
    exact r false fun z => by cases z
  | m + 1, i, hk => by
    intro A R s h
    obtain ⟨⟨u1, u3⟩, r⟩ := h
    obtain ⟨hp, g, d, tk, os⟩ := s
    wp_walk using wpAny_loadPart' u1
    have lx : i < xs.size := by omega
    have o1 : xs[((i : Nat) : Int).toNat]? = some xs[i] := by simp [lx]
    have oc : ((i : Int) + 1) = ((i + 1 : Nat) : Int) := by omega
    rw [o1]
    obtain ⟨t, u4, u5⟩ := u3 xs[i] (Array.getElem_mem lx)
    refine wpAny_bind (u4 _ _ ?_)
    cases t with
    | true =>
      wp_walk
      exact r true fun _ => ⟨xs[i], Array.getElem_mem lx, u5 rfl⟩
    | false =>
      wp_walk
      rw [oc]
      have go := loop m (i + 1) (by omega) A R _ ⟨⟨u1, u3⟩, r⟩
      exact ⟨plainId_quiet plain_contains_loop _, codeAny_builtin entry_contains_loop (by rw [Around.under_plainId plain_contains_loop _]; exact go)⟩
theorem has : MeetsIn prog w (Builtin.«list.__contains__» ⟨[.ref p, x], []⟩) (fun A R s => One (prog := prog) (w := w) p xs cx dx tx x G s A ∧ ∀ t : Bool, (t = true → ∃ y ∈ xs, G y) → R (.ok (.ret (.bool t))) s) := by
  intro A R s h
  obtain ⟨t, r⟩ := h
  obtain ⟨u1, u3⟩ := id t
  obtain ⟨hp, g, d, tk, os⟩ := s
  wp_walk using wpAny_loadPart' u1
  have go := loop p xs cx dx tx x G _ 0 rfl A R _ ⟨t, r⟩
  exact ⟨plainId_quiet plain_contains_loop _, codeAny_builtin entry_contains_loop (by rw [Around.under_plainId plain_contains_loop _]; exact go)⟩
end
theorem inL {prog : Program} {w : World} {A : Around} {s : Shared} {E : Value → Shared → Prop} {p : Addr} {xs : Array Value} {x : Value} (G : Value → Prop) {Q : Value → Shared → Prop} (h1 : s.heap.IsList p xs)
    (he : ∀ y, y ∈ xs → ∃ t : Bool, EqIn prog w A.in1 s y x t ∧ (t = true → G y)) (h : ∀ t : Bool, (t = true → ∃ y ∈ xs, G y) → Q (.bool t) s) : wpAny (model prog w) A (compareOp .In x (.ref p)) Q E s := by
  obtain ⟨⟨c1, d1, a1, t1⟩, o1, k1, n1, e1⟩ := id h1
  simp only at k1 e1
  subst k1 e1
  show wpAny _ A (do return .bool (← contains (.ref p) x)) Q E s
  refine wpAny_bind (wpAny_contains_slot ⟨_, o1, rfl⟩ F.slot_list_contains (call_meetsIn F.slot_list_contains ⟨_, o1, rfl⟩ F.entry_list_contains (F.args_list_contains_2 _ _) (has p xs n1 d1 t1 x G) ⟨⟨o1, he⟩, fun t z => ?_⟩))
  exact wpAny_truthy_bool (wpAny_pure (h t z))
end InL
end PySem.SeqAt
namespace Pk
open PySem PySem.Spec PyProof.Rows L2
/-- the items of one dict found in another, if they are told to be alike -/
theorem hits_int {A : Around} {s : Shared} {ks : List (Key × V)} {vb : List (Key × Value)} (rb : KV ks vb) (hb : ∀ p ∈ ks, ∃ m, p.2 = V.int m) {ls : List (Key × V)} {va : List (Key × Value)} (ra : KV ls va) :
    (∀ p ∈ ls, ∃ m, p.2 = V.int m) → ∃ t : Bool, PySem.W.KeqHits A s vb va t ∧ (t = true → ∀ p ∈ ls, valV ks p.1 = some p.2) := by
  unfold KV at ra
  induction ra with
  | nil => exact fun _ => ⟨true, .nil, fun _ p hp => by cases hp⟩
  | @cons p q ps qs h t ih =>
    intro hl
    obtain ⟨h1, h2⟩ := h
    obtain ⟨b, k1, k2⟩ := ih fun p' hm => hl p' (List.mem_cons_of_mem _ hm)
    obtain ⟨m, em⟩ := hl p (List.mem_cons_self ..)
    obtain ⟨k, v⟩ := q
    have h1' : p.1 = k := h1
    have rr := rb.val k
    cases ev : valV ks k with
    | none => exact ⟨false, .miss (RelO.none_of (by rw [ev] at rr; exact rr)), fun z => by cases z⟩
    | some y =>
      have ry : RelO (some y) (valueAt vb k) := by rw [← ev]; exact rr
      obtain ⟨u, hu, ru⟩ := ry.some_of
      obtain ⟨m2, e2⟩ : ∃ m2, y = V.int m2 := by
        unfold valV at ev
        obtain ⟨e, he, rfl⟩ := Option.map_eq_some_iff.mp ev
        exact hb e (List.mem_of_find?_eq_some he)
      subst e2
      rw [em] at h2
      obtain ⟨t1, hv⟩ : ∃ t1, v = Value.int m t1 := h2
      obtain ⟨t2, hu2⟩ : ∃ t2, u = Value.int m2 t2 := ru
      subst hv hu2
      refine ⟨(m == m2) && b, .hit hu (SeqAt.EqAt.int_int m t1 m2 t2) k1, fun z p' hp' => ?_⟩
      rw [Bool.and_eq_true] at z
      rcases List.mem_cons.mp hp' with hp' | hp'
      · rw [hp', h1', ev, em, (eq_of_beq z.1 : m = m2)]
      · exact k2 z.2 p' hp'
def rInH : R2 := fun x y H Q => ∃ a b xs ks, x = .ref a ∧ y = .ref b ∧ H a = some (.dK ks) ∧ (∀ p ∈ ks, ∃ m, p.2 = V.int m) ∧ H b = some (.lst xs) ∧ (∀ v ∈ xs, ∃ c ls, v = .ref c ∧ H c = some (.dK ls) ∧ ∀ p ∈ ls, ∃ m, p.2 = V.int m) ∧
  ∀ t : Bool, (t = true → ∃ c ls, V.ref c ∈ xs ∧ H c = some (.dK ls) ∧ ls.length = ks.length ∧ (c = a ∨ ∀ p ∈ ls, valV ks p.1 = some p.2)) → Q (.bl t) H
theorem op_inH {X : Cx} (hu : X.A.units + 66 < cLine) : OpR X (compareOp .In) rInH := by
  intro pins s σ H x y v u Q I rx ry h
  obtain ⟨a, b, xs, ks, rfl, rfl, ea, hka, eb, hx, q⟩ := h
  obtain rfl : v = Value.ref a := rx
  obtain rfl : u = Value.ref b := ry
  obtain ⟨_, ib, nb, vb, ob⟩ := (show ObjOk X.prog X.w H s.heap b (.lst xs) from I.hok b _ eb)
  obtain ⟨_, ya, wa, ra, da⟩ := (show ObjOk X.prog X.w H s.heap a (.dK ks) from I.hok a _ ea)
  have lx := vals_lenQ vb
  refine SeqAt.InL.inL (p := b) (xs := ib.toArray) (fun y => ∃ c ls, y = Value.ref c ∧ V.ref c ∈ xs ∧ H c = some (.dK ls) ∧ ls.length = ks.length ∧ (c = a ∨ ∀ p ∈ ls, valV ks p.1 = some p.2)) ⟨_, ob, rfl, _, rfl⟩ (fun y hy => ?_) fun t z => ?_
  · have hy' : y ∈ ib := by simpa using hy
    obtain ⟨j, hj⟩ := List.mem_iff_getElem?.mp hy'
    have hjl := (List.getElem?_eq_some_iff.mp hj).1
    have xj : xs[j]? = some xs[j] := List.getElem?_eq_getElem (by omega)
    have r1 := vals_at vb xj hj
    have hm := List.getElem_mem (show j < xs.length by omega)
    generalize xs[j] = v1 at r1 hm
    obtain ⟨c, ls, rfl, ec, hls⟩ := hx v1 hm
    obtain rfl : y = Value.ref c := r1
    by_cases hca : c = a
    · subst hca
      rw [ea] at ec
      cases ec
      exact ⟨true, (SeqAt.EqAt.same _).inModel X.prog X.w, fun _ => ⟨c, ks, rfl, hm, ea, rfl, .inl rfl⟩⟩
    · obtain ⟨_, yc, wc, rc, dc⟩ := (show ObjOk X.prog X.w H s.heap c (.dK ls) from I.hok c _ ec)
      obtain ⟨t, k1, k2⟩ := hits_int (A := X.A.in1.in1) (s := s) ra hka rc hls
      refine ⟨wc.length == wa.length && t, SeqAt.EqIn.of_refs hca fun E Q h => ?_, fun z => ?_⟩
      · exact PySem.W.keq_eq (knd := mixKind X.prog X.w) (r := t) yc ya dc da (by show X.A.units + 1 < _; omega) (fun _ => k1) h
      · rw [Bool.and_eq_true] at z
        exact ⟨c, ls, rfl, hm, ec, by rw [rc.length, ra.length]; exact eq_of_beq z.1, .inr (k2 z.2)⟩
  · refine ⟨.bl t, H, I, rfl, q t fun e => ?_⟩
    obtain ⟨y, hy, c, ls, _, h2⟩ := z e
    exact ⟨c, ls, h2⟩
/-! ### xs != [] for any list -/
def rNeNil : R2 := fun x y H Q => ∃ a b xs, x = .ref a ∧ y = .ref b ∧ H a = some (.lst xs) ∧ H b = some (.lst []) ∧ Q (.bl (!xs.isEmpty)) H
theorem op_neNil {X : Cx} (hu : X.A.units + 66 < cLine) : OpR X (compareOp .NotEq) rNeNil := by
  intro pins s σ H x y v u Q I rx ry h
  obtain ⟨a, b, xs, rfl, rfl, ea, eb, q⟩ := h
  obtain rfl : v = Value.ref a := rx
  obtain rfl : u = Value.ref b := ry
  obtain ⟨_, ia, na, va, oa⟩ := (show ObjOk X.prog X.w H s.heap a (.lst xs) from I.hok a _ ea)
  obtain ⟨_, ib, nb, vb, ob⟩ := (show ObjOk X.prog X.w H s.heap b (.lst []) from I.hok b _ eb)
  cases vb
  cases va with
  | nil =>
    exact SeqAt.NeL.rc (p := a) (q := b) (xs := #[]) (ys := #[]) ⟨_, oa, rfl, _, rfl⟩ ⟨_, ob, rfl, _, rfl⟩ rfl (by omega) (fun j h1 _ => absurd h1 (by simp)) ⟨.bl false, H, I, rfl, q⟩
  | @cons z u zs us r t =>
    exact SeqAt.RcNeAt.lists_lengths (l := a) (b := b) (items := (u :: us).toArray) (items2 := #[]) ⟨_, oa, rfl, _, rfl⟩ ⟨_, ob, rfl, _, rfl⟩ (by simp) (by omega) X.prog X.w _ _ ⟨.bl true, H, I, rfl, q⟩
end Pk

set_option Elab.async false
set_option linter.all false
set_option maxRecDepth 100000
set_option maxHeartbeats 4000000
namespace Pk
open PySem PySem.Spec PyProof.Rows L2
/-! ### xs == [] for any list -/
def rEqNil : R2 := fun x y H Q => ∃ a b xs, x = .ref a ∧ y = .ref b ∧ H a = some (.lst xs) ∧ H b = some (.lst []) ∧ Q (.bl xs.isEmpty) H
theorem op_eqNil {X : Cx} (hu : X.A.units + 66 < cLine) : OpR X (compareOp .Eq) rEqNil := by
  intro pins s σ H x y v u Q I rx ry h
  obtain ⟨a, b, xs, rfl, rfl, ea, eb, q⟩ := h
  cases xs with
  | nil => exact op_eqD (by omega) pins s σ H _ _ v u Q I rx ry ⟨.list [], .list [], .lst (.inl (.inl ea)) .nil, .lst (.inl (.inl eb)) .nil, rfl, rfl, q⟩
  | cons z zs =>
    obtain rfl : v = Value.ref a := rx
    obtain rfl : u = Value.ref b := ry
    obtain ⟨_, ia, na, va, oa⟩ := (show ObjOk X.prog X.w H s.heap a (.lst (z :: zs)) from I.hok a _ ea)
    obtain ⟨_, ib, nb, vb, ob⟩ := (show ObjOk X.prog X.w H s.heap b (.lst []) from I.hok b _ eb)
    cases vb
    cases va with
    | @cons _ u _ us r t =>
      exact SeqAt.RcAt.lists_lengths (l := a) (b := b) (items := (u :: us).toArray) (items2 := #[]) ⟨_, oa, rfl, _, rfl⟩ ⟨_, ob, rfl, _, rfl⟩ (by simp) (by omega) X.prog X.w _ _ ⟨.bl false, H, I, rfl, q⟩
end Pk

set_option Elab.async false
set_option linter.all false
set_option maxRecDepth 100000
set_option maxHeartbeats 4000000
namespace Pk
open PySem PySem.Spec PyProof.Rows L2
def spLaw10 (K : PySem.W.Frag) (T : Addr) : Sp := fun vs H Q _ => ∃ (a : Addr) (ns : List Int), vs = [.ref a] ∧ SqL K H a (ns.map V.int) ∧ ns.length ≤ 63 ∧ GxR.TabG H T ∧ ∀ H', Q (.bl true) H'
theorem cutV_one (v : V) (vs : List V) : cutV (v :: vs) (some 1) none = vs := by
  unfold cutV
  rw [show (1 : Int) = ((1 : Nat) : Int) from rfl, HT.sIx_nat, HT.sIx_none]
  simp
def d2 (p : Str × Int) : PyData := .tuple [.str p.1, .int p.2]
theorem prv_d2 {K : PySem.W.Frag} {H : Hp} : ∀ {vs : List V} {F : List (Str × Int)}, Paired (PrV K H) vs F → DpAll K H vs (F.map d2)
  | _, _, .nil => .nil
  | _, _, .cons ⟨b, e, h⟩ ht => by
    subst e
    exact .cons (.tup h (.cons (.str _) (.cons (.int _) .nil))) (prv_d2 ht)
theorem lay_d2 : ∀ {F : List (Str × Int)}, (∀ p ∈ F, GoodN p.1) → PyData.canLayAll0 (F.map d2) = true ∧ PyData.depthAll (F.map d2) ≤ 1
  | [], _ => ⟨rfl, by decide⟩
  | p :: r, h => by
    obtain ⟨h1, h2⟩ := lay_d2 fun q hq => h q (List.mem_cons_of_mem _ hq)
    have g := okS_ok (h p (List.mem_cons_self ..)).2
    constructor
    · show (PyData.canLay0 (d2 p) && PyData.canLayAll0 (r.map d2)) = true
      rw [h1, Bool.and_true]
      show (PyData.strOk p.1 && (true && true)) = true
      rw [g]
      rfl
    · show max (PyData.depth (d2 p)) (PyData.depthAll (r.map d2)) ≤ 1
      have : PyData.depth (d2 p) = 1 := rfl
      omega
theorem shaped_d2 {F : List (Str × Int)} (h : ∀ p ∈ F, GoodN p.1) : SeqAt.shaped (.list (F.map d2)) = true := by
  obtain ⟨h1, h2⟩ := lay_d2 h
  have h3 : PyData.depth (.list (F.map d2)) ≤ 64 := by simp only [PyData.depth]; omega
  show (PyData.canLayAll0 (F.map d2) && decide (PyData.depth (.list (F.map d2)) ≤ 64)) = true
  rw [h1, decide_eq_true h3]
  rfl
section
variable {P : Program} {w : World} {K : PySem.W.Frag} {mg : Str → Option Value} {base : Heap}
def law10N : List Str := ["_law_script", "_law_rows_here", "_law_wish_here", "_law_picks", "_law_found", "_law_best", "_law_pick", "_law_ware"]
theorem scLaw : FnScope law10N ["_law_script"] (defScope sLaw) := ⟨rfl, rfl, rfl, by decide +kernel, rfl, by decide +kernel, by decide +kernel⟩
theorem ok_law10 {f C T fR fW fP fS fH fA fL : Addr} {fd fdR fdW fdP fdS fdH fdA fdL : FuncData} (F : Fun K "law" "law" sLaw f fd)
    (GR : FnOk P w K mg base CX0 3 fR fdR ["_law_script", "_law_most", "_law_many_makes"] (spRows K T)) (kR : PySem.W.keepIn K (.ref fR) = true) (bR : Binds K fdR ["_law_script", "_law_most", "_law_many_makes"] []) (gR : mg "_law_rows" = some (.ref fR))
    (GW : FnOk P w K mg base CX0 3 fW fdW ["_law_script", "_law_rows_here", "_law_most"] (spWish K T)) (kW : PySem.W.keepIn K (.ref fW) = true) (bW : Binds K fdW ["_law_script", "_law_rows_here", "_law_most"] []) (gW : mg "_law_wish" = some (.ref fW))
    (GP : FnOk P w K mg base CX0 3 fP fdP ["_law_rows_here", "_law_wish_here"] (spAllPC K T)) (kP : PySem.W.keepIn K (.ref fP) = true) (bP : Binds K fdP ["_law_rows_here", "_law_wish_here"] []) (gP : mg "_law_all_picks" = some (.ref fP))
    (GS : FnOk P w K mg base CX0 24 fS fdS ["shop", "wish"] (spSettle K C T)) (kS : PySem.W.keepIn K (.ref fS) = true) (bS : Binds K fdS ["shop", "wish"] []) (gS : mg "settle" = some (.ref fS))
    (GH : FnOk P w K mg base CX0 6 fH fdH ["_law_rows_here"] (spLShop K C T)) (kH : PySem.W.keepIn K (.ref fH) = true) (bH : Binds K fdH ["_law_rows_here"] []) (gH : mg "_law_shop" = some (.ref fH))
    (GA : FnOk P w K mg base CX0 2 fA fdA ["_law_rows_here", "_law_wish_here", "_law_one", nOther] (spAhead K T)) (kA : PySem.W.keepIn K (.ref fA) = true) (bA : Binds K fdA ["_law_rows_here", "_law_wish_here", "_law_one", nOther] []) (gA : mg "_law_ahead" = some (.ref fA))
    (GL : FnOk P w K mg base CX0 1 fL fdL ["_law_rows_here", "_law_wish_here", nPick] (spLAg K T)) (kL : PySem.W.keepIn K (.ref fL) = true) (bL : Binds K fdL ["_law_rows_here", "_law_wish_here", nPick] []) (gL : mg "_law_agenda" = some (.ref fL))
    (y_list : mg "list" = none) (y_isinstance : mg "isinstance" = none) (y_tuple : mg "tuple" = none) : FnOk P w K mg base CX0 25 f fd ["_law_script"] (spLaw10 K T) := by
  refine F.ok scLaw (fun vs H Q E h => ?_) (fun cdv A0 outer s H vs Q E hr h => ?_)
  · obtain ⟨a, ns, rfl, _⟩ := h
    rfl
  · obtain ⟨a, ns, rfl, hS, h63, t, fin⟩ := h
    have hu := hu_of hr
    refine ⟨_, (pss_cons (ps_set (i := 1) scLaw.nd rfl (by first | exact .inl rfl | exact .inr rfl) (pe_call GR (hr.mono (by decide)) (by rfl) gR kR bR .nil pass0 (pa_cons (pv 0) (pa_cons pe_int (pa_cons pe_int pa_nil)))))
      (pss_cons (ps_set (i := 2) scLaw.nd rfl (by first | exact .inl rfl | exact .inr rfl) (pe_call GW (hr.mono (by decide)) (by rfl) gW kW bW .nil pass0 (pa_cons (pv 0) (pa_cons (pv 1) (pa_cons pe_int pa_nil)))))
      (pss_cons (ps_set (i := 3) scLaw.nd rfl (by first | exact .inl rfl | exact .inr rfl) (pe_call GP (hr.mono (by decide)) (by rfl) gP kP bP .nil pass0 (pa_cons (pv 1) (pa_cons (pv 2) pa_nil))))
      (pss_cons (ps_set (i := 4) scLaw.nd rfl (by first | exact .inl rfl | exact .inr rfl) (pe_call GS (hr.mono (by decide)) (by rfl) gS kS bS .nil pass0 (pa_cons (pe_call GH (hr.mono (by decide)) (by rfl) gH kH bH .nil pass0 (pa_cons (pv 1) pa_nil)) (pa_cons (pe_callTy call_list_of (by rfl) y_list boot_list (pa_cons (pv 2) pa_nil)) pa_nil))))
      (pss_cons (ps_if (pt_cmpR (op_eqNil (room66 hr)) (pv 3) (pe_lst pa_nil) (nomark _)) (pss_one (ps_ret (pe_and (pe_callB call_isi (by rfl) y_isinstance boot_isinstance (pa_cons (pv 4) (pa_cons (pe_bltn (v := .ty "tuple") (by rfl) y_tuple boot_tuple rfl) pa_nil))) (pe_one (pe_cmpR (op_eqD hr.units) (pe_ix ix_tup (pv 4) pe_int (fun _ _ => rfl)) pe_str (nomark _)))))) pss_nil)
      (pss_cons (ps_set (i := 5) scLaw.nd rfl (by first | exact .inl rfl | exact .inr rfl) (pe_ix ix_list (pv 3) pe_int (fun _ _ => rfl)))
      (pss_cons (ps_for PassesOwn.never rfl (pi_list (pe_slice sl_list (pv 3) (po_some pe_int) po_none)) (pg_name (i := 6) scLaw.nd rfl (by first | exact .inl rfl | exact .inr rfl)) (pss_one (ps_if (pt_val (pe_call GA (hr.mono (by decide)) (by rfl) gA kA bA .nil pass0 (pa_cons (pv 1) (pa_cons (pv 2) (pa_cons (pv 6) (pa_cons (pv 5) pa_nil)))))) (pss_one (ps_set (i := 5) scLaw.nd rfl (by first | exact .inl rfl | exact .inr rfl) (pv 6))) pss_nil)))
      (pss_cons (ps_if (PW.pt (pw_or (pt_not (pt_val (pe_callB call_isi (by rfl) y_isinstance boot_isinstance (pa_cons (pv 4) (pa_cons (pe_bltn (v := .ty "tuple") (by rfl) y_tuple boot_tuple rfl) pa_nil))))) (pw_or1 (pt_cmpR (op_neD hr.units) (pe_ix ix_tup (pv 4) pe_int (fun _ _ => rfl)) pe_str (nomark _))))) (pss_one (ps_ret pe_bl)) pss_nil)
      (pss_one (ps_ret (pe_cmpR (op_eqD hr.units) (pe_ix ix_tup (pv 4) pe_int (fun _ _ => rfl)) (pe_lc (own := [("_law_ware", 7)]) (g := (gName 7)) (tt := tYes) rfl scLaw.nd (pi_list (pe_call GL (hr.mono (by decide)) (by rfl) gL kL bL .nil pass0 (pa_cons (pv 1) (pa_cons (pv 2) (pa_cons (pv 5) pa_nil))))) (blkOk_by (own := [("_law_ware", 7)]) (N := law10N) (sc := defScope sLaw) (by decide +kernel)) (fun _ _ _ _ _ => (pg_name (i := 7) scLaw.nd rfl (by first | exact Or.inl rfl | exact Or.inr rfl))) (fun _ _ _ _ _ => pts_nil) (fun _ _ _ _ _ => (pe_tup (pa_cons (pv 7) (pa_cons (pe_dget hu (pv 5) (pv 7) (fun _ _ => rfl)) pa_nil))))) (nomark _)))))))))))), ?_⟩
    -- the rows
    refine ⟨_, rfl, [], a, ns, 4, 3, rfl, hS, by decide, by decide, by decide, by decide, (fun y hy => by cases hy), t, fun r cl H1 k1 B1 hcl hlen hG fr1 hR1 => ?_⟩
    have G : RowsG 3 cl := .of (by omega) hG
    have hne : ∀ s ∈ cl, s.ents ≠ [] := fun s hs => (hG s hs).ne
    have S1 := k1.seq hS
    have GG := G.good (by decide)
    -- the wish
    refine ⟨_, rfl, _, rfl, [], a, r, ns, cl, 3, 3, rfl, S1, B1, G, by decide, hcl, hne, by decide, by decide, (fun y hy => by cases hy), k1.tab, fun xs ds q H2 k2 nq eq hd hnd h8 => ?_⟩
    have hd2 := dpAll_show hd
    have B2 := B1.keptP k2
    have hR2 := hR1.kp k2
    -- the picks
    refine ⟨_, rfl, _, rfl, [], r, q, cl, xs, ds, rfl, B2, G, hlen, .inl (.inl eq), hd2, hnd, h8, hR2, k2.tab, fun l vs pks H3 k3 nl el hP hO h256 hC => ?_⟩
    have B3 := B2.keptP k3
    have eq3 := k3.lst eq
    have hd3 := k3.dpAll _ _ hd2
    -- the shop
    refine ⟨_, rfl, [], r, cl, 3, rfl, B3, G, by decide, (fun y hy => by cases hy), k3.tab, fun p D st H4 k4 SS4 dt4 fr4 np => ?_⟩
    have dt : dataOf st = dataOf cl := funext dt4
    refine ⟨_, rfl, q, xs, rfl, .inl (.inl (.inl (k4.lst eq3))), fun nl2 nnl2 => ?_⟩
    have k5 := Kp.new (o := HO.lst xs) k4.tab nnl2
    have enl2 : upd H4 nl2 (.lst xs) nl2 = some (.lst xs) := upd_same
    have k35 := k4.trans k5
    have SS5 := SS4.keptP k5
    have hd5 := k35.dpAll _ _ hd3
    generalize upd H4 nl2 (.lst xs) = H5 at k5 enl2 k35 SS5 hd5 ⊢
    have stw : ∀ s ∈ st, ∃ s2 ∈ cl, s2.ware = s.ware := fun s hs => by
      have z : dataOf st s.ware ≠ [] := by
        rw [look_data (look_of SS5.bx.nd hs rfl)]
        exact fun z => SS5.ne s hs (List.map_eq_nil_iff.mp z)
      rw [dt] at z
      obtain ⟨s2, h2⟩ := look_cons z
      exact ⟨s2, (look_mem h2).1, (look_mem h2).2⟩
    have gst : ∀ s ∈ st, GoodN s.ware := fun s hs => by
      obtain ⟨s2, h2, e2⟩ := stw s hs
      rw [← e2]
      exact G.w s2 h2
    have lst : st.length ≤ 8 := by
      have z := sub_len (U := cl.map (·.ware)) SS5.bx.nd fun y hy => by
        obtain ⟨s, hs, rfl⟩ := List.mem_map.mp hy
        obtain ⟨s2, h2, e2⟩ := stw s hs
        exact List.mem_map.mpr ⟨s2, h2, e2⟩
      rw [List.length_map, List.length_map] at z
      omega
    have hDn : ∀ x m, ∀ d ∈ needsD (dataOf cl) x m, ND d := fun x m => (needsD_good GG x m).2
    have lpk := paired_len hP
    have nz : ∀ {b : Bool} {A B : Prop}, b = true → A → (if b = true then A else B) := fun h a => by rw [h]; exact iteT a
    refine ⟨[], p, D, nl2, st, xs, ds, rfl, SS5, by rw [dt]; exact GG, gst, lst, enl2, hd5, hnd, h8, k5.tab, fun tt pp ag vs' F H6 k6 nt et epp hvs out => ?_, fun tt rv H6 k6 nt et no => ?_⟩
    · rw [dt] at out
      have out : Sol (dataOf cl) (ds.map n3) F ∧ AgOf (needW (dataOf cl) F) (addW [] ((ds.map n3).map (·.1))) 0 (F.map (·.1)) ∧ ∀ pk, Sol (dataOf cl) (ds.map n3) pk → (∀ p ∈ ([] : List (Str × Int)), p ∈ pk) → (∀ p ∈ F, p ∈ pk) ∨ ∃ F1 w m F2 m', F = F1 ++ (w, m) :: F2 ∧ (∀ p ∈ F1, p ∈ pk) ∧ (w, m') ∈ pk ∧ m' < m := out
      obtain ⟨sF, agF, bst⟩ := out
      have MF := mets_of hnd hDn sF agF
      rw [wares_n3 hnd] at agF
      have inw : ∀ e ∈ F, ∃ s ∈ cl, s.ware = e.1 := fun e he => by
        have z := sF.in_ e he
        obtain ⟨s, hs⟩ := look_cons (st := cl) (x := e.1) (fun q => by rw [q] at z; cases z)
        exact ⟨s, (look_mem hs).1, (look_mem hs).2⟩
      have gF : ∀ e ∈ F, GoodN e.1 := fun e he => by
        obtain ⟨s, hs, e2⟩ := inw e he
        rw [← e2]
        exact G.w s hs
      have lF : F.length ≤ 4 := by
        have z := sub_len (U := cl.map (·.ware)) sF.nd fun y hy => by
          obtain ⟨e, he, rfl⟩ := List.mem_map.mp hy
          obtain ⟨s, hs, e2⟩ := inw e he
          exact List.mem_map.mpr ⟨s, hs, e2⟩
        rw [List.length_map, List.length_map] at z
        omega
      have OF : PickOk (dataOf cl) F := ⟨sF.nd, by omega, gF, sF.in_⟩
      obtain ⟨pk0, hpk0, sm0⟩ := hC F OF MF
      have k36 := k35.trans k6
      have el6 := k36.lst el
      have B6 := B3.keptP k36
      have eq6 := k36.lst eq3
      have hd6 := k36.dpAll _ _ hd3
      have hP6 : Paired (PkN H2 H6) vs pks := paired_mono (fun _ _ z => PkN.kept k36 z) hP
      -- there are picks
      refine ⟨_, rfl, (by show (0 : Nat) ≤ sizeLine; decide), fun e0 ne0 => ?_⟩
      have k7 := Kp.new (o := HO.lst []) k6.tab ne0
      have ee0 : upd H6 e0 (.lst []) e0 = some (.lst ([] : List V)) := upd_same
      have el7 := k7.lst el6
      have k37 := k36.trans k7
      have k67 := k7
      generalize upd H6 e0 (.lst []) = H7 at k7 ee0 el7 k37 k67 ⊢
      refine ⟨l, e0, vs, rfl, rfl, el7, ee0, _, rfl, ?_⟩
      cases vs with
      | nil =>
        rw [List.eq_nil_of_length_eq_zero (show pks.length = 0 by rw [← lpk]; rfl)] at hpk0
        cases hpk0
      | cons v0 vs1 =>
      refine iteF ?_
      obtain ⟨pk1, pks1, rfl⟩ : ∃ pk1 pks1, pks = pk1 :: pks1 := by
        cases pks with
        | nil => cases hpk0
        | cons x y => exact ⟨x, y, rfl⟩
      have sqt : SqT K H6 tt [.str "pick", .ref pp, .ref ag] := .inl (.inl et)
      have j0 : atI [V.str "pick", .ref pp, .ref ag] 0 = some (.str "pick") := at_gen (j := 0) rfl rfl
      have j1 : atI [V.str "pick", .ref pp, .ref ag] 1 = some (.ref pp) := at_gen (j := 1) rfl rfl
      have hP7 : Paired (PkN H2 H7) (v0 :: vs1) (pk1 :: pks1) := paired_mono (fun _ _ z => PkN.kept k7 z) hP6
      refine ⟨_, rfl, l, _, 0, _, rfl, rfl, .inl (.inl el7), at_gen (j := 0) rfl rfl, ?_⟩
      refine ⟨_, rfl, 1, rfl, l, _, rfl, .inl (.inl el7), fun sl nsl => ?_⟩
      rw [cutV_one]
      have k8 := Kp.new (o := HO.lst vs1) k7.tab nsl
      have esl : upd H7 sl (.lst vs1) sl = some (.lst vs1) := upd_same
      have k68 := k67.trans k8
      have hP8 : Paired (PkN H2 (upd H7 sl (.lst vs1))) (v0 :: vs1) (pk1 :: pks1) := paired_mono (fun _ _ z => PkN.kept k8 z) hP7
      generalize upd H7 sl (.lst vs1) = H8 at k8 esl k68 hP8 ⊢
      have hv0 : PkN H2 H8 v0 pk1 := by cases hP8 with | cons h _ => exact h
      have hv1 : Paired (PkN H2 H8) vs1 pks1 := by cases hP8 with | cons _ h => exact h
      have lv1 := paired_len hv1
      refine ⟨sl, rfl, ⟨_, .inl (.inl esl)⟩, for_list (K := K) (a := sl) (xs := vs1) (fun i σ' H' => ∃ (x6 : Option V) (bv : V) (best : List (Str × Int)), σ' = [some (.ref a), some (.ref r), some (.ref q), some (.ref l), some (.ref tt), some bv, x6, none] ∧ Kp T H8 H' ∧ PkN H2 H8 bv best ∧ best ∈ pk1 :: pks1 ∧ ((∃ pk ∈ pk1 :: pks1.take i, SameP pk F) → SameP best F))
        ⟨none, v0, pk1, rfl, .refl k8.tab, hv0, List.mem_cons_self .., fun ⟨pk, h, s⟩ => by rw [List.mem_singleton.mp h] at s; exact s⟩ (fun i σ' H' _ ⟨_, _, _, _, kk, _⟩ => kk.seq (.inl (.inl esl))) ?_ ?_⟩
      · rintro i v σ' H9 hi ⟨x6, bv, best, rfl, kk, hb, hbm, hsm⟩
        have hil : i < pks1.length := by rw [← lv1]; exact (List.getElem?_eq_some_iff.mp hi).1
        have ei := List.getElem?_eq_getElem hil
        have eti := take_succ_get ei
        obtain ⟨v', ev', hpv⟩ := paired_get hv1 ei
        rw [hi] at ev'
        cases ev'
        have em := List.getElem_mem hil
        generalize pks1[i] = pk at hpv em eti ei
        have em2 : pk ∈ pk1 :: pks1 := List.mem_cons_of_mem _ em
        obtain ⟨a1, rfl, _, e1⟩ := id hpv
        obtain ⟨a2, rfl, _, e2⟩ := id hb
        have kk9 := k68.trans kk
        have e19 := dict_kp kk e1
        have e29 := dict_kp kk e2
        obtain ⟨O1, M1⟩ := hO pk em2
        obtain ⟨O2, M2⟩ := hO best hbm
        refine ⟨_, rfl, _, rfl, _, rfl, _, rfl, [], r, q, a1, a2, cl, xs, ds, pk, best, rfl, B6.keptP kk9, GG, .inl (.inl (kk9.lst eq6)), kk9.dpAll _ _ hd6, hnd, h8, e19, e29, O1, O2, M1, M2, kk.tab, fun outp H10 agp k10 => ⟨_, rfl, ?_⟩⟩
        have s1 := sol_of hnd hDn O1 M1
        have s2 := sol_of hnd hDn O2 M2
        obtain ⟨outb, agb, _⟩ := id M2
        have keyp := fun y hy => (M1.keys agp).mem_iff.mp (show y ∈ pk.map (·.1) from hy)
        have keyb := fun y hy => (M2.keys agb).mem_iff.mp (show y ∈ best.map (·.1) from hy)
        cases hah : aheadB pk best outp with
        | true =>
          refine iteT ⟨_, rfl, _, V.ref a1, pk, rfl, kk.trans k10, hpv, em2, fun ⟨pk', h', s'⟩ => ?_⟩
          rcases Classical.em (SameP pk F) with z | z
          · exact z
          · -- then the best so far was it, and none is ahead of it
            exfalso
            rw [eti] at h'
            have hbF : SameP best F := hsm ⟨pk', by
              rcases List.mem_cons.mp h' with h' | h'
              · exact List.mem_cons.mpr (.inl h')
              · rcases List.mem_append.mp h' with h' | h'
                · exact List.mem_cons_of_mem _ h'
                · rw [List.mem_singleton.mp h'] at s'
                  exact absurd s' z, s'⟩
            rcases bst pk s1 (fun p hp => by cases hp) with q1 | q1
            · exact z (same_of sF.nd O1.nd agF agp keyp q1)
            · have w := (best_of sF.nd agF O1.nd agp q1 hbF agb).2
              rw [w] at hah
              cases hah
        | false =>
          refine iteF ⟨_, V.ref a2, best, rfl, kk.trans k10, hb, hbm, fun ⟨pk', h', s'⟩ => ?_⟩
          rcases Classical.em (SameP best F) with z | z
          · exact z
          · exfalso
            rw [eti] at h'
            have hpF : SameP pk F := by
              rcases List.mem_cons.mp h' with h' | h'
              · exact absurd (hsm ⟨pk', List.mem_cons.mpr (.inl h'), s'⟩) z
              · rcases List.mem_append.mp h' with h' | h'
                · exact absurd (hsm ⟨pk', List.mem_cons_of_mem _ h', s'⟩) z
                · rw [List.mem_singleton.mp h'] at s'
                  exact s'
            rcases bst best s2 (fun p hp => by cases hp) with q1 | q1
            · exact z (same_of sF.nd O2.nd agF agb keyb q1)
            · have w := (best_of sF.nd agF O2.nd agb q1 hpF agp).1
              rw [w] at hah
              cases hah
      · rintro σ' H9 ⟨x6, bv, best, rfl, kk, hb, hbm, hsm⟩
        rw [lv1, List.take_length] at hsm
        have bF := hsm ⟨pk0, hpk0, sm0⟩
        have kk9 := k68.trans kk
        obtain ⟨a2, rfl, _, e2⟩ := id hb
        have e29 := dict_kp kk e2
        obtain ⟨O2, M2⟩ := hO best hbm
        have sqt9 := kk9.sqt sqt
        -- a pick is told
        refine ⟨_, rfl, _, .ty "tuple", _, _, true, rfl, .ty "tuple", .base (.tup (kk9.keep _ _ (tab_ne k6.tab et fun _ z => by cases z) et)), (kit_tup K (.tuple [])), true, rfl, iteF ?_⟩
        refine ⟨_, rfl, tt, _, 0, _, rfl, rfl, sqt9, j0, .str "pick", .str "pick", .str _, .str _, shaped_lit (by decide +kernel), shaped_lit (by decide +kernel), _, rfl, ?_⟩
        rw [eqP, decide_eq_true rfl]
        refine iteF ?_
        -- its pairs
        refine ⟨_, rfl, tt, _, 1, _, rfl, rfl, sqt9, j1, ?_⟩
        refine ⟨_, rfl, _, rfl, _, rfl, [], r, q, a2, cl, xs, ds, best, rfl, .of (B6.keptP kk9), GG, .inl (.inl (kk9.lst eq6)), kk9.dpAll _ _ hd6, hnd, h8, .inl e29, O2, kk.tab, fun outb ob H10 agb gob _ _ k10 nob eob => ?_⟩
        have eb : outb = F.map (·.1) := (agb.congr fun w => needW_same (bF w)).det agF
        subst eb
        have e210 := dict_kp k10 e29
        refine ⟨ob, rfl, ⟨_, .inl (.inl eob)⟩, fun M nM => ?_⟩
        have MT := tab_nn k10.tab nM
        refine lc_it walk_list (fun j H' => Kp T H10 H' ∧ ∃ us, H' M = some (.lst us) ∧ Paired (PrV K H') us (F.take j)) ⟨Kp.new k10.tab nM, [], upd_same, .nil⟩ (fun j H' _ h => h.1.seq (.inl (.inl eob))) (fun j v Hz H11 hj h y => ?_) (fun H11 h => ?_)
        · obtain ⟨kk11, us, eM, hu11⟩ := h
          obtain ⟨rfl, hv⟩ := y
          rw [List.length_map, List.length_map] at hj
          have ej := List.getElem?_eq_getElem hj
          have etj := take_succ_get ej
          have emj : F[j] ∈ F := List.getElem_mem hj
          rw [List.getElem?_map, List.getElem?_map, ej] at hv
          generalize F[j] = pr at hv emj etj ej
          cases hv
          have lkb : lkP best pr.1 = some pr.2 := by rw [bF]; exact lkP_of sF.nd emj
          have gd := DGet.k (k := (.inr pr.1 : Key)) (dict_kp kk11 e210)
          rw [pkD_val, lkb] at gd
          have lu := paired_len hu11
          rw [List.length_take] at lu
          refine ⟨rfl, ?_⟩
          refine ⟨_, rfl, _, rfl, _, rfl, a2, _, rfl, gd, (by show (2 : Nat) ≤ sizeLine; decide), fun t1 nt1 => ?_⟩
          have k12 := Kp.new (o := HO.tup [.str pr.1, .int pr.2]) kk11.tab nt1
          have et1 : upd H11 t1 (.tup [V.str pr.1, .int pr.2]) t1 = some (.tup [.str pr.1, .int pr.2]) := upd_same
          have eM12 := k12.lst eM
          have kk12 := kk11.trans k12
          have hu12 := paired_mono (fun _ _ z => PrV.kp k12 z) hu11
          generalize upd H11 t1 (.tup [V.str pr.1, .int pr.2]) = H12 at k12 et1 eM12 kk12 hu12 ⊢
          refine ⟨us, eM12, small1000 (by omega), kk12.set nM MT, us ++ [V.ref t1], upd_same, ?_⟩
          rw [etj]
          refine paired_mono (fun v p z => ?_) (paired_app2 hu12 (.cons ⟨t1, rfl, .inl (.inl et1)⟩ .nil))
          obtain ⟨b, e, h⟩ := z
          refine ⟨b, e, ?_⟩
          have nb : ∀ {o : HO}, H12 b = some o → (∀ us, o ≠ .lst us) → upd H12 M (.lst (us ++ [V.ref t1])) b = some o := fun {o} h2 h3 => by
            rw [upd_ne (fun z => by rw [z, eM12] at h2; exact h3 _ (Option.some.inj h2).symm)]
            exact h2
          rcases h with (h | ⟨o, h⟩) | h
          · exact .inl (.inl (nb h fun _ z => by cases z))
          · exact .inl (.inr ⟨o, nb h fun _ z => by cases z⟩)
          · exact .inr h
        · obtain ⟨kk11, us, eM, hu11⟩ := h
          rw [List.length_map, List.length_map, List.take_length] at hu11
          have kall := kk9.trans (k10.trans kk11)
          have dA : Dp K H11 (.ref pp) (.list (F.map d2)) := .lst (.inl (.inl (kall.lst epp))) (prv_d2 (paired_mono (fun _ _ z => PrV.kp kall z) hvs))
          have dB : Dp K H11 (.ref M) (.list (F.map d2)) := .lst (.inl (.inl eM)) (prv_d2 hu11)
          have shp := shaped_d2 gF
          refine ⟨_, _, dA, dB, shp, shp, ?_⟩
          rw [SeqAt.eqv_refl _ (SeqAt.canLay_of_shaped shp)]
          exact fin _
    · -- none is told: there is none
      have none_ : pks = [] := by
        cases pks with
        | nil => rfl
        | cons pk r =>
          obtain ⟨O1, M1⟩ := hO pk (List.mem_cons_self ..)
          rw [dt] at no
          exact absurd (sol_of hnd hDn O1 M1) (no pk)
      have vnil : vs = [] := List.eq_nil_of_length_eq_zero (by rw [lpk, none_]; rfl)
      subst vnil
      have el6 := (k35.trans k6).lst el
      refine ⟨_, rfl, (by show (0 : Nat) ≤ sizeLine; decide), fun e0 ne0 => ?_⟩
      have k7 := Kp.new (o := HO.lst []) k6.tab ne0
      have ee0 : upd H6 e0 (.lst []) e0 = some (.lst ([] : List V)) := upd_same
      have el7 := k7.lst el6
      have sqt : SqT K (upd H6 e0 (.lst [])) tt [.str "none", rv] := k7.sqt (.inl (.inl et))
      have et7 := k7.keep _ _ (tab_ne k6.tab et fun _ z => by cases z) et
      generalize upd H6 e0 (.lst []) = H7 at k7 ee0 el7 sqt et7 ⊢
      have j0 : atI [V.str "none", rv] 0 = some (.str "none") := at_gen (j := 0) rfl rfl
      refine ⟨l, e0, [], rfl, rfl, el7, ee0, _, rfl, iteT ?_⟩
      refine ⟨_, rfl, _, .ty "tuple", _, _, true, rfl, .ty "tuple", .base (.tup et7), (kit_tup K (.tuple [])), true, rfl, iteT ?_⟩
      refine ⟨_, rfl, tt, _, 0, _, rfl, rfl, sqt, j0, .str "none", .str "none", .str _, .str _, shaped_lit (by decide +kernel), shaped_lit (by decide +kernel), ?_⟩
      rw [eqN, decide_eq_true rfl]
      exact fin _
end
end Pk

set_option Elab.async false
set_option linter.all false
set_option maxRecDepth 100000
set_option maxHeartbeats 4000000
namespace Pk
open PySem PySem.Spec PyProof.Rows L2
theorem all_mk {l : PySem.W.OpenLaw} {w : World} {K : PySem.W.Frag} {h : Heap} {mg : Str → Option Value} {fa T c : Addr} (X : K.In h) (G : h.Ns mainGlobals mg) (hfa : mg "law" = some (.ref fa)) {q : Program}
    (hT0 : ∀ (y : Str) (c T : Addr), ((recsOf q).any fun e => e.name == y) = true → PySem.W.tabIn K y = some (c, T) → PySem.W.CodeHd h c T ∧ h.get? T = some (PySem.W.tabObj #[])) (hrecc : ((recsOf q).any fun e => e.name == ("is_ware" : Str)) = true)
    {ecc : Value} {dccc : Option Addr} {vscc : Array Value} {slcc : Array (Option Value)} (lcc : K.lookup c = some ⟨ecc, dccc, .fields vscc, slcc⟩) (v11c : vscc[11]? = some (.ref T)) (nTc : K.lookup T = none)
    {f1 f2 f3 f4 f5 f6 f7 f8 f9 f10 f11 f12 f13 f14 f15 f16 f17 f18 f19 f20 f21 f22 f23 f24 f25 f26 f27 f28 f29 f30 f31 f32 f33 f34 f35 f36 f37 f38 f39 CShop EBadWare EBadMake EBadNeed ETwice EFull ENoMake EBadWish : Addr} {od1 an1 od2 an2 od3 an3 od4 an4 od5 an5 od6 an6 od7 an7 od8 an8 od9 an9 od10 an10 od11 an11 od12 an12 od13 an13 od14 an14 od15 an15 od16 an16 od17 an17 od18 an18 od19 an19 od20 an20 od21 an21 od22 an22 od23 an23 od24 an24 od25 an25 od26 an26 od27 an27 od28 an28 od29 an29 od30 an30 od31 an31 od32 an32 od33 an33 od34 an34 od35 an35 od36 an36 od37 an37 od38 an38 od39 an39 : Option Addr} {sl1 sl2 sl3 sl4 sl5 sl6 sl7 sl8 sl9 sl10 sl11 sl12 sl13 sl14 sl15 sl16 sl17 sl18 sl19 sl20 sl21 sl22 sl23 sl24 sl25 sl26 sl27 sl28 sl29 sl30 sl31 sl32 sl33 sl34 sl35 sl36 sl37 sl38 sl39 : Array (Option Value)}
    {oc1 kV1 dc1 pm1 ct1 oc2 kV2 dc2 pm2 ct2 cd2 oc3 kV3 dc3 pm3 ct3 cd3 oc4 kV4 dc4 pm4 ct4 cd4 oc5 kV5 dc5 pm5 ct5 cd5 oc6 kV6 dc6 pm6 ct6 cd6 oc7 kV7 dc7 pm7 ct7 cd7 oc8 kV8 dc8 pm8 ct8 cd8 oc9 kV9 dc9 pm9 ct9 cd9 oc10 kV10 dc10 pm10 ct10 cd10 oc11 kV11 dc11 pm11 ct11 cd11 oc12 kV12 dc12 pm12 ct12 cd12 oc13 kV13 dc13 pm13 ct13 cd13 oc14 kV14 dc14 pm14 ct14 cd14 oc15 kV15 dc15 pm15 ct15 cd15 oc16 kV16 dc16 pm16 ct16 cd16 oc17 kV17 dc17 pm17 ct17 cd17 oc18 kV18 dc18 pm18 ct18 cd18 oc19 kV19 dc19 pm19 ct19 cd19 oc20 kV20 dc20 pm20 ct20 cd20 oc21 kV21 dc21 pm21 ct21 cd21 oc22 kV22 dc22 pm22 ct22 cd22 oc23 kV23 dc23 pm23 ct23 cd23 oc24 kV24 dc24 pm24 ct24 cd24 oc25 kV25 dc25 pm25 ct25 cd25 oc26 kV26 dc26 pm26 ct26 cd26 oc27 kV27 dc27 pm27 ct27 cd27 oc28 kV28 dc28 pm28 ct28 cd28 oc29 kV29 dc29 pm29 ct29 cd29 oc30 kV30 dc30 pm30 ct30 cd30 oc31 kV31 dc31 pm31 ct31 cd31 oc32 kV32 dc32 pm32 ct32 cd32 oc33 kV33 dc33 pm33 ct33 cd33 oc34 kV34 dc34 pm34 ct34 cd34 oc35 kV35 dc35 pm35 ct35 cd35 oc36 kV36 dc36 pm36 ct36 cd36 oc37 kV37 dc37 pm37 ct37 cd37 oc38 kV38 dc38 pm38 ct38 cd38 oc39 kV39 dc39 pm39 ct39 cd39 : Value} {t8 t1 t9 t12 t88 t6 tw8 : Tok}
    (aCShop : PySem.W.nsIn K mainGlobals "Shop" = some (some (.ref CShop)))
    (a1 : PySem.W.nsIn K mainGlobals "is_ware" = some (some (.ref f1)))    (l1 : K.lookup f1 = some ⟨oc1, od1, .func (PySem.W.fnOf "is_ware" "is_ware" (defArgs sWare) (defBody sWare) (defScope sWare) .none kV1 dc1 pm1 an1 (.ref c) ct1), sl1⟩)    (c1 : PySem.W.codeIn K (.ref c) "is_ware" = true)    (k1 : PySem.W.keepIn K (.ref f1) = true)
    (a2 : PySem.W.nsIn K mainGlobals "is_make" = some (some (.ref f2)))    (l2 : K.lookup f2 = some ⟨oc2, od2, .func (PySem.W.fnOf "is_make" "is_make" (defArgs sMake) (defBody sMake) (defScope sMake) .none kV2 dc2 pm2 an2 cd2 ct2), sl2⟩)    (c2 : PySem.W.codeIn K cd2 "is_make" = true)    (k2 : PySem.W.keepIn K (.ref f2) = true)
    (a3 : PySem.W.nsIn K mainGlobals "is_need" = some (some (.ref f3)))    (l3 : K.lookup f3 = some ⟨oc3, od3, .func (PySem.W.fnOf "is_need" "is_need" (defArgs sNeed) (defBody sNeed) (defScope sNeed) .none kV3 dc3 pm3 an3 cd3 ct3), sl3⟩)    (c3 : PySem.W.codeIn K cd3 "is_need" = true)    (k3 : PySem.W.keepIn K (.ref f3) = true)
    (a4 : PySem.W.nsIn K mainGlobals "within" = some (some (.ref f4)))    (l4 : K.lookup f4 = some ⟨oc4, od4, .func (PySem.W.fnOf "within" "within" (defArgs sWithin) (defBody sWithin) (defScope sWithin) .none kV4 dc4 pm4 an4 cd4 ct4), sl4⟩)    (c4 : PySem.W.codeIn K cd4 "within" = true)    (k4 : PySem.W.keepIn K (.ref f4) = true)
    (a5 : PySem.W.nsIn K mainGlobals "joined" = some (some (.ref f5)))    (l5 : K.lookup f5 = some ⟨oc5, od5, .func (PySem.W.fnOf "joined" "joined" (defArgs sJoined) (defBody sJoined) (defScope sJoined) .none kV5 dc5 pm5 an5 cd5 ct5), sl5⟩)    (c5 : PySem.W.codeIn K cd5 "joined" = true)    (k5 : PySem.W.keepIn K (.ref f5) = true)
    (a6 : PySem.W.nsIn K mainGlobals "_may_need" = some (some (.ref f6)))    (l6 : K.lookup f6 = some ⟨oc6, od6, .func (PySem.W.fnOf "_may_need" "_may_need" (defArgs sMay) (defBody sMay) (defScope sMay) .none kV6 dc6 pm6 an6 cd6 ct6), sl6⟩)    (c6 : PySem.W.codeIn K cd6 "_may_need" = true)    (k6 : PySem.W.keepIn K (.ref f6) = true)
    (a7 : PySem.W.findIn K (.ref CShop) "__init__" = some (some (.ref f7)))    (i7 : PySem.W.isFn K (.ref f7) = true)    (l7 : K.lookup f7 = some ⟨oc7, od7, .func (PySem.W.fnOf "__init__" "Shop.__init__" (defArgs sInit) (defBody sInit) (defScope sInit) .none kV7 dc7 pm7 an7 cd7 ct7), sl7⟩)    (c7 : PySem.W.codeIn K cd7 "Shop.__init__" = true)    (k7 : PySem.W.keepIn K (.ref f7) = true)
    (a8 : PySem.W.findIn K (.ref CShop) "put" = some (some (.ref f8)))    (i8 : PySem.W.isFn K (.ref f8) = true)    (l8 : K.lookup f8 = some ⟨oc8, od8, .func (PySem.W.fnOf "put" "Shop.put" (defArgs sPut) (defBody sPut) (defScope sPut) .none kV8 dc8 pm8 an8 cd8 ct8), sl8⟩)    (c8 : PySem.W.codeIn K cd8 "Shop.put" = true)    (k8 : PySem.W.keepIn K (.ref f8) = true)
    (a9 : PySem.W.findIn K (.ref CShop) "makes" = some (some (.ref f9)))    (i9 : PySem.W.isFn K (.ref f9) = true)    (l9 : K.lookup f9 = some ⟨oc9, od9, .func (PySem.W.fnOf "makes" "Shop.makes" (defArgs sMakes) (defBody sMakes) (defScope sMakes) .none kV9 dc9 pm9 an9 cd9 ct9), sl9⟩)    (c9 : PySem.W.codeIn K cd9 "Shop.makes" = true)    (k9 : PySem.W.keepIn K (.ref f9) = true)
    (a10 : PySem.W.findIn K (.ref CShop) "needs" = some (some (.ref f10)))    (i10 : PySem.W.isFn K (.ref f10) = true)    (l10 : K.lookup f10 = some ⟨oc10, od10, .func (PySem.W.fnOf "needs" "Shop.needs" (defArgs sNeeds) (defBody sNeeds) (defScope sNeeds) .none kV10 dc10 pm10 an10 cd10 ct10), sl10⟩)    (c10 : PySem.W.codeIn K cd10 "Shop.needs" = true)    (k10 : PySem.W.keepIn K (.ref f10) = true)
    (a11 : PySem.W.findIn K (.ref CShop) "wares" = some (some (.ref f11)))    (i11 : PySem.W.isFn K (.ref f11) = true)    (l11 : K.lookup f11 = some ⟨oc11, od11, .func (PySem.W.fnOf "wares" "Shop.wares" (defArgs sWares) (defBody sWares) (defScope sWares) .none kV11 dc11 pm11 an11 cd11 ct11), sl11⟩)    (c11 : PySem.W.codeIn K cd11 "Shop.wares" = true)    (k11 : PySem.W.keepIn K (.ref f11) = true)
    (a12 : PySem.W.findIn K (.ref CShop) "_has" = some (some (.ref f12)))    (i12 : PySem.W.isFn K (.ref f12) = true)    (l12 : K.lookup f12 = some ⟨oc12, od12, .func (PySem.W.fnOf "_has" "Shop._has" (defArgs sHas) (defBody sHas) (defScope sHas) .none kV12 dc12 pm12 an12 cd12 ct12), sl12⟩)    (c12 : PySem.W.codeIn K cd12 "Shop._has" = true)    (k12 : PySem.W.keepIn K (.ref f12) = true)
    (a13 : PySem.W.findIn K (.ref CShop) "_has_place" = some (some (.ref f13)))    (i13 : PySem.W.isFn K (.ref f13) = true)    (l13 : K.lookup f13 = some ⟨oc13, od13, .func (PySem.W.fnOf "_has_place" "Shop._has_place" (defArgs sPlace) (defBody sPlace) (defScope sPlace) .none kV13 dc13 pm13 an13 cd13 ct13), sl13⟩)    (c13 : PySem.W.codeIn K cd13 "Shop._has_place" = true)    (k13 : PySem.W.keepIn K (.ref f13) = true)
    (a14 : PySem.W.nsIn K mainGlobals "check_wish" = some (some (.ref f14)))    (l14 : K.lookup f14 = some ⟨oc14, od14, .func (PySem.W.fnOf "check_wish" "check_wish" (defArgs sChkW) (defBody sChkW) (defScope sChkW) .none kV14 dc14 pm14 an14 cd14 ct14), sl14⟩)    (c14 : PySem.W.codeIn K cd14 "check_wish" = true)    (k14 : PySem.W.keepIn K (.ref f14) = true)
    (a15 : PySem.W.nsIn K mainGlobals "add_wares" = some (some (.ref f15)))    (l15 : K.lookup f15 = some ⟨oc15, od15, .func (PySem.W.fnOf "add_wares" "add_wares" (defArgs sAddW) (defBody sAddW) (defScope sAddW) .none kV15 dc15 pm15 an15 cd15 ct15), sl15⟩)    (c15 : PySem.W.codeIn K cd15 "add_wares" = true)    (k15 : PySem.W.keepIn K (.ref f15) = true)
    (a16 : PySem.W.nsIn K mainGlobals "shelves_of" = some (some (.ref f16)))    (l16 : K.lookup f16 = some ⟨oc16, od16, .func (PySem.W.fnOf "shelves_of" "shelves_of" (defArgs sShelves) (defBody sShelves) (defScope sShelves) .none kV16 dc16 pm16 an16 cd16 ct16), sl16⟩)    (c16 : PySem.W.codeIn K cd16 "shelves_of" = true)    (k16 : PySem.W.keepIn K (.ref f16) = true)
    (a17 : PySem.W.nsIn K mainGlobals "wished" = some (some (.ref f17)))    (l17 : K.lookup f17 = some ⟨oc17, od17, .func (PySem.W.fnOf "wished" "wished" (defArgs sWished) (defBody sWished) (defScope sWished) .none kV17 dc17 pm17 an17 cd17 ct17), sl17⟩)    (c17 : PySem.W.codeIn K cd17 "wished" = true)    (k17 : PySem.W.keepIn K (.ref f17) = true)
    (a18 : PySem.W.nsIn K mainGlobals "granting" = some (some (.ref f18)))    (l18 : K.lookup f18 = some ⟨oc18, od18, .func (PySem.W.fnOf "granting" "granting" (defArgs sGranting) (defBody sGranting) (defScope sGranting) .none kV18 dc18 pm18 an18 cd18 ct18), sl18⟩)    (c18 : PySem.W.codeIn K cd18 "granting" = true)    (k18 : PySem.W.keepIn K (.ref f18) = true)
    (a19 : PySem.W.nsIn K mainGlobals "makes_left" = some (some (.ref f19)))    (l19 : K.lookup f19 = some ⟨oc19, od19, .func (PySem.W.fnOf "makes_left" "makes_left" (defArgs sLeft) (defBody sLeft) (defScope sLeft) .none kV19 dc19 pm19 an19 cd19 ct19), sl19⟩)    (c19 : PySem.W.codeIn K cd19 "makes_left" = true)    (k19 : PySem.W.keepIn K (.ref f19) = true)
    (a20 : PySem.W.nsIn K mainGlobals "settle" = some (some (.ref f20)))    (l20 : K.lookup f20 = some ⟨oc20, od20, .func (PySem.W.fnOf "settle" "settle" (defArgs sSettle) (defBody sSettle) (defScope sSettle) .none kV20 dc20 pm20 an20 cd20 ct20), sl20⟩)    (c20 : PySem.W.codeIn K cd20 "settle" = true)    (k20 : PySem.W.keepIn K (.ref f20) = true)
    (a21 : PySem.W.nsIn K mainGlobals "_settled" = some (some (.ref f21)))    (l21 : K.lookup f21 = some ⟨oc21, od21, .func (PySem.W.fnOf "_settled" "_settled" (defArgs sSettled) (defBody sSettled) (defScope sSettled) .none kV21 dc21 pm21 an21 cd21 ct21), sl21⟩)    (c21 : PySem.W.codeIn K cd21 "_settled" = true)    (k21 : PySem.W.keepIn K (.ref f21) = true)
    (a22 : PySem.W.nsIn K mainGlobals "_tried" = some (some (.ref f22)))    (l22 : K.lookup f22 = some ⟨oc22, od22, .func (PySem.W.fnOf "_tried" "_tried" (defArgs sTried) (defBody sTried) (defScope sTried) .none kV22 dc22 pm22 an22 cd22 ct22), sl22⟩)    (c22 : PySem.W.codeIn K cd22 "_tried" = true)    (k22 : PySem.W.keepIn K (.ref f22) = true)
    (a23 : PySem.W.nsIn K mainGlobals "_none" = some (some (.ref f23)))    (l23 : K.lookup f23 = some ⟨oc23, od23, .func (PySem.W.fnOf "_none" "_none" (defArgs sNone) (defBody sNone) (defScope sNone) .none kV23 dc23 pm23 an23 cd23 ct23), sl23⟩)    (c23 : PySem.W.codeIn K cd23 "_none" = true)    (k23 : PySem.W.keepIn K (.ref f23) = true)
    (a24 : PySem.W.nsIn K mainGlobals "_against" = some (some (.ref f24)))    (l24 : K.lookup f24 = some ⟨oc24, od24, .func (PySem.W.fnOf "_against" "_against" (defArgs sAgainst) (defBody sAgainst) (defScope sAgainst) .none kV24 dc24 pm24 an24 cd24 ct24), sl24⟩)    (c24 : PySem.W.codeIn K cd24 "_against" = true)    (k24 : PySem.W.keepIn K (.ref f24) = true)
    (a25 : PySem.W.nsIn K mainGlobals "_unasked" = some (some (.ref f25)))    (l25 : K.lookup f25 = some ⟨oc25, od25, .func (PySem.W.fnOf "_unasked" "_unasked" (defArgs sUnasked) (defBody sUnasked) (defScope sUnasked) .none kV25 dc25 pm25 an25 cd25 ct25), sl25⟩)    (c25 : PySem.W.codeIn K cd25 "_unasked" = true)    (k25 : PySem.W.keepIn K (.ref f25) = true)
    (a26 : PySem.W.nsIn K mainGlobals "_asked_of" = some (some (.ref f26)))    (l26 : K.lookup f26 = some ⟨oc26, od26, .func (PySem.W.fnOf "_asked_of" "_asked_of" (defArgs sAskedOf) (defBody sAskedOf) (defScope sAskedOf) .none kV26 dc26 pm26 an26 cd26 ct26), sl26⟩)    (c26 : PySem.W.codeIn K cd26 "_asked_of" = true)    (k26 : PySem.W.keepIn K (.ref f26) = true)
    (a27 : PySem.W.nsIn K mainGlobals "_fewest" = some (some (.ref f27)))    (l27 : K.lookup f27 = some ⟨oc27, od27, .func (PySem.W.fnOf "_fewest" "_fewest" (defArgs sFewest) (defBody sFewest) (defScope sFewest) .none kV27 dc27 pm27 an27 cd27 ct27), sl27⟩)    (c27 : PySem.W.codeIn K cd27 "_fewest" = true)    (k27 : PySem.W.keepIn K (.ref f27) = true)
    (a28 : PySem.W.nsIn K mainGlobals "_law_mixed" = some (some (.ref f28)))    (l28 : K.lookup f28 = some ⟨oc28, od28, .func (PySem.W.fnOf "_law_mixed" "_law_mixed" (defArgs sMixed) (defBody sMixed) (defScope sMixed) .none kV28 dc28 pm28 an28 cd28 ct28), sl28⟩)    (c28 : PySem.W.codeIn K cd28 "_law_mixed" = true)    (k28 : PySem.W.keepIn K (.ref f28) = true)
    (a29 : PySem.W.nsIn K mainGlobals "_law_names" = some (some (.ref f29)))    (l29 : K.lookup f29 = some ⟨oc29, od29, .func (PySem.W.fnOf "_law_names" "_law_names" (defArgs sNames) (defBody sNames) (defScope sNames) .none kV29 dc29 pm29 an29 cd29 ct29), sl29⟩)    (c29 : PySem.W.codeIn K cd29 "_law_names" = true)    (k29 : PySem.W.keepIn K (.ref f29) = true)
    (a30 : PySem.W.nsIn K mainGlobals "_law_stretch" = some (some (.ref f30)))    (l30 : K.lookup f30 = some ⟨oc30, od30, .func (PySem.W.fnOf "_law_stretch" "_law_stretch" (defArgs sStretch) (defBody sStretch) (defScope sStretch) .none kV30 dc30 pm30 an30 cd30 ct30), sl30⟩)    (c30 : PySem.W.codeIn K cd30 "_law_stretch" = true)    (k30 : PySem.W.keepIn K (.ref f30) = true)
    (a31 : PySem.W.nsIn K mainGlobals "_law_needs" = some (some (.ref f31)))    (l31 : K.lookup f31 = some ⟨oc31, od31, .func (PySem.W.fnOf "_law_needs" "_law_needs" (defArgs sLNeeds) (defBody sLNeeds) (defScope sLNeeds) .none kV31 dc31 pm31 an31 cd31 ct31), sl31⟩)    (c31 : PySem.W.codeIn K cd31 "_law_needs" = true)    (k31 : PySem.W.keepIn K (.ref f31) = true)
    (a32 : PySem.W.nsIn K mainGlobals "_law_rows" = some (some (.ref f32)))    (l32 : K.lookup f32 = some ⟨oc32, od32, .func (PySem.W.fnOf "_law_rows" "_law_rows" (defArgs sRows) (defBody sRows) (defScope sRows) .none kV32 dc32 pm32 an32 cd32 ct32), sl32⟩)    (c32 : PySem.W.codeIn K cd32 "_law_rows" = true)    (k32 : PySem.W.keepIn K (.ref f32) = true)
    (a33 : PySem.W.nsIn K mainGlobals "_law_wish" = some (some (.ref f33)))    (l33 : K.lookup f33 = some ⟨oc33, od33, .func (PySem.W.fnOf "_law_wish" "_law_wish" (defArgs sWish) (defBody sWish) (defScope sWish) .none kV33 dc33 pm33 an33 cd33 ct33), sl33⟩)    (c33 : PySem.W.codeIn K cd33 "_law_wish" = true)    (k33 : PySem.W.keepIn K (.ref f33) = true)
    (a34 : PySem.W.nsIn K mainGlobals "_law_shop" = some (some (.ref f34)))    (l34 : K.lookup f34 = some ⟨oc34, od34, .func (PySem.W.fnOf "_law_shop" "_law_shop" (defArgs sLShop) (defBody sLShop) (defScope sLShop) .none kV34 dc34 pm34 an34 cd34 ct34), sl34⟩)    (c34 : PySem.W.codeIn K cd34 "_law_shop" = true)    (k34 : PySem.W.keepIn K (.ref f34) = true)
    (a35 : PySem.W.nsIn K mainGlobals "_law_agenda" = some (some (.ref f35)))    (l35 : K.lookup f35 = some ⟨oc35, od35, .func (PySem.W.fnOf "_law_agenda" "_law_agenda" (defArgs sLAg) (defBody sLAg) (defScope sLAg) .none kV35 dc35 pm35 an35 cd35 ct35), sl35⟩)    (c35 : PySem.W.codeIn K cd35 "_law_agenda" = true)    (k35 : PySem.W.keepIn K (.ref f35) = true)
    (a36 : PySem.W.nsIn K mainGlobals "_law_meets" = some (some (.ref f36)))    (l36 : K.lookup f36 = some ⟨oc36, od36, .func (PySem.W.fnOf "_law_meets" "_law_meets" (defArgs sLMeets) (defBody sLMeets) (defScope sLMeets) .none kV36 dc36 pm36 an36 cd36 ct36), sl36⟩)    (c36 : PySem.W.codeIn K cd36 "_law_meets" = true)    (k36 : PySem.W.keepIn K (.ref f36) = true)
    (a37 : PySem.W.nsIn K mainGlobals "_law_all_picks" = some (some (.ref f37)))    (l37 : K.lookup f37 = some ⟨oc37, od37, .func (PySem.W.fnOf "_law_all_picks" "_law_all_picks" (defArgs sAllP) (defBody sAllP) (defScope sAllP) .none kV37 dc37 pm37 an37 cd37 ct37), sl37⟩)    (c37 : PySem.W.codeIn K cd37 "_law_all_picks" = true)    (k37 : PySem.W.keepIn K (.ref f37) = true)
    (a38 : PySem.W.nsIn K mainGlobals "_law_ahead" = some (some (.ref f38)))    (l38 : K.lookup f38 = some ⟨oc38, od38, .func (PySem.W.fnOf "_law_ahead" "_law_ahead" (defArgs sAhead) (defBody sAhead) (defScope sAhead) .none kV38 dc38 pm38 an38 cd38 ct38), sl38⟩)    (c38 : PySem.W.codeIn K cd38 "_law_ahead" = true)    (k38 : PySem.W.keepIn K (.ref f38) = true)
    (a39 : PySem.W.nsIn K mainGlobals "law" = some (some (.ref f39)))    (l39 : K.lookup f39 = some ⟨oc39, od39, .func (PySem.W.fnOf "law" "law" (defArgs sLaw) (defBody sLaw) (defScope sLaw) .none kV39 dc39 pm39 an39 cd39 ct39), sl39⟩)    (c39 : PySem.W.codeIn K cd39 "law" = true)    (k39 : PySem.W.keepIn K (.ref f39) = true)
    (gt8 : PySem.W.nsIn K mainGlobals "MOST_SIGNS" = some (some (.int 8 t8)))    (gt1 : PySem.W.nsIn K mainGlobals "LEAST_MAKE" = some (some (.int 1 t1)))    (gt9 : PySem.W.nsIn K mainGlobals "MOST_MAKE" = some (some (.int 999 t9)))    (gt12 : PySem.W.nsIn K mainGlobals "MOST_WARES" = some (some (.int 12 t12)))    (gt88 : PySem.W.nsIn K mainGlobals "MOST_MAKES" = some (some (.int 8 t88)))    (gt6 : PySem.W.nsIn K mainGlobals "MOST_NEEDS" = some (some (.int 6 t6)))    (gtw8 : PySem.W.nsIn K mainGlobals "MOST_WISHES" = some (some (.int 8 tw8)))
    (pgShop : PySem.W.plainGet K CShop Str.empty = true)    (hdShop : PySem.W.hasDictIn K CShop = true)    (poShop : PySem.W.plainOver K CShop = true)    (saShop : PySem.W.findIn K (.ref CShop) "__setattr__" = some (some (.builtin "object.__setattr__")))    (mkShop : PySem.W.makesIn K CShop = true)    (kcShop : PySem.W.keepIn K (.ref CShop) = true)    (nSShop_shelves : PySem.W.findIn K (.ref CShop) "_shelves" = some none)
    (eaBadWare : PySem.W.nsIn K mainGlobals "BadWare" = some (some (.ref EBadWare)))    (exBadWare : PySem.W.excIn K EBadWare [.type "ValueError", .type "Exception", .type "BaseException", .type "object"] "ValueError.__new__" = true)    (ekBadWare : PySem.W.keepIn K (.ref EBadWare) = true)    (ebBadWare : PySem.W.subIn K (.ref EBadWare) (.type "BaseException") = some true)    (etBadWare : PySem.W.typeIn K (.ref EBadWare) = some (.type "type"))
    (eaBadMake : PySem.W.nsIn K mainGlobals "BadMake" = some (some (.ref EBadMake)))    (exBadMake : PySem.W.excIn K EBadMake [.type "ValueError", .type "Exception", .type "BaseException", .type "object"] "ValueError.__new__" = true)    (ekBadMake : PySem.W.keepIn K (.ref EBadMake) = true)    (ebBadMake : PySem.W.subIn K (.ref EBadMake) (.type "BaseException") = some true)    (etBadMake : PySem.W.typeIn K (.ref EBadMake) = some (.type "type"))
    (eaBadNeed : PySem.W.nsIn K mainGlobals "BadNeed" = some (some (.ref EBadNeed)))    (exBadNeed : PySem.W.excIn K EBadNeed [.type "ValueError", .type "Exception", .type "BaseException", .type "object"] "ValueError.__new__" = true)    (ekBadNeed : PySem.W.keepIn K (.ref EBadNeed) = true)    (ebBadNeed : PySem.W.subIn K (.ref EBadNeed) (.type "BaseException") = some true)    (etBadNeed : PySem.W.typeIn K (.ref EBadNeed) = some (.type "type"))
    (eaTwice : PySem.W.nsIn K mainGlobals "Twice" = some (some (.ref ETwice)))    (exTwice : PySem.W.excIn K ETwice [.type "ValueError", .type "Exception", .type "BaseException", .type "object"] "ValueError.__new__" = true)    (ekTwice : PySem.W.keepIn K (.ref ETwice) = true)    (ebTwice : PySem.W.subIn K (.ref ETwice) (.type "BaseException") = some true)    (etTwice : PySem.W.typeIn K (.ref ETwice) = some (.type "type"))
    (eaFull : PySem.W.nsIn K mainGlobals "Full" = some (some (.ref EFull)))    (exFull : PySem.W.excIn K EFull [.type "ValueError", .type "Exception", .type "BaseException", .type "object"] "ValueError.__new__" = true)    (ekFull : PySem.W.keepIn K (.ref EFull) = true)    (ebFull : PySem.W.subIn K (.ref EFull) (.type "BaseException") = some true)    (etFull : PySem.W.typeIn K (.ref EFull) = some (.type "type"))
    (eaNoMake : PySem.W.nsIn K mainGlobals "NoMake" = some (some (.ref ENoMake)))    (exNoMake : PySem.W.excIn K ENoMake [.type "ValueError", .type "Exception", .type "BaseException", .type "object"] "ValueError.__new__" = true)    (ekNoMake : PySem.W.keepIn K (.ref ENoMake) = true)    (ebNoMake : PySem.W.subIn K (.ref ENoMake) (.type "BaseException") = some true)    (etNoMake : PySem.W.typeIn K (.ref ENoMake) = some (.type "type"))
    (eaBadWish : PySem.W.nsIn K mainGlobals "BadWish" = some (some (.ref EBadWish)))    (exBadWish : PySem.W.excIn K EBadWish [.type "ValueError", .type "Exception", .type "BaseException", .type "object"] "ValueError.__new__" = true)    (ekBadWish : PySem.W.keepIn K (.ref EBadWish) = true)    (ebBadWish : PySem.W.subIn K (.ref EBadWish) (.type "BaseException") = some true)    (etBadWish : PySem.W.typeIn K (.ref EBadWish) = some (.type "type"))

       (z1 : PySem.W.nsIn K mainGlobals "isinstance" = some none)    (z2 : PySem.W.nsIn K mainGlobals "type" = some none)    (z3 : PySem.W.nsIn K mainGlobals "str" = some none)    (z4 : PySem.W.nsIn K mainGlobals "int" = some none)    (z5 : PySem.W.nsIn K mainGlobals "tuple" = some none)    (z6 : PySem.W.nsIn K mainGlobals "list" = some none)    (z7 : PySem.W.nsIn K mainGlobals "dict" = some none)    (z8 : PySem.W.nsIn K mainGlobals "len" = some none)    (z9 : PySem.W.nsIn K mainGlobals "all" = some none)    (z10 : PySem.W.nsIn K mainGlobals "range" = some none)    (z11 : PySem.W.nsIn K mainGlobals "sorted" = some none)    (z12 : PySem.W.nsIn K mainGlobals "max" = some none)    (z13 : PySem.W.nsIn K mainGlobals "min" = some none)    (z14 : PySem.W.nsIn K mainGlobals "enumerate" = some none)    (z15 : PySem.W.nsIn K mainGlobals "reversed" = some none) :
    LamX.LawAtS l w K (L2.CX0) 25 63 "_law_script" mg fa h := by
  have hTabc := hT0 "is_ware" c T hrecc (tabIn_of a1 l1 rfl lcc v11c)
  have e := hfa.symm.trans (PySem.W.mg_of X G a39)
  cases e
  have mCShop := PySem.W.mg_of X G aCShop
  have F1 := fun_mk (st := sWare) l1 c1 k1
  have b1 := F1.binds (ps := ["thing"]) fun _ _ _ _ _ _ us hl => match us, hl with | [_], _ => rfl
  have m1 := PySem.W.mg_of X G a1
  have F2 := fun_mk (st := sMake) l2 c2 k2
  have b2 := F2.binds (ps := ["thing"]) fun _ _ _ _ _ _ us hl => match us, hl with | [_], _ => rfl
  have m2 := PySem.W.mg_of X G a2
  have F3 := fun_mk (st := sNeed) l3 c3 k3
  have b3 := F3.binds (ps := ["thing"]) fun _ _ _ _ _ _ us hl => match us, hl with | [_], _ => rfl
  have m3 := PySem.W.mg_of X G a3
  have F4 := fun_mk (st := sWithin) l4 c4 k4
  have b4 := F4.binds (ps := ["make", "low", "high"]) fun _ _ _ _ _ _ us hl => match us, hl with | [_, _, _], _ => rfl
  have m4 := PySem.W.mg_of X G a4
  have F5 := fun_mk (st := sJoined) l5 c5 k5
  have b5 := F5.binds (ps := ["one", "other"]) fun _ _ _ _ _ _ us hl => match us, hl with | [_, _], _ => rfl
  have m5 := PySem.W.mg_of X G a5
  have F6 := fun_mk (st := sMay) l6 c6 k6
  have b6 := F6.binds (ps := ["ware", "thing"]) fun _ _ _ _ _ _ us hl => match us, hl with | [_, _], _ => rfl
  have m6 := PySem.W.mg_of X G a6
  have F7 := fun_mk (st := sInit) l7 c7 k7
  have b7 := F7.binds (ps := ["self"]) fun _ _ _ _ _ _ us hl => match us, hl with | [_], _ => rfl
  have m7 : Meth K CShop "__init__" f7 := ⟨a7, i7, k7⟩
  have F8 := fun_mk (st := sPut) l8 c8 k8
  have b8 := F8.binds (ps := ["self", "ware", "make", "needs"]) fun _ _ _ _ _ _ us hl => match us, hl with | [_, _, _, _], _ => rfl
  have m8 : Meth K CShop "put" f8 := ⟨a8, i8, k8⟩
  have F9 := fun_mk (st := sMakes) l9 c9 k9
  have b9 := F9.binds (ps := ["self", "ware"]) fun _ _ _ _ _ _ us hl => match us, hl with | [_, _], _ => rfl
  have m9 : Meth K CShop "makes" f9 := ⟨a9, i9, k9⟩
  have F10 := fun_mk (st := sNeeds) l10 c10 k10
  have b10 := F10.binds (ps := ["self", "ware", "make"]) fun _ _ _ _ _ _ us hl => match us, hl with | [_, _, _], _ => rfl
  have m10 : Meth K CShop "needs" f10 := ⟨a10, i10, k10⟩
  have F11 := fun_mk (st := sWares) l11 c11 k11
  have b11 := F11.binds (ps := ["self"]) fun _ _ _ _ _ _ us hl => match us, hl with | [_], _ => rfl
  have m11 : Meth K CShop "wares" f11 := ⟨a11, i11, k11⟩
  have F12 := fun_mk (st := sHas) l12 c12 k12
  have b12 := F12.binds (ps := ["self", "ware", "make"]) fun _ _ _ _ _ _ us hl => match us, hl with | [_, _, _], _ => rfl
  have m12 : Meth K CShop "_has" f12 := ⟨a12, i12, k12⟩
  have F13 := fun_mk (st := sPlace) l13 c13 k13
  have b13 := F13.binds (ps := ["self", "ware"]) fun _ _ _ _ _ _ us hl => match us, hl with | [_, _], _ => rfl
  have m13 : Meth K CShop "_has_place" f13 := ⟨a13, i13, k13⟩
  have F14 := fun_mk (st := sChkW) l14 c14 k14
  have b14 := F14.binds (ps := ["thing"]) fun _ _ _ _ _ _ us hl => match us, hl with | [_], _ => rfl
  have m14 := PySem.W.mg_of X G a14
  have F15 := fun_mk (st := sAddW) l15 c15 k15
  have b15 := F15.binds (ps := ["wares", "needs"]) fun _ _ _ _ _ _ us hl => match us, hl with | [_, _], _ => rfl
  have m15 := PySem.W.mg_of X G a15
  have F16 := fun_mk (st := sShelves) l16 c16 k16
  have b16 := F16.binds (ps := ["shop"]) fun _ _ _ _ _ _ us hl => match us, hl with | [_], _ => rfl
  have m16 := PySem.W.mg_of X G a16
  have F17 := fun_mk (st := sWished) l17 c17 k17
  have b17 := F17.binds (ps := ["wish"]) fun _ _ _ _ _ _ us hl => match us, hl with | [_], _ => rfl
  have m17 := PySem.W.mg_of X G a17
  have F18 := fun_mk (st := sGranting) l18 c18 k18
  have b18 := F18.binds (ps := ["sources", "shelves", "ware", "make"]) fun _ _ _ _ _ _ us hl => match us, hl with | [_, _, _, _], _ => rfl
  have m18 := PySem.W.mg_of X G a18
  have F19 := fun_mk (st := sLeft) l19 c19 k19
  have b19 := F19.binds (ps := ["shelves", "ware", "needs"]) fun _ _ _ _ _ _ us hl => match us, hl with | [_, _, _], _ => rfl
  have m19 := PySem.W.mg_of X G a19
  have F20 := fun_mk (st := sSettle) l20 c20 k20
  have b20 := F20.binds (ps := ["shop", "wish"]) fun _ _ _ _ _ _ us hl => match us, hl with | [_, _], _ => rfl
  have m20 := PySem.W.mg_of X G a20
  have F21 := fun_mk (st := sSettled) l21 c21 k21
  have b21 := F21.binds (ps := ["shelves", "sources", "added", "at"]) fun _ _ _ _ _ _ us hl => match us, hl with | [_, _, _, _], _ => rfl
  have m21 := PySem.W.mg_of X G a21
  have F22 := fun_mk (st := sTried) l22 c22 k22
  have b22 := F22.binds (ps := ["shelves", "sources", "ware", "at"]) fun _ _ _ _ _ _ us hl => match us, hl with | [_, _, _, _], _ => rfl
  have m22 := PySem.W.mg_of X G a22
  have F23 := fun_mk (st := sNone) l23 c23 k23
  have b23 := F23.binds (ps := ["shelves", "asked", "ware", "reasons", "leant"]) fun _ _ _ _ _ _ us hl => match us, hl with | [_, _, _, _, _], _ => rfl
  have m23 := PySem.W.mg_of X G a23
  have F24 := fun_mk (st := sAgainst) l24 c24 k24
  have b24 := F24.binds (ps := ["shelves", "asked", "ware", "picked", "reasons"]) fun _ _ _ _ _ _ us hl => match us, hl with | [_, _, _, _, _], _ => rfl
  have m24 := PySem.W.mg_of X G a24
  have F25 := fun_mk (st := sUnasked) l25 c25 k25
  have b25 := F25.binds (ps := ["shelves", "asked", "ware", "make"]) fun _ _ _ _ _ _ us hl => match us, hl with | [_, _, _, _], _ => rfl
  have m25 := PySem.W.mg_of X G a25
  have F26 := fun_mk (st := sAskedOf) l26 c26 k26
  have b26 := F26.binds (ps := ["sources", "ware"]) fun _ _ _ _ _ _ us hl => match us, hl with | [_, _], _ => rfl
  have m26 := PySem.W.mg_of X G a26
  have F27 := fun_mk (st := sFewest) l27 c27 k27
  have b27 := F27.binds (ps := ["shelves", "asked", "ware"]) fun _ _ _ _ _ _ us hl => match us, hl with | [_, _, _], _ => rfl
  have m27 := PySem.W.mg_of X G a27
  have F28 := fun_mk (st := sMixed) l28 c28 k28
  have b28 := F28.binds (ps := ["_law_script", "_law_k"]) fun _ _ _ _ _ _ us hl => match us, hl with | [_, _], _ => rfl
  have m28 := PySem.W.mg_of X G a28
  have F29 := fun_mk (st := sNames) l29 c29 k29
  have b29 := F29.binds (ps := ["_law_script", "_law_many"]) fun _ _ _ _ _ _ us hl => match us, hl with | [_, _], _ => rfl
  have m29 := PySem.W.mg_of X G a29
  have F30 := fun_mk (st := sStretch) l30 c30 k30
  have b30 := F30.binds (ps := ["_law_number", "_law_makes"]) fun _ _ _ _ _ _ us hl => match us, hl with | [_, _], _ => rfl
  have m30 := PySem.W.mg_of X G a30
  have F31 := fun_mk (st := sLNeeds) l31 c31 k31
  have b31 := F31.binds (ps := ["_law_script", "_law_names_here", "_law_makes", "_law_k", "_law_at"]) fun _ _ _ _ _ _ us hl => match us, hl with | [_, _, _, _, _], _ => rfl
  have m31 := PySem.W.mg_of X G a31
  have F32 := fun_mk (st := sRows) l32 c32 k32
  have b32 := F32.binds (ps := ["_law_script", "_law_most", "_law_many_makes"]) fun _ _ _ _ _ _ us hl => match us, hl with | [_, _, _], _ => rfl
  have m32 := PySem.W.mg_of X G a32
  have F33 := fun_mk (st := sWish) l33 c33 k33
  have b33 := F33.binds (ps := ["_law_script", "_law_rows_here", "_law_most"]) fun _ _ _ _ _ _ us hl => match us, hl with | [_, _, _], _ => rfl
  have m33 := PySem.W.mg_of X G a33
  have F34 := fun_mk (st := sLShop) l34 c34 k34
  have b34 := F34.binds (ps := ["_law_rows_here"]) fun _ _ _ _ _ _ us hl => match us, hl with | [_], _ => rfl
  have m34 := PySem.W.mg_of X G a34
  have F35 := fun_mk (st := sLAg) l35 c35 k35
  have b35 := F35.binds (ps := ["_law_rows_here", "_law_wish_here", "_law_pick"]) fun _ _ _ _ _ _ us hl => match us, hl with | [_, _, _], _ => rfl
  have m35 := PySem.W.mg_of X G a35
  have F36 := fun_mk (st := sLMeets) l36 c36 k36
  have b36 := F36.binds (ps := ["_law_rows_here", "_law_wish_here", "_law_pick"]) fun _ _ _ _ _ _ us hl => match us, hl with | [_, _, _], _ => rfl
  have m36 := PySem.W.mg_of X G a36
  have F37 := fun_mk (st := sAllP) l37 c37 k37
  have b37 := F37.binds (ps := ["_law_rows_here", "_law_wish_here"]) fun _ _ _ _ _ _ us hl => match us, hl with | [_, _], _ => rfl
  have m37 := PySem.W.mg_of X G a37
  have F38 := fun_mk (st := sAhead) l38 c38 k38
  have b38 := F38.binds (ps := ["_law_rows_here", "_law_wish_here", "_law_one", "_law_other"]) fun _ _ _ _ _ _ us hl => match us, hl with | [_, _, _, _], _ => rfl
  have m38 := PySem.W.mg_of X G a38
  have F39 := fun_mk (st := sLaw) l39 c39 k39
  have m39 := PySem.W.mg_of X G a39
  have qt8 := PySem.W.mg_of X G gt8
  have qt1 := PySem.W.mg_of X G gt1
  have qt9 := PySem.W.mg_of X G gt9
  have qt12 := PySem.W.mg_of X G gt12
  have qt88 := PySem.W.mg_of X G gt88
  have qt6 := PySem.W.mg_of X G gt6
  have qtw8 := PySem.W.mg_of X G gtw8
  have y1 := PySem.W.mg_none_of X G z1
  have y2 := PySem.W.mg_none_of X G z2
  have y3 := PySem.W.mg_none_of X G z3
  have y4 := PySem.W.mg_none_of X G z4
  have y5 := PySem.W.mg_none_of X G z5
  have y6 := PySem.W.mg_none_of X G z6
  have y7 := PySem.W.mg_none_of X G z7
  have y8 := PySem.W.mg_none_of X G z8
  have y9 := PySem.W.mg_none_of X G z9
  have y10 := PySem.W.mg_none_of X G z10
  have y11 := PySem.W.mg_none_of X G z11
  have y12 := PySem.W.mg_none_of X G z12
  have y13 := PySem.W.mg_none_of X G z13
  have y14 := PySem.W.mg_none_of X G z14
  have y15 := PySem.W.mg_none_of X G z15
  have XBadWare : ExT K mg "BadWare" EBadWare := ⟨PySem.W.mg_of X G eaBadWare, exBadWare, ekBadWare, ebBadWare, etBadWare⟩
  have XBadMake : ExT K mg "BadMake" EBadMake := ⟨PySem.W.mg_of X G eaBadMake, exBadMake, ekBadMake, ebBadMake, etBadMake⟩
  have XBadNeed : ExT K mg "BadNeed" EBadNeed := ⟨PySem.W.mg_of X G eaBadNeed, exBadNeed, ekBadNeed, ebBadNeed, etBadNeed⟩
  have XTwice : ExT K mg "Twice" ETwice := ⟨PySem.W.mg_of X G eaTwice, exTwice, ekTwice, ebTwice, etTwice⟩
  have XFull : ExT K mg "Full" EFull := ⟨PySem.W.mg_of X G eaFull, exFull, ekFull, ebFull, etFull⟩
  have XNoMake : ExT K mg "NoMake" ENoMake := ⟨PySem.W.mg_of X G eaNoMake, exNoMake, ekNoMake, ebNoMake, etNoMake⟩
  have XBadWish : ExT K mg "BadWish" EBadWish := ⟨PySem.W.mg_of X G eaBadWish, exBadWish, ekBadWish, ebBadWish, etBadWish⟩
  have S : ShopT K mg CShop := ⟨⟨pgShop, hdShop, poShop, saShop⟩, nSShop_shelves, y8, y6, y11⟩
  refine ⟨PySem.W.fnOf "law" "law" (defArgs sLaw) (defBody sLaw) (defScope sLaw) .none kV39 dc39 pm39 an39 cd39 ct39, [(c, T)], spLaw10 K T, ?_, ?_, ?_, fun s v => .of_eq rfl, ?_, fun base hK hN hB => ?_⟩
  · intro p hp
    rw [List.mem_singleton.mp hp]
    exact hTabc.2
  · intro p hp
    rw [List.mem_singleton.mp hp]
    exact nTc
  · intro p hp
    rw [List.mem_singleton.mp hp]
    exact hTabc.1
  · intro H a ns hl _ hH hS
    exact ⟨a, ns, rfl, hS, hl, ⟨#[], hH _ (List.mem_singleton.mpr rfl), True.intro⟩, fun _ => rfl⟩
  · have TBc := hB _ (List.mem_singleton.mpr rfl)
    have G1 := ok_ware (P := l.prog) (w := w) l1 c1 ⟨TBc.code, TBc.bm, TBc.gP⟩ y2 y3 y8 y9 qt8
    have G2 := ok_make (P := l.prog) (w := w) (base := base) F2 F4 b4 m4 y2 y4 qt1 qt9
    have G3 := ok_need (P := l.prog) (w := w) (base := base) F3 G1 F1.kp b1 m1 G2 F2.kp b2 m2 y2 y5 y8
    have G6 := ok_may (P := l.prog) (w := w) (base := base) F6 G3 F3.kp b3 m3 y2 y6 y8 qt6
    have G4 := ok_within (P := l.prog) (w := w) (base := base) (mg := mg) F4 
    have G5 := ok_joined (P := l.prog) (w := w) (base := base) (T := T) F5 y12 y13
    have G7 := ok_init (P := l.prog) (w := w) (base := base) F7 S
    have G12 := ok_has (P := l.prog) (w := w) (base := base) F12 S G1 F1.kp b1 m1 G2 F2.kp b2 m2
    have G13 := ok_place (P := l.prog) (w := w) (base := base) F13 S qt88 qt12
    have G8 := ok_put (P := l.prog) (w := w) (base := base) F8 S XBadWare XBadMake XBadNeed XTwice XFull G1 F1.kp b1 m1 G2 F2.kp b2 m2 G6 F6.kp b6 m6 G12 b12 m12 G13 b13 m13
    have G9 := ok_makes (P := l.prog) (w := w) (base := base) F9 S XBadWare G1 F1.kp b1 m1
    have G10 := ok_needs (P := l.prog) (w := w) (base := base) F10 S XNoMake G12 b12 m12
    have G11 := ok_wares (P := l.prog) (w := w) (base := base) (Tb := T) F11 S
    have G14 := ok_chkw (P := l.prog) (w := w) (base := base) F14 XBadWish G3 F3.kp b3 m3 y2 y6 y8 qtw8
    have G15 := ok_addw (P := l.prog) (w := w) (base := base) (mg := mg) (T := T) F15 
    have G19 := ok_left (P := l.prog) (w := w) (base := base) F19 G5 F5.kp b5 m5 G4 F4.kp b4 m4 qt1 qt9
    have G16 := ok_shelves (P := l.prog) (w := w) (base := base) F16 S G11 b11 m11 G9 b9 m9 G10 b10 m10 y11
    have G17 := ok_wished (P := l.prog) (w := w) (base := base) (T := T) F17 y14
    have G18 := ok_granting (P := l.prog) (w := w) (base := base) (T := T) F18 y14
    have G26 := ok_asked (P := l.prog) (w := w) (base := base) (mg := mg) (T := T) F26 
    have G27 := ok_fewest (P := l.prog) (w := w) (base := base) F27 G19 F19.kp b19 m19 y6 y15
    have G23 := ok_none (P := l.prog) (w := w) (base := base) F23 G27 F27.kp b27 m27
    have G25 := ok_unasked (P := l.prog) (w := w) (base := base) F25 G27 F27.kp b27 m27
    have G24 := ok_against (P := l.prog) (w := w) (base := base) F24 G25 F25.kp b25 m25
    have G21 := ok_settledA (P := l.prog) (w := w) (base := base) F21 F22 G26 F26.kp b26 m26 G19 F19.kp b19 m19 G18 F18.kp b18 m18 G24 F24.kp b24 m24 G23 F23.kp b23 m23 G15 F15.kp b15 m15 F21.kp b21 m21 F22.kp b22 m22 y6 y8
    have G20 := ok_settle (P := l.prog) (w := w) (base := base) F20 G14 F14.kp b14 m14 G21 F21.kp b21 m21 G16 F16.kp b16 m16 G17 F17.kp b17 m17 y6
    have G28 := ok_mixed (P := l.prog) (w := w) (base := base) F28 y8
    have G29 := ok_names (P := l.prog) (w := w) (base := base) (T := T) F29 F28 b28 m28 y8 y10
    have G30 := ok_stretch (P := l.prog) (w := w) (base := base) (T := T) F30 y8 y12 y13
    have G31 := ok_lneeds (P := l.prog) (w := w) (base := base) F31 G28 F28.kp b28 m28 G30 F30.kp b30 m30 y8 y12 y10
    have G32 := ok_rows (P := l.prog) (w := w) (base := base) F32 G28 F28.kp b28 m28 G29 F29.kp b29 m29 G31 F31.kp b31 m31 y8 y10
    have G33 := ok_wish (P := l.prog) (w := w) (base := base) F33 G28 F28.kp b28 m28 G29 F29.kp b29 m29 G30 F30.kp b30 m30 y8 y10 y6 y11
    have G34 := ok_lshop (P := l.prog) (w := w) (base := base) F34 S mCShop ⟨mkShop, a7, i7, kcShop⟩ G7 b7 G8 b8 m8 y6
    have G35 := ok_lag (P := l.prog) (w := w) (base := base) (mg := mg) (T := T) F35 
    have G36 := ok_lmt (P := l.prog) (w := w) (base := base) F36 G35 F35.kp b35 m35 y6 y11
    have G37 := ok_allpC (P := l.prog) (w := w) (base := base) F37 G36 F36.kp b36 m36 y7
    have G38 := ok_ahead (P := l.prog) (w := w) (base := base) F38 G35 F35.kp b35 m35
    exact ok_law10 F39 G32 F32.kp b32 m32 G33 F33.kp b33 m33 G37 F37.kp b37 m37 G20 F20.kp b20 m20 G34 F34.kp b34 m34 G38 F38.kp b38 m38 G35 F35.kp b35 m35 y6 y1 y5
end Pk
open PySem PySem.W PyProof.Rows
set_option maxRecDepth 100000 in
set_option maxHeartbeats 0 in
theorem PySem.Challenge.cw_pickfloor_k10_by_trying_all_holds : PySem.Challenge.rw_pickfloor_k10_by_trying_all.Holds := by
  w_on; o_law; k_head; (case hw => w_witness2)
  k_fill
  refine Pk.walk_ofD (l := PySem.Challenge.rw_pickfloor_k10_by_trying_all) (n := 63) (k := 25) (x := "_law_script") (CX := fun _ => L2.CX0) rfl (by decide) rfl ⟨rfl, by decide, by decide⟩ (fun w h Y => PySem.W.kIn_of Y) ?F (fun _ _ _ _ _ h => h)
  case F =>
    intro w mg fa h KX G hmg hTab
    refine' Pk.all_mk KX G hmg hTab (by decide +kernel) ?lcc ?v11c ?nTc ?aCShop ?a1 ?l1 ?c1 ?k1 ?a2 ?l2 ?c2 ?k2 ?a3 ?l3 ?c3 ?k3 ?a4 ?l4 ?c4 ?k4 ?a5 ?l5 ?c5 ?k5 ?a6 ?l6 ?c6 ?k6 ?a7 ?i7 ?l7 ?c7 ?k7 ?a8 ?i8 ?l8 ?c8 ?k8 ?a9 ?i9 ?l9 ?c9 ?k9 ?a10 ?i10 ?l10 ?c10 ?k10 ?a11 ?i11 ?l11 ?c11 ?k11 ?a12 ?i12 ?l12 ?c12 ?k12 ?a13 ?i13 ?l13 ?c13 ?k13 ?a14 ?l14 ?c14 ?k14 ?a15 ?l15 ?c15 ?k15 ?a16 ?l16 ?c16 ?k16 ?a17 ?l17 ?c17 ?k17 ?a18 ?l18 ?c18 ?k18 ?a19 ?l19 ?c19 ?k19 ?a20 ?l20 ?c20 ?k20 ?a21 ?l21 ?c21 ?k21 ?a22 ?l22 ?c22 ?k22 ?a23 ?l23 ?c23 ?k23 ?a24 ?l24 ?c24 ?k24 ?a25 ?l25 ?c25 ?k25 ?a26 ?l26 ?c26 ?k26 ?a27 ?l27 ?c27 ?k27 ?a28 ?l28 ?c28 ?k28 ?a29 ?l29 ?c29 ?k29 ?a30 ?l30 ?c30 ?k30 ?a31 ?l31 ?c31 ?k31 ?a32 ?l32 ?c32 ?k32 ?a33 ?l33 ?c33 ?k33 ?a34 ?l34 ?c34 ?k34 ?a35 ?l35 ?c35 ?k35 ?a36 ?l36 ?c36 ?k36 ?a37 ?l37 ?c37 ?k37 ?a38 ?l38 ?c38 ?k38 ?a39 ?l39 ?c39 ?k39 ?gt8 ?gt1 ?gt9 ?gt12 ?gt88 ?gt6 ?gtw8 ?pgShop ?hdShop ?poShop ?saShop ?mkShop ?kcShop ?nSShop_shelves ?eaBadWare ?exBadWare ?ekBadWare ?ebBadWare ?etBadWare ?eaBadMake ?exBadMake ?ekBadMake ?ebBadMake ?etBadMake ?eaBadNeed ?exBadNeed ?ekBadNeed ?ebBadNeed ?etBadNeed ?eaTwice ?exTwice ?ekTwice ?ebTwice ?etTwice ?eaFull ?exFull ?ekFull ?ebFull ?etFull ?eaNoMake ?exNoMake ?ekNoMake ?ebNoMake ?etNoMake ?eaBadWish ?exBadWish ?ekBadWish ?ebBadWish ?etBadWish ?z1 ?z2 ?z3 ?z4 ?z5 ?z6 ?z7 ?z8 ?z9 ?z10 ?z11 ?z12 ?z13 ?z14 ?z15
    (case aCShop => k_is)
    (case a1 => k_is)
    (case l1 => k_is)
    (case c1 => k_is)
    (case k1 => k_is)
    (case a2 => k_is)
    (case l2 => k_is)
    (case c2 => k_is)
    (case k2 => k_is)
    (case a3 => k_is)
    (case l3 => k_is)
    (case c3 => k_is)
    (case k3 => k_is)
    (case a4 => k_is)
    (case l4 => k_is)
    (case c4 => k_is)
    (case k4 => k_is)
    (case a5 => k_is)
    (case l5 => k_is)
    (case c5 => k_is)
    (case k5 => k_is)
    (case a6 => k_is)
    (case l6 => k_is)
    (case c6 => k_is)
    (case k6 => k_is)
    (case a7 => k_is)
    (case i7 => k_is)
    (case l7 => k_is)
    (case c7 => k_is)
    (case k7 => k_is)
    (case a8 => k_is)
    (case i8 => k_is)
    (case l8 => k_is)
    (case c8 => k_is)
    (case k8 => k_is)
    (case a9 => k_is)
    (case i9 => k_is)
    (case l9 => k_is)
    (case c9 => k_is)
    (case k9 => k_is)
    (case a10 => k_is)
    (case i10 => k_is)
    (case l10 => k_is)
    (case c10 => k_is)
    (case k10 => k_is)
    (case a11 => k_is)
    (case i11 => k_is)
    (case l11 => k_is)
    (case c11 => k_is)
    (case k11 => k_is)
    (case a12 => k_is)
    (case i12 => k_is)
    (case l12 => k_is)
    (case c12 => k_is)
    (case k12 => k_is)
    (case a13 => k_is)
    (case i13 => k_is)
    (case l13 => k_is)
    (case c13 => k_is)
    (case k13 => k_is)
    (case a14 => k_is)
    (case l14 => k_is)
    (case c14 => k_is)
    (case k14 => k_is)
    (case a15 => k_is)
    (case l15 => k_is)
    (case c15 => k_is)
    (case k15 => k_is)
    (case a16 => k_is)
    (case l16 => k_is)
    (case c16 => k_is)
    (case k16 => k_is)
    (case a17 => k_is)
    (case l17 => k_is)
    (case c17 => k_is)
    (case k17 => k_is)
    (case a18 => k_is)
    (case l18 => k_is)
    (case c18 => k_is)
    (case k18 => k_is)
    (case a19 => k_is)
    (case l19 => k_is)
    (case c19 => k_is)
    (case k19 => k_is)
    (case a20 => k_is)
    (case l20 => k_is)
    (case c20 => k_is)
    (case k20 => k_is)
    (case a21 => k_is)
    (case l21 => k_is)
    (case c21 => k_is)
    (case k21 => k_is)
    (case a22 => k_is)
    (case l22 => k_is)
    (case c22 => k_is)
    (case k22 => k_is)
    (case a23 => k_is)
    (case l23 => k_is)
    (case c23 => k_is)
    (case k23 => k_is)
    (case a24 => k_is)
    (case l24 => k_is)
    (case c24 => k_is)
    (case k24 => k_is)
    (case a25 => k_is)
    (case l25 => k_is)
    (case c25 => k_is)
    (case k25 => k_is)
    (case a26 => k_is)
    (case l26 => k_is)
    (case c26 => k_is)
    (case k26 => k_is)
    (case a27 => k_is)
    (case l27 => k_is)
    (case c27 => k_is)
    (case k27 => k_is)
    (case a28 => k_is)
    (case l28 => k_is)
    (case c28 => k_is)
    (case k28 => k_is)
    (case a29 => k_is)
    (case l29 => k_is)
    (case c29 => k_is)
    (case k29 => k_is)
    (case a30 => k_is)
    (case l30 => k_is)
    (case c30 => k_is)
    (case k30 => k_is)
    (case a31 => k_is)
    (case l31 => k_is)
    (case c31 => k_is)
    (case k31 => k_is)
    (case a32 => k_is)
    (case l32 => k_is)
    (case c32 => k_is)
    (case k32 => k_is)
    (case a33 => k_is)
    (case l33 => k_is)
    (case c33 => k_is)
    (case k33 => k_is)
    (case a34 => k_is)
    (case l34 => k_is)
    (case c34 => k_is)
    (case k34 => k_is)
    (case a35 => k_is)
    (case l35 => k_is)
    (case c35 => k_is)
    (case k35 => k_is)
    (case a36 => k_is)
    (case l36 => k_is)
    (case c36 => k_is)
    (case k36 => k_is)
    (case a37 => k_is)
    (case l37 => k_is)
    (case c37 => k_is)
    (case k37 => k_is)
    (case a38 => k_is)
    (case l38 => k_is)
    (case c38 => k_is)
    (case k38 => k_is)
    (case a39 => k_is)
    (case l39 => k_is)
    (case c39 => k_is)
    (case k39 => k_is)
    (case gt8 => k_is)
    (case gt1 => k_is)
    (case gt9 => k_is)
    (case gt12 => k_is)
    (case gt88 => k_is)
    (case gt6 => k_is)
    (case gtw8 => k_is)
    (case pgShop => k_is)
    (case hdShop => k_is)
    (case poShop => k_is)
    (case saShop => k_is)
    (case mkShop => k_is)
    (case kcShop => k_is)
    (case nSShop_shelves => k_is)
    (case eaBadWare => k_is)
    (case exBadWare => k_exc)
    (case ekBadWare => k_is)
    (case ebBadWare => k_is)
    (case etBadWare => k_is)
    (case eaBadMake => k_is)
    (case exBadMake => k_exc)
    (case ekBadMake => k_is)
    (case ebBadMake => k_is)
    (case etBadMake => k_is)
    (case eaBadNeed => k_is)
    (case exBadNeed => k_exc)
    (case ekBadNeed => k_is)
    (case ebBadNeed => k_is)
    (case etBadNeed => k_is)
    (case eaTwice => k_is)
    (case exTwice => k_exc)
    (case ekTwice => k_is)
    (case ebTwice => k_is)
    (case etTwice => k_is)
    (case eaFull => k_is)
    (case exFull => k_exc)
    (case ekFull => k_is)
    (case ebFull => k_is)
    (case etFull => k_is)
    (case eaNoMake => k_is)
    (case exNoMake => k_exc)
    (case ekNoMake => k_is)
    (case ebNoMake => k_is)
    (case etNoMake => k_is)
    (case eaBadWish => k_is)
    (case exBadWish => k_exc)
    (case ekBadWish => k_is)
    (case ebBadWish => k_is)
    (case etBadWish => k_is)
    (case z1 => k_is)
    (case z2 => k_is)
    (case z3 => k_is)
    (case z4 => k_is)
    (case z5 => k_is)
    (case z6 => k_is)
    (case z7 => k_is)
    (case z8 => k_is)
    (case z9 => k_is)
    (case z10 => k_is)
    (case z11 => k_is)
    (case z12 => k_is)
    (case z13 => k_is)
    (case z14 => k_is)
    (case z15 => k_is)
    (case lcc => k_is); (case v11c => rfl); (case nTc => with_unfolding_all rfl)

