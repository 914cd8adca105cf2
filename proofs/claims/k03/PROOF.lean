import PyProof.Rows.All
import Wide.All
import OpenK.AllK
import Wide.FinOn
import HandS.ForMost
import HandS.IsInst
import HandS.Style
import HandS.AnyAll
import HandS.EndTab
import HandS.Codes
import HandS.More
import HandS.SetKeys
import HandS.SortInts
import HandS.DictComp
import HandS.Exc
import HandS.TryOnly
import HandS.ExcOwn
import HandS.WordsExc
import HandS.ExcIs
import HandS.ExcCtx
import KE.KRevSl
import HandS.HotCalls
import PySem.Challenge.RW_pickfloor_k03_shops_refuse
set_option Elab.async false
set_option linter.all false
set_option maxRecDepth 100000
set_option maxHeartbeats 4000000
namespace Pk
open PySem PySem.Spec PyProof.Rows L2

/-! ### heaps: all that was tracked is kept, the table at P may have grown -/
structure Kp (P : Addr) (H H' : Hp) : Prop where
  t0 : GxR.TabG H P
  tab : GxR.TabG H' P
  keep : ∀ b o, b ≠ P → H b = some o → H' b = some o
theorem Kp.refl {P : Addr} {H : Hp} (t : GxR.TabG H P) : Kp P H H := ⟨t, t, fun _ _ _ e => e⟩
theorem Kp.trans {P : Addr} {H H1 H2 : Hp} (a : Kp P H H1) (b : Kp P H1 H2) : Kp P H H2 := ⟨a.t0, b.tab, fun c o n e => b.keep c o n (a.keep c o n e)⟩
theorem tab_ne {P b : Addr} {H : Hp} (t : GxR.TabG H P) {o : HO} (e : H b = some o) (n : ∀ ps, o ≠ .tbl ps) : b ≠ P := fun z => by
  obtain ⟨ps, h, _⟩ := t
  rw [z, h] at e
  exact n ps (Option.some.inj e).symm
theorem tab_nn {P b : Addr} {H : Hp} (t : GxR.TabG H P) (e : H b = none) : b ≠ P := fun z => by
  obtain ⟨ps, h, _⟩ := t
  rw [z, h] at e
  cases e
theorem Kp.of_tabbed {P : Addr} {H H' : Hp} (t : GxR.TabG H P) (h : GxR.Tabbed P H H') : Kp P H H' := ⟨t, h.1, fun b o n e => (h.2 b n).trans e⟩
theorem Kp.new {P p : Addr} {H : Hp} {o : HO} (t : GxR.TabG H P) (np : H p = none) : Kp P H (upd H p o) := by
  have n := tab_nn t np
  refine ⟨t, ?_, fun b u _ e => by rw [upd_ne (ne_of_none e np)]; exact e⟩
  obtain ⟨ps, h, q⟩ := t
  exact ⟨ps, by rw [upd_ne n.symm]; exact h, q⟩
/-- a store at an object that is new since H -/
theorem Kp.set {P p : Addr} {H H1 : Hp} {o : HO} (k : Kp P H H1) (np : H p = none) (hp : p ≠ P) : Kp P H (upd H1 p o) := by
  refine ⟨k.t0, ?_, fun b u n e => by rw [upd_ne (ne_of_none e np)]; exact k.keep b u n e⟩
  obtain ⟨ps, h, q⟩ := k.tab
  exact ⟨ps, by rw [upd_ne hp.symm]; exact h, q⟩
theorem Kp.free {P p : Addr} {H H1 : Hp} (k : Kp P H H1) (np : H1 p = none) : H p = none := by
  cases q : H p with
  | none => rfl
  | some o =>
    have z := k.keep p o (tab_nn k.tab np) q
    rw [np] at z
    cases z
theorem Kp.seq {P : Addr} {K : PySem.W.Frag} {H H' : Hp} {a : Addr} {xs : List V} (k : Kp P H H') (h : SqL K H a xs) : SqL K H' a xs := by
  rcases h with (h | ⟨o, h⟩) | h
  · exact .inl (.inl (k.keep _ _ (tab_ne k.t0 h fun _ z => by cases z) h))
  · exact .inl (.inr ⟨o, k.keep _ _ (tab_ne k.t0 h fun _ z => by cases z) h⟩)
  · exact .inr h
theorem Kp.sqt {P : Addr} {K : PySem.W.Frag} {H H' : Hp} {a : Addr} {xs : List V} (k : Kp P H H') (h : SqT K H a xs) : SqT K H' a xs := by
  rcases h with (h | ⟨o, h⟩) | h
  · exact .inl (.inl (k.keep _ _ (tab_ne k.t0 h fun _ z => by cases z) h))
  · exact .inl (.inr ⟨o, k.keep _ _ (tab_ne k.t0 h fun _ z => by cases z) h⟩)
  · exact .inr h
mutual
theorem Kp.dp {P : Addr} {K : PySem.W.Frag} {H H' : Hp} (k : Kp P H H') : ∀ (d : PyData) (v : V), Dp K H v d → Dp K H' v d
  | .none, _, h => by cases h; exact .non
  | .bool b, _, h => by cases h; exact .bl b
  | .int i, _, h => by cases h; exact .int i
  | .str x, _, h => by cases h; exact .str x
  | .list ds, _, h => by
    cases h with
    | lst a b => exact .lst (k.seq a) (Kp.dpAll k ds _ b)
  | .tuple ds, _, h => by
    cases h with
    | tup a b => exact .tup (k.sqt a) (Kp.dpAll k ds _ b)
  | .dict _, _, h => by cases h
theorem Kp.dpAll {P : Addr} {K : PySem.W.Frag} {H H' : Hp} (k : Kp P H H') : ∀ (ds : List PyData) (vs : List V), DpAll K H vs ds → DpAll K H' vs ds
  | [], _, h => by cases h; exact .nil
  | d :: ds, _, h => by
    cases h with
    | cons a b => exact .cons (Kp.dp k d _ a) (Kp.dpAll k ds _ b)
end
theorem dpAll_get {K : PySem.W.Frag} {H : Hp} : ∀ {ds : List PyData} {vs : List V}, DpAll K H vs ds → ∀ {i : Nat} {d : PyData}, ds[i]? = some d → ∃ v, vs[i]? = some v ∧ Dp K H v d
  | [], _, _, i, d, e => by simp at e
  | x :: r, _, h, i, d, e => by
    cases h with
    | cons a b =>
      cases i with
      | zero => exact ⟨_, rfl, by have e' : x = d := Option.some.inj e; subst e'; exact a⟩
      | succ i => exact dpAll_get b (i := i) (d := d) (by simpa using e)
theorem dpAll_len {K : PySem.W.Frag} {H : Hp} : ∀ {ds : List PyData} {vs : List V}, DpAll K H vs ds → vs.length = ds.length
  | [], _, h => by cases h; rfl
  | x :: r, _, h => by
    cases h with
    | cons a b => simp [dpAll_len b]

/-! ### kinds -/
def tyN : PyData → String
  | .none => "NoneType" | .bool _ => "bool" | .int _ => "int" | .str _ => "str" | .list _ => "list" | .tuple _ => "tuple" | .dict _ => "dict"
theorem tyx_of {K : PySem.W.Frag} {H : Hp} {v : V} {d : PyData} (h : Dp K H v d) : TyX K H v (.type (tyN d)) := by
  cases h with
  | non => exact .base .non
  | bl b => exact .base (.bl b)
  | int i => exact .base (.int i)
  | str x => exact .base (.str x)
  | lst a _ =>
    rcases a with (a | ⟨o, a⟩) | ⟨o, its, n, l, c, _⟩
    · exact .base (.lst a)
    · exact .base (.frz a)
    · exact .kList l c
  | tup a _ =>
    rcases a with (a | ⟨o, a⟩) | ⟨o, its, n, l, c, _⟩
    · exact .base (.tup a)
    · exact .fTuple a
    · exact .kTuple l c
def isStrD : PyData → Bool | .str _ => true | _ => false
def isIntD : PyData → Bool | .int _ => true | .bool _ => true | _ => false
def isBoolD : PyData → Bool | .bool _ => true | _ => false
def isTupD : PyData → Bool | .tuple _ => true | _ => false
def isLstD : PyData → Bool | .list _ => true | _ => false
theorem kit_str (K : PySem.W.Frag) (d : PyData) : PySem.W.kitOne K (.type (tyN d)) (.type "str") = some (isStrD d) := by
  cases d
  · exact kit_ty (a := "NoneType") (b := "str") (r := false) (by decide +kernel)
  · exact kit_ty (a := "bool") (b := "str") (r := false) (by decide +kernel)
  · exact kit_ty (a := "int") (b := "str") (r := false) (by decide +kernel)
  · exact kit_ty (a := "str") (b := "str") (r := true) (by decide +kernel)
  · exact kit_ty (a := "list") (b := "str") (r := false) (by decide +kernel)
  · exact kit_ty (a := "tuple") (b := "str") (r := false) (by decide +kernel)
  · exact kit_ty (a := "dict") (b := "str") (r := false) (by decide +kernel)
theorem kit_int (K : PySem.W.Frag) (d : PyData) : PySem.W.kitOne K (.type (tyN d)) (.type "int") = some (isIntD d) := by
  cases d
  · exact kit_ty (a := "NoneType") (b := "int") (r := false) (by decide +kernel)
  · exact kit_ty (a := "bool") (b := "int") (r := true) (by decide +kernel)
  · exact kit_ty (a := "int") (b := "int") (r := true) (by decide +kernel)
  · exact kit_ty (a := "str") (b := "int") (r := false) (by decide +kernel)
  · exact kit_ty (a := "list") (b := "int") (r := false) (by decide +kernel)
  · exact kit_ty (a := "tuple") (b := "int") (r := false) (by decide +kernel)
  · exact kit_ty (a := "dict") (b := "int") (r := false) (by decide +kernel)
theorem kit_bool (K : PySem.W.Frag) (d : PyData) : PySem.W.kitOne K (.type (tyN d)) (.type "bool") = some (isBoolD d) := by
  cases d
  · exact kit_ty (a := "NoneType") (b := "bool") (r := false) (by decide +kernel)
  · exact kit_ty (a := "bool") (b := "bool") (r := true) (by decide +kernel)
  · exact kit_ty (a := "int") (b := "bool") (r := false) (by decide +kernel)
  · exact kit_ty (a := "str") (b := "bool") (r := false) (by decide +kernel)
  · exact kit_ty (a := "list") (b := "bool") (r := false) (by decide +kernel)
  · exact kit_ty (a := "tuple") (b := "bool") (r := false) (by decide +kernel)
  · exact kit_ty (a := "dict") (b := "bool") (r := false) (by decide +kernel)
theorem kit_tup (K : PySem.W.Frag) (d : PyData) : PySem.W.kitOne K (.type (tyN d)) (.type "tuple") = some (isTupD d) := by
  cases d
  · exact kit_ty (a := "NoneType") (b := "tuple") (r := false) (by decide +kernel)
  · exact kit_ty (a := "bool") (b := "tuple") (r := false) (by decide +kernel)
  · exact kit_ty (a := "int") (b := "tuple") (r := false) (by decide +kernel)
  · exact kit_ty (a := "str") (b := "tuple") (r := false) (by decide +kernel)
  · exact kit_ty (a := "list") (b := "tuple") (r := false) (by decide +kernel)
  · exact kit_ty (a := "tuple") (b := "tuple") (r := true) (by decide +kernel)
  · exact kit_ty (a := "dict") (b := "tuple") (r := false) (by decide +kernel)
theorem kit_lst (K : PySem.W.Frag) (d : PyData) : PySem.W.kitOne K (.type (tyN d)) (.type "list") = some (isLstD d) := by
  cases d
  · exact kit_ty (a := "NoneType") (b := "list") (r := false) (by decide +kernel)
  · exact kit_ty (a := "bool") (b := "list") (r := false) (by decide +kernel)
  · exact kit_ty (a := "int") (b := "list") (r := false) (by decide +kernel)
  · exact kit_ty (a := "str") (b := "list") (r := false) (by decide +kernel)
  · exact kit_ty (a := "list") (b := "list") (r := true) (by decide +kernel)
  · exact kit_ty (a := "tuple") (b := "list") (r := false) (by decide +kernel)
  · exact kit_ty (a := "dict") (b := "list") (r := false) (by decide +kernel)
/-! ### the mirror: wares, makes, needs -/
def azB (c : Nat) : Bool := if (!decide ((⟨#[c]⟩ : Str).cps.toList < ("a" : Str).cps.toList)) = true then !decide (("z" : Str).cps.toList < (⟨#[c]⟩ : Str).cps.toList) else false
def wareB : PyData → Bool
  | .str x => decide (1 ≤ x.length) && decide (x.length ≤ 8) && x.cps.toList.all azB
  | _ => false
def makeB : PyData → Bool
  | .int i => decide (1 ≤ i) && decide (i ≤ 999)
  | _ => false
def leD : PyData → PyData → Bool
  | .int i, .int j => decide (i ≤ j)
  | _, _ => false
def needB : PyData → Bool
  | .tuple [a, b, c] => wareB a && makeB b && makeB c && leD b c
  | _ => false
theorem needB_len {ds : List PyData} (h : ds.length ≠ 3) : needB (.tuple ds) = false := by
  match ds, h with
  | [], _ => rfl
  | [_], _ => rfl
  | [_, _], _ => rfl
  | [_, _, _], h => exact absurd rfl h
  | _ :: _ :: _ :: _ :: _, _ => rfl
theorem makeB_ex {d : PyData} (h : makeB d = true) : ∃ i, d = .int i := by
  cases d <;> first | exact ⟨_, rfl⟩ | cases h
/-- all texts in it are short -/
def okS : PyData → Bool
  | .str x => decide (x.length ≤ 1000) && PyData.strOk x
  | _ => true
/-- and those of a tuple's items -/
def okT : PyData → Bool
  | .str x => decide (x.length ≤ 1000) && PyData.strOk x
  | .tuple ds => ds.all okS && decide (ds.length ≤ 1000)
  | _ => true
theorem okT_s {d : PyData} (h : okT d = true) : okS d = true := by
  cases d <;> first | exact h | rfl
theorem okS_len {x : Str} (h : okS (.str x) = true) : x.length ≤ 1000 := of_decide_eq_true (Bool.and_eq_true_iff.mp h).1
theorem okS_ok {x : Str} (h : okS (.str x) = true) : PyData.strOk x = true := (Bool.and_eq_true_iff.mp h).2
theorem line1000 {n : Nat} (h : n ≤ 1000) : n ≤ sizeLine := Nat.le_of_lt (small1000 h)

/-! ### the element 'a' <= sign <= 'z' of a generator expression -/
theorem elt_az {prog : Program} {w : World} {scope : Scope} {x : Str} {j1 j2 : Nat} {p1 p2 p3 p4 : Pos} (hk : scope.kind = .function) (hl : scope.names.lookup x = some .local) (hd : (x == ("__debug__" : Str)) = false := by decide) :
    GxR.EltP prog w scope x (.Compare (.Constant (.str "a") j1 p1) [.LtE, .LtE] [.Name x p2, .Constant (.str "z") j2 p3] p4) azB := by
  intro cenv A' E' c t s₂ m₂ hs hn hm
  have hk' : cenv.scope.kind = .function := by rw [hs]; exact hk
  have hl' : cenv.scope.names.lookup x = some .local := by rw [hs]; exact hl
  refine Compare_chain (Calls.Constant_str ?_) (by with_unfolding_all rfl)
  refine chain_link (wpAny_Name (wpAny_loadName_local hk' hl' hn hm ?_) hd)
  refine PySem.P.le_str ?_
  refine wpAny_truthy_bool ?_
  cases e : (!decide ((⟨#[c]⟩ : Str).cps.toList < ("a" : Str).cps.toList)) with
  | false => exact ite_ff ⟨by unfold azB; rw [if_neg (by rw [e]; exact Bool.false_ne_true)], GxR.keeps_tok _ _⟩
  | true =>
    refine ite_tt (chain_last (Calls.Constant_str (PySem.P.le_str ⟨?_, GxR.keeps_tok _ _⟩)))
    unfold azB
    rw [if_pos e]

/-! ### lists of booleans and such, as data -/
theorem iteD {p A B : Prop} [Decidable p] (h1 : p → A) (h2 : ¬ p → B) : if decide p = true then A else B := by
  by_cases h : p
  · rw [if_pos (decide_eq_true h)]
    exact h1 h
  · rw [if_neg (by rw [decide_eq_false h]; exact Bool.false_ne_true)]
    exact h2 h
theorem iteN {p A B : Prop} [Decidable p] (h1 : ¬ p → A) (h2 : p → B) : if (!decide p) = true then A else B := by
  by_cases h : p
  · rw [decide_eq_true h]
    exact iteF (h2 h)
  · rw [decide_eq_false h]
    exact iteT (h1 h)
/-! ### type(thing) is not .. -/
def isI (d : PyData) : Bool := match d with | .int _ => true | _ => false
def isDctD (d : PyData) : Bool := match d with | .dict _ => true | _ => false
theorem tyN_str (d : PyData) : decide (tyN d = "str") = isStrD d := by
  cases d
  · exact (by decide +kernel : decide ("NoneType" = "str") = false)
  · exact (by decide +kernel : decide ("bool" = "str") = false)
  · exact (by decide +kernel : decide ("int" = "str") = false)
  · exact (by decide +kernel : decide ("str" = "str") = true)
  · exact (by decide +kernel : decide ("list" = "str") = false)
  · exact (by decide +kernel : decide ("tuple" = "str") = false)
  · exact (by decide +kernel : decide ("dict" = "str") = false)
theorem tyN_int (d : PyData) : decide (tyN d = "int") = isI d := by
  cases d
  · exact (by decide +kernel : decide ("NoneType" = "int") = false)
  · exact (by decide +kernel : decide ("bool" = "int") = false)
  · exact (by decide +kernel : decide ("int" = "int") = true)
  · exact (by decide +kernel : decide ("str" = "int") = false)
  · exact (by decide +kernel : decide ("list" = "int") = false)
  · exact (by decide +kernel : decide ("tuple" = "int") = false)
  · exact (by decide +kernel : decide ("dict" = "int") = false)
theorem tyN_tup (d : PyData) : decide (tyN d = "tuple") = isTupD d := by
  cases d
  · exact (by decide +kernel : decide ("NoneType" = "tuple") = false)
  · exact (by decide +kernel : decide ("bool" = "tuple") = false)
  · exact (by decide +kernel : decide ("int" = "tuple") = false)
  · exact (by decide +kernel : decide ("str" = "tuple") = false)
  · exact (by decide +kernel : decide ("list" = "tuple") = false)
  · exact (by decide +kernel : decide ("tuple" = "tuple") = true)
  · exact (by decide +kernel : decide ("dict" = "tuple") = false)
theorem tyN_lst (d : PyData) : decide (tyN d = "list") = isLstD d := by
  cases d
  · exact (by decide +kernel : decide ("NoneType" = "list") = false)
  · exact (by decide +kernel : decide ("bool" = "list") = false)
  · exact (by decide +kernel : decide ("int" = "list") = false)
  · exact (by decide +kernel : decide ("str" = "list") = false)
  · exact (by decide +kernel : decide ("list" = "list") = true)
  · exact (by decide +kernel : decide ("tuple" = "list") = false)
  · exact (by decide +kernel : decide ("dict" = "list") = false)
theorem tyN_dct (d : PyData) : decide (tyN d = "dict") = isDctD d := by
  cases d
  · exact (by decide +kernel : decide ("NoneType" = "dict") = false)
  · exact (by decide +kernel : decide ("bool" = "dict") = false)
  · exact (by decide +kernel : decide ("int" = "dict") = false)
  · exact (by decide +kernel : decide ("str" = "dict") = false)
  · exact (by decide +kernel : decide ("list" = "dict") = false)
  · exact (by decide +kernel : decide ("tuple" = "dict") = false)
  · exact (by decide +kernel : decide ("dict" = "dict") = true)
theorem tyN_no {a b : String} {c : Bool} {A B : Prop} (h : decide (a = b) = c) (e : c = false) (p : A) : if (!decide (a = b)) = true then A else B := by
  rw [h, e]
  exact iteT p
theorem tyN_yes {a b : String} {c : Bool} {A B : Prop} (h : decide (a = b) = c) (e : c = true) (p : B) : if (!decide (a = b)) = true then A else B := by
  rw [h, e]
  exact iteF p
theorem tyI_no {a b : String} {c : Bool} {A B : Prop} (h : decide (a = b) = c) (e : c = false) (p : B) : if (decide (a = b)) = true then A else B := by
  rw [h, e]
  exact iteF p
theorem tyI_yes {a b : String} {c : Bool} {A B : Prop} (h : decide (a = b) = c) (e : c = true) (p : A) : if (decide (a = b)) = true then A else B := by
  rw [h, e]
  exact iteT p
theorem tyb_of {K : PySem.W.Frag} {H : Hp} {v : V} {d : PyData} (h : Dp K H v d) : TyB K H v (tyN d) := by
  cases h with
  | non => exact .non
  | bl b => exact .bl b
  | int i => exact .int i
  | str x => exact .str x
  | lst a _ => exact .lst a
  | tup a _ => exact .tup a
theorem isI_no {d : PyData} (h : isI d = false) : makeB d = false := by
  cases d <;> first | rfl | cases h
theorem isI_ex {d : PyData} (h : isI d = true) : ∃ i, d = .int i := by
  cases d <;> first | exact ⟨_, rfl⟩ | cases h
/-! ### signs a to z -/
theorem azB_iff (c : Nat) : azB c = (decide (97 ≤ c) && decide (c ≤ 122)) := by
  have e1 : (⟨#[c]⟩ : Str).cps.toList = [c] := rfl
  have e2 : ("a" : Str).cps.toList = [97] := by decide +kernel
  have e3 : ("z" : Str).cps.toList = [122] := by decide +kernel
  unfold azB
  rw [e1, e2, e3]
  by_cases h1 : 97 ≤ c
  · have f1 : ¬ ([c] < [97]) := by
      intro h
      cases h with
      | rel h => omega
      | cons h => cases h
    rw [decide_eq_false f1, decide_eq_true h1, Bool.true_and]
    show (if true = true then _ else _) = _
    rw [if_pos rfl]
    by_cases h2 : c ≤ 122
    · have f2 : ¬ ([122] < [c]) := by
        intro h
        cases h with
        | rel h => omega
        | cons h => cases h
      rw [decide_eq_false f2, decide_eq_true h2] <;> rfl
    · have f2 : [122] < [c] := List.Lex.rel (by omega)
      rw [decide_eq_true f2, decide_eq_false h2] <;> rfl
  · have f1 : [c] < [97] := List.Lex.rel (by omega)
    rw [decide_eq_true f1, decide_eq_false h1]
    rfl
def Az (l : List Nat) : Prop := ∀ c ∈ l, 97 ≤ c ∧ c ≤ 122
def Ok8 (l : List Nat) : Prop := ∀ c ∈ l, c < 0x110000
theorem Az.ok {l : List Nat} (h : Az l) : Ok8 l := fun c hc => by have := h c hc; omega
theorem strOk_S {l : List Nat} (h : Ok8 l) : PyData.strOk (SX.S l) = true := by
  unfold PyData.strOk
  rw [← Array.all_toList, List.all_eq_true]
  intro c hc
  exact decide_eq_true (h c hc)
theorem ok8_of {x : Str} (h : PyData.strOk x = true) : Ok8 x.cps.toList := by
  unfold PyData.strOk at h
  rw [← Array.all_toList, List.all_eq_true] at h
  intro c hc
  exact of_decide_eq_true (h c hc)
theorem okS_S {l : List Nat} (h : Ok8 l) (hl : l.length ≤ 1000) : okS (.str (SX.S l)) = true := by
  show (decide _ && _) = true
  rw [strOk_S h, SX.S_len, decide_eq_true hl] <;> rfl
theorem at_gen {α : Type} {xs : List α} {z : Int} {j : Nat} {v : α} (e : z = (j : Int)) (h : xs[j]? = some v) : atI xs z = some v := by
  rw [e]
  exact atI_nat h
def letters : List Nat := (List.range 26).map (97 + ·)
theorem letters_eq : ("abcdefghijklmnopqrstuvwxyz" : Str) = SX.S letters := by decide +kernel
theorem letters_at {i : Int} (h0 : 0 ≤ i) (h : i < 26) : atI letters i = some (97 + i.toNat) := by
  refine at_gen (j := i.toNat) (by omega) ?_
  unfold letters
  rw [List.getElem?_map, List.getElem?_range (by omega)]
  rfl
/-- an item of a list at a place in it -/
theorem at_pick {α : Type} {xs : List α} {i : Int} {p : α → Prop} (h0 : 0 ≤ i) (h1 : i < (xs.length : Int)) (hp : ∀ x ∈ xs, p x) : ∃ v, atI xs i = some v ∧ p v := by
  have hl : i.toNat < xs.length := by omega
  exact ⟨xs[i.toNat], at_gen (j := i.toNat) (by omega) (List.getElem?_eq_getElem hl), hp _ (List.getElem_mem hl)⟩
theorem cutV_mem {xs : List V} {lo hi : Option Int} {v : V} (h : v ∈ cutV xs lo hi) : v ∈ xs := List.mem_of_mem_drop (List.mem_of_mem_take h)
theorem cutS_S {l : List Nat} {lo hi : Option Int} : ∃ m, cutS (SX.S l) lo hi = SX.S m ∧ m.length ≤ l.length ∧ ∀ c ∈ m, c ∈ l := by
  refine ⟨_, rfl, ?_, fun c hc => List.mem_of_mem_drop (List.mem_of_mem_take hc)⟩
  have e : (SX.S l).cps.toList.length = l.length := by simp
  rw [List.length_take, List.length_drop]
  omega
/-- a comprehension over a text's signs -/
theorem lc_str {x : Str} {g : TG} {tt : TT} {te : TE} {vs : List Nat} {σ : L2.St} {H1 : Hp} {D : Addr} {Qd : Hp → Prop} (Pv : Nat → Hp → Prop) (h0 : Pv 0 (upd H1 D (.lst [])))
    (hs : ∀ i c H, x.cps.toList[i]? = some c → Pv i H → g (.str ⟨#[c]⟩) (wipe σ vs) H fun σ2 H2 => wipe σ2 vs = wipe σ vs ∧ tt σ2 H2 fun b H3 =>
      if b = true then te σ2 H3 fun y H4 => ∃ acc, H4 D = some (.lst acc) ∧ acc.length < sizeLine ∧ Pv (i + 1) (upd H4 D (.lst (acc ++ [y]))) else Pv (i + 1) H3) (hd : ∀ H, Pv x.cps.toList.length H → Qd H) :
    ∃ W : Nat → Nat → Hp → Prop, (∃ m, W 0 m (upd H1 D (.lst []))) ∧ ∀ i m H, W i m H →
      ((Its x).stop i H ∧ Qd H) ∨ ((Its x).go i H ∧ ∃ Nx : Hp → Prop, (∀ H', Nx H' → ∃ m', m' < m ∧ W (i + 1) m' H') ∧ ∀ v H', (Its x).yld i H v H' → g v (wipe σ vs) H' fun σ2 H2 => wipe σ2 vs = wipe σ vs ∧ tt σ2 H2 fun b H3 =>
        if b = true then te σ2 H3 fun y H4 => ∃ acc, H4 D = some (.lst acc) ∧ acc.length < sizeLine ∧ Nx (upd H4 D (.lst (acc ++ [y]))) else Nx H3) := by
  have hsz : x.cps.toList.length = x.cps.size := by simp
  refine ⟨fun i m H => m = x.cps.size - i ∧ i ≤ x.cps.size ∧ Pv i H, ⟨x.cps.size, by simp, Nat.zero_le _, h0⟩, ?_⟩
  rintro i m H ⟨rfl, hi, p⟩
  by_cases hlt : i < x.cps.size
  · refine .inr ⟨hlt, Pv (i + 1), fun H' p' => ⟨x.cps.size - (i + 1), by omega, rfl, hlt, p'⟩, fun v H' y => ?_⟩
    obtain ⟨rfl, c, hc, rfl⟩ := y
    exact hs i c _ (by rw [Array.getElem?_toList]; exact hc) p
  · have e : i = x.cps.size := by omega
    subst e
    exact .inl ⟨Nat.le_refl _, hd H (by rw [hsz]; exact p)⟩
/-! ### lists of flat things as data -/
theorem shaped_flat {ds : List PyData} (h : ∀ d ∈ ds, d.canLay0 = true ∧ d.depth = 0) : SeqAt.shaped (.list ds) = true ∧ SeqAt.shaped (.tuple ds) = true := by
  have h1 : PyData.canLayAll0 ds = true ∧ PyData.depthAll ds = 0 := by
    induction ds with
    | nil => exact ⟨rfl, rfl⟩
    | cons d r ih =>
      obtain ⟨i1, i2⟩ := ih fun x hx => h x (List.mem_cons_of_mem _ hx)
      obtain ⟨j1, j2⟩ := h d (List.mem_cons_self ..)
      constructor
      · show (d.canLay0 && PyData.canLayAll0 r) = true
        rw [i1, j1] <;> rfl
      · show max d.depth (PyData.depthAll r) = 0
        rw [i2, j2] <;> rfl
  constructor
  · show (PyData.canLayAll0 ds && decide (PyData.depthAll ds + 1 ≤ 64)) = true
    rw [h1.1, h1.2] <;> rfl
  · show (PyData.canLayAll0 ds && decide (PyData.depthAll ds + 1 ≤ 64)) = true
    rw [h1.1, h1.2] <;> rfl
theorem canLay_of {d : PyData} (h : SeqAt.shaped d = true) : d.canLay0 = true := SeqAt.canLay_of_shaped h
theorem eqv_self {d : PyData} (h : SeqAt.shaped d = true) : PyData.eqv d d = true := SeqAt.eqv_refl d (canLay_of h)
theorem eqv_nil (ds : List PyData) : PyData.eqv (.list ds) (.list []) = ds.isEmpty := by
  cases ds <;> rfl
theorem okT_tup {ds : List PyData} (h : ∀ d ∈ ds, okS d = true) (hl : ds.length ≤ 1000) : okT (.tuple ds) = true := by
  show (ds.all okS && decide (ds.length ≤ 1000)) = true
  rw [decide_eq_true hl, Bool.and_true, List.all_eq_true]
  exact h
theorem pick_thing {T : Addr} {K : PySem.W.Frag} {H HF : Hp} {xs : List V} {i : Int} (_ks : Kp T H HF) (hall : ∀ x ∈ xs, ∃ d, Dp K HF x d ∧ okT d = true) (h0 : 0 ≤ i) (h1 : i < (xs.length : Int)) :
    ∃ v d, atI xs i = some v ∧ Dp K HF v d ∧ okT d = true := by
  obtain ⟨v, hv, d, h⟩ := at_pick h0 h1 hall
  exact ⟨v, d, hv, h⟩
theorem Kp.lst {P a : Addr} {H H' : Hp} {xs : List V} (k : Kp P H H') (h : H a = some (.lst xs)) : H' a = some (.lst xs) := k.keep _ _ (tab_ne k.t0 h fun _ z => by cases z) h
theorem gens {env : Env} {scope : Scope} {x : Str} (k : scope.kind = .function) (co : scope.isCoroutine = false) (cell : ∀ y ∈ scope.names, y.2 ≠ .cell) (dot : scope.names.lookup (".0" : Str) = some NameKind.local)
    (loc : scope.names.lookup x = some .local) (nf : ∀ y ∈ scope.names, y.2 ≠ .free) : GxR.GenS env scope x := ⟨k, co, cell, dot, loc, fun y hy e => absurd e (nf y hy)⟩
theorem isStrD_ex {d : PyData} (h : isStrD d = true) : ∃ x, d = .str x := by
  cases d <;> first | exact ⟨_, rfl⟩ | cases h
theorem wareB_no {d : PyData} (h : isStrD d = false) : wareB d = false := by
  cases d <;> first | rfl | cases h
theorem tabIn_of {K : PySem.W.Frag} {x : Str} {f c T : Addr} {oc : Value} {od : Option Addr} {osl : Array (Option Value)} {fd : FuncData} {ec : Value} {dc : Option Addr} {vs : Array Value} {sl : Array (Option Value)}
    (a : PySem.W.nsIn K mainGlobals x = some (some (.ref f))) (l : K.lookup f = some ⟨oc, od, .func fd, osl⟩) (hc : fd.code = .ref c) (lc : K.lookup c = some ⟨ec, dc, .fields vs, sl⟩) (v : vs[11]? = some (.ref T)) : PySem.W.tabIn K x = some (c, T) := by
  unfold PySem.W.tabIn
  rw [a]
  simp only [l, hc, lc, v]
/-! ### the end, with the tables of the defs that the view holds -/
theorem walk_ofD {l : PySem.W.OpenLaw} {n k : Nat} {q : Program} {loose : List Str} {XP : (Str → Option Value) → Heap → Prop} {YP : World → Heap → Prop} {d : DefRec} {K : Params → PySem.W.Frag} {CX : World → CXT} {x : Str}
    (hn : l.most = some n) (hn2 : n ≤ sizeLine) (hdf : d.params.defaults = []) (hr : Room k callerA) (hY : ∀ (w : World) (h : Heap), YP w h → (K w.params).In h)
    (F : ∀ (w : World) (mg : Str → Option Value) (fa : Addr) (h : Heap), (K w.params).In h → h.Ns mainGlobals mg → mg d.name = some (.ref fa) →
      (∀ (y : Str) (c T : Addr), ((recsOf q).any fun e => e.name == y) = true → PySem.W.tabIn (K w.params) y = some (c, T) → PySem.W.CodeHd h c T ∧ h.get? T = some (PySem.W.tabObj #[])) → LamX.LawAtS l w (K w.params) (CX w) k n x mg fa h)
    (hCX : ∀ (w : World) (H : Hp) (s : Shared) (e : Value) (s' : Shared), CX w [] H s (fun _ _ _ => False) e s' → False) :
    PySem.W.WalkO q loose XP YP l.row.toRowW d [] (fun f vs => PySem.call f vs) := by
  refine Att.attach_callB hn hdf fun w s0 s1 mg mb fa o pm cd doc a vs ns G Y ho hd hcd hmg hobj hints hlen hbits hg => ?_
  have KX := hY w _ Y
  obtain ⟨fd, cs, sp, hT, nT, C, hb, hsp, hF⟩ := F w mg fa _ KX G.T.g hmg fun y c T hy ht => by
    cases hf : (recsOf q).find? (fun e => e.name == y) with
    | none =>
      rw [List.find?_eq_none] at hf
      obtain ⟨e, he, hz⟩ := List.any_eq_true.mp hy
      exact absurd hz (hf e he)
    | some e => exact PySem.W.tab_of G.T KX hf ht
  exact LamX.law_callTs KX G.T.g G.T.b G.T.builtins G.T.nolimit hg hT nT C G.T.bmain hobj hints (Nat.le_trans hlen hn2) hr hF hb (fun H hH hS => hsp H a ns hlen hbits hH hS) fun H e s' => hCX w H s1 e s'
end Pk

set_option Elab.async false
set_option linter.all false
set_option maxRecDepth 100000
set_option maxHeartbeats 4000000
namespace Pk
open PySem PySem.Spec PyProof.Rows L2

/-! ### parts of a heap hidden; kept but for some addresses -/
def hide (A : List Addr) (H : Hp) : Hp := fun b => if b ∈ A then none else H b
theorem hide_some {A : List Addr} {H : Hp} {b : Addr} {o : HO} (h : hide A H b = some o) : H b = some o ∧ b ∉ A := by
  unfold hide at h
  by_cases hb : b ∈ A
  · rw [if_pos hb] at h; cases h
  · rw [if_neg hb] at h; exact ⟨h, hb⟩
theorem hide_of {A : List Addr} {H : Hp} {b : Addr} {o : HO} (h : H b = some o) (hb : b ∉ A) : hide A H b = some o := by
  unfold hide
  rw [if_neg hb]
  exact h
def isSeqO : HO → Bool
  | .lst _ => true | .tup _ => true | .frz _ (.lst _) => true | .frz _ (.tup _) => true | _ => false
mutual
theorem dp_mono {K : PySem.W.Frag} {H H' : Hp} (k : ∀ b o, isSeqO o = true → H b = some o → H' b = some o) : ∀ (d : PyData) (v : V), Dp K H v d → Dp K H' v d
  | .none, _, h => by cases h; exact .non
  | .bool b, _, h => by cases h; exact .bl b
  | .int i, _, h => by cases h; exact .int i
  | .str x, _, h => by cases h; exact .str x
  | .list ds, _, h => by
    cases h with
    | lst a b =>
      refine .lst ?_ (dpAll_mono k ds _ b)
      rcases a with (a | ⟨o, a⟩) | a
      · exact .inl (.inl (k _ _ rfl a))
      · exact .inl (.inr ⟨o, k _ _ rfl a⟩)
      · exact .inr a
  | .tuple ds, _, h => by
    cases h with
    | tup a b =>
      refine .tup ?_ (dpAll_mono k ds _ b)
      rcases a with (a | ⟨o, a⟩) | a
      · exact .inl (.inl (k _ _ rfl a))
      · exact .inl (.inr ⟨o, k _ _ rfl a⟩)
      · exact .inr a
  | .dict _, _, h => by cases h
theorem dpAll_mono {K : PySem.W.Frag} {H H' : Hp} (k : ∀ b o, isSeqO o = true → H b = some o → H' b = some o) : ∀ (ds : List PyData) (vs : List V), DpAll K H vs ds → DpAll K H' vs ds
  | [], _, h => by cases h; exact .nil
  | d :: ds, _, h => by
    cases h with
    | cons a b => exact .cons (dp_mono k d _ a) (dpAll_mono k ds _ b)
end
theorem dp_show {K : PySem.W.Frag} {A : List Addr} {H : Hp} {d : PyData} {v : V} (h : Dp K (hide A H) v d) : Dp K H v d := dp_mono (fun _ _ _ e => (hide_some e).1) d v h
structure Kx (T : Addr) (A : List Addr) (H H' : Hp) : Prop where
  t0 : GxR.TabG H T
  tab : GxR.TabG H' T
  keep : ∀ b o, b ≠ T → b ∉ A → H b = some o → H' b = some o
theorem Kx.of {T : Addr} {A : List Addr} {H H' : Hp} (k : Kp T H H') : Kx T A H H' := ⟨k.t0, k.tab, fun b o n _ e => k.keep b o n e⟩
theorem Kx.refl {T : Addr} {A : List Addr} {H : Hp} (t : GxR.TabG H T) : Kx T A H H := ⟨t, t, fun _ _ _ _ e => e⟩
theorem Kx.trans {T : Addr} {A : List Addr} {H H1 H2 : Hp} (a : Kx T A H H1) (b : Kx T A H1 H2) : Kx T A H H2 := ⟨a.t0, b.tab, fun c o n m e => b.keep c o n m (a.keep c o n m e)⟩
theorem Kx.mono {T : Addr} {A B : List Addr} {H H' : Hp} (k : Kx T A H H') (h : ∀ a ∈ A, a ∈ B) : Kx T B H H' := ⟨k.t0, k.tab, fun b o n m e => k.keep b o n (fun z => m (h b z)) e⟩
theorem tab_upd {T a : Addr} {H : Hp} {o : HO} (t : GxR.TabG H T) (n : a ≠ T) : GxR.TabG (upd H a o) T := by
  obtain ⟨ps, h, q⟩ := t
  exact ⟨ps, by rw [upd_ne n.symm]; exact h, q⟩
theorem Kx.upd {T a : Addr} {A : List Addr} {H : Hp} {o : HO} (t : GxR.TabG H T) (n : a ≠ T) (m : a ∈ A) : Kx T A H (upd H a o) := by
  refine ⟨t, tab_upd t n, fun b u _ hb e => ?_⟩
  rw [upd_ne (fun z => hb (by rw [z]; exact m))]
  exact e
theorem Kx.free {T p : Addr} {A : List Addr} {H H1 : Hp} (k : Kx T A H H1) (hA : p ∉ A) (np : H1 p = none) : H p = none := by
  cases q : H p with
  | none => rfl
  | some o =>
    have z := k.keep p o (tab_nn k.tab np) hA q
    rw [np] at z
    cases z
theorem isSeq_ne_tab {T b : Addr} {H : Hp} {o : HO} (t : GxR.TabG H T) (hs : isSeqO o = true) (e : H b = some o) : b ≠ T := tab_ne t e fun ps z => by
  rw [z] at hs
  cases hs
/-- data outside A stand where what changes is a dict or hidden -/
theorem Kx.dpA {K : PySem.W.Frag} {T : Addr} {A F : List Addr} {H H' : Hp} (k : Kx T F H H') (hF : ∀ f ∈ F, f ∈ A ∨ ∃ kvs, H f = some (.dK kvs)) {v : V} {d : PyData} (h : Dp K (hide A H) v d) : Dp K (hide A H') v d :=
  dp_mono (fun b o hs e => by
    obtain ⟨e1, e2⟩ := hide_some e
    refine hide_of (k.keep b o (isSeq_ne_tab k.t0 hs e1) (fun z => ?_) e1) e2
    rcases hF b z with z | ⟨kvs, z⟩
    · exact e2 z
    · rw [z] at e1
      cases e1
      cases hs) d v h

theorem hide_upd {A : List Addr} {H : Hp} {a : Addr} {o : HO} (h : a ∈ A) : hide A (upd H a o) = hide A H := by
  funext b
  unfold hide
  by_cases hb : b ∈ A
  · rw [if_pos hb, if_pos hb]
  · rw [if_neg hb, if_neg hb, upd_ne (fun z => hb (by rw [z]; exact h))]
theorem Kx.dropNew {T n : Addr} {H H1 H2 : Hp} (nn : H n = none) (k1 : Kp T H H1) (k : Kx T [n] H1 H2) : Kp T H H2 := ⟨k1.t0, k.tab, fun b o hb e => k.keep b o hb (fun z => by
  rw [List.mem_singleton.mp z, nn] at e
  cases e) (k1.keep b o hb e)⟩
theorem dp_more {K : PySem.W.Frag} {A : List Addr} {H : Hp} {n : Addr} (nn : H n = none) {v : V} {d : PyData} (h : Dp K (hide A H) v d) : Dp K (hide (n :: A) H) v d := dp_mono (fun b o _ e => by
  obtain ⟨e1, e2⟩ := hide_some e
  refine hide_of e1 fun z => ?_
  rcases List.mem_cons.mp z with z | z
  · rw [z, nn] at e1; cases e1
  · exact e2 z) d v h
theorem dp_less {K : PySem.W.Frag} {A : List Addr} {H : Hp} {n : Addr} {v : V} {d : PyData} (h : Dp K (hide (n :: A) H) v d) : Dp K (hide A H) v d := dp_mono (fun b o _ e => by
  obtain ⟨e1, e2⟩ := hide_some e
  exact hide_of e1 fun z => e2 (List.mem_cons_of_mem _ z)) d v h
theorem sqt_kx {K : PySem.W.Frag} {T a : Addr} {A F : List Addr} {H H' : Hp} {xs : List V} (k : Kx T F H H') (hF : ∀ f ∈ F, f ∈ A ∨ ∃ kvs, H f = some (.dK kvs)) (h : SqT K (hide A H) a xs) : SqT K (hide A H') a xs := by
  have st : ∀ o, isSeqO o = true → hide A H a = some o → hide A H' a = some o := fun o hs e => by
    obtain ⟨e1, e2⟩ := hide_some e
    refine hide_of (k.keep a o (isSeq_ne_tab k.t0 hs e1) (fun z => ?_) e1) e2
    rcases hF a z with z | ⟨kvs, z⟩
    · exact e2 z
    · rw [z] at e1
      cases e1
      cases hs
  rcases h with (h | ⟨o, h⟩) | h
  · exact .inl (.inl (st _ rfl h))
  · exact .inl (.inr ⟨o, st _ rfl h⟩)
  · exact .inr h
theorem sqt_show {K : PySem.W.Frag} {A : List Addr} {H : Hp} {a : Addr} {xs : List V} (h : SqT K (hide A H) a xs) : SqT K H a xs := by
  rcases h with (h | ⟨o, h⟩) | h
  · exact .inl (.inl (hide_some h).1)
  · exact .inl (.inr ⟨o, (hide_some h).1⟩)
  · exact .inr h
theorem sqt_less {K : PySem.W.Frag} {A : List Addr} {H : Hp} {n a : Addr} {xs : List V} (h : SqT K (hide (n :: A) H) a xs) : SqT K (hide A H) a xs := by
  have st : ∀ o, hide (n :: A) H a = some o → hide A H a = some o := fun o e => by
    obtain ⟨e1, e2⟩ := hide_some e
    exact hide_of e1 fun z => e2 (List.mem_cons_of_mem _ z)
  rcases h with (h | ⟨o, h⟩) | h
  · exact .inl (.inl (st _ h))
  · exact .inl (.inr ⟨o, st _ h⟩)
  · exact .inr h
/-- a pair of two lists that hold the same data -/
def Told (K : PySem.W.Frag) (A : List Addr) (H : Hp) (v : V) : Prop := ∃ (t f u : Addr) (ds : List PyData), v = .ref t ∧ SqT K (hide A H) t [.ref f, .ref u] ∧ Dp K (hide A H) (.ref f) (.list ds) ∧ Dp K (hide A H) (.ref u) (.list ds) ∧
  SeqAt.shaped (.list ds) = true ∧ (∀ d ∈ ds, isBoolD d = false) ∧ ds.length ≤ 1000
theorem Told.kept {K : PySem.W.Frag} {T : Addr} {A F : List Addr} {H H' : Hp} {v : V} (h : Told K A H v) (k : Kx T F H H') (hF : ∀ f ∈ F, f ∈ A ∨ ∃ kvs, H f = some (.dK kvs)) : Told K A H' v := by
  obtain ⟨t, f, u, ds, e, h1, h2, h3, h4⟩ := h
  exact ⟨t, f, u, ds, e, sqt_kx k hF h1, k.dpA hF h2, k.dpA hF h3, h4⟩
theorem Told.keptP {K : PySem.W.Frag} {T : Addr} {A : List Addr} {H H' : Hp} {v : V} (h : Told K A H v) (k : Kp T H H') : Told K A H' v := h.kept (F := []) (.of k) fun f hf => by cases hf
theorem Told.less {K : PySem.W.Frag} {A : List Addr} {H : Hp} {n : Addr} {v : V} (h : Told K (n :: A) H v) : Told K A H v := by
  obtain ⟨t, f, u, ds, e, h1, h2, h3, h4⟩ := h
  exact ⟨t, f, u, ds, e, sqt_less h1, dp_less h2, dp_less h3, h4⟩
theorem small5000 {n : Nat} (h : n ≤ 5000) : n < sizeLine := Nat.lt_of_le_of_lt h (by decide)
/-! ### sorted texts and numbers -/
def leS (a b : Str) : Prop := ¬ (b.cps.toList < a.cps.toList)
theorem leS_trans {a b c : Str} (h1 : leS a b) (h2 : leS b c) : leS a c := by
  have z1 : a.cps.toList ≤ b.cps.toList := List.not_lt.mp h1
  have z2 : b.cps.toList ≤ c.cps.toList := List.not_lt.mp h2
  exact List.not_lt.mpr (List.le_trans z1 z2)
theorem leS_anti {a b : Str} (h1 : leS a b) (h2 : leS b a) : a = b := by
  have z1 : a.cps.toList ≤ b.cps.toList := List.not_lt.mp h1
  have z2 : b.cps.toList ≤ a.cps.toList := List.not_lt.mp h2
  have e := List.le_antisymm z1 z2
  cases a with
  | mk x =>
    cases b with
    | mk y =>
      have e2 : x = y := Array.toList_inj.mp e
      rw [e2]
theorem rising_pw : ∀ (l : List Str) (p : Str), risingS p l = true → (p :: l).Pairwise leS
  | [], p, _ => List.pairwise_cons.mpr ⟨fun _ h => (by cases h), List.Pairwise.nil⟩
  | x :: r, p, h => by
    have h' : (!ltCps x.cps.toList p.cps.toList && risingS x r) = true := h
    rw [Bool.and_eq_true, Bool.not_eq_true', ltCps_eq] at h'
    have h1 : leS p x := of_decide_eq_false h'.1
    have ih := rising_pw r x h'.2
    refine List.pairwise_cons.mpr ⟨fun y hy => ?_, ih⟩
    rcases List.mem_cons.mp hy with hy | hy
    · rw [hy]; exact h1
    · exact leS_trans h1 ((List.pairwise_cons.mp ih).1 y hy)
theorem sorted_pw : ∀ l : List Str, sortedS l = true → l.Pairwise leS
  | [], _ => List.Pairwise.nil
  | x :: r, h => rising_pw r x h
theorem sorted_same {a b : List Str} (hp : a.Perm b) (ha : sortedS a = true) (hb : sortedS b = true) : a = b :=
  List.Perm.eq_of_pairwise (fun x y _ _ h1 h2 => leS_anti h1 h2) (sorted_pw a ha) (sorted_pw b hb) hp
theorem ints_same {a b : List Int} (hp : a.Perm b) (ha : a.Pairwise (· ≤ ·)) (hb : b.Pairwise (· ≤ ·)) : a = b :=
  List.Perm.eq_of_pairwise (fun x y _ _ h1 h2 => Int.le_antisymm h1 h2) ha hb hp
/-! ### shelves: a dict of dicts of lists -/
structure Shelf where
  ware : Str
  at_ : Addr
  ents : List (Int × Addr × List PyData)
def entK (e : Int × Addr × List PyData) : Key × V := (Sum.inl e.1, V.ref e.2.1)
def keyW (s : Shelf) : Key × V := (Sum.inr s.ware, V.ref s.at_)
def look (st : List Shelf) (w : Str) : Option Shelf := st.find? fun s => decide (s.ware = w)
def lookE (es : List (Int × Addr × List PyData)) (m : Int) : Option (Int × Addr × List PyData) := es.find? fun e => decide (e.1 = m)
def entD (e : Int × Addr × List PyData) : Int × List PyData := (e.1, e.2.2)
def dataOf (st : List Shelf) (w : Str) : List (Int × List PyData) := ((look st w).map fun s => s.ents.map entD).getD []
theorem look_val (w : Str) : ∀ st : List Shelf, valV (st.map keyW) (Sum.inr w : Key) = (look st w).map fun s => V.ref s.at_
  | [] => rfl
  | s :: r => by
    have ih := look_val w r
    by_cases h : s.ware = w
    · rw [List.map_cons, valV_pos (p := keyW s) (by show (Sum.inr s.ware : Key) = Sum.inr w; rw [h])]
      unfold look
      rw [List.find?_cons, decide_eq_true h]
      rfl
    · rw [List.map_cons, valV_neg (p := keyW s) (fun z => h (Sum.inr.inj z)), ih]
      unfold look
      rw [List.find?_cons, decide_eq_false h]
theorem lookE_val (m : Int) : ∀ es : List (Int × Addr × List PyData), valV (es.map entK) (Sum.inl m : Key) = (lookE es m).map fun e => V.ref e.2.1
  | [] => rfl
  | e :: r => by
    have ih := lookE_val m r
    by_cases h : e.1 = m
    · rw [List.map_cons, valV_pos (p := entK e) (by show (Sum.inl e.1 : Key) = Sum.inl m; rw [h])]
      unfold lookE
      rw [List.find?_cons, decide_eq_true h]
      rfl
    · rw [List.map_cons, valV_neg (p := entK e) (fun z => h (Sum.inl.inj z)), ih]
      unfold lookE
      rw [List.find?_cons, decide_eq_false h]
theorem look_mem {st : List Shelf} {w : Str} {s : Shelf} (h : look st w = some s) : s ∈ st ∧ s.ware = w := ⟨List.mem_of_find?_eq_some h, of_decide_eq_true (List.find?_some (p := fun s : Shelf => decide (s.ware = w)) h)⟩
theorem look_none {st : List Shelf} {w : Str} (h : look st w = none) : ∀ s ∈ st, s.ware ≠ w := fun s hs z => by
  have := List.find?_eq_none.mp h s hs
  exact this (decide_eq_true z)
theorem look_of {w : Str} {s : Shelf} : ∀ {st : List Shelf}, (st.map (·.ware)).Nodup → s ∈ st → s.ware = w → look st w = some s
  | [], _, h, _ => by cases h
  | a :: r, nd, h, e => by
    rw [List.map_cons, List.nodup_cons] at nd
    unfold look
    rw [List.find?_cons]
    by_cases ha : a.ware = w
    · rw [decide_eq_true ha]
      rcases List.mem_cons.mp h with rfl | h
      · rfl
      · exact absurd (List.mem_map.mpr ⟨s, h, by rw [e, ha]⟩) nd.1
    · rw [decide_eq_false ha]
      rcases List.mem_cons.mp h with rfl | h
      · exact absurd e ha
      · exact look_of nd.2 h e
theorem lookE_mem {es : List (Int × Addr × List PyData)} {m : Int} {e : Int × Addr × List PyData} (h : lookE es m = some e) : e ∈ es ∧ e.1 = m := ⟨List.mem_of_find?_eq_some h, of_decide_eq_true (List.find?_some (p := fun e : Int × Addr × List PyData => decide (e.1 = m)) h)⟩
theorem lookE_none {es : List (Int × Addr × List PyData)} {m : Int} (h : lookE es m = none) : ∀ e ∈ es, e.1 ≠ m := fun e he z => by
  have := List.find?_eq_none.mp h e he
  exact this (decide_eq_true z)
theorem lookE_of {e : Int × Addr × List PyData} : ∀ {es : List (Int × Addr × List PyData)}, (es.map (·.1)).Nodup → e ∈ es → lookE es e.1 = some e
  | [], _, h => by cases h
  | a :: r, nd, h => by
    rw [List.map_cons, List.nodup_cons] at nd
    unfold lookE
    rw [List.find?_cons]
    by_cases ha : a.1 = e.1
    · rw [decide_eq_true ha]
      rcases List.mem_cons.mp h with h | h
      · rw [h]
      · exact absurd (List.mem_map.mpr ⟨e, h, ha.symm⟩) nd.1
    · rw [decide_eq_false ha]
      rcases List.mem_cons.mp h with h | h
      · exact absurd (by rw [h]) ha
      · exact lookE_of nd.2 h
theorem rep_sub (b : Bool) (xs : List V) : (∀ v ∈ (List.replicate (if b = true then (1 : Int) else 0).toNat xs).flatten, v ∈ xs) ∧ (List.replicate (if b = true then (1 : Int) else 0).toNat xs).flatten.length ≤ xs.length := by
  cases b with
  | true =>
    have e : (List.replicate (if true = true then (1 : Int) else 0).toNat xs).flatten = xs := by
      show (List.replicate 1 xs).flatten = xs
      simp
    rw [e]
    exact ⟨fun v h => h, Nat.le_refl _⟩
  | false =>
    have e : (List.replicate (if false = true then (1 : Int) else 0).toNat xs).flatten = [] := by
      show (List.replicate 0 xs).flatten = []
      simp
    rw [e]
    exact ⟨fun v h => (by cases h), Nat.zero_le _⟩
structure ShelfOk (K : PySem.W.Frag) (A : List Addr) (H : Hp) (s : Shelf) : Prop where
  dc : H s.at_ = some (.dK (s.ents.map entK))
  dp : ∀ e ∈ s.ents, Dp K (hide A H) (.ref e.2.1) (.list e.2.2)
  nd : (s.ents.map (·.1)).Nodup
structure BoxOk (K : PySem.W.Frag) (A : List Addr) (H : Hp) (D : Addr) (st : List Shelf) : Prop where
  dc : H D = some (.dK (st.map keyW))
  sh : ∀ s ∈ st, ShelfOk K A H s
  nd : (st.map (·.ware)).Nodup
  na : (D :: st.map (·.at_)).Nodup
def foot (D : Addr) (st : List Shelf) : List Addr := D :: st.map (·.at_)
theorem BoxOk.foot_dict {K : PySem.W.Frag} {A : List Addr} {H : Hp} {D : Addr} {st : List Shelf} (B : BoxOk K A H D st) : ∀ f ∈ foot D st, ∃ kvs, H f = some (.dK kvs) := fun f hf => by
  rcases List.mem_cons.mp hf with rfl | hf
  · exact ⟨_, B.dc⟩
  · obtain ⟨s, hs, rfl⟩ := List.mem_map.mp hf
    exact ⟨_, (B.sh s hs).dc⟩
theorem BoxOk.foot_ne {K : PySem.W.Frag} {A : List Addr} {H : Hp} {D T : Addr} {st : List Shelf} (B : BoxOk K A H D st) (t : GxR.TabG H T) : ∀ f ∈ foot D st, f ≠ T := fun f hf => by
  obtain ⟨kvs, e⟩ := B.foot_dict f hf
  exact tab_ne t e fun _ z => by cases z
/-- a box stands where what changes lies elsewhere -/
theorem BoxOk.kept {K : PySem.W.Frag} {A F : List Addr} {H H' : Hp} {D T : Addr} {st : List Shelf} (B : BoxOk K A H D st) (k : Kx T F H H') (hF : ∀ f ∈ F, f ∈ A ∨ ∃ kvs, H f = some (.dK kvs)) (dj : ∀ f ∈ foot D st, f ∉ F) : BoxOk K A H' D st := by
  have kd : ∀ f ∈ foot D st, ∀ o, H f = some o → H' f = some o := fun f hf o e => k.keep f o (B.foot_ne k.t0 f hf) (dj f hf) e
  refine ⟨kd D (List.mem_cons_self ..) _ B.dc, fun s hs => ?_, B.nd, B.na⟩
  have S := B.sh s hs
  exact ⟨kd _ (List.mem_cons_of_mem _ (List.mem_map.mpr ⟨s, hs, rfl⟩)) _ S.dc, fun e he => k.dpA hF (S.dp e he), S.nd⟩
theorem BoxOk.keptP {K : PySem.W.Frag} {A : List Addr} {H H' : Hp} {D T : Addr} {st : List Shelf} (B : BoxOk K A H D st) (k : Kp T H H') : BoxOk K A H' D st :=
  B.kept (F := []) (.of k) (fun f hf => by cases hf) (fun f _ hf => by cases hf)
/-- more is hidden: what was not there then -/
theorem BoxOk.hideMore {K : PySem.W.Frag} {A B' : List Addr} {H : Hp} {D : Addr} {st : List Shelf} (B : BoxOk K A H D st) (h : ∀ s ∈ st, ∀ e ∈ s.ents, ∀ d, Dp K (hide A H) (.ref e.2.1) d → Dp K (hide B' H) (.ref e.2.1) d) : BoxOk K B' H D st :=
  ⟨B.dc, fun s hs => ⟨(B.sh s hs).dc, fun e he => h s hs e he _ ((B.sh s hs).dp e he), (B.sh s hs).nd⟩, B.nd, B.na⟩

/-! ### the four changes -/
def setE (st : List Shelf) (w : Str) (es : List (Int × Addr × List PyData)) : List Shelf := st.map fun s => if s.ware = w then { s with ents := es } else s
theorem setE_keys (w : Str) (es : List (Int × Addr × List PyData)) (st : List Shelf) : (setE st w es).map keyW = st.map keyW := by
  unfold setE
  rw [List.map_map]
  refine List.map_congr_left fun s _ => ?_
  show keyW (if s.ware = w then _ else s) = keyW s
  split <;> rfl
theorem setE_wares (w : Str) (es : List (Int × Addr × List PyData)) (st : List Shelf) : (setE st w es).map (·.ware) = st.map (·.ware) := by
  unfold setE
  rw [List.map_map]
  refine List.map_congr_left fun s _ => ?_
  show (if s.ware = w then _ else s : Shelf).ware = s.ware
  split <;> rfl
theorem setE_ats (w : Str) (es : List (Int × Addr × List PyData)) (st : List Shelf) : (setE st w es).map (·.at_) = st.map (·.at_) := by
  unfold setE
  rw [List.map_map]
  refine List.map_congr_left fun s _ => ?_
  show (if s.ware = w then _ else s : Shelf).at_ = s.at_
  split <;> rfl
theorem setE_len (w : Str) (es : List (Int × Addr × List PyData)) (st : List Shelf) : (setE st w es).length = st.length := by
  unfold setE
  rw [List.length_map]
theorem setE_mem {w : Str} {es : List (Int × Addr × List PyData)} {st : List Shelf} {x : Shelf} (h : x ∈ setE st w es) : (∃ s ∈ st, s.ware = w ∧ x = { s with ents := es }) ∨ (x ∈ st ∧ x.ware ≠ w) := by
  obtain ⟨s, hs, rfl⟩ := List.mem_map.mp h
  by_cases hw : s.ware = w
  · exact .inl ⟨s, hs, hw, by rw [if_pos hw]⟩
  · exact .inr ⟨by rw [if_neg hw]; exact hs, by rw [if_neg hw]; exact hw⟩
theorem setE_look {w : Str} {es : List (Int × Addr × List PyData)} (v : Str) : ∀ {st : List Shelf}, look (setE st w es) v = (look st v).map fun s => if v = w then { s with ents := es } else s
  | [] => rfl
  | s :: r => by
    have ih := setE_look (w := w) (es := es) v (st := r)
    show look ((if s.ware = w then { s with ents := es } else s) :: setE r w es) v = _
    unfold look
    rw [List.find?_cons, List.find?_cons]
    have ew : ((if s.ware = w then { s with ents := es } else s : Shelf)).ware = s.ware := by split <;> rfl
    by_cases h : s.ware = v
    · rw [decide_eq_true (by rw [ew]; exact h), decide_eq_true h]
      show some _ = some _
      show some (if s.ware = w then _ else _) = some (if v = w then _ else _)
      simp only [h]
    · rw [decide_eq_false (by rw [ew]; exact h), decide_eq_false h]
      exact ih
theorem setE_data {st : List Shelf} {w : Str} {es : List (Int × Addr × List PyData)} {s : Shelf} (h : look st w = some s) (v : Str) : dataOf (setE st w es) v = if v = w then es.map entD else dataOf st v := by
  unfold dataOf
  rw [setE_look]
  by_cases e : v = w
  · rw [if_pos e, e, h, Option.map_some, Option.map_some, if_pos rfl]
    rfl
  · rw [if_neg e]
    cases look st v with
    | none => rfl
    | some z => rw [Option.map_some, Option.map_some, if_neg e]; rfl
theorem at_inj : ∀ {l : List Shelf} {a b : Shelf}, (l.map (·.at_)).Nodup → a ∈ l → b ∈ l → a.at_ = b.at_ → a = b
  | [], _, _, _, ha, _, _ => by cases ha
  | y :: r, a, b, hn, ha, hb, hab => by
    rw [List.map_cons, List.nodup_cons] at hn
    rcases List.mem_cons.mp ha with ha | ha
    · rcases List.mem_cons.mp hb with hb | hb
      · rw [ha, hb]
      · refine absurd (List.mem_map.mpr ⟨b, hb, ?_⟩) hn.1
        rw [← hab, ha]
    · rcases List.mem_cons.mp hb with hb | hb
      · refine absurd (List.mem_map.mpr ⟨a, ha, ?_⟩) hn.1
        rw [hab, hb]
      · exact at_inj hn.2 ha hb hab
/-- the shelf s of the box is given other entries -/
theorem BoxOk.set {K : PySem.W.Frag} {A : List Addr} {H : Hp} {D T : Addr} {st : List Shelf} {w : Str} {s : Shelf} {es : List (Int × Addr × List PyData)} (B : BoxOk K A H D st) (t : GxR.TabG H T) (h : look st w = some s)
    (dp : ∀ e ∈ es, Dp K (hide A H) (.ref e.2.1) (.list e.2.2)) (nd : (es.map (·.1)).Nodup) : BoxOk K A (upd H s.at_ (.dK (es.map entK))) D (setE st w es) ∧ Kx T (foot D st) H (upd H s.at_ (.dK (es.map entK))) := by
  obtain ⟨hs, hw⟩ := look_mem h
  have hf : s.at_ ∈ foot D st := List.mem_cons_of_mem _ (List.mem_map.mpr ⟨s, hs, rfl⟩)
  have k : Kx T [s.at_] H (L2.upd H s.at_ (.dK (es.map entK))) := Kx.upd t (B.foot_ne t _ hf) (List.mem_singleton.mpr rfl)
  have hF : ∀ f ∈ [s.at_], f ∈ A ∨ ∃ kvs, H f = some (.dK kvs) := fun f z => .inr (by rw [List.mem_singleton.mp z]; exact ⟨_, (B.sh s hs).dc⟩)
  have na := B.na
  rw [List.nodup_cons] at na
  refine ⟨⟨?_, fun x hx => ?_, by rw [setE_wares]; exact B.nd, by rw [setE_ats]; exact B.na⟩, Kx.upd t (B.foot_ne t _ hf) hf⟩
  · rw [upd_ne (fun z => na.1 (by rw [z]; exact List.mem_map.mpr ⟨s, hs, rfl⟩)), setE_keys]
    exact B.dc
  · rcases setE_mem hx with ⟨s', hs', hw', rfl⟩ | ⟨hx, hne⟩
    · have e : s' = s := by
        have a := look_of B.nd hs' hw'
        rw [h] at a
        exact (Option.some.inj a).symm
      subst e
      exact ⟨upd_same, fun e he => k.dpA hF (dp e he), nd⟩
    · have S := B.sh x hx
      refine ⟨?_, fun e he => k.dpA hF (S.dp e he), S.nd⟩
      rw [upd_ne (fun z => ?_)]
      · exact S.dc
      · have q := at_inj na.2 hx hs z
        rw [q] at hne
        exact hne hw
/-- a new, empty shelf -/
theorem BoxOk.new {K : PySem.W.Frag} {A : List Addr} {H : Hp} {D T a : Addr} {st : List Shelf} {w : Str} (B : BoxOk K A H D st) (t : GxR.TabG H T) (h : look st w = none) (ha : H a = none) :
    BoxOk K A (upd (upd H a (.dK [])) D (.dK (putK (st.map keyW) (Sum.inr w) (.ref a)))) D (st ++ [⟨w, a, []⟩]) ∧ Kx T (foot D st) H (upd (upd H a (.dK [])) D (.dK (putK (st.map keyW) (Sum.inr w) (.ref a)))) := by
  have hD : D ∈ foot D st := List.mem_cons_self ..
  have na := B.na
  rw [List.nodup_cons] at na
  have naF : ∀ f ∈ foot D st, f ≠ a := fun f hf z => by
    obtain ⟨kvs, e⟩ := B.foot_dict f hf
    rw [z, ha] at e
    cases e
  have k : Kx T (foot D st) H (L2.upd (L2.upd H a (.dK [])) D (.dK (putK (st.map keyW) (Sum.inr w) (.ref a)))) := by
    refine ⟨t, tab_upd (tab_upd t (tab_nn t ha)) (B.foot_ne t D hD), fun b o _ hb e => ?_⟩
    rw [upd_ne (fun z => hb (by rw [z]; exact hD)), upd_ne (ne_of_none e ha)]
    exact e
  have eput : putK (st.map keyW) (Sum.inr w : Key) (.ref a) = (st ++ [(⟨w, a, []⟩ : Shelf)]).map keyW := by
    rw [putK_new _ (by rw [look_val, h]; rfl), List.map_append]
    rfl
  refine ⟨⟨?_, fun x hx => ?_, ?_, ?_⟩, k⟩
  · rw [upd_same, eput]
  · have kd : ∀ f, f ≠ D → f ≠ a → L2.upd (L2.upd H a (.dK [])) D (.dK (putK (st.map keyW) (Sum.inr w) (.ref a))) f = H f := fun f h1 h2 => by rw [upd_ne h1, upd_ne h2]
    rcases List.mem_append.mp hx with hx | hx
    · have S := B.sh x hx
      have xm : x.at_ ∈ st.map (·.at_) := List.mem_map.mpr ⟨x, hx, rfl⟩
      refine ⟨?_, fun e he => k.dpA (fun f hf => .inr (B.foot_dict f hf)) (S.dp e he), S.nd⟩
      rw [kd _ (fun z => na.1 (by rw [← z]; exact xm)) (naF _ (List.mem_cons_of_mem _ xm))]
      exact S.dc
    · rw [List.mem_singleton.mp hx]
      refine ⟨?_, fun e he => (by cases he), List.nodup_nil⟩
      show L2.upd (L2.upd H a (.dK [])) D _ a = _
      rw [upd_ne (naF D hD).symm, upd_same]
      rfl
  · rw [List.map_append, List.nodup_append]
    refine ⟨B.nd, List.nodup_cons.mpr ⟨List.not_mem_nil, List.nodup_nil⟩, fun x hx y hy => ?_⟩
    obtain ⟨s, hs, rfl⟩ := List.mem_map.mp hx
    rw [List.map_singleton] at hy
    rw [List.mem_singleton.mp hy]
    exact look_none h s hs
  · show (D :: (st ++ [(⟨w, a, []⟩ : Shelf)]).map (fun x => x.at_)).Nodup
    rw [List.map_append, List.map_singleton, ← List.cons_append, List.nodup_append]
    refine ⟨B.na, List.nodup_cons.mpr ⟨List.not_mem_nil, List.nodup_nil⟩, fun x hx y hy => ?_⟩
    rw [List.mem_singleton.mp hy]
    exact naF x hx
theorem look_app {st : List Shelf} {w : Str} {a : Addr} (h : look st w = none) (v : Str) : look (st ++ [⟨w, a, []⟩]) v = if v = w then some ⟨w, a, []⟩ else look st v := by
  unfold look at h ⊢
  rw [List.find?_append, List.find?_cons, List.find?_nil]
  by_cases e : v = w
  · rw [if_pos e, e, h, decide_eq_true rfl]
    rfl
  · rw [if_neg e, decide_eq_false (fun z => e z.symm)]
    cases List.find? (fun s : Shelf => decide (s.ware = v)) st <;> rfl
theorem data_app {st : List Shelf} {w : Str} {a : Addr} (h : look st w = none) (v : Str) : dataOf (st ++ [⟨w, a, []⟩]) v = dataOf st v := by
  unfold dataOf
  rw [look_app h]
  by_cases e : v = w
  · rw [if_pos e, e, h]
    rfl
  · rw [if_neg e]
/-- a shelf leaves the box -/
def delS (st : List Shelf) (w : Str) : List Shelf := st.filter fun s => decide (s.ware ≠ w)
theorem delS_keys (w : Str) : ∀ st : List Shelf, (delS st w).map keyW = dropK (st.map keyW) (Sum.inr w : Key)
  | [] => rfl
  | s :: r => by
    have ih := delS_keys w r
    unfold delS dropK at ih ⊢
    rw [List.map_cons, List.filter_cons, List.filter_cons]
    by_cases h : s.ware = w
    · have h2 : (keyW s).1 = (Sum.inr w : Key) := by show (Sum.inr s.ware : Key) = _; rw [h]
      rw [if_neg (by rw [decide_eq_false (fun z => z h)]; exact Bool.false_ne_true), if_neg (by rw [decide_eq_false (fun z => z h2)]; exact Bool.false_ne_true)]
      exact ih
    · have h2 : (keyW s).1 ≠ (Sum.inr w : Key) := fun z => h (Sum.inr.inj z)
      rw [if_pos (decide_eq_true h), if_pos (decide_eq_true h2), List.map_cons, ih]
theorem delS_mem {st : List Shelf} {w : Str} {x : Shelf} (h : x ∈ delS st w) : x ∈ st ∧ x.ware ≠ w := ⟨(List.mem_filter.mp h).1, of_decide_eq_true (List.mem_filter.mp h).2⟩
theorem delS_look {w : Str} (v : Str) : ∀ {st : List Shelf}, look (delS st w) v = if v = w then none else look st v
  | [] => by unfold delS look; simp
  | s :: r => by
    have ih := delS_look (w := w) v (st := r)
    unfold delS look at ih ⊢
    rw [List.filter_cons]
    by_cases h : s.ware = w
    · rw [if_neg (by rw [decide_eq_false (fun z => z h)]; exact Bool.false_ne_true), ih, List.find?_cons]
      by_cases e : v = w
      · rw [if_pos e, if_pos e]
      · rw [if_neg e, if_neg e, decide_eq_false (fun z => e (by rw [← z, h]))]
    · rw [if_pos (decide_eq_true h), List.find?_cons, List.find?_cons]
      by_cases e : s.ware = v
      · rw [decide_eq_true e, if_neg (fun z => h (by rw [e, z]))]
      · rw [decide_eq_false e]
        exact ih
theorem delS_data {st : List Shelf} {w : Str} (v : Str) : dataOf (delS st w) v = if v = w then [] else dataOf st v := by
  unfold dataOf
  rw [delS_look]
  by_cases e : v = w
  · rw [if_pos e, if_pos e]
    rfl
  · rw [if_neg e, if_neg e]
theorem BoxOk.del {K : PySem.W.Frag} {A : List Addr} {H : Hp} {D T : Addr} {st : List Shelf} {w : Str} (B : BoxOk K A H D st) (t : GxR.TabG H T) :
    BoxOk K A (upd H D (.dK (dropK (st.map keyW) (Sum.inr w)))) D (delS st w) ∧ Kx T (foot D st) H (upd H D (.dK (dropK (st.map keyW) (Sum.inr w)))) := by
  have hD : D ∈ foot D st := List.mem_cons_self ..
  have na := B.na
  rw [List.nodup_cons] at na
  have k : Kx T (foot D st) H (L2.upd H D (.dK (dropK (st.map keyW) (Sum.inr w)))) := Kx.upd t (B.foot_ne t D hD) hD
  have sub : ∀ {α : Type} (f : Shelf → α), ((delS st w).map f).Sublist (st.map f) := fun f => List.Sublist.map f List.filter_sublist
  refine ⟨⟨by rw [upd_same, delS_keys], fun x hx => ?_, (sub _).nodup B.nd, List.nodup_cons.mpr ⟨fun z => na.1 ((sub _).subset z), (sub _).nodup na.2⟩⟩, k⟩
  obtain ⟨hx, _⟩ := delS_mem hx
  have S := B.sh x hx
  refine ⟨?_, fun e he => k.dpA (fun f hf => .inr (B.foot_dict f hf)) (S.dp e he), S.nd⟩
  rw [upd_ne (fun z => na.1 (by rw [← z]; exact List.mem_map.mpr ⟨x, hx, rfl⟩))]
  exact S.dc
/-- entries put, dropped -/
theorem ent_put {es : List (Int × Addr × List PyData)} {m : Int} {l : Addr} {ds : List PyData} (h : lookE es m = none) : putK (es.map entK) (Sum.inl m : Key) (.ref l) = (es ++ [(m, l, ds)]).map entK := by
  rw [putK_new _ (by rw [lookE_val, h]; rfl), List.map_append]
  rfl
def dropE (es : List (Int × Addr × List PyData)) (m : Int) : List (Int × Addr × List PyData) := es.filter fun e => decide (e.1 ≠ m)
theorem ent_drop (m : Int) : ∀ es : List (Int × Addr × List PyData), dropK (es.map entK) (Sum.inl m : Key) = (dropE es m).map entK
  | [] => rfl
  | e :: r => by
    have ih := ent_drop m r
    unfold dropE dropK at ih ⊢
    rw [List.map_cons, List.filter_cons, List.filter_cons]
    by_cases h : e.1 = m
    · have h2 : (entK e).1 = (Sum.inl m : Key) := by show (Sum.inl e.1 : Key) = _; rw [h]
      rw [if_neg (by rw [decide_eq_false (fun z => z h2)]; exact Bool.false_ne_true), if_neg (by rw [decide_eq_false (fun z => z h)]; exact Bool.false_ne_true)]
      exact ih
    · have h2 : (entK e).1 ≠ (Sum.inl m : Key) := fun z => h (Sum.inl.inj z)
      rw [if_pos (decide_eq_true h2), if_pos (decide_eq_true h), List.map_cons, ih]
theorem drop_data (m : Int) : ∀ es : List (Int × Addr × List PyData), (dropE es m).map entD = (es.map entD).filter fun x => decide (x.1 ≠ m)
  | [] => rfl
  | e :: r => by
    have ih := drop_data m r
    unfold dropE at ih ⊢
    rw [List.map_cons, List.filter_cons, List.filter_cons]
    by_cases h : e.1 = m
    · have h2 : (entD e).1 = m := h
      rw [if_neg (by rw [decide_eq_false (fun z => z h)]; exact Bool.false_ne_true), if_neg (by rw [decide_eq_false (fun z => z h2)]; exact Bool.false_ne_true)]
      exact ih
    · have h2 : (entD e).1 ≠ m := h
      rw [if_pos (decide_eq_true h), if_pos (decide_eq_true h2), List.map_cons, ih]
theorem put_nd {es : List (Int × Addr × List PyData)} {m : Int} {l : Addr} {ds : List PyData} (h : lookE es m = none) (nd : (es.map (·.1)).Nodup) : ((es ++ [(m, l, ds)]).map (·.1)).Nodup := by
  rw [List.map_append, List.nodup_append]
  refine ⟨nd, List.nodup_cons.mpr ⟨List.not_mem_nil, List.nodup_nil⟩, fun x hx y hy => ?_⟩
  obtain ⟨e, he, rfl⟩ := List.mem_map.mp hx
  rw [List.map_singleton] at hy
  rw [List.mem_singleton.mp hy]
  exact lookE_none h e he
theorem drop_nd {es : List (Int × Addr × List PyData)} {m : Int} (nd : (es.map (·.1)).Nodup) : ((dropE es m).map (·.1)).Nodup := (List.Sublist.map _ List.filter_sublist).nodup nd

/-! ### a dict compared with {} -/
def rEqE : R2 := fun x y H Q => ∃ a b ks, x = .ref a ∧ y = .ref b ∧ H a = some (.dK ks) ∧ H b = some (.dK []) ∧ Q (.bl ks.isEmpty) H
def rNeE : R2 := fun x y H Q => ∃ a b ks, x = .ref a ∧ y = .ref b ∧ H a = some (.dK ks) ∧ H b = some (.dK []) ∧ Q (.bl (!ks.isEmpty)) H
section
variable {X : Cx}
theorem op_eqE (hu : X.A.units < cLine) : OpR X (compareOp .Eq) rEqE := by
  intro pins s σ H x y v u Q I rx ry h
  obtain ⟨a, b, ks, rfl, rfl, ea, eb, q⟩ := h
  obtain rfl : v = Value.ref a := rx
  obtain rfl : u = Value.ref b := ry
  obtain ⟨_, ya, va, ra, da⟩ := (show ObjOk X.prog X.w H s.heap a (.dK ks) from I.hok a _ ea)
  obtain ⟨_, yb, vb, rb, db⟩ := (show ObjOk X.prog X.w H s.heap b (.dK []) from I.hok b _ eb)
  have lb : vb.length = 0 := rb.length.symm
  have la : va.length = ks.length := ra.length.symm
  refine PySem.W.keq_eq (knd := mixKind X.prog X.w) (r := true) ya yb da db hu (fun e => ?_) (fin_bl I q ?_)
  · have : va = [] := List.eq_nil_of_length_eq_zero (by omega)
    rw [this]
    exact .nil
  · rw [la, lb]
    cases ks <;> rfl
theorem op_neE (hu : X.A.units < cLine) : OpR X (compareOp .NotEq) rNeE := by
  intro pins s σ H x y v u Q I rx ry h
  obtain ⟨a, b, ks, rfl, rfl, ea, eb, q⟩ := h
  obtain rfl : v = Value.ref a := rx
  obtain rfl : u = Value.ref b := ry
  obtain ⟨_, ya, va, ra, da⟩ := (show ObjOk X.prog X.w H s.heap a (.dK ks) from I.hok a _ ea)
  obtain ⟨_, yb, vb, rb, db⟩ := (show ObjOk X.prog X.w H s.heap b (.dK []) from I.hok b _ eb)
  have lb : vb.length = 0 := rb.length.symm
  have la : va.length = ks.length := ra.length.symm
  refine PySem.W.keq_ne (knd := mixKind X.prog X.w) (r := true) ya yb da db hu (fun e => ?_) (fin_bl I q ?_)
  · have : va = [] := List.eq_nil_of_length_eq_zero (by omega)
    rw [this]
    exact .nil
  · rw [la, lb]
    cases ks <;> rfl
end

/-! ### a comprehension over a locked dict's keys -/
theorem lc_keys {d : Addr} {o : Obj} {kvs : List (Key × V)} {g : TG} {tt : TT} {te : TE} {vs : List Nat} {σ : L2.St} {H1 : Hp} {D : Addr} {Qd : Hp → Prop} (Pv : Nat → Hp → Prop) (h0 : Pv 0 (upd H1 D (.lst []))) (hl : ∀ i H, i ≤ kvs.length → Pv i H → H d = some (.frz o (.dK kvs)))
    (hs : ∀ i k v H, kvs[i]? = some (k, v) → Pv i H → g (kV k) (wipe σ vs) H fun σ2 H2 => wipe σ2 vs = wipe σ vs ∧ tt σ2 H2 fun b H3 =>
      if b = true then te σ2 H3 fun y H4 => ∃ acc, H4 D = some (.lst acc) ∧ acc.length < sizeLine ∧ Pv (i + 1) (upd H4 D (.lst (acc ++ [y]))) else Pv (i + 1) H3) (hd : ∀ H, Pv kvs.length H → Qd H) :
    ∃ W : Nat → Nat → Hp → Prop, (∃ m, W 0 m (upd H1 D (.lst []))) ∧ ∀ i m H, W i m H →
      ((Itk d o kvs).stop i H ∧ Qd H) ∨ ((Itk d o kvs).go i H ∧ ∃ Nx : Hp → Prop, (∀ H', Nx H' → ∃ m', m' < m ∧ W (i + 1) m' H') ∧ ∀ x H', (Itk d o kvs).yld i H x H' → g x (wipe σ vs) H' fun σ2 H2 => wipe σ2 vs = wipe σ vs ∧ tt σ2 H2 fun b H3 =>
        if b = true then te σ2 H3 fun y H4 => ∃ acc, H4 D = some (.lst acc) ∧ acc.length < sizeLine ∧ Nx (upd H4 D (.lst (acc ++ [y]))) else Nx H3) := by
  refine ⟨fun i m H => m = kvs.length - i ∧ i ≤ kvs.length ∧ Pv i H, ⟨kvs.length, by simp, Nat.zero_le _, h0⟩, ?_⟩
  rintro i m H ⟨rfl, hi, p⟩
  have q := hl i H hi p
  by_cases hlt : i < kvs.length
  · refine .inr ⟨⟨q, hlt⟩, Pv (i + 1), fun H' p' => ⟨kvs.length - (i + 1), by omega, rfl, hlt, p'⟩, fun x H' y => ?_⟩
    obtain ⟨rfl, k, v, hk, rfl⟩ := y
    exact hs i k v _ hk p
  · have e : i = kvs.length := by omega
    subst e
    exact .inl ⟨⟨q, Nat.le_refl _⟩, hd H p⟩
def fullW (cl : List Shelf) : List Str := (cl.filter fun s => !s.ents.isEmpty).map (·.ware)
theorem fullW_le (cl : List Shelf) : (fullW cl).length ≤ cl.length := by
  unfold fullW
  rw [List.length_map]
  exact List.length_filter_le _ _
/-- the wares whose cell is not empty, in the order of the rows -/
theorem read_full {K : PySem.W.Frag} {A : List Addr} {H : Hp} {T r : Addr} {cl : List Shelf} {i j : Nat} {σ : L2.St} {Q : VK} (B : BoxOk K A H r cl) (t : GxR.TabG H T) (hj : σ[j]? = some (some (.ref r))) (hij : i ≠ j) (hi : i < σ.length) (hl : cl.length ≤ 1000)
    (q : ∀ M H', Kp T H H' → H M = none → H' M = some (.lst ((fullW cl).map V.str)) → Q (.ref M) H') :
    tLockE (tLc (iKeys (tVar j)) (gName i) (tTest (tOp rNeE (tDGet (tVar j) (tVar i)) tDNewK)) (tVar i) [i]) σ H Q := by
  have rT := B.foot_ne t r (List.mem_cons_self ..)
  have na := B.na
  rw [List.nodup_cons] at na
  refine ⟨r, _, B.dc, True.intro, fun od => ?_⟩
  have tL : GxR.TabG (upd H r (.frz od (.dK (cl.map keyW)))) T := tab_upd t rT
  have eqL : ∀ b, b ≠ r → upd H r (.frz od (.dK (cl.map keyW))) b = H b := fun b hb => upd_ne hb
  have hr : upd H r (.frz od (.dK (cl.map keyW))) r = some (.frz od (.dK (cl.map keyW))) := upd_same
  generalize upd H r (.frz od (.dK (cl.map keyW))) = HL at tL eqL hr ⊢
  refine ⟨_, hj, r, od, rfl, .inl ⟨_, hr, fun D nD => ?_⟩⟩
  have DT := tab_nn tL nD
  have Dr : D ≠ r := fun z => by rw [z, hr] at nD; cases nD
  refine lc_keys (d := r) (o := od) (kvs := cl.map keyW) (fun n H' => Kp T HL H' ∧ H' D = some (.lst ((fullW (cl.take n)).map V.str))) ⟨Kp.new tL nD, upd_same⟩
    (fun n H' _ hm => hm.1.keep r _ rT hr) (fun n k v H' hk hm => ?_) (fun H' hm => ?_)
  · obtain ⟨kk, hD⟩ := hm
    have hnl : n < cl.length := by
      have := (List.getElem?_eq_some_iff.mp hk).1
      rw [List.length_map] at this
      exact this
    rw [List.getElem?_map, List.getElem?_eq_getElem hnl] at hk
    have hk' : keyW cl[n] = (k, v) := Option.some.inj hk
    have ek : k = Sum.inr cl[n].ware := (congrArg Prod.fst hk').symm
    subst ek
    have hs := B.sh _ (List.getElem_mem hnl)
    have am : cl[n].at_ ∈ cl.map (·.at_) := List.mem_map.mpr ⟨_, List.getElem_mem hnl, rfl⟩
    have ar : cl[n].at_ ≠ r := fun z => na.1 (by rw [← z]; exact am)
    have aT := B.foot_ne t _ (List.mem_cons_of_mem _ am)
    have ha : H' cl[n].at_ = some (.dK (cl[n].ents.map entK)) := kk.keep _ _ aT (by rw [eqL _ ar]; exact hs.dc)
    have hrr : H' r = some (.frz od (.dK (cl.map keyW))) := kk.keep r _ rT hr
    have w1 : wipe σ [i] = σ.set i none := rfl
    have s2j : ((wipe σ [i]).set i (some (V.str cl[n].ware)))[j]? = some (some (.ref r)) := by rw [w1, List.set_set, List.getElem?_set_ne hij]; exact hj
    have s2i : ((wipe σ [i]).set i (some (V.str cl[n].ware)))[i]? = some (some (.str cl[n].ware)) := by rw [w1, List.set_set, List.getElem?_set_self hi]
    have elook : look cl cl[n].ware = some cl[n] := look_of B.nd (List.getElem_mem hnl) rfl
    have gD : DGet H' r (.str cl[n].ware) (some (.ref cl[n].at_)) := by
      refine .inl ⟨cl.map keyW, Sum.inr cl[n].ware, .inr ⟨od, hrr⟩, rfl, ?_⟩
      rw [look_val, elook]
      rfl
    have etake : cl.take (n + 1) = cl.take n ++ [cl[n]] := by rw [List.take_add_one, List.getElem?_eq_getElem hnl]; rfl
    refine ⟨by show wipe ((wipe σ [i]).set i _) [i] = wipe σ [i]; show ((σ.set i none).set i _).set i none = σ.set i none; rw [List.set_set, List.set_set], ?_⟩
    refine ⟨_, s2j, _, s2i, r, _, rfl, gD, fun d nd => ?_⟩
    have k2 := Kp.new (o := HO.dK []) kk.tab nd
    have ha2 : upd H' d (.dK []) cl[n].at_ = some (.dK (cl[n].ents.map entK)) := by rw [upd_ne (ne_of_none ha nd)]; exact ha
    refine ⟨cl[n].at_, d, _, rfl, rfl, ha2, upd_same, _, rfl, ?_⟩
    have hD2 := k2.lst hD
    cases he : cl[n].ents.isEmpty with
    | true =>
      have e1 : ((cl[n].ents.map entK).isEmpty) = true := by
        rw [List.isEmpty_iff] at he
        rw [he]
        rfl
      rw [e1]
      refine iteF ⟨kk.trans k2, ?_⟩
      have ef : fullW (cl.take (n + 1)) = fullW (cl.take n) := by
        unfold fullW
        rw [etake, List.filter_append, List.filter_cons, if_neg (by rw [he]; decide), List.filter_nil, List.append_nil]
      rw [ef]
      exact hD2
    | false =>
      have e1 : ((cl[n].ents.map entK).isEmpty) = false := by
        cases hz : cl[n].ents with
        | nil => rw [hz] at he; cases he
        | cons a b => rfl
      rw [e1]
      refine iteT ⟨_, s2i, _, hD2, ?_, (kk.trans k2).set nD DT, ?_⟩
      · rw [List.length_map]
        have := fullW_le (cl.take n)
        rw [List.length_take] at this
        exact small1000 (by omega)
      · have ef : fullW (cl.take (n + 1)) = fullW (cl.take n) ++ [cl[n].ware] := by
          unfold fullW
          rw [etake, List.filter_append, List.filter_cons, if_pos (by rw [he]; rfl), List.filter_nil, List.map_append]
          rfl
        rw [upd_same, ef, List.map_append]
        rfl
  · obtain ⟨kk, hD⟩ := hm
    have hrr : H' r = some (.frz od (.dK (cl.map keyW))) := kk.keep r _ rT hr
    rw [List.length_map, List.take_length] at hD
    refine ⟨hrr, q D _ ⟨t, tab_upd kk.tab rT, fun b o hb e => ?_⟩ (by rw [← eqL D Dr]; exact nD) (by rw [upd_ne Dr]; exact hD)⟩
    by_cases hbr : b = r
    · rw [hbr, upd_same, ← B.dc, ← hbr]
      exact e
    · rw [upd_ne hbr]
      exact kk.keep b o hb (by rw [eqL b hbr]; exact e)
end Pk

set_option Elab.async false
set_option linter.all false
set_option maxRecDepth 100000
set_option maxHeartbeats 4000000
namespace Pk
open PySem PySem.Spec PyProof.Rows L2
/-! ### data, or a dict: of a dict only that it is one -/
mutual
inductive Dq (K : PySem.W.Frag) (H : Hp) : V → PyData → Prop
  | non : Dq K H .non .none
  | bl (b : Bool) : Dq K H (.bl b) (.bool b)
  | int (i : Int) : Dq K H (.int i) (.int i)
  | str (x : Str) : Dq K H (.str x) (.str x)
  | lst {a : Addr} {xs : List V} {ds : List PyData} : SqL K H a xs → DqAll K H xs ds → Dq K H (.ref a) (.list ds)
  | tup {a : Addr} {xs : List V} {ds : List PyData} : SqT K H a xs → DqAll K H xs ds → Dq K H (.ref a) (.tuple ds)
  | dct {a : Addr} {kvs : List (Key × V)} : H a = some (.dK kvs) → Dq K H (.ref a) (.dict [])
inductive DqAll (K : PySem.W.Frag) (H : Hp) : List V → List PyData → Prop
  | nil : DqAll K H [] []
  | cons {v : V} {vs : List V} {d : PyData} {ds : List PyData} : Dq K H v d → DqAll K H vs ds → DqAll K H (v :: vs) (d :: ds)
end
mutual
theorem Dq.of {K : PySem.W.Frag} {H : Hp} : ∀ {d : PyData} {v : V}, Dp K H v d → Dq K H v d
  | .none, _, h => by cases h; exact .non
  | .bool b, _, h => by cases h; exact .bl b
  | .int i, _, h => by cases h; exact .int i
  | .str x, _, h => by cases h; exact .str x
  | .list ds, _, h => by
    cases h with
    | lst a b => exact .lst a (DqAll.of b)
  | .tuple ds, _, h => by
    cases h with
    | tup a b => exact .tup a (DqAll.of b)
  | .dict _, _, h => by cases h
theorem DqAll.of {K : PySem.W.Frag} {H : Hp} : ∀ {ds : List PyData} {vs : List V}, DpAll K H vs ds → DqAll K H vs ds
  | [], _, h => by cases h; exact .nil
  | d :: ds, _, h => by
    cases h with
    | cons a b => exact .cons (Dq.of a) (DqAll.of b)
end
mutual
theorem Kp.dq {P : Addr} {K : PySem.W.Frag} {H H' : Hp} (k : Kp P H H') : ∀ (d : PyData) (v : V), Dq K H v d → Dq K H' v d
  | .none, _, h => by cases h; exact .non
  | .bool b, _, h => by cases h; exact .bl b
  | .int i, _, h => by cases h; exact .int i
  | .str x, _, h => by cases h; exact .str x
  | .list ds, _, h => by
    cases h with
    | lst a b => exact .lst (k.seq a) (Kp.dqAll k ds _ b)
  | .tuple ds, _, h => by
    cases h with
    | tup a b => exact .tup (k.sqt a) (Kp.dqAll k ds _ b)
  | .dict _, _, h => by
    cases h with
    | dct e => exact .dct (k.keep _ _ (tab_ne k.t0 e fun _ z => by cases z) e)
theorem Kp.dqAll {P : Addr} {K : PySem.W.Frag} {H H' : Hp} (k : Kp P H H') : ∀ (ds : List PyData) (vs : List V), DqAll K H vs ds → DqAll K H' vs ds
  | [], _, h => by cases h; exact .nil
  | d :: ds, _, h => by
    cases h with
    | cons a b => exact .cons (Kp.dq k d _ a) (Kp.dqAll k ds _ b)
end
theorem dqAll_get {K : PySem.W.Frag} {H : Hp} : ∀ {ds : List PyData} {vs : List V}, DqAll K H vs ds → ∀ {i : Nat} {d : PyData}, ds[i]? = some d → ∃ v, vs[i]? = some v ∧ Dq K H v d
  | [], _, _, i, d, e => by simp at e
  | x :: r, _, h, i, d, e => by
    cases h with
    | cons a b =>
      cases i with
      | zero => exact ⟨_, rfl, by have e' : x = d := Option.some.inj e; subst e'; exact a⟩
      | succ i => exact dqAll_get b (i := i) (d := d) (by simpa using e)
theorem dqAll_len {K : PySem.W.Frag} {H : Hp} : ∀ {ds : List PyData} {vs : List V}, DqAll K H vs ds → vs.length = ds.length
  | [], _, h => by cases h; rfl
  | x :: r, _, h => by
    cases h with
    | cons a b => simp [dqAll_len b]
theorem dqAll_app {K : PySem.W.Frag} {H : Hp} : ∀ {ds es : List PyData} {vs us : List V}, DqAll K H vs ds → DqAll K H us es → DqAll K H (vs ++ us) (ds ++ es)
  | [], _, _, _, h, h2 => by cases h; exact h2
  | x :: r, _, _, _, h, h2 => by
    cases h with
    | cons a b => exact .cons a (dqAll_app b h2)
theorem tyx_ofq {K : PySem.W.Frag} {H : Hp} {v : V} {d : PyData} (h : Dq K H v d) : TyX K H v (.type (tyN d)) := by
  cases h with
  | non => exact .base .non
  | bl b => exact .base (.bl b)
  | int i => exact .base (.int i)
  | str x => exact .base (.str x)
  | lst a _ =>
    rcases a with (a | ⟨o, a⟩) | ⟨o, its, n, l, c, _⟩
    · exact .base (.lst a)
    · exact .base (.frz a)
    · exact .kList l c
  | tup a _ =>
    rcases a with (a | ⟨o, a⟩) | ⟨o, its, n, l, c, _⟩
    · exact .base (.tup a)
    · exact .fTuple a
    · exact .kTuple l c
  | dct e => exact .base (.dK e)
theorem tyb_ofq {K : PySem.W.Frag} {H : Hp} {v : V} {d : PyData} (h : Dq K H v d) : TyB K H v (tyN d) := by
  cases h with
  | non => exact .non
  | bl b => exact .bl b
  | int i => exact .int i
  | str x => exact .str x
  | lst a _ => exact .lst a
  | tup a _ => exact .tup a
  | dct e => exact .dK e
end Pk

set_option Elab.async false
set_option linter.all false
set_option maxRecDepth 100000
set_option maxHeartbeats 4000000
namespace Pk
open PySem PySem.Spec PyProof.Rows L2
/-! ### the text -/
def topS (i : Nat) : Stmt := PySem.Challenge.pw_pickfloor_k03_shops_refuse.main.body.getD i (.Pass ⟨0, 0, 0, 0⟩)
abbrev sWare : Stmt := topS 14
abbrev sMake : Stmt := topS 15
abbrev sNeed : Stmt := topS 16
abbrev sWithin : Stmt := topS 17
abbrev sMay : Stmt := topS 23
section
variable {P : Program} {w : World} {K : PySem.W.Frag} {mg : Str → Option Value} {base : Heap}
/-! ### is_ware -/
theorem scWare : FnScope ["thing"] ["thing"] (defScope sWare) := ⟨rfl, rfl, rfl, by decide +kernel, rfl, by decide +kernel, by decide +kernel⟩
def spWare (K : PySem.W.Frag) (T : Addr) : Sp := fun vs H Q _ => ∃ (v : V) (d : PyData), vs = [v] ∧ Dq K H v d ∧ okS d = true ∧ GxR.TabG H T ∧ ∀ H', Kp T H H' → Q (.bl (wareB d)) H'
theorem ok_ware {f c T : Addr} {oc kV doc pm ct : Value} {od an : Option Addr} {osl : Array (Option Value)} {t8 : Tok}
    (lk : K.lookup f = some ⟨oc, od, .func (PySem.W.fnOf "is_ware" "is_ware" (defArgs sWare) (defBody sWare) (defScope sWare) .none kV doc pm an (.ref c) ct), osl⟩) (hcd : PySem.W.codeIn K (.ref c) "is_ware" = true)
    (TB : GxR.TabB base mg c T) (mI : mg "type" = none) (mS : mg "str" = none) (mL : mg "len" = none) (mA : mg "all" = none) (m8 : mg "MOST_SIGNS" = some (.int 8 t8)) :
    FnOk P w K mg base CX0 1 f (PySem.W.fnOf "is_ware" "is_ware" (defArgs sWare) (defBody sWare) (defScope sWare) .none kV doc pm an (.ref c) ct) ["thing"] (spWare K T) := by
  refine fn_of lk hcd scWare (fun vs H Q E h => ?_) fun A outer s H vs Q E hr h => ?_
  · obtain ⟨v, d, rfl, _⟩ := h
    rfl
  · obtain ⟨v, d, rfl, hd, ho, ht, q⟩ := h
    suffices z : ∃ t, PSs (cxOf CX0 P w K mg base ["thing"] "is_ware" (defScope sWare) f (.ref c) A outer s H E).nox (defBody sWare) t ∧ t { nx := fun _ H' => Q .non H', rt := Q } (start ["thing"] [v]) H by
      obtain ⟨t, z1, z2⟩ := z
      exact ⟨t, z1.nox, z2⟩
    refine ⟨_, pss_cons (ps_if (PW.pt (pw_or (pt_cmpR op_notTyB (pe_callTy call_type1 (by rfl) mI boot_type (pa_cons (pv 0) pa_nil)) (pe_bltn (v := .ty "str") (by rfl) mS boot_str rfl) (nomark _))
        (pw_or1 (pt_not (pt_chain op_le op_le pe_int (pe_callB call_len_str (by rfl) mL PySem.boot_len (pa_cons (pv 0) pa_nil)) (pe_glob (v := .int 8) rfl m8 ⟨_, rfl⟩))))))
        (pss_one (ps_ret pe_bl)) pss_nil)
      (pss_one (ps_ret (GxR.pe_allS hr (by rfl) mA (by decide +kernel) TB rfl (x := "sign") (gens rfl rfl (by decide +kernel) (by decide +kernel) (by decide +kernel) (by decide +kernel)) (pv 0) (elt_az rfl (by decide +kernel)) (fun _ => rfl)))), ?_⟩
    cases e : isStrD d with
    | false =>
      refine ⟨v, rfl, v, _, rfl, tyb_ofq hd, _, "str", rfl, rfl, _, rfl, tyN_no (tyN_str d) e ?_⟩
      have z := q H (Kp.refl ht)
      rw [wareB_no e] at z
      exact z
    | true =>
      obtain ⟨x, rfl⟩ := isStrD_ex e
      cases hd
      have hx : x.length ≤ 1000 := okS_len ho
      refine ⟨_, rfl, _, _, rfl, tyb_ofq (.str x), _, "str", rfl, rfl, _, rfl, tyN_yes (tyN_str (.str x)) rfl ?_⟩
      -- not 1 <= len(thing) <= 8
      refine ⟨.str x, rfl, x, rfl, line1000 hx, _, _, rfl, rfl, ?_⟩
      refine ⟨_, rfl, iteD (fun h1 => ?_) (fun h1 => ?_)⟩
      · refine ⟨_, _, rfl, rfl, _, rfl, iteN (fun h8 => ?_) (fun h8 => ?_)⟩
        · have z := q H (Kp.refl ht)
          rw [show wareB (.str x) = false by
            show (decide (1 ≤ x.length) && decide (x.length ≤ 8) && x.cps.toList.all azB) = false
            rw [decide_eq_false (show ¬ x.length ≤ 8 by omega), Bool.and_false, Bool.false_and]] at z
          exact z
        · refine ⟨_, rfl, x, rfl, ht, fun H2 h2 => ?_⟩
          have z := q H2 (Kp.of_tabbed ht h2)
          rw [show wareB (.str x) = x.cps.toList.all azB by
            show (decide (1 ≤ x.length) && decide (x.length ≤ 8) && x.cps.toList.all azB) = _
            rw [decide_eq_true (show x.length ≤ 8 by omega), decide_eq_true (show 1 ≤ x.length by omega), Bool.true_and, Bool.true_and]] at z
          exact z
      · refine ⟨_, rfl, iteT ?_⟩
        have z := q H (Kp.refl ht)
        rw [show wareB (.str x) = false by
          show (decide (1 ≤ x.length) && decide (x.length ≤ 8) && x.cps.toList.all azB) = false
          rw [decide_eq_false (show ¬ 1 ≤ x.length by omega), Bool.false_and, Bool.false_and]] at z
        exact z

/-! ### within -/
theorem scWithin : FnScope ["make", "low", "high"] ["make", "low", "high"] (defScope sWithin) := ⟨rfl, rfl, rfl, by decide +kernel, rfl, by decide +kernel, by decide +kernel⟩
def spWithin : Sp := fun vs H Q _ => ∃ (m a b : Int), vs = [.int m, .int a, .int b] ∧ Q (.bl (decide (a ≤ m) && decide (m ≤ b))) H
theorem ok_within {f : Addr} {fd : FuncData} (F : Fun K "within" "within" sWithin f fd) : FnOk P w K mg base CX0 1 f fd ["make", "low", "high"] spWithin := by
  refine F.ok scWithin (fun vs H Q E h => ?_) (fun cdv A outer s H vs Q E hr h => ?_)
  · obtain ⟨m, a, b, rfl, _⟩ := h
    rfl
  · obtain ⟨m, a, b, rfl, q⟩ := h
    refine ⟨_, pss_one (ps_ret (pe_chain op_le op_le (pv 1) (pv 0) (pv 2))), ?_⟩
    refine ⟨_, rfl, _, rfl, _, _, rfl, rfl, _, rfl, iteD (fun h1 => ?_) (fun h1 => ?_)⟩
    · refine ⟨_, rfl, _, _, rfl, rfl, ?_⟩
      rw [decide_eq_true h1, Bool.true_and] at q
      exact q
    · rw [decide_eq_false h1, Bool.false_and] at q
      exact q
/-! ### is_make -/
theorem scMake : FnScope ["thing"] ["thing"] (defScope sMake) := ⟨rfl, rfl, rfl, by decide +kernel, rfl, by decide +kernel, by decide +kernel⟩
def spMake (K : PySem.W.Frag) : Sp := fun vs H Q _ => ∃ (v : V) (d : PyData), vs = [v] ∧ Dq K H v d ∧ Q (.bl (makeB d)) H
theorem ok_make {f fW : Addr} {fd fdW : FuncData} {t1 t9 : Tok} (F : Fun K "is_make" "is_make" sMake f fd) (FW : Fun K "within" "within" sWithin fW fdW) (bW : Binds K fdW ["make", "low", "high"] []) (gW : mg "within" = some (.ref fW))
    (mI : mg "type" = none) (mN : mg "int" = none) (m1 : mg "LEAST_MAKE" = some (.int 1 t1)) (m9 : mg "MOST_MAKE" = some (.int 999 t9)) : FnOk P w K mg base CX0 2 f fd ["thing"] (spMake K) := by
  have GW : FnOk P w K mg base CX0 1 fW fdW ["make", "low", "high"] spWithin := ok_within FW
  refine F.ok scMake (fun vs H Q E h => ?_) (fun cdv A outer s H vs Q E hr h => ?_)
  · obtain ⟨v, d, rfl, _⟩ := h
    rfl
  · obtain ⟨v, d, rfl, hd, q⟩ := h
    refine ⟨_, pss_one (ps_ret (pe_and (pe_cmpR op_isTyB (pe_callTy call_type1 (by rfl) mI boot_type (pa_cons (pv 0) pa_nil)) (pe_bltn (v := .ty "int") (by rfl) mN boot_int rfl) (nomark _))
      (pe_one (pe_call GW hr (by rfl) gW FW.kp bW .nil pass0 (pa_cons (pv 0) (pa_cons (pe_glob (v := .int 1) rfl m1 ⟨_, rfl⟩) (pa_cons (pe_glob (v := .int 999) rfl m9 ⟨_, rfl⟩) pa_nil))))))), ?_⟩
    refine ⟨v, rfl, v, _, rfl, tyb_ofq hd, _, "int", rfl, rfl, _, rfl, ?_⟩
    cases e : isI d with
    | false =>
      rw [isI_no e] at q
      exact tyI_no (tyN_int d) e q
    | true =>
      obtain ⟨i, rfl⟩ := isI_ex e
      cases hd
      exact tyI_yes (tyN_int (.int i)) rfl ⟨_, rfl, i, 1, 999, rfl, q⟩
/-! ### is_need -/
theorem scNeed : FnScope ["thing", "ware", "low", "high"] ["thing"] (defScope sNeed) := ⟨rfl, rfl, rfl, by decide +kernel, rfl, by decide +kernel, by decide +kernel⟩
def spNeed (K : PySem.W.Frag) (T : Addr) : Sp := fun vs H Q _ => ∃ (v : V) (d : PyData), vs = [v] ∧ Dq K H v d ∧ okT d = true ∧ GxR.TabG H T ∧ ∀ H', Kp T H H' → Q (.bl (needB d)) H'
theorem ok_need {f fW fM T : Addr} {fd fdW fdM : FuncData} (F : Fun K "is_need" "is_need" sNeed f fd)
    (GW : FnOk P w K mg base CX0 1 fW fdW ["thing"] (spWare K T)) (kW : PySem.W.keepIn K (.ref fW) = true) (bW : Binds K fdW ["thing"] []) (gW : mg "is_ware" = some (.ref fW))
    (GM : FnOk P w K mg base CX0 2 fM fdM ["thing"] (spMake K)) (kM : PySem.W.keepIn K (.ref fM) = true) (bM : Binds K fdM ["thing"] []) (gM : mg "is_make" = some (.ref fM))
    (mI : mg "type" = none) (mT : mg "tuple" = none) (mL : mg "len" = none) : FnOk P w K mg base CX0 3 f fd ["thing"] (spNeed K T) := by
  refine F.ok scNeed (fun vs H Q E h => ?_) (fun cdv A outer s H vs Q E hr h => ?_)
  · obtain ⟨v, d, rfl, _⟩ := h
    rfl
  · obtain ⟨v, d, rfl, hd, ho, ht, q⟩ := h
    have hr1 : Room 1 _ := hr.mono (by decide)
    refine ⟨_, pss_cons (ps_if (PW.pt (pw_or (pt_cmpR op_notTyB (pe_callTy call_type1 (by rfl) mI boot_type (pa_cons (pv 0) pa_nil)) (pe_bltn (v := .ty "tuple") (by rfl) mT boot_tuple rfl) (nomark _))
        (pw_or1 (pt_cmpR op_ne (pe_callB call_len_seq (by rfl) mL PySem.boot_len (pa_cons (pv 0) pa_nil)) pe_int (nomark _)))))
        (pss_one (ps_ret pe_bl)) pss_nil)
      (pss_cons (ps_asg (pv 0) (pg_tup (by rfl) (pgs_cons (pg_name (i := 1) scNeed.nd rfl (.inl rfl)) (pgs_cons (pg_name (i := 2) scNeed.nd rfl (.inl rfl)) (pgs_cons (pg_name (i := 3) scNeed.nd rfl (.inl rfl)) pgs_nil)))))
      (pss_one (ps_ret (pe_and (pe_call GW hr1 (by rfl) gW kW bW .nil pass0 (pa_cons (pv 1) pa_nil))
        (pe_and (pe_call GM hr (by rfl) gM kM bM .nil pass0 (pa_cons (pv 2) pa_nil))
        (pe_and (pe_call GM hr (by rfl) gM kM bM .nil pass0 (pa_cons (pv 3) pa_nil))
        (pe_one (pe_cmpR op_le (pv 2) (pv 3) (nomark _))))))))), ?_⟩
    have no : needB d = false → Q (.bl false) H := fun e => by
      have z := q H (Kp.refl ht)
      rw [e] at z
      exact z
    cases e : isTupD d with
    | false =>
      refine ⟨v, rfl, v, _, rfl, tyb_ofq hd, _, "tuple", rfl, rfl, _, rfl, tyN_no (tyN_tup d) e ?_⟩
      exact no (by cases d <;> first | rfl | cases e)
    | true =>
      refine ⟨v, rfl, v, _, rfl, tyb_ofq hd, _, "tuple", rfl, rfl, _, rfl, tyN_yes (tyN_tup d) e ?_⟩
      obtain ⟨ds, rfl⟩ : ∃ ds, d = .tuple ds := by cases d <;> first | exact ⟨_, rfl⟩ | cases e
      cases hd with
      | @tup a xs _ hT hA =>
        have hl := dqAll_len hA
        refine ⟨.ref a, rfl, a, xs, rfl, .inr hT, ?_⟩
        refine ⟨rfl, _, rfl, iteN (fun h3 => ?_) (fun h3 => ?_)⟩
        · refine no (needB_len fun z => h3 ?_)
          show V.int _ = V.int 3
          rw [show xs.length = 3 by omega] <;> rfl
        · have h3' : xs.length = 3 := by
            have z : ((xs.length : Nat) : Int) = 3 := V.int.inj h3
            omega
          obtain ⟨da, db, dc, rfl⟩ : ∃ a b c, ds = [a, b, c] := by
            match ds, hl.symm.trans h3' with
            | [a, b, c], _ => exact ⟨a, b, c, rfl⟩
          have od : okS da = true := by
            have z : (([da, db, dc].all okS) && _) = true := ho
            simp only [List.all_cons, Bool.and_eq_true] at z
            exact z.1.1
          cases hA with
          | @cons x _ _ _ hx hA =>
          cases hA with
          | @cons y _ _ _ hy hA =>
          cases hA with
          | @cons z _ _ _ hz hA =>
          cases hA
          refine ⟨_, rfl, a, [x, y, z], rfl, hT, rfl, x, [y, z], rfl, y, [z], rfl, z, [], rfl, rfl, ?_⟩
          refine ⟨x, rfl, x, da, rfl, hx, od, ht, fun H1 k1 => ⟨_, rfl, ?_⟩⟩
          have fin : ∀ b, needB (.tuple [da, db, dc]) = b → Q (.bl b) H1 := fun b e => by
            have z := q H1 k1
            rw [e] at z
            exact z
          cases ea : wareB da with
          | false => exact iteF (fin false (by show (wareB da && _ && _ && _) = false; rw [ea] <;> rfl))
          | true =>
            refine iteT ⟨y, rfl, y, db, rfl, k1.dq _ _ hy, _, rfl, ?_⟩
            cases eb : makeB db with
            | false => exact iteF (fin false (by show (wareB da && makeB db && _ && _) = false; rw [ea, eb] <;> rfl))
            | true =>
              refine iteT ⟨z, rfl, z, dc, rfl, k1.dq _ _ hz, _, rfl, ?_⟩
              cases ec : makeB dc with
              | false => exact iteF (fin false (by show (wareB da && makeB db && makeB dc && _) = false; rw [ea, eb, ec] <;> rfl))
              | true =>
                obtain ⟨i, rfl⟩ := makeB_ex eb
                obtain ⟨j, rfl⟩ := makeB_ex ec
                cases hy
                cases hz
                exact iteT ⟨_, rfl, _, rfl, _, _, rfl, rfl, fin _ (by show (wareB da && makeB (.int i) && makeB (.int j) && _) = _; rw [ea, eb, ec] <;> rfl)⟩

/-! ### _may_need -/
def wOf : PyData → Str
  | .tuple (.str a :: _) => a
  | _ => ⟨#[]⟩
def mayL (bar : List Str) : List PyData → Bool
  | [] => true
  | x :: r => needB x && !decide (wOf x ∈ bar) && mayL (bar ++ [wOf x]) r
def mayB (w : Str) : PyData → Bool
  | .list ds => decide (ds.length ≤ 6) && mayL [w] ds
  | _ => false
theorem needB_ex {d : PyData} (h : needB d = true) : ∃ a b c, d = .tuple [.str a, b, c] ∧ wareB (.str a) = true := by
  match d with
  | .tuple [a, b, c] =>
    have z : (wareB a && makeB b && makeB c && leD b c) = true := h
    simp only [Bool.and_eq_true] at z
    cases e : isStrD a with
    | false => rw [wareB_no e] at z; exact absurd z.1.1.1 Bool.false_ne_true
    | true =>
      obtain ⟨x, rfl⟩ := isStrD_ex e
      exact ⟨x, b, c, rfl, z.1.1.1⟩
  | .none => cases h
  | .bool _ => cases h
  | .int _ => cases h
  | .str _ => cases h
  | .list _ => cases h
  | .dict _ => cases h
  | .tuple [] => cases h
  | .tuple [_] => cases h
  | .tuple [_, _] => cases h
  | .tuple (_ :: _ :: _ :: _ :: _) => cases h
theorem inV_str (a : Str) : ∀ l : List Str, inV (.str a) (l.map V.str) = decide (a ∈ l)
  | [] => rfl
  | b :: r => by
    have ih := inV_str a r
    unfold inV at ih ⊢
    rw [List.map_cons, List.any_cons, ih]
    by_cases h : a = b
    · rw [decide_eq_true (show a ∈ b :: r by rw [h]; exact List.mem_cons_self ..)]
      have e : eqV (.str b) (.str a) = true := by rw [h]; simp [eqV]
      rw [e] <;> rfl
    · have e : eqV (.str b) (.str a) = false := by
        simp only [eqV]
        exact decide_eq_false (fun z => h z.symm)
      rw [e, Bool.false_or]
      by_cases h2 : a ∈ r
      · rw [decide_eq_true h2, decide_eq_true (List.mem_cons_of_mem _ h2)]
      · rw [decide_eq_false h2, decide_eq_false (fun z => (List.mem_cons.mp z).elim h h2)]
theorem flat_strs (l : List Str) : (l.map V.str).all flatV = true := by
  rw [List.all_eq_true]
  intro v hv
  obtain ⟨x, _, rfl⟩ := List.mem_map.mp hv
  rfl
theorem isLstD_ex {d : PyData} (h : isLstD d = true) : ∃ x, d = .list x := by
  cases d <;> first | exact ⟨_, rfl⟩ | cases h
def okL : PyData → Bool
  | .list ds => ds.all okT && decide (ds.length ≤ 1000)
  | _ => true
theorem scMay : FnScope ["ware", "thing", "barred", "need"] ["ware", "thing"] (defScope sMay) := ⟨rfl, rfl, rfl, by decide +kernel, rfl, by decide +kernel, by decide +kernel⟩
def spMay (K : PySem.W.Frag) (T : Addr) : Sp := fun vs H Q _ => ∃ (wx : Str) (v : V) (d : PyData), vs = [.str wx, v] ∧ Dq K H v d ∧ okL d = true ∧ GxR.TabG H T ∧ ∀ H', Kp T H H' → Q (.bl (mayB wx d)) H'
theorem ok_may {f fN T : Addr} {fd fdN : FuncData} {t6 : Tok} (F : Fun K "_may_need" "_may_need" sMay f fd)
    (GN : FnOk P w K mg base CX0 3 fN fdN ["thing"] (spNeed K T)) (kN : PySem.W.keepIn K (.ref fN) = true) (bN : Binds K fdN ["thing"] []) (gN : mg "is_need" = some (.ref fN))
    (mI : mg "type" = none) (mLi : mg "list" = none) (mL : mg "len" = none) (m6 : mg "MOST_NEEDS" = some (.int 6 t6)) : FnOk P w K mg base CX0 4 f fd ["ware", "thing"] (spMay K T) := by
  refine F.ok scMay (fun vs H Q E h => ?_) (fun cdv A outer s H vs Q E hr h => ?_)
  · obtain ⟨wx, v, d, rfl, _⟩ := h
    rfl
  · obtain ⟨wx, v, d, rfl, hd, ho, ht, q⟩ := h
    refine ⟨_, pss_cons (ps_if (PW.pt (pw_or (pt_cmpR op_notTyB (pe_callTy call_type1 (by rfl) mI boot_type (pa_cons (pv 1) pa_nil)) (pe_bltn (v := .ty "list") (by rfl) mLi boot_list rfl) (nomark _))
        (pw_or1 (pt_cmpR op_gt (pe_callB call_len_seq (by rfl) mL PySem.boot_len (pa_cons (pv 1) pa_nil)) (pe_glob (v := .int 6) rfl m6 ⟨_, rfl⟩) (nomark _)))))
        (pss_one (ps_ret pe_bl)) pss_nil)
      (pss_cons (ps_set (i := 2) scMay.nd rfl (.inl rfl) (pe_lst (pa_cons (pv 0) pa_nil)))
      (pss_cons (ps_for PassesOwn.never rfl (pi_list (pv 1)) (pg_name (i := 3) scMay.nd rfl (.inl rfl))
        (pss_cons (ps_if (PW.pt (pw_or (pt_not (pt_val (pe_call GN hr (by rfl) gN kN bN .nil pass0 (pa_cons (pv 3) pa_nil))))
            (pw_or1 (pt_cmpR op_in_seq (pe_ix ix_tup (pv 3) pe_int (fun _ _ => rfl)) (pv 2) (by rfl))))) (pss_one (ps_ret pe_bl)) pss_nil)
        (pss_one (ps_expr (pe_bm PySem.F.plainAttrs_list PySem.F.slot_list_append PySem.F.type_list_append mt_append (pv 2) (pa_cons (pe_ix ix_tup (pv 3) pe_int (fun _ _ => rfl)) pa_nil))))))
      (pss_one (ps_ret pe_bl)))), ?_⟩
    cases e : isLstD d with
    | false =>
      have z := q H (Kp.refl ht)
      rw [show mayB wx d = false by cases d <;> first | rfl | cases e] at z
      exact ⟨v, rfl, v, _, rfl, tyb_ofq hd, _, "list", rfl, rfl, _, rfl, tyN_no (tyN_lst d) e z⟩
    | true =>
      obtain ⟨ds, rfl⟩ := isLstD_ex e
      cases hd with
      | @lst a xs _ hA hall =>
        have hl := dqAll_len hall
        refine ⟨_, rfl, _, _, rfl, tyb_ofq (.lst hA hall), _, "list", rfl, rfl, _, rfl, tyN_yes (tyN_lst (.list ds)) rfl ?_⟩
        refine ⟨_, rfl, a, xs, rfl, .inl hA, _, _, rfl, rfl, _, rfl, iteD (fun h6 => ?_) (fun h6 => ?_)⟩
        · have z := q H (Kp.refl ht)
          rw [show mayB wx (.list ds) = false by
            show (decide (ds.length ≤ 6) && _) = false
            rw [decide_eq_false (show ¬ ds.length ≤ 6 by omega), Bool.false_and]] at z
          exact z
        · have fin : ∀ H', Kp T H H' → ∀ b, mayL [wx] ds = b → Q (.bl b) H' := fun H' k b eb => by
            have z := q H' k
            rw [show mayB wx (.list ds) = b by
              show (decide (ds.length ≤ 6) && mayL [wx] ds) = b
              rw [decide_eq_true (show ds.length ≤ 6 by omega), Bool.true_and, eb]] at z
            exact z
          have hoT : ∀ x ∈ ds, okT x = true := by
            have z : (ds.all okT && _) = true := ho
            rw [Bool.and_eq_true, List.all_eq_true] at z
            exact z.1
          refine ⟨_, rfl, (by show (1 : Nat) ≤ sizeLine; decide), fun b nb => ?_⟩
          have k1 := Kp.new (o := HO.lst [.str wx]) ht nb
          have bT := tab_nn ht nb
          refine ⟨_, rfl, a, rfl, ⟨_, k1.seq hA⟩, for_list (K := K) (a := a) (xs := xs) (fun i σ' H' => ∃ (x : Option V) (bar : List Str), σ' = [some (.str wx), some (.ref a), some (.ref b), x] ∧ Kp T H H' ∧ H' b = some (.lst (bar.map V.str)) ∧ bar.length = i + 1 ∧ mayL [wx] ds = mayL bar (ds.drop i))
            ⟨none, [wx], rfl, k1, upd_same, rfl, by rw [List.drop_zero]⟩ (fun i σ' H' _ ⟨_, _, _, kk, _⟩ => kk.seq hA) ?_ ?_⟩
          · rintro i x σ' H' hi ⟨x3, bar, rfl, kk, hb, hbl, em⟩
            have hil : i < ds.length := by
              have := (List.getElem?_eq_some_iff.mp hi).1
              omega
            obtain ⟨x', hx', hdx⟩ := dqAll_get (Kp.dqAll kk _ _ hall) (List.getElem?_eq_getElem hil)
            have exx : x' = x := Option.some.inj (hx'.symm.trans hi)
            subst exx
            have edrop : ds.drop i = ds[i] :: ds.drop (i + 1) := List.drop_eq_getElem_cons hil
            rw [edrop] at em
            refine ⟨_, rfl, x', ds[i], rfl, hdx, hoT _ (List.getElem_mem hil), kk.tab, fun H2 k2 => ⟨_, rfl, ?_⟩⟩
            have hb2 := k2.lst hb
            cases en : needB ds[i] with
            | false =>
              refine iteT (fin H2 (kk.trans k2) false ?_)
              rw [em]
              show (needB ds[i] && _ && _) = false
              rw [en] <;> rfl
            | true =>
              refine iteF ?_
              obtain ⟨a0, b0, c0, ed, _⟩ := needB_ex en
              have hdx2 := k2.dq _ _ hdx
              rw [ed] at hdx2
              cases hdx2 with
              | @tup tp ys _ hT hys =>
                cases hys with
                | @cons y0 yr _ _ hy0 hyr =>
                  cases hy0
                  have i0 : atI (V.str a0 :: yr) 0 = some (.str a0) := atI_nat (j := 0) rfl
                  have ew : wOf ds[i] = a0 := by rw [ed]; rfl
                  have em2 : mayL [wx] ds = (!decide (a0 ∈ bar) && mayL (bar ++ [a0]) (ds.drop (i + 1))) := by
                    rw [em]
                    show (needB ds[i] && !decide (wOf ds[i] ∈ bar) && mayL (bar ++ [wOf ds[i]]) (ds.drop (i + 1))) = _
                    rw [en, ew, Bool.true_and]
                  refine ⟨_, rfl, tp, _, 0, _, rfl, rfl, hT, i0, _, rfl, b, _, rfl, .inl (.inl (.inl hb2)), rfl, flat_strs bar, ?_⟩
                  refine ⟨_, rfl, ?_⟩
                  show if (inV (.str a0) (bar.map V.str)) = true then _ else _
                  rw [inV_str]
                  refine iteD (fun hin => ?_) (fun hin => ?_)
                  · refine fin H2 (kk.trans k2) false ?_
                    rw [em2, decide_eq_true hin] <;> rfl
                  · refine ⟨_, rfl, .inl ⟨rfl, _, .inl (.inl hb2)⟩, _, rfl, tp, _, 0, _, rfl, rfl, hT, i0, b, _, _, rfl, rfl, hb2, small1000 (by rw [List.length_map]; omega), ?_⟩
                    refine ⟨_, bar ++ [a0], rfl, (kk.trans k2).set nb bT, ?_, ?_, ?_⟩
                    · rw [upd_same, List.map_append]
                      rfl
                    · rw [List.length_append, List.length_singleton, hbl]
                    · rw [em2, decide_eq_false hin] <;> rfl
          · rintro σ' H' ⟨x3, bar, rfl, kk, hb, hbl, em⟩
            refine fin H' kk true ?_
            rw [em, hl, List.drop_length]
            rfl
end
end Pk

set_option Elab.async false
set_option linter.all false
set_option maxRecDepth 100000
set_option maxHeartbeats 4000000
namespace Pk
open PySem PySem.Spec PyProof.Rows L2
abbrev sInit : Stmt := inClass (topS 22) 0
abbrev sPut : Stmt := inClass (topS 22) 1
abbrev sTake : Stmt := inClass (topS 22) 2
abbrev sMakes : Stmt := inClass (topS 22) 3
abbrev sNeeds : Stmt := inClass (topS 22) 4
abbrev sWares : Stmt := inClass (topS 22) 5
abbrev sHas : Stmt := inClass (topS 22) 6
abbrev sPlace : Stmt := inClass (topS 22) 7
/-! ### a shop -/
def flS (D : Addr) : List (Str × V) := putF "_shelves" (.ref D) []
theorem flS_look (D : Addr) : (flS D).lookup ("_shelves" : Str) = some (.ref D) := by
  unfold flS
  rw [lookup_putF, if_pos rfl]
theorem flS_no (D : Addr) {m : Str} (h : ¬ m = "_shelves") : (flS D).lookup m = none := by
  unfold flS
  rw [lookup_putF, if_neg h]
  rfl
structure ShopAt (K : PySem.W.Frag) (C : Addr) (A : List Addr) (H : Hp) (p D : Addr) (st : List Shelf) : Prop where
  ob : ∃ dx, H p = some (.ins C dx (flS D))
  bx : BoxOk K A H D st
  ne : ∀ s ∈ st, s.ents ≠ []
structure ShopT (K : PySem.W.Frag) (mg : Str → Option Value) (C : Addr) : Prop where
  cl : Cls K C
  nS : NoAttr K C "_shelves"
  len : mg "len" = none
  lst : mg "list" = none
  srt : mg "sorted" = none
def inB (st : List Shelf) : PyData → PyData → Bool
  | .str w, .int m => ((look st w).bind fun s => lookE s.ents m).isSome
  | _, _ => false
def hasB (st : List Shelf) (wd md : PyData) : Bool := wareB wd && makeB md && inB st wd md
def placeB (st : List Shelf) (w : Str) : Bool := match look st w with
  | some s => decide (s.ents.length < 8)
  | none => decide (st.length < 12)
theorem ShopAt.kept {K : PySem.W.Frag} {C T : Addr} {A F : List Addr} {H H' : Hp} {p D : Addr} {st : List Shelf} (S : ShopAt K C A H p D st) (k : Kx T F H H') (hF : ∀ f ∈ F, f ∈ A ∨ ∃ kvs, H f = some (.dK kvs)) (hFp : ∀ f ∈ F, f ∈ A → ∃ xs, H f = some (.lst xs)) (dj : ∀ f ∈ foot D st, f ∉ F) : ShopAt K C A H' p D st := by
  obtain ⟨dx, e⟩ := S.ob
  refine ⟨⟨dx, k.keep p _ (tab_ne k.t0 e fun _ z => by cases z) (fun z => ?_) e⟩, S.bx.kept k hF dj, S.ne⟩
  rcases hF p z with z2 | ⟨kvs, z2⟩
  · obtain ⟨xs, z3⟩ := hFp p z z2
    rw [e] at z3; cases z3
  · rw [e] at z2; cases z2
theorem ShopAt.keptP {K : PySem.W.Frag} {C T : Addr} {A : List Addr} {H H' : Hp} {p D : Addr} {st : List Shelf} (S : ShopAt K C A H p D st) (k : Kp T H H') : ShopAt K C A H' p D st :=
  S.kept (F := []) (.of k) (fun f hf => by cases hf) (fun f hf => by cases hf) (fun f _ hf => by cases hf)
section
variable {P : Program} {w : World} {K : PySem.W.Frag} {mg : Str → Option Value} {base : Heap}
/-! ### __init__ -/
theorem scInit : FnScope ["self"] ["self"] (defScope sInit) := ⟨rfl, rfl, rfl, by decide +kernel, rfl, by decide +kernel, by decide +kernel⟩
def spInit (C : Addr) : Sp := fun vs H Q _ => ∃ (p dx : Addr), vs = [.ref p] ∧ H p = some (.ins C dx []) ∧ ∀ D, H D = none → Q .non (upd (upd H D (.dK [])) p (.ins C dx (flS D)))
theorem ok_init {f C : Addr} {fd : FuncData} (F : Fun K "__init__" "Shop.__init__" sInit f fd) (T : ShopT K mg C) : FnOk P w K mg base CX0 1 f fd ["self"] (spInit C) := by
  refine F.ok scInit (fun vs H Q E h => ?_) (fun cdv A outer s H vs Q E hr h => ?_)
  · obtain ⟨p, dx, rfl, _⟩ := h
    rfl
  · obtain ⟨p, dx, rfl, hp, q⟩ := h
    refine ⟨_, pss_one (ps_fld (pv 0) pe_dnewK rfl), ?_⟩
    intro D hD
    exact ⟨_, rfl, p, C, dx, [], rfl, (by rw [upd_ne (ne_of_none hp hD)]; exact hp), T.cl, T.nS, (by show 0 < 1000; decide), q D hD⟩
/-! ### _has -/
theorem scHas : FnScope ["self", "ware", "make"] ["self", "ware", "make"] (defScope sHas) := ⟨rfl, rfl, rfl, by decide +kernel, rfl, by decide +kernel, by decide +kernel⟩
def spHas (K : PySem.W.Frag) (C Tb : Addr) : Sp := fun vs H Q _ => ∃ (A : List Addr) (p D : Addr) (st : List Shelf) (wv mv : V) (wd md : PyData), vs = [.ref p, wv, mv] ∧ ShopAt K C A H p D st ∧ Dq K H wv wd ∧ okS wd = true ∧ Dq K H mv md ∧ GxR.TabG H Tb ∧
  ∀ H', Kp Tb H H' → Q (.bl (hasB st wd md)) H'
theorem ok_has {f C Tb fW fM : Addr} {fd fdW fdM : FuncData} (F : Fun K "_has" "Shop._has" sHas f fd) (T : ShopT K mg C)
    (GW : FnOk P w K mg base CX0 1 fW fdW ["thing"] (spWare K Tb)) (kW : PySem.W.keepIn K (.ref fW) = true) (bW : Binds K fdW ["thing"] []) (gW : mg "is_ware" = some (.ref fW))
    (GM : FnOk P w K mg base CX0 2 fM fdM ["thing"] (spMake K)) (kM : PySem.W.keepIn K (.ref fM) = true) (bM : Binds K fdM ["thing"] []) (gM : mg "is_make" = some (.ref fM)) :
    FnOk P w K mg base CX0 3 f fd ["self", "ware", "make"] (spHas K C Tb) := by
  refine F.ok scHas (fun vs H Q E h => ?_) (fun cdv A outer s H vs Q E hr h => ?_)
  · obtain ⟨A, p, D, st, wv, mv, wd, md, rfl, _⟩ := h
    rfl
  · obtain ⟨A, p, D, st, wv, mv, wd, md, rfl, S, hw, ho, hm, ht, q⟩ := h
    have hu := hu_of hr
    refine ⟨_, pss_one (ps_ret (pe_and (pe_call GW (hr.mono (by decide)) (by rfl) gW kW bW .nil pass0 (pa_cons (pv 1) pa_nil))
      (pe_and (pe_call GM hr (by rfl) gM kM bM .nil pass0 (pa_cons (pv 2) pa_nil))
      (pe_one (pe_cmp (pc_din hu (pv 2) (pe_dget2 hu (pe_fld (pv 0) rfl) (pv 1) pe_dnewK ⟨rfl, rfl, rfl, rfl⟩)) rfl))))), ?_⟩
    refine ⟨_, rfl, wv, wd, rfl, hw, ho, ht, fun H1 k1 => ⟨_, rfl, ?_⟩⟩
    have fin : ∀ H', Kp Tb H H' → ∀ b, hasB st wd md = b → Q (.bl b) H' := fun H' k b eb => by
      have z := q H' k
      rw [eb] at z
      exact z
    cases ea : wareB wd with
    | false => exact iteF (fin H1 k1 false (by show (wareB wd && _ && _) = false; rw [ea] <;> rfl))
    | true =>
      refine iteT ⟨_, rfl, mv, md, rfl, k1.dq _ _ hm, _, rfl, ?_⟩
      cases eb : makeB md with
      | false => exact iteF (fin H1 k1 false (by show (wareB wd && makeB md && _) = false; rw [ea, eb] <;> rfl))
      | true =>
        obtain ⟨m, rfl⟩ := makeB_ex eb
        obtain ⟨x, rfl⟩ : ∃ x, wd = .str x := by
          cases es : isStrD wd with
          | false => rw [wareB_no es] at ea; cases ea
          | true => exact isStrD_ex es
        have hw1 := hw
        cases hw
        cases hm
        have S1 := S.keptP k1
        obtain ⟨dx, e1⟩ := S1.ob
        refine iteT ⟨_, rfl, _, rfl, p, C, dx, _, _, rfl, e1, T.cl, T.nS, flS_look D, D, rfl, .inl ⟨_, .inl S1.bx.dc⟩, _, rfl, fun d nd => ?_⟩
        have k2 := Kp.new (o := HO.dK []) k1.tab nd
        have S2 := S1.keptP k2
        have eh : hasB st (.str x) (.int m) = ((look st x).bind fun s => lookE s.ents m).isSome := by
          show (wareB (.str x) && makeB (.int m) && _) = _
          rw [ea, eb] <;> rfl
        refine ⟨_, DGet.k (k := Sum.inr x) S2.bx.dc, ?_⟩
        rw [look_val]
        cases el : look st x with
        | none =>
          refine ⟨d, _, rfl, DGet.k (k := Sum.inl m) (kvs := []) upd_same, ?_⟩
          exact fin _ (k1.trans k2) _ (by rw [eh, el]; rfl)
        | some s =>
          have hs := (S2.bx.sh s (look_mem el).1).dc
          refine ⟨s.at_, _, rfl, DGet.k (k := Sum.inl m) hs, ?_⟩
          rw [lookE_val]
          exact fin _ (k1.trans k2) _ (by
            rw [eh, el]
            show (lookE s.ents m).isSome = _
            cases lookE s.ents m <;> rfl)
/-! ### _has_place -/
theorem scPlace : FnScope ["self", "ware"] ["self", "ware"] (defScope sPlace) := ⟨rfl, rfl, rfl, by decide +kernel, rfl, by decide +kernel, by decide +kernel⟩
def spPlace (K : PySem.W.Frag) (C : Addr) : Sp := fun vs H Q _ => ∃ (A : List Addr) (p D : Addr) (st : List Shelf) (x : Str), vs = [.ref p, .str x] ∧ ShopAt K C A H p D st ∧ Q (.bl (placeB st x)) H
theorem ok_place {f C : Addr} {fd : FuncData} {t8 t12 : Tok} (F : Fun K "_has_place" "Shop._has_place" sPlace f fd) (T : ShopT K mg C) (m8 : mg "MOST_MAKES" = some (.int 8 t8)) (m12 : mg "MOST_WARES" = some (.int 12 t12)) :
    FnOk P w K mg base CX0 1 f fd ["self", "ware"] (spPlace K C) := by
  refine F.ok scPlace (fun vs H Q E h => ?_) (fun cdv A outer s H vs Q E hr h => ?_)
  · obtain ⟨A, p, D, st, x, rfl, _⟩ := h
    rfl
  · obtain ⟨A, p, D, st, x, rfl, S, q⟩ := h
    have hu := hu_of hr
    obtain ⟨dx, e1⟩ := S.ob
    refine ⟨_, pss_cons (ps_if (pt_cmp (pc_din hu (pv 1) (pe_fld (pv 0) rfl))) (pss_one (ps_ret (pe_cmpR op_lt (pe_callB call_lenD (by rfl) T.len PySem.boot_len (pa_cons (pe_dget hu (pe_fld (pv 0) rfl) (pv 1) (fun _ _ => rfl)) pa_nil)) (pe_glob (v := .int 8) rfl m8 ⟨_, rfl⟩) (nomark _)))) pss_nil)
      (pss_one (ps_ret (pe_cmpR op_lt (pe_callB call_lenD (by rfl) T.len PySem.boot_len (pa_cons (pe_fld (pv 0) rfl) pa_nil)) (pe_glob (v := .int 12) rfl m12 ⟨_, rfl⟩) (nomark _)))), ?_⟩
    refine ⟨_, rfl, _, rfl, p, C, dx, _, _, rfl, e1, T.cl, T.nS, flS_look D, D, _, rfl, DGet.k (k := Sum.inr x) S.bx.dc, _, rfl, ?_⟩
    rw [look_val]
    cases el : look st x with
    | none =>
      refine iteF ⟨_, rfl, p, C, dx, _, _, rfl, e1, T.cl, T.nS, flS_look D, D, _, rfl, S.bx.dc, _, _, rfl, rfl, ?_⟩
      rw [show placeB st x = decide (((st.map keyW).length : Int) < 12) by
        unfold placeB
        rw [el, List.length_map]
        by_cases h : st.length < 12
        · rw [decide_eq_true h, decide_eq_true (by omega)]
        · rw [decide_eq_false h, decide_eq_false (by omega)]] at q
      exact q
    | some s =>
      have hs := (S.bx.sh s (look_mem el).1).dc
      refine iteT ⟨_, rfl, p, C, dx, _, _, rfl, e1, T.cl, T.nS, flS_look D, _, rfl, D, .ref s.at_, rfl, ?_, s.at_, _, rfl, hs, _, _, rfl, rfl, ?_⟩
      · have z := DGet.k (k := (Sum.inr x : Key)) S.bx.dc
        rw [look_val, el] at z
        exact z
      · rw [show placeB st x = decide (((s.ents.map entK).length : Int) < 8) by
          unfold placeB
          rw [el, List.length_map]
          show decide (s.ents.length < 8) = decide ((s.ents.length : Int) < 8)
          by_cases h : s.ents.length < 8
          · rw [decide_eq_true h, decide_eq_true (by omega)]
          · rw [decide_eq_false h, decide_eq_false (by omega)]] at q
        exact q
end
end Pk

set_option Elab.async false
set_option linter.all false
set_option maxRecDepth 100000
set_option maxHeartbeats 4000000
namespace Pk
open PySem PySem.Spec PyProof.Rows L2
/-! ### what put and take leave -/
def takeS (st : List Shelf) (x : Str) (m : Int) : List Shelf := match look st x with
  | some s => if dropE s.ents m = [] then delS (setE st x (dropE s.ents m)) x else setE st x (dropE s.ents m)
  | none => st
theorem takeS_data {st : List Shelf} {x : Str} {m : Int} (v : Str) : dataOf (takeS st x m) v = if v = x then (dataOf st x).filter (fun e => decide (e.1 ≠ m)) else dataOf st v := by
  unfold takeS
  cases el : look st x with
  | none =>
    by_cases h : v = x
    · rw [if_pos h, h]
      unfold dataOf
      rw [el]
      rfl
    · rw [if_neg h]
  | some s =>
    have e0 : dataOf st x = s.ents.map entD := by unfold dataOf; rw [el]; rfl
    by_cases hd : dropE s.ents m = []
    · show dataOf (if dropE s.ents m = [] then _ else _) v = _
      rw [if_pos hd, delS_data, setE_data el]
      by_cases h : v = x
      · rw [if_pos h, if_pos h, e0, ← drop_data, hd]
        rfl
      · rw [if_neg h, if_neg h, if_neg h]
    · show dataOf (if dropE s.ents m = [] then _ else _) v = _
      rw [if_neg hd, setE_data el]
      by_cases h : v = x
      · rw [if_pos h, if_pos h, e0, drop_data]
      · rw [if_neg h, if_neg h]
theorem takeS_foot {st : List Shelf} {x : Str} {m : Int} {D : Addr} : ∀ f ∈ foot D (takeS st x m), f ∈ foot D st := by
  intro f hf
  unfold takeS at hf
  cases el : look st x with
  | none => rw [el] at hf; exact hf
  | some s =>
    rw [el] at hf
    rcases List.mem_cons.mp hf with rfl | hf
    · exact List.mem_cons_self ..
    · refine List.mem_cons_of_mem _ ?_
      by_cases hd : dropE s.ents m = []
      · have hf : f ∈ (if dropE s.ents m = [] then delS (setE st x (dropE s.ents m)) x else setE st x (dropE s.ents m)).map (fun y => y.at_) := hf
        rw [if_pos hd] at hf
        have z := (List.Sublist.map (fun y : Shelf => y.at_) (List.filter_sublist (p := fun s : Shelf => decide (s.ware ≠ x)) (l := setE st x (dropE s.ents m)))).subset hf
        rw [setE_ats] at z
        exact z
      · have hf : f ∈ (if dropE s.ents m = [] then delS (setE st x (dropE s.ents m)) x else setE st x (dropE s.ents m)).map (fun y => y.at_) := hf
        rw [if_neg hd, setE_ats] at hf
        exact hf
/-! ### defs that may raise, the errors bearing no other one -/
theorem Fun.okN {P : Program} {w : World} {K : PySem.W.Frag} {mg : Str → Option Value} {base : Heap} {x qual : Str} {st : Stmt} {f : Addr} {fd : FuncData} {N ps : List Str} {k : Nat} {sp : Sp} (F : Fun K x qual st f fd) (S : FnScope N ps (defScope st)) (len : ∀ vs H Q E, sp vs H Q E → vs.length = ps.length)
    (body : ∀ (cdv : Value) (A : Around) (outer : List Env) (s : Shared) (H : Hp) (vs : List V) (Q : VK) (E : XK), Room k (A.deeper (envOfC qual (defScope st) s.heap.objs.size f cdv)) → sp vs H Q E →
      ∃ t, PSs (cxOf (L2N.CX P w) P w K mg base N qual (defScope st) f cdv A outer s H E) (defBody st) t ∧ t { nx := fun _ H' => Q .non H', rt := Q } (start N vs) H) : FnOk P w K mg base (L2N.CX P w) (k + 1) f fd ps sp := by
  obtain ⟨oc, od, kV, doc, pm, an, cdv, ct, osl, rfl, lk, hcd⟩ := F.ex
  exact fn_of lk hcd S len fun A outer s H vs Q E hr h => body cdv A outer s H vs Q E hr h
/-! ### errors of the document -/
structure ExT (K : PySem.W.Frag) (mg : Str → Option Value) (x : Str) (C : Addr) : Prop where
  gC : mg x = some (.ref C)
  xP : PySem.W.excIn K C [.type "ValueError", .type "Exception", .type "BaseException", .type "object"] "ValueError.__new__" = true
  kP : PySem.W.keepIn K (.ref C) = true
  bP : PySem.W.subIn K (.ref C) (.type "BaseException") = some true
  tP : PySem.W.typeIn K (.ref C) = some (.type "type")
section
variable {P : Program} {w : World} {K : PySem.W.Frag} {mg : Str → Option Value} {base : Heap}
/-! ### take -/
theorem scTake : FnScope ["self", "ware", "make", "shelf"] ["self", "ware", "make"] (defScope sTake) := ⟨rfl, rfl, rfl, by decide +kernel, rfl, by decide +kernel, by decide +kernel⟩
def spTake (K : PySem.W.Frag) (C Tb N : Addr) : Sp := fun vs H Q E => ∃ (A : List Addr) (p D : Addr) (st : List Shelf) (wv mv : V) (wd md : PyData), vs = [.ref p, wv, mv] ∧ ShopAt K C A H p D st ∧ Dq K H wv wd ∧ okS wd = true ∧ Dq K H mv md ∧ GxR.TabG H Tb ∧
  (hasB st wd md = false → ∀ H', Kp Tb H H' → E (.ref N) none H') ∧
  ∀ x m, wd = .str x → md = .int m → hasB st wd md = true → ∀ H', ShopAt K C A H' p D (takeS st x m) → Kx Tb (foot D st) H H' → Q .non H'
theorem hasB_kinds {st : List Shelf} {wd md : PyData} (h : hasB st wd md = true) : ∃ x m, wd = .str x ∧ md = .int m := by
  have z : (wareB wd && makeB md && inB st wd md) = true := h
  simp only [Bool.and_eq_true] at z
  obtain ⟨m, rfl⟩ := makeB_ex z.1.2
  cases es : isStrD wd with
  | false => rw [wareB_no es] at z; exact absurd z.1.1 Bool.false_ne_true
  | true =>
    obtain ⟨x, rfl⟩ := isStrD_ex es
    exact ⟨x, m, rfl, rfl⟩
theorem hasB_ex {st : List Shelf} {x : Str} {m : Int} (h : hasB st (.str x) (.int m) = true) : ∃ s e, look st x = some s ∧ lookE s.ents m = some e := by
  have z : (wareB (.str x) && makeB (.int m) && ((look st x).bind fun s => lookE s.ents m).isSome) = true := h
  rw [Bool.and_eq_true] at z
  cases el : look st x with
  | none => rw [el] at z; cases z.2
  | some s =>
    rw [el] at z
    cases ee : lookE s.ents m with
    | none => have z2 : (lookE s.ents m).isSome = true := z.2; rw [ee] at z2; cases z2
    | some e => exact ⟨s, e, rfl, ee⟩
theorem ok_take {f C Tb fH N : Addr} {fd fdH : FuncData} (F : Fun K "take" "Shop.take" sTake f fd) (T : ShopT K mg C) (XN : ExT K mg "NoMake" N)
    (GH : FnOk P w K mg base CX0 3 fH fdH ["self", "ware", "make"] (spHas K C Tb)) (bH : Binds K fdH ["self", "ware", "make"] []) (mH : Meth K C "_has" fH) :
    FnOk P w K mg base (L2N.CX P w) 4 f fd ["self", "ware", "make"] (spTake K C Tb N) := by
  refine Fun.okN F scTake (fun vs H Q E h => ?_) (fun cdv A outer s H vs Q E hr h => ?_)
  · obtain ⟨A, p, D, st, wv, mv, wd, md, rfl, _⟩ := h
    rfl
  · obtain ⟨A, p, D, st, wv, mv, wd, md, rfl, S, hw, ho, hm, ht, qe, q⟩ := h
    have hu := hu_of hr
    refine ⟨_, pss_cons (ps_if (pt_not (pt_val (pe_meth (pv 0) T.cl mH GH hr bH .nil pass0 (pa_cons (pv 1) (pa_cons (pv 2) pa_nil))))) (pss_one (L2N.ps_raise rfl (L2N.takes_of rfl rfl rfl rfl) (L2N.pmk_own PySem.F.excBase_ValueError XN.xP XN.gC XN.kP (raises_own XN.bP XN.tP) rfl))) pss_nil)
      (PSs.nox (pss_cons (ps_set (i := 3) scTake.nd rfl (.inl rfl) (pe_dget hu (pe_fld (pv 0) rfl) (pv 1) (fun _ _ => rfl)))
      (pss_cons (ps_ddel (pv 3) (pv 2))
      (pss_one (ps_if (pt_not (pt_truth (pv 3) (by intro _; rfl))) (pss_one (ps_ddel (pe_fld (pv 0) rfl) (pv 1))) pss_nil))))), ?_⟩
    obtain ⟨dx, e1⟩ := S.ob
    refine ⟨_, rfl, p, dx, _, rfl, e1, flS_no D (by decide +kernel), _, rfl, _, rfl, A, p, D, st, _, _, _, _, rfl, S, hw, ho, hm, ht, fun H1 k1 => ⟨_, rfl, ?_⟩⟩
    cases hh : hasB st wd md with
    | false => exact iteT (qe hh H1 k1)
    | true =>
    obtain ⟨x, m, rfl, rfl⟩ := hasB_kinds hh
    have q := q x m rfl rfl hh
    cases hw
    cases hm
    refine iteF ?_
    obtain ⟨sh, e, el, ee⟩ := hasB_ex hh
    have S1 := S.keptP k1
    obtain ⟨dx1, e2⟩ := S1.ob
    have shm := (look_mem el).1
    have hs := (S1.bx.sh sh shm).dc
    have gD : DGet H1 D (.str x) (some (.ref sh.at_)) := by
      have z := DGet.k (k := (Sum.inr x : Key)) S1.bx.dc
      rw [look_val, el] at z
      exact z
    refine ⟨_, rfl, p, C, dx1, _, _, rfl, e2, T.cl, T.nS, flS_look D, _, rfl, D, _, rfl, gD, ?_⟩
    refine ⟨_, rfl, _, rfl, sh.at_, _, Sum.inl m, rfl, hs, rfl, (by rw [lookE_val, ee]; rfl), ?_⟩
    -- the shelf without the make
    have SH := S1.bx.sh sh shm
    obtain ⟨B2, k2⟩ := S1.bx.set (es := dropE sh.ents m) k1.tab el (fun e he => SH.dp e (List.mem_filter.mp he).1) (drop_nd SH.nd)
    rw [ent_drop]
    have d2 : upd H1 sh.at_ (.dK ((dropE sh.ents m).map entK)) sh.at_ = some (.dK ((dropE sh.ents m).map entK)) := upd_same
    have o2 : upd H1 sh.at_ (.dK ((dropE sh.ents m).map entK)) p = some (.ins C dx1 (flS D)) := by
      rw [upd_ne (fun z => ?_)]
      · exact e2
      · rw [← z, e2] at hs
        cases hs
    have t2 := k2.tab
    generalize upd H1 sh.at_ (.dK ((dropE sh.ents m).map entK)) = H2 at B2 k2 d2 o2 t2 ⊢
    refine ⟨_, rfl, _, .inr (.inr ⟨_, d2, rfl⟩), ?_⟩
    by_cases hd : dropE sh.ents m = []
    · rw [hd] at B2 ⊢
      refine iteT ?_
      refine ⟨_, rfl, p, C, dx1, _, _, rfl, o2, T.cl, T.nS, flS_look D, _, rfl, D, _, Sum.inr x, rfl, B2.dc, rfl, ?_, ?_⟩
      · rw [setE_keys, look_val, el]
        rfl
      · obtain ⟨B3, k3⟩ := B2.del (w := x) t2
        have ef : takeS st x m = delS (setE st x []) x := by
          unfold takeS
          rw [el]
          show (if dropE sh.ents m = [] then _ else _) = _
          rw [if_pos hd, hd]
        have efoot : foot D (setE st x []) = foot D st := by unfold foot; rw [setE_ats]
        rw [efoot] at k3
        refine q _ ⟨⟨dx1, ?_⟩, by rw [ef]; exact B3, fun z hz => ?_⟩ ((Kx.of k1).trans (k2.trans k3))
        · rw [upd_ne (fun z => ?_)]
          · exact o2
          · have z2 := B2.dc
            rw [← z, o2] at z2
            cases z2
        · rw [ef] at hz
          obtain ⟨h1, h2⟩ := delS_mem hz
          rcases setE_mem h1 with ⟨s', _, hw', rfl⟩ | ⟨h3, _⟩
          · exact absurd hw' h2
          · exact S.ne z h3
    · have hne : (!((dropE sh.ents m).map entK).isEmpty) = true := by
        cases hz : dropE sh.ents m with
        | nil => exact absurd hz hd
        | cons a r => rfl
      rw [hne]
      refine iteF ?_
      have ef : takeS st x m = setE st x (dropE sh.ents m) := by
        unfold takeS
        rw [el]
        show (if dropE sh.ents m = [] then _ else _) = _
        rw [if_neg hd]
      refine q _ ⟨⟨dx1, o2⟩, by rw [ef]; exact B2, fun z hz => ?_⟩ ((Kx.of k1).trans k2)
      rw [ef] at hz
      rcases setE_mem hz with ⟨s', _, hw', rfl⟩ | ⟨h3, _⟩
      · exact hd
      · exact S.ne z h3
end
end Pk

set_option Elab.async false
set_option linter.all false
set_option maxRecDepth 100000
set_option maxHeartbeats 4000000
namespace Pk
open PySem PySem.Spec PyProof.Rows L2
section
variable {P : Program} {w : World} {K : PySem.W.Frag} {mg : Str → Option Value} {base : Heap}
/-! ### put -/
theorem scPut : FnScope ["self", "ware", "make", "needs"] ["self", "ware", "make", "needs"] (defScope sPut) := ⟨rfl, rfl, rfl, by decide +kernel, rfl, by decide +kernel, by decide +kernel⟩
def spPut (K : PySem.W.Frag) (C Tb BW BM BN TW FU : Addr) : Sp := fun vs H Q E => ∃ (A : List Addr) (p D : Addr) (st : List Shelf) (wv mv nv : V) (wd md nd : PyData), vs = [.ref p, wv, mv, nv] ∧ ShopAt K C A H p D st ∧
  Dq K H wv wd ∧ okS wd = true ∧ Dq K H mv md ∧ Dq K H nv nd ∧ okL nd = true ∧ GxR.TabG H Tb ∧ (∀ a ∈ A, H a ≠ none) ∧ st.length ≤ 100 ∧
  (wareB wd = false → ∀ H', Kp Tb H H' → E (.ref BW) none H') ∧
  (wareB wd = true → makeB md = false → ∀ H', Kp Tb H H' → E (.ref BM) none H') ∧
  (∀ x, wd = .str x → wareB wd = true → makeB md = true → mayB x nd = false → ∀ H', Kp Tb H H' → E (.ref BN) none H') ∧
  (∀ x, wd = .str x → wareB wd = true → makeB md = true → mayB x nd = true → hasB st wd md = true → ∀ H', Kp Tb H H' → E (.ref TW) none H') ∧
  (∀ x, wd = .str x → wareB wd = true → makeB md = true → mayB x nd = true → hasB st wd md = false → placeB st x = false → ∀ H', Kp Tb H H' → E (.ref FU) none H') ∧
  (∀ x m, wd = .str x → md = .int m → wareB wd = true → makeB md = true → mayB x nd = true → hasB st wd md = false → placeB st x = true → ∃ (a : Addr) (xs : List V) (ds : List PyData), nv = .ref a ∧ nd = .list ds ∧ SqL K H a xs ∧ DpAll K (hide A H) xs ds ∧
    ∀ H' st', ShopAt K C A H' p D st' → (∀ v, dataOf st' v = if v = x then dataOf st x ++ [(m, ds)] else dataOf st v) → Kx Tb (foot D st) H H' → (∀ f ∈ foot D st', f ∈ foot D st ∨ H f = none) → Q .non H')
theorem hasB_not {st : List Shelf} {x : Str} {m : Int} (h : hasB st (.str x) (.int m) = false) (hw : wareB (.str x) = true) (hm : makeB (.int m) = true) : ((look st x).bind fun s => lookE s.ents m) = none := by
  have z : (wareB (.str x) && makeB (.int m) && ((look st x).bind fun s => lookE s.ents m).isSome) = false := h
  rw [hw, hm, Bool.true_and, Bool.true_and] at z
  cases e : (look st x).bind fun s => lookE s.ents m with
  | none => rfl
  | some q => rw [e] at z; cases z
theorem ok_put {f C Tb fW fM fY fH fP BW BM BN TW FU : Addr} {fd fdW fdM fdY fdH fdP : FuncData} (F : Fun K "put" "Shop.put" sPut f fd) (T : ShopT K mg C) (X1 : ExT K mg "BadWare" BW) (X2 : ExT K mg "BadMake" BM) (X3 : ExT K mg "BadNeed" BN) (X4 : ExT K mg "Twice" TW) (X5 : ExT K mg "Full" FU)
    (GW : FnOk P w K mg base CX0 1 fW fdW ["thing"] (spWare K Tb)) (kW : PySem.W.keepIn K (.ref fW) = true) (bW : Binds K fdW ["thing"] []) (gW : mg "is_ware" = some (.ref fW))
    (GM : FnOk P w K mg base CX0 2 fM fdM ["thing"] (spMake K)) (kM : PySem.W.keepIn K (.ref fM) = true) (bM : Binds K fdM ["thing"] []) (gM : mg "is_make" = some (.ref fM))
    (GY : FnOk P w K mg base CX0 4 fY fdY ["ware", "thing"] (spMay K Tb)) (kY : PySem.W.keepIn K (.ref fY) = true) (bY : Binds K fdY ["ware", "thing"] []) (gY : mg "_may_need" = some (.ref fY))
    (GH : FnOk P w K mg base CX0 3 fH fdH ["self", "ware", "make"] (spHas K C Tb)) (bH : Binds K fdH ["self", "ware", "make"] []) (mH : Meth K C "_has" fH)
    (GP : FnOk P w K mg base CX0 1 fP fdP ["self", "ware"] (spPlace K C)) (bP : Binds K fdP ["self", "ware"] []) (mP : Meth K C "_has_place" fP) :
    FnOk P w K mg base (L2N.CX P w) 5 f fd ["self", "ware", "make", "needs"] (spPut K C Tb BW BM BN TW FU) := by
  refine Fun.okN F scPut (fun vs H Q E h => ?_) (fun cdv A outer s H vs Q E hr h => ?_)
  · obtain ⟨A, p, D, st, wv, mv, nv, wd, md, nd, rfl, _⟩ := h
    rfl
  · obtain ⟨A, p, D, st, wv, mv, nv, wd, md, ndd, rfl, S, dw, ho, dm, dn, hok, ht, hA, hst, q1, q2, q3, q4, q5, q6⟩ := h
    have hu := hu_of hr
    refine ⟨_, pss_cons (ps_if (pt_not (pt_val (pe_call GW (hr.mono (by decide)) (by rfl) gW kW bW .nil pass0 (pa_cons (pv 1) pa_nil)))) (pss_one (L2N.ps_raise rfl (L2N.takes_of rfl rfl rfl rfl) (L2N.pmk_own PySem.F.excBase_ValueError X1.xP X1.gC X1.kP (raises_own X1.bP X1.tP) rfl))) pss_nil)
      (pss_cons (ps_if (pt_not (pt_val (pe_call GM (hr.mono (by decide)) (by rfl) gM kM bM .nil pass0 (pa_cons (pv 2) pa_nil)))) (pss_one (L2N.ps_raise rfl (L2N.takes_of rfl rfl rfl rfl) (L2N.pmk_own PySem.F.excBase_ValueError X2.xP X2.gC X2.kP (raises_own X2.bP X2.tP) rfl))) pss_nil)
      (pss_cons (ps_if (pt_not (pt_val (pe_call GY hr (by rfl) gY kY bY .nil pass0 (pa_cons (pv 1) (pa_cons (pv 3) pa_nil))))) (pss_one (L2N.ps_raise rfl (L2N.takes_of rfl rfl rfl rfl) (L2N.pmk_own PySem.F.excBase_ValueError X3.xP X3.gC X3.kP (raises_own X3.bP X3.tP) rfl))) pss_nil)
      (pss_cons (ps_if (pt_val (pe_meth (pv 0) T.cl mH GH (hr.mono (by decide)) bH .nil pass0 (pa_cons (pv 1) (pa_cons (pv 2) pa_nil)))) (pss_one (L2N.ps_raise rfl (L2N.takes_of rfl rfl rfl rfl) (L2N.pmk_own PySem.F.excBase_ValueError X4.xP X4.gC X4.kP (raises_own X4.bP X4.tP) rfl))) pss_nil)
      (pss_cons (ps_if (pt_not (pt_val (pe_meth (pv 0) T.cl mP GP (hr.mono (by decide)) bP .nil pass0 (pa_cons (pv 1) pa_nil)))) (pss_one (L2N.ps_raise rfl (L2N.takes_of rfl rfl rfl rfl) (L2N.pmk_own PySem.F.excBase_ValueError X5.xP X5.gC X5.kP (raises_own X5.bP X5.tP) rfl))) pss_nil)
      (PSs.nox (pss_one (ps_dput hu (pe_dsetd (pe_fld (pv 0) rfl) (pv 1) pe_dnewK ⟨rfl, rfl, rfl, rfl⟩) (pv 2) (pe_callTy call_list_of (by rfl) T.lst boot_list (pa_cons (pv 3) pa_nil)) rfl))))))), ?_⟩
    refine ⟨_, rfl, wv, wd, rfl, dw, ho, ht, fun H1 k1 => ⟨_, rfl, ?_⟩⟩
    cases hw : wareB wd with
    | false => exact iteT (q1 hw H1 k1)
    | true =>
    refine iteF ⟨_, rfl, mv, md, rfl, k1.dq _ _ dm, _, rfl, ?_⟩
    cases hm : makeB md with
    | false => exact iteT (q2 hw hm H1 k1)
    | true =>
    obtain ⟨m, rfl⟩ := makeB_ex hm
    obtain ⟨x, rfl⟩ : ∃ x, wd = .str x := by
      cases es : isStrD wd with
      | false => rw [wareB_no es] at hw; cases hw
      | true => exact isStrD_ex es
    have dw0 := dw
    have dm0 := dm
    cases dw
    cases dm
    refine iteF ⟨_, rfl, _, rfl, x, nv, ndd, rfl, k1.dq _ _ dn, hok, k1.tab, fun H2 k2 => ⟨_, rfl, ?_⟩⟩
    have k12 := k1.trans k2
    cases hmay : mayB x ndd with
    | false => exact iteT (q3 x rfl hw hm hmay H2 k12)
    | true =>
    have S2 := S.keptP k12
    obtain ⟨dx2, e2⟩ := S2.ob
    refine iteF ⟨_, rfl, p, dx2, _, rfl, e2, flS_no D (by decide +kernel), _, rfl, _, rfl, A, p, D, st, _, _, _, _, rfl, S2, .str x, ho, .int m, k2.tab, fun H3 k3 => ⟨_, rfl, ?_⟩⟩
    have k13 := k12.trans k3
    cases hhas : hasB st (.str x) (.int m) with
    | true => exact iteT (q4 x rfl hw hm hmay hhas H3 k13)
    | false =>
    have S3 := S2.keptP k3
    obtain ⟨dx3, e3⟩ := S3.ob
    refine iteF ⟨_, rfl, p, dx3, _, rfl, e3, flS_no D (by decide +kernel), _, rfl, A, p, D, st, x, rfl, S3, _, rfl, ?_⟩
    cases hpl : placeB st x with
    | false => exact iteT (q5 x rfl hw hm hmay hhas hpl H3 k13)
    | true =>
    obtain ⟨nd, xs, ds, rfl, rfl, hn, hall, q⟩ := q6 x m rfl rfl hw hm hmay hhas hpl
    refine iteF ⟨_, rfl, nd, xs, rfl, .inl (k13.seq hn), fun l nl => ?_⟩
    -- the new list of needs
    have k4 := Kp.new (o := HO.lst xs) k3.tab nl
    have nlH : H l = none := k13.free nl
    have lA : l ∉ A := fun z => hA l z nlH
    have S4 := S3.keptP k4
    have k14 := k13.trans k4
    have dl : Dp K (hide A (upd H3 l (.lst xs))) (.ref l) (.list ds) := by
      refine .lst (.inl (.inl (hide_of upd_same lA))) (dpAll_mono (fun b o hs e => ?_) ds xs hall)
      obtain ⟨a1, a2⟩ := hide_some e
      exact hide_of (k14.keep b o (isSeq_ne_tab k14.t0 hs a1) a1) a2
    have t4 := k4.tab
    have nn : ∀ b, upd H3 l (.lst xs) b = none → H b = none := fun b z => k14.free z
    generalize upd H3 l (.lst xs) = H4 at S4 k14 dl t4 nn ⊢
    obtain ⟨dx4, e4⟩ := S4.ob
    refine ⟨_, rfl, p, C, dx4, _, _, rfl, e4, T.cl, T.nS, flS_look D, D, rfl, .inl ⟨_, .inl S4.bx.dc⟩, _, rfl, fun a na => ?_⟩
    have k5 := Kp.new (o := HO.dK []) t4 na
    have S5 := S4.keptP k5
    have hnh := hasB_not hhas hw hm
    refine ⟨_, Sum.inr x, S5.bx.dc, rfl, small1000 (by rw [List.length_map]; omega), fun v hv => ?_, fun hv => ?_⟩
    · -- the ware has a shelf
      rw [look_val] at hv
      cases el : look st x with
      | none => rw [el] at hv; cases hv
      | some sh =>
        rw [el] at hv hnh
        have ev : v = .ref sh.at_ := (Option.some.inj hv).symm
        subst ev
        have le : lookE sh.ents m = none := hnh
        have SH := S5.bx.sh sh (look_mem el).1
        have hl8 : sh.ents.length < 8 := by
          unfold placeB at hpl
          rw [el] at hpl
          exact of_decide_eq_true hpl
        refine ⟨_, rfl, sh.at_, _, rfl, DPut.k (k := Sum.inl m) SH.dc (small1000 (by rw [List.length_map]; omega)), ?_⟩
        rw [ent_put (ds := ds) le]
        have dl5 := (Kx.of (A := []) k5).dpA (A := A) (fun f hf => by cases hf) dl
        obtain ⟨B6, k6⟩ := S5.bx.set (es := sh.ents ++ [(m, l, ds)]) k5.tab el (fun e he => by
          rcases List.mem_append.mp he with he | he
          · exact SH.dp e he
          · rw [List.mem_singleton.mp he]; exact dl5) (put_nd le SH.nd)
        obtain ⟨dx5, e5⟩ := S5.ob
        refine q _ _ ⟨⟨dx5, ?_⟩, B6, fun z hz => ?_⟩ (fun v => ?_) ((Kx.of (k14.trans k5)).trans k6) (fun f hf => .inl ?_)
        · rw [upd_ne (fun z => ?_)]
          · exact e5
          · have z2 := SH.dc
            rw [← z, e5] at z2
            cases z2
        · rcases setE_mem hz with ⟨s', _, _, rfl⟩ | ⟨h3, _⟩
          · exact List.append_ne_nil_of_right_ne_nil _ (List.cons_ne_nil _ _)
          · exact S.ne z h3
        · rw [setE_data el, List.map_append]
          have e0 : dataOf st x = sh.ents.map entD := by unfold dataOf; rw [el]; rfl
          rw [e0]
          rfl
        · unfold foot at hf
          rw [setE_ats] at hf
          exact hf
    · -- it has none
      rw [look_val] at hv
      cases el : look st x with
      | some sh => rw [el] at hv; cases hv
      | none =>
        obtain ⟨B6, k6⟩ := S4.bx.new (a := a) t4 el na
        have t6 := k6.tab
        have la := look_app (a := a) el x
        rw [if_pos rfl] at la
        have e6 : upd (upd H4 a (.dK [])) D (.dK (putK (st.map keyW) (Sum.inr x) (.ref a))) p = some (.ins C dx4 (flS D)) := by
          rw [upd_ne (fun z => ?_), upd_ne (fun z => ?_)]
          · exact e4
          · rw [z, na] at e4
            cases e4
          · have z2 := S4.bx.dc
            rw [← z, e4] at z2
            cases z2
        have dl6 := k6.dpA (A := A) (fun f hf => .inr (S4.bx.foot_dict f hf)) dl
        have na' : H a = none := nn a na
        generalize upd (upd H4 a (.dK [])) D (.dK (putK (st.map keyW) (Sum.inr x) (.ref a))) = H6 at B6 k6 t6 e6 dl6 ⊢
        have SH := B6.sh _ (look_mem la).1
        refine ⟨_, rfl, a, _, rfl, DPut.k (k := Sum.inl m) SH.dc (by show 0 < sizeLine; decide), ?_⟩
        show Q .non (upd H6 a (.dK (putK (([] : List (Int × Addr × List PyData)).map entK) (Sum.inl m) (.ref l))))
        rw [ent_put (es := []) (ds := ds) rfl]
        obtain ⟨B7, k7⟩ := B6.set (es := [] ++ [(m, l, ds)]) t6 la (fun e he => by
          rw [List.nil_append] at he
          rw [List.mem_singleton.mp he]
          exact dl6) (by rw [List.nil_append]; exact List.nodup_cons.mpr ⟨List.not_mem_nil, List.nodup_nil⟩)
        have ea : ∀ f ∈ foot D (st ++ [⟨x, a, []⟩]), f ∈ foot D st ∨ H f = none := fun f hf => by
          rcases List.mem_cons.mp hf with rfl | hf
          · exact .inl (List.mem_cons_self ..)
          · rw [List.map_append] at hf
            rcases List.mem_append.mp hf with hf | hf
            · exact .inl (List.mem_cons_of_mem _ hf)
            · rw [List.map_singleton] at hf
              rw [List.mem_singleton.mp hf]
              exact .inr na'
        refine q _ _ ⟨⟨dx4, ?_⟩, B7, fun z hz => ?_⟩ (fun v => ?_) ?_ (fun f hf => ?_)
        · rw [upd_ne (fun z => ?_)]
          · exact e6
          · have z2 := SH.dc
            have z3 : H6 a = some (.dK (([] : List (Int × Addr × List PyData)).map entK)) := z2
            rw [← z, e6] at z3
            cases z3
        · rcases setE_mem hz with ⟨s', _, _, rfl⟩ | ⟨h3, hne⟩
          · exact List.cons_ne_nil _ _
          · rcases List.mem_append.mp h3 with h3 | h3
            · exact S.ne z h3
            · exact absurd (by rw [List.mem_singleton.mp h3]) hne
        · rw [setE_data la]
          have e0 : dataOf st x = [] := by unfold dataOf; rw [el]; rfl
          by_cases hv : v = x
          · rw [if_pos hv, if_pos hv, e0]
            rfl
          · rw [if_neg hv, if_neg hv, data_app el]
        · -- what was kept
          refine ⟨ht, k7.tab, fun b o hb hbF e => ?_⟩
          have h4 := k14.keep b o hb e
          have h6 := k6.keep b o hb hbF h4
          refine k7.keep b o hb (fun z => ?_) h6
          rcases ea b z with z | z
          · exact hbF z
          · rw [e] at z; cases z
        · unfold foot at hf
          rw [setE_ats] at hf
          exact ea f hf
end
end Pk

set_option Elab.async false
set_option linter.all false
set_option maxRecDepth 100000
set_option maxHeartbeats 4000000
namespace Pk
open PySem PySem.Spec PyProof.Rows L2
def findD (l : List (Int × List PyData)) (m : Int) : Option (Int × List PyData) := l.find? fun e => decide (e.1 = m)
theorem findD_ents (m : Int) : ∀ es : List (Int × Addr × List PyData), findD (es.map entD) m = (lookE es m).map entD
  | [] => rfl
  | e :: r => by
    have ih := findD_ents m r
    unfold findD lookE at ih ⊢
    rw [List.map_cons, List.find?_cons, List.find?_cons]
    have e2 : decide ((entD e).1 = m) = decide (e.1 = m) := rfl
    rw [e2]
    cases decide (e.1 = m) with
    | true => rfl
    | false => exact ih
theorem hasB_data {st : List Shelf} {x : Str} {m : Int} (hw : wareB (.str x) = true) (hm : makeB (.int m) = true) : hasB st (.str x) (.int m) = (findD (dataOf st x) m).isSome := by
  show (wareB (.str x) && makeB (.int m) && ((look st x).bind fun s => lookE s.ents m).isSome) = _
  rw [hw, hm, Bool.true_and, Bool.true_and]
  unfold dataOf
  cases look st x with
  | none => rfl
  | some s =>
    show (lookE s.ents m).isSome = (findD (s.ents.map entD) m).isSome
    rw [findD_ents]
    cases lookE s.ents m <;> rfl
section
variable {P : Program} {w : World} {K : PySem.W.Frag} {mg : Str → Option Value} {base : Heap}
/-! ### makes -/
theorem scMakes : FnScope ["self", "ware"] ["self", "ware"] (defScope sMakes) := ⟨rfl, rfl, rfl, by decide +kernel, rfl, by decide +kernel, by decide +kernel⟩
def spMakes (K : PySem.W.Frag) (C Tb BW : Addr) : Sp := fun vs H Q E => ∃ (A : List Addr) (p D : Addr) (st : List Shelf) (wv : V) (wd : PyData), vs = [.ref p, wv] ∧ ShopAt K C A H p D st ∧ Dq K H wv wd ∧ okS wd = true ∧ GxR.TabG H Tb ∧
  (wareB wd = false → ∀ H', Kp Tb H H' → E (.ref BW) none H') ∧
  ∀ x, wd = .str x → wareB wd = true → (dataOf st x).length < 64 ∧ ∀ (ys : List Int) l H', ys.Perm ((dataOf st x).map (·.1)) → ys.Pairwise (· ≤ ·) → Kp Tb H H' → H l = none → H' l = some (.lst (ys.map V.int)) → Q (.ref l) H'
theorem ok_makes {f C Tb fW BW : Addr} {fd fdW : FuncData} (F : Fun K "makes" "Shop.makes" sMakes f fd) (T : ShopT K mg C) (X1 : ExT K mg "BadWare" BW)
    (GW : FnOk P w K mg base CX0 1 fW fdW ["thing"] (spWare K Tb)) (kW : PySem.W.keepIn K (.ref fW) = true) (bW : Binds K fdW ["thing"] []) (gW : mg "is_ware" = some (.ref fW)) :
    FnOk P w K mg base (L2N.CX P w) 2 f fd ["self", "ware"] (spMakes K C Tb BW) := by
  refine Fun.okN F scMakes (fun vs H Q E h => ?_) (fun cdv A outer s H vs Q E hr h => ?_)
  · obtain ⟨A, p, D, st, wv, wd, rfl, _⟩ := h
    rfl
  · obtain ⟨A, p, D, st, wv, wd, rfl, S, dw, ho, ht, q1, q⟩ := h
    have hu := hu_of hr
    refine ⟨_, pss_cons (ps_if (pt_not (pt_val (pe_call GW hr (by rfl) gW kW bW .nil pass0 (pa_cons (pv 1) pa_nil)))) (pss_one (L2N.ps_raise rfl (L2N.takes_of rfl rfl rfl rfl) (L2N.pmk_own PySem.F.excBase_ValueError X1.xP X1.gC X1.kP (raises_own X1.bP X1.tP) rfl))) pss_nil)
      (PSs.nox (pss_one (ps_ret (pe_callB (call_sortedDI rfl) (by rfl) T.srt (by decide +kernel) (pa_cons (pe_dget2 hu (pe_fld (pv 0) rfl) (pv 1) pe_dnewK ⟨rfl, rfl, rfl, rfl⟩) pa_nil))))), ?_⟩
    refine ⟨_, rfl, wv, wd, rfl, dw, ho, ht, fun H1 k1 => ⟨_, rfl, ?_⟩⟩
    cases hw : wareB wd with
    | false => exact iteT (q1 hw H1 k1)
    | true =>
    obtain ⟨x, rfl⟩ : ∃ x, wd = .str x := by
      cases es : isStrD wd with
      | false => rw [wareB_no es] at hw; cases hw
      | true => exact isStrD_ex es
    cases dw
    obtain ⟨h64, q⟩ := q x rfl hw
    have S1 := S.keptP k1
    obtain ⟨dx, e1⟩ := S1.ob
    refine iteF ⟨_, rfl, p, C, dx, _, _, rfl, e1, T.cl, T.nS, flS_look D, D, rfl, .inl ⟨_, .inl S1.bx.dc⟩, _, rfl, fun d nd => ?_⟩
    have k2 := Kp.new (o := HO.dK []) k1.tab nd
    have S2 := S1.keptP k2
    have k12 := k1.trans k2
    refine ⟨_, DGet.k (k := Sum.inr x) S2.bx.dc, ?_⟩
    rw [look_val]
    cases el : look st x with
    | none =>
      have e0 : dataOf st x = [] := by unfold dataOf; rw [el]; rfl
      refine ⟨d, [], [], rfl, .inl upd_same, rfl, by decide, fun ys l hp hs nl => ?_⟩
      have k3 := Kp.new (o := HO.lst (ys.map V.int)) k2.tab nl
      exact q ys l _ (by rw [e0]; exact hp) hs (k12.trans k3) (k12.free nl) upd_same
    | some sh =>
      have e0 : dataOf st x = sh.ents.map entD := by unfold dataOf; rw [el]; rfl
      have SH := S2.bx.sh sh (look_mem el).1
      have e3 : (dataOf st x).map (·.1) = sh.ents.map (·.1) := by
        rw [e0, List.map_map]
        rfl
      refine ⟨sh.at_, _, sh.ents.map (·.1), rfl, .inl SH.dc, ?_, ?_, fun ys l hp hs nl => ?_⟩
      · rw [List.map_map, List.map_map]
        rfl
      · rw [e0, List.length_map] at h64
        rw [List.length_map]
        exact h64
      · have k3 := Kp.new (o := HO.lst (ys.map V.int)) k2.tab nl
        exact q ys l _ (by rw [e3]; exact hp) hs (k12.trans k3) (k12.free nl) upd_same
/-! ### needs -/
theorem scNeeds : FnScope ["self", "ware", "make"] ["self", "ware", "make"] (defScope sNeeds) := ⟨rfl, rfl, rfl, by decide +kernel, rfl, by decide +kernel, by decide +kernel⟩
def spNeeds (K : PySem.W.Frag) (C Tb N : Addr) : Sp := fun vs H Q E => ∃ (A : List Addr) (p D : Addr) (st : List Shelf) (wv mv : V) (wd md : PyData), vs = [.ref p, wv, mv] ∧ ShopAt K C A H p D st ∧ Dq K H wv wd ∧ okS wd = true ∧ Dq K H mv md ∧ GxR.TabG H Tb ∧
  (hasB st wd md = false → ∀ H', Kp Tb H H' → E (.ref N) none H') ∧
  ∀ x m, wd = .str x → md = .int m → hasB st wd md = true → ∀ (xs : List V) (ds : List PyData) l H', findD (dataOf st x) m = some (m, ds) → Kp Tb H H' → H l = none → H' l = some (.lst xs) → DpAll K (hide A H') xs ds → Q (.ref l) H'
theorem ok_needs {f C Tb fH N : Addr} {fd fdH : FuncData} (F : Fun K "needs" "Shop.needs" sNeeds f fd) (T : ShopT K mg C) (XN : ExT K mg "NoMake" N)
    (GH : FnOk P w K mg base CX0 3 fH fdH ["self", "ware", "make"] (spHas K C Tb)) (bH : Binds K fdH ["self", "ware", "make"] []) (mH : Meth K C "_has" fH) :
    FnOk P w K mg base (L2N.CX P w) 4 f fd ["self", "ware", "make"] (spNeeds K C Tb N) := by
  refine Fun.okN F scNeeds (fun vs H Q E h => ?_) (fun cdv A outer s H vs Q E hr h => ?_)
  · obtain ⟨A, p, D, st, wv, mv, wd, md, rfl, _⟩ := h
    rfl
  · obtain ⟨A, p, D, st, wv, mv, wd, md, rfl, S, dw, ho, dm, ht, q1, q⟩ := h
    have hu := hu_of hr
    refine ⟨_, pss_cons (ps_if (pt_not (pt_val (pe_meth (pv 0) T.cl mH GH hr bH .nil pass0 (pa_cons (pv 1) (pa_cons (pv 2) pa_nil))))) (pss_one (L2N.ps_raise rfl (L2N.takes_of rfl rfl rfl rfl) (L2N.pmk_own PySem.F.excBase_ValueError XN.xP XN.gC XN.kP (raises_own XN.bP XN.tP) rfl))) pss_nil)
      (PSs.nox (pss_one (ps_ret (pe_callTy call_list_of (by rfl) T.lst boot_list (pa_cons (pe_dget hu (pe_dget hu (pe_fld (pv 0) rfl) (pv 1) (fun _ _ => rfl)) (pv 2) (fun _ _ => rfl)) pa_nil))))), ?_⟩
    obtain ⟨dx, e1⟩ := S.ob
    refine ⟨_, rfl, p, dx, _, rfl, e1, flS_no D (by decide +kernel), _, rfl, _, rfl, A, p, D, st, _, _, _, _, rfl, S, dw, ho, dm, ht, fun H1 k1 => ⟨_, rfl, ?_⟩⟩
    cases hh : hasB st wd md with
    | false => exact iteT (q1 hh H1 k1)
    | true =>
    obtain ⟨x, m, rfl, rfl⟩ := hasB_kinds hh
    have q := q x m rfl rfl hh
    cases dw
    cases dm
    obtain ⟨sh, e, el, ee⟩ := hasB_ex hh
    have S1 := S.keptP k1
    obtain ⟨dx1, e2⟩ := S1.ob
    have SH := S1.bx.sh sh (look_mem el).1
    have gD : DGet H1 D (.str x) (some (.ref sh.at_)) := by
      have z := DGet.k (k := (Sum.inr x : Key)) S1.bx.dc
      rw [look_val, el] at z
      exact z
    have gE : DGet H1 sh.at_ (.int m) (some (.ref e.2.1)) := by
      have z := DGet.k (k := (Sum.inl m : Key)) SH.dc
      rw [lookE_val, ee] at z
      exact z
    have de := SH.dp e (lookE_mem ee).1
    have em := (lookE_mem ee).2
    cases de with
    | @lst _ xs _ hxs hall =>
      have hx1 : SqL K H1 e.2.1 xs := by
        rcases hxs with (a | ⟨o, a⟩) | a
        · exact .inl (.inl (hide_some a).1)
        · exact .inl (.inr ⟨o, (hide_some a).1⟩)
        · exact .inr a
      refine iteF ⟨_, rfl, p, C, dx1, _, _, rfl, e2, T.cl, T.nS, flS_look D, _, rfl, D, _, rfl, gD, _, rfl, sh.at_, _, rfl, gE, _, xs, rfl, .inl hx1, fun l nl => ?_⟩
      have k2 := Kp.new (o := HO.lst xs) k1.tab nl
      refine q xs e.2.2 l _ ?_ (k1.trans k2) (k1.free nl) upd_same (dpAll_mono (fun b o hs eb => ?_) _ _ hall)
      · have e0 : dataOf st x = sh.ents.map entD := by unfold dataOf; rw [el]; rfl
        rw [e0, findD_ents, ee, ← em]
        rfl
      · obtain ⟨a1, a2⟩ := hide_some eb
        exact hide_of (k2.keep b o (isSeq_ne_tab k2.t0 hs a1) a1) a2
/-! ### wares -/
theorem scWares : FnScope ["self"] ["self"] (defScope sWares) := ⟨rfl, rfl, rfl, by decide +kernel, rfl, by decide +kernel, by decide +kernel⟩
def spWares (K : PySem.W.Frag) (C Tb : Addr) : Sp := fun vs H Q _ => ∃ (A : List Addr) (p D : Addr) (st : List Shelf), vs = [.ref p] ∧ ShopAt K C A H p D st ∧ GxR.TabG H Tb ∧ st.length < 64 ∧
  ∀ (ys : List Str) l H', ys.Perm (st.map (·.ware)) → sortedS ys = true → Kp Tb H H' → H l = none → H' l = some (.lst (ys.map V.str)) → Q (.ref l) H'
theorem ok_wares {f C Tb : Addr} {fd : FuncData} (F : Fun K "wares" "Shop.wares" sWares f fd) (T : ShopT K mg C) : FnOk P w K mg base CX0 1 f fd ["self"] (spWares K C Tb) := by
  refine F.ok scWares (fun vs H Q E h => ?_) (fun cdv A outer s H vs Q E hr h => ?_)
  · obtain ⟨A, p, D, st, rfl, _⟩ := h
    rfl
  · obtain ⟨A, p, D, st, rfl, S, ht, h64, q⟩ := h
    refine ⟨_, pss_one (ps_ret (pe_callB (call_sortedD rfl) (by rfl) T.srt (by decide +kernel) (pa_cons (pe_fld (pv 0) rfl) pa_nil))), ?_⟩
    obtain ⟨dx, e1⟩ := S.ob
    refine ⟨_, rfl, p, C, dx, _, _, rfl, e1, T.cl, T.nS, flS_look D, D, _, st.map (·.ware), rfl, .inl S.bx.dc, ?_, by rw [List.length_map]; exact h64, fun ys l hp hs nl => ?_⟩
    · rw [List.map_map, List.map_map]
      rfl
    · exact q ys l _ hp hs (Kp.new ht nl) nl upd_same
end
end Pk

set_option Elab.async false
set_option linter.all false
set_option maxRecDepth 100000
set_option maxHeartbeats 4000000
namespace Pk
open PySem PySem.Spec PyProof.Rows L2
/-! ### xs[::k], k one or less one -/
def tStepL (K : PySem.W.Frag) (te ts : TE) : TE := fun σ H Q => te σ H fun x H1 => tPart ts σ H1 fun o H2 => ∃ a xs, x = .ref a ∧ SqL K H2 a xs ∧
  ((o = some 1 ∧ ∀ p, H2 p = none → Q (.ref p) (upd H2 p (.lst xs))) ∨ (o = some (-1) ∧ ∀ p, H2 p = none → Q (.ref p) (upd H2 p (.lst xs.reverse))))
theorem cutV_all (xs : List V) : cutV xs none none = xs := by
  unfold cutV
  rw [HT.sIx_none, HT.sIx_none, List.drop_zero, Nat.sub_zero, List.take_length]
section
variable {X : Cx}
theorem pe_stepL {e f : Expr} {te ts : TE} {p3 pos : Pos} (he : PE X e te) (hf : PE X f ts) : PE X (.Subscript e (.Slice none none (some f) p3) pos) (tStepL X.K te ts) := by
  refine ⟨fun pins s σ H Q I h => ?_⟩
  refine Subscript_ (thn (he.run pins s σ H _ I h) fun v s1 ⟨x, H1, I1, r1, q1⟩ => ?_)
  have hst : PO X (some f) (tPart ts) := po_some hf
  refine wpAny_Slice (thn (po_none.run pins s1 σ H1 (fun o H2 => o = none ∧ H2 = H1) I1 ⟨rfl, rfl⟩) fun vl s2 ⟨l, H2, I2, pl, el, e2⟩ => ?_)
  subst el e2
  refine thn (po_none.run pins s2 σ H2 (fun o H3 => o = none ∧ H3 = H2) I2 ⟨rfl, rfl⟩) fun vu s3 ⟨u, H3, I3, pu, eu, e3⟩ => ?_
  subst eu e3
  refine thn (hst.run pins s3 σ H3 _ I3 q1) fun vs s4 ⟨o, H4, I4, ps, q4⟩ => ?_
  obtain ⟨a, xs, ex, hx, q⟩ := q4
  subst ex
  cases r1
  have I5 : Inv X pins σ H4 { s4 with heap := s4.heap.push { cls := .type "slice", data := .fields #[vl, vu, vs] } } := I4.kept (t' := s4.toks) fun b ob q => Heap.get?_push_of_some _ q
  obtain ⟨its, r, ht, hz⟩ := I5.list hx
  have hlen := r.length
  show wpAny (model X.prog X.w) X.A (subscriptTail e (.Slice none none (some f) p3) (.ref a) (.ref s4.heap.objs.size)) (EP X pins σ Q) X.xe { s4 with heap := s4.heap.push { cls := .type "slice", data := .fields #[vl, vu, vs] } }
  refine tail_any (ops := [.ref a, .ref s4.heap.objs.size]) ht.isList.typeIs (PySem.slot_list_getitem.lookup) ?_ (by with_unfolding_all rfl)
  rcases q with ⟨rfl, q⟩ | ⟨rfl, q⟩
  · refine wpAny_getItem_list_slice ht.isList (Heap.IsSliceOf.new _ vl vu vs) pl pu ps (by decide) ?_ (by rw [List.size_toArray]; omega)
    rw [show slicePick its.toArray none none (some 1) = slicePick its.toArray none none none from rfl, slicePick_cut, HT.sIx_none, HT.sIx_none, List.drop_zero, Nat.sub_zero, List.take_length]
    refine ⟨.ref _, _, I5.laid (t' := s4.toks) (o := .lst xs) (fun b ob q => Heap.get?_push_of_some _ q) (Nat.le_refl _) ?_, rfl, q _ (I5.hok.fresh (Nat.le_refl _))⟩
    exact ⟨hz, _, 0, r, Heap.get?_push_size _ rfl⟩
  · refine wpAny_getItem_list_slice ht.isList (Heap.IsSliceOf.new _ vl vu vs) pl pu ps (by decide) ?_ (by rw [List.size_toArray]; omega)
    rw [PySem.W.krv_pick]
    refine ⟨.ref _, _, I5.laid (t' := s4.toks) (o := .lst xs.reverse) (fun b ob q => Heap.get?_push_of_some _ q) (Nat.le_refl _) ?_, rfl, q _ (I5.hok.fresh (Nat.le_refl _))⟩
    exact ⟨by rw [List.length_reverse]; exact hz, _, 0, r.reverse, Heap.get?_push_size _ rfl⟩
end
abbrev sMixed : Stmt := topS 25
abbrev sNames : Stmt := topS 26
/-! ### wares by their signs -/
theorem all_az {l : List Nat} (h : Az l) : l.all azB = true := by
  rw [List.all_eq_true]
  intro c hc
  have := h c hc
  rw [azB_iff, decide_eq_true this.1, decide_eq_true this.2] <;> rfl
theorem ware_S {l : List Nat} (h : Az l) (h1 : 1 ≤ l.length) (h8 : l.length ≤ 8) : wareB (.str (SX.S l)) = true := by
  show (decide _ && decide _ && _) = true
  rw [SX.S_len, decide_eq_true h1, decide_eq_true h8, show (SX.S l).cps.toList = l by simp, all_az h] <;> rfl
theorem okS_az {l : List Nat} (h : Az l) (h8 : l.length ≤ 1000) : okS (.str (SX.S l)) = true := okS_S h.ok h8
theorem letters_az : Az letters := fun c hc => by
  obtain ⟨i, hi, rfl⟩ := List.mem_map.mp hc
  have := List.mem_range.mp hi
  omega
theorem cutS_to {l : List Nat} {a : Int} (h0 : 0 ≤ a) : cutS (SX.S l) none (some a) = SX.S (l.take a.toNat) := by
  have e : a = ((a.toNat : Nat) : Int) := by omega
  unfold cutS
  rw [HT.sIx_none, e, HT.sIx_nat, List.drop_zero, Nat.sub_zero, SX.S_len, show (SX.S l).cps.toList = l by simp]
  congr 2
  rw [show ((a.toNat : Nat) : Int).toNat = a.toNat by omega]
  by_cases h : a.toNat ≤ l.length
  · rw [Nat.min_eq_left h]
  · rw [Nat.min_eq_right (by omega), List.take_length, List.take_of_length_le (by omega)]
theorem cutS_from {l : List Nat} {a : Int} (h0 : 0 ≤ a) : cutS (SX.S l) (some a) none = SX.S (l.drop a.toNat) := by
  have e : a = ((a.toNat : Nat) : Int) := by omega
  unfold cutS
  rw [HT.sIx_none, e, HT.sIx_nat, SX.S_len, show (SX.S l).cps.toList = l by simp]
  congr 2
  rw [show ((a.toNat : Nat) : Int).toNat = a.toNat by omega]
  by_cases h : a.toNat ≤ l.length
  · rw [Nat.min_eq_left h, List.take_of_length_le (by rw [List.length_drop]; omega)]
  · rw [Nat.min_eq_right (by omega), List.drop_length, List.drop_eq_nil_of_le (by omega)]
    exact List.take_nil
theorem Az.sub {l m : List Nat} (h : Az l) (hs : ∀ c ∈ m, c ∈ l) : Az m := fun c hc => h c (hs c hc)
theorem Az.app {l m : List Nat} (h : Az l) (h2 : Az m) : Az (l ++ m) := fun c hc => (List.mem_append.mp hc).elim (h c) (h2 c)
section
variable {P : Program} {w : World} {K : PySem.W.Frag} {mg : Str → Option Value} {base : Heap}
/-! ### the law's mixed -/
theorem scMixed : FnScope ["_law_script", "_law_k", "_law_cell", "_law_number"] ["_law_script", "_law_k"] (defScope sMixed) := ⟨rfl, rfl, rfl, by decide +kernel, rfl, by decide +kernel, by decide +kernel⟩
def spMixed (K : PySem.W.Frag) : Sp := fun vs H Q _ => ∃ (a : Addr) (ns : List Int) (k : Nat), vs = [.ref a, .int k] ∧ SqL K H a (ns.map V.int) ∧ k ≤ 1000 ∧ ∀ n : Int, 0 ≤ n → n < 2147483629 → Q (.int n) H
theorem ok_mixed {f : Addr} {fd : FuncData} (F : Fun K "_law_mixed" "_law_mixed" sMixed f fd) (mL : mg "len" = none) : FnOk P w K mg base CX0 1 f fd ["_law_script", "_law_k"] (spMixed K) := by
  refine F.ok scMixed (fun vs H Q E h => ?_) (fun cdv A outer s H vs Q E hr h => ?_)
  · obtain ⟨a, ns, k, rfl, _⟩ := h
    rfl
  · obtain ⟨a, ns, k, rfl, hS, hk, q⟩ := h
    refine ⟨_, pss_cons (ps_set (i := 2) scMixed.nd rfl (.inl rfl) pe_int)
      (C8.pss_cut (ps_if (pt_cmpR op_gt (pe_callB call_len_seq (by rfl) mL PySem.boot_len (pa_cons (pv 0) pa_nil)) pe_int (nomark _)) (pss_one (ps_set (i := 2) scMixed.nd rfl (.inl rfl) (pe_ix ix_list (pv 0) (pe_op op_mod (pv 1) (pe_callB call_len_seq (by rfl) mL PySem.boot_len (pa_cons (pv 0) pa_nil))) (fun _ _ => rfl)))) pss_nil)
      (pss_cons (ps_set (i := 3) scMixed.nd rfl (.inl rfl) (pe_op op_mod (pe_op op_mul (pe_op op_add (pv 2) (pe_op op_mul pe_int (pv 1))) pe_int) pe_int))
      (pss_one (ps_ret (pe_op op_mod (pe_op op_mul (pv 3) (pe_op op_add pe_int (pe_op op_mul (pv 1) (pv 1)))) pe_int))))), ?_⟩
    refine ⟨fun σ' H' => ∃ c : Int, σ' = [some (.ref a), some (.int k), some (.int c), none] ∧ H' = H, ?_, fun σ' H' hm => ?_⟩
    · refine ⟨_, rfl, a, _, rfl, .inl hS, _, _, rfl, rfl, _, rfl, iteD (fun h => ?_) (fun h => ?_)⟩
      · rw [List.length_map] at h
        refine ⟨_, rfl, _, rfl, _, rfl, a, _, rfl, .inl hS, _, _, rfl, rfl, (by rw [List.length_map]; exact h), ?_⟩
        have hm0 : 0 ≤ (k : Int) % (ns.length : Int) := Int.emod_nonneg _ (by omega)
        have hm1 : (k : Int) % (ns.length : Int) < (ns.length : Int) := Int.emod_lt_of_pos _ (by omega)
        obtain ⟨v, hv, c, rfl⟩ := at_pick (xs := ns.map V.int) (i := (k : Int) % ((ns.map V.int).length : Int)) (p := fun v => ∃ c : Int, v = .int c) (by rw [List.length_map]; exact hm0) (by rw [List.length_map]; exact hm1) (fun x hx => by
          obtain ⟨c, _, rfl⟩ := List.mem_map.mp hx
          exact ⟨c, rfl⟩)
        exact ⟨a, _, _, _, rfl, rfl, hS, hv, c, rfl, rfl⟩
      · exact ⟨0, rfl, rfl⟩
    · obtain ⟨c, rfl, rfl⟩ := hm
      refine ⟨_, rfl, _, rfl, 7919, k, rfl, rfl, .inl ⟨by decide, by decide⟩, c, _, rfl, rfl, _, 48271, rfl, rfl, .inr ⟨by decide, by decide⟩, _, 2147483647, rfl, rfl, (by show (0 : Int) < 2147483647; decide), ?_⟩
      have h0 : 0 ≤ (c + 7919 * (k : Int)) * 48271 % 2147483647 := Int.emod_nonneg _ (by decide)
      have h1 : (c + 7919 * (k : Int)) * 48271 % 2147483647 < 2147483647 := Int.emod_lt_of_pos _ (by decide)
      refine ⟨_, rfl, _, rfl, _, rfl, k, k, rfl, rfl, .inl ⟨by omega, by omega⟩, 16807, _, rfl, rfl, _, _, rfl, rfl, .inl ⟨by omega, by omega⟩, _, 2147483629, rfl, rfl, (by show (0 : Int) < 2147483629; decide), ?_⟩
      exact q _ (Int.emod_nonneg _ (by decide)) (Int.emod_lt_of_pos _ (by decide))
end
end Pk

set_option Elab.async false
set_option linter.all false
set_option maxRecDepth 100000
set_option maxHeartbeats 4000000
namespace Pk
open PySem PySem.Spec PyProof.Rows L2
/-- the texts of a comprehension that joins one sign each -/
theorem join_ones2 (l : List Nat) : Txt.join ("" : Str) (l.map fun c => (⟨#[c]⟩ : Str)) = SX.S l := by
  have e1 : ("" : Str) = SX.S [] := by decide +kernel
  have e2 : (l.map fun c => (⟨#[c]⟩ : Str)) = (l.map fun c => [c]).map SX.S := by
    rw [List.map_map]
    rfl
  have e3 : ∀ ls : List (List Nat), TL.joinL [] ls = ls.flatten := by
    intro ls
    induction ls with
    | nil => rfl
    | cons p r ih =>
      cases r with
      | nil => simp [TL.joinL]
      | cons q r =>
        show p ++ ([] ++ TL.joinL [] (q :: r)) = _
        rw [ih, List.nil_append]
        rfl
  rw [e1, e2, SX.join_S, e3]
  congr 1
  induction l with
  | nil => rfl
  | cons x r ih =>
    rw [List.map_cons, List.flatten_cons, ih]
    · rfl
    · rw [List.map_map]
      rfl
theorem sum_ones : ∀ l : List Nat, ((l.map fun c => (⟨#[c]⟩ : Str)).map (·.length)).sum = l.length
  | [] => rfl
  | x :: r => by
    rw [List.map_cons, List.map_cons, List.sum_cons, sum_ones r, List.length_cons]
    show 1 + r.length = r.length + 1
    omega
def frameL (n : Int) : List Nat := (List.range (n / 2 % 8).toNat).map fun (j : Nat) => 97 + ((n / 7 + 5 * (j : Int)) % 26).toNat
theorem frameL_len (n : Int) : (frameL n).length ≤ 7 := by
  unfold frameL
  rw [List.length_map, List.length_range]
  omega
theorem frameL_az (n : Int) : Az (frameL n) := fun x hx => by
  obtain ⟨j, _, rfl⟩ := List.mem_map.mp hx
  omega
def GoodN (x : Str) : Prop := wareB (.str x) = true ∧ okS (.str x) = true
theorem goodN {l : List Nat} (h : Az l) (h1 : 1 ≤ l.length) (h8 : l.length ≤ 8) : GoodN (SX.S l) := ⟨ware_S h h1 h8, okS_az h (by omega)⟩
def nameL (fr : List Nat) (k : Nat) (c : Nat) : List Nat := fr.take k ++ [c] ++ fr.drop k
def nameS (fr : List Nat) (k : Nat) (b st : Int) (j : Nat) : Str := SX.S (nameL fr k (97 + ((b + st * (0 + (j : Int))) % 26).toNat))
theorem S_inj {l m : List Nat} (h : SX.S l = SX.S m) : l = m := by
  have z : (SX.S l).cps.toList = (SX.S m).cps.toList := by rw [h]
  simpa using z
theorem names_nodup {fr : List Nat} {k : Nat} {b st : Int} (hs : st = 3 ∨ st = 23) {m : Nat} (hm : m ≤ 26) : ((List.range m).map (nameS fr k b st)).Nodup := by
  refine (List.pairwise_map).mpr ((List.pairwise_lt_range (n := m)).imp_of_mem ?_)
  intro i j hi hj hlt e
  have hi := List.mem_range.mp hi
  have hj := List.mem_range.mp hj
  have e1 := S_inj e
  unfold nameL at e1
  have e2 := List.append_cancel_left (List.append_cancel_right e1)
  have e3 : 97 + ((b + st * (0 + (i : Int))) % 26).toNat = 97 + ((b + st * (0 + (j : Int))) % 26).toNat := (List.cons.inj e2).1
  rcases hs with rfl | rfl <;> omega
section
variable {P : Program} {w : World} {K : PySem.W.Frag} {mg : Str → Option Value} {base : Heap}
def namesN : List Str := ["_law_script", "_law_many", "_law_letters", "_law_number", "_law_step", "_law_frame", "_law_at", "_law_names_here", "_law_k", "_law_sign", "_law_j"]
theorem scNames : FnScope namesN ["_law_script", "_law_many"] (defScope sNames) := ⟨rfl, rfl, rfl, by decide +kernel, rfl, by decide +kernel, by decide +kernel⟩
def spNames (K : PySem.W.Frag) (T : Addr) : Sp := fun vs H Q _ => ∃ (a : Addr) (ns : List Int) (k : Nat), vs = [.ref a, .int k] ∧ SqL K H a (ns.map V.int) ∧ (9 ≤ k ∧ k ≤ 26) ∧ GxR.TabG H T ∧ ∀ (names : List Str) l H', names.length = k → (∀ y ∈ names, GoodN y) → names.Nodup → Kp T H H' → H l = none → H' l = some (.lst (names.map V.str)) → Q (.ref l) H'
theorem ok_names {f fX T : Addr} {fd fdX : FuncData} (F : Fun K "_law_names" "_law_names" sNames f fd) (FX : Fun K "_law_mixed" "_law_mixed" sMixed fX fdX) (bX : Binds K fdX ["_law_script", "_law_k"] []) (gX : mg "_law_mixed" = some (.ref fX))
    (mL : mg "len" = none) (mR : mg "range" = none) : FnOk P w K mg base CX0 2 f fd ["_law_script", "_law_many"] (spNames K T) := by
  have GX : FnOk P w K mg base CX0 1 fX fdX ["_law_script", "_law_k"] (spMixed K) := ok_mixed FX mL
  refine F.ok scNames (fun vs H Q E h => ?_) (fun cdv A outer s H vs Q E hr h => ?_)
  · obtain ⟨a, ns, k, rfl, _⟩ := h
    rfl
  · obtain ⟨a, ns, k, rfl, hS, ⟨hk9, hk26⟩, ht, q⟩ := h
    refine ⟨_, pss_cons (ps_set (i := 2) scNames.nd rfl (.inr rfl) pe_str)
      (pss_cons (ps_set (i := 3) scNames.nd rfl (.inr rfl) (pe_call GX hr (by rfl) gX FX.kp bX .nil pass0 (pa_cons (pv 0) (pa_cons pe_int pa_nil))))
      (pss_cons (ps_set (i := 4) scNames.nd rfl (.inl rfl) (pe_ix ix_list (pe_lst (pa_cons pe_int (pa_cons pe_int pa_nil))) (pe_op op_mod (pv 3) pe_int) (fun _ _ => rfl)))
      (pss_cons (ps_set (i := 5) scNames.nd rfl (.inr rfl) (pe_join pe_str (pe_lc (own := [("_law_j", 10)]) (g := gName 10) (tt := tYes) rfl scNames.nd (pi_range1 (by rfl) mR (pa_cons (pe_op op_mod (pe_op op_fdiv (pv 3) pe_int) pe_int) pa_nil))
          (blkOk_by (own := [("_law_j", 10)]) (N := namesN) (sc := defScope sNames) (by decide +kernel)) (fun _ _ _ _ _ => pg_name (i := 10) scNames.nd rfl (Or.inl rfl)) (fun _ _ _ _ _ => pts_nil)
          (fun _ _ _ _ _ => pe_ix ix_str (pv 2) (pe_op op_mod (pe_op op_add (pe_op op_fdiv (pv 3) pe_int) (pe_op op_mul pe_int (pv 10))) pe_int) (fun _ _ => rfl)))))
      (pss_cons (ps_set (i := 6) scNames.nd rfl (.inl rfl) (pe_op op_mod (pe_op op_fdiv (pv 3) pe_int) (pe_op op_add (pe_callB call_len_str (by rfl) mL PySem.boot_len (pa_cons (pv 5) pa_nil)) pe_int)))
      (pss_cons (ps_set (i := 7) scNames.nd rfl (.inl rfl) (pe_lst pa_nil))
      (pss_cons (ps_for PassesOwn.never rfl (pi_range1 (by rfl) mR (pa_cons (pv 1) pa_nil)) (pg_name (i := 8) scNames.nd rfl (.inl rfl))
        (pss_cons (ps_set (i := 9) scNames.nd rfl (.inl rfl) (pe_ix ix_str (pv 2) (pe_op op_mod (pe_op op_add (pe_op op_fdiv (pv 3) pe_int) (pe_op op_mul (pv 4) (pv 8))) pe_int) (fun _ _ => rfl)))
        (pss_one (ps_expr (pe_bm PySem.F.plainAttrs_list PySem.F.slot_list_append PySem.F.type_list_append mt_append (pv 7) (pa_cons (pe_op op_add_str (pe_op op_add_str (pe_slice sl_str (pv 5) po_none (po_some (pv 6))) (pv 9)) (pe_slice sl_str (pv 5) (po_some (pv 6)) po_none)) pa_nil))))))
      (C8.pss_cut (ps_if (PW.pt (pw_and (pt_cmpR op_eq (pe_op op_mod (pe_op op_fdiv (pv 3) pe_int) pe_int) pe_int (nomark _)) (pw_and1 (pt_cmpR op_lt (pv 1) pe_int (nomark _)))))
        (pss_one (ps_setLc (i := 7) (own := [("_law_k", 8)]) (g := gName 8) (tt := tYes) rfl scNames.nd rfl rfl (sw_true rfl rfl rfl (by decide +kernel)) (pi_range1 (by rfl) mR (pa_cons (pv 1) pa_nil))
          (blkOk_by (own := [("_law_k", 8)]) (N := namesN) (sc := defScope sNames) (by decide +kernel)) (fun _ _ _ _ _ => pg_name (i := 8) scNames.nd rfl (Or.inl rfl)) (fun _ _ _ _ _ => pts_nil)
          (fun _ _ _ _ _ => pe_slice sl_str (pe_op op_add_str (pe_op op_add_str (pv 5) (pe_slice sl_str (pv 2) (po_some (pe_op op_mod (pe_op op_fdiv (pv 3) pe_int) pe_int)) po_none)) (pv 2)) po_none (po_some (pe_op op_add pe_int (pv 8)))))) pss_nil)
      (pss_one (ps_ret (pe_stepL (pv 7) (pe_ix ix_list (pe_lst (pa_cons pe_int (pa_cons (pe_un un_neg pe_int) pa_nil))) (pe_op op_mod (pe_op op_fdiv (pv 3) pe_int) pe_int) (fun _ _ => rfl)))))))))))), ?_⟩
    refine ⟨_, rfl, a, ns, 1, rfl, hS, (by decide), fun n h0 hmax => ?_⟩
    -- step
    refine ⟨(by show (2 : Nat) ≤ sizeLine; decide), fun p1 np1 => ?_⟩
    have k1 := Kp.new (o := HO.lst [.int 3, .int 23]) ht np1
    obtain ⟨v, hv, st, rfl, hst⟩ := at_pick (xs := [V.int 3, .int 23]) (i := n % 2) (p := fun v => ∃ s : Int, v = .int s ∧ (s = 3 ∨ s = 23)) (by omega) (by show n % 2 < ((2 : Nat) : Int); omega) (fun x hx => by
      simp only [List.mem_cons, List.not_mem_nil, or_false] at hx
      rcases hx with rfl | rfl
      · exact ⟨_, rfl, .inl rfl⟩
      · exact ⟨_, rfl, .inr rfl⟩)
    refine ⟨_, rfl, n, 2, rfl, rfl, (by show (0 : Int) < 2; decide), p1, _, _, _, rfl, rfl, .inl (.of upd_same), hv, ?_⟩
    have t1 := k1.tab
    generalize upd H p1 (.lst [.int 3, .int 23]) = H1 at k1 t1 ⊢
    -- frame
    refine ⟨⟨_, rfl⟩, _, rfl, n, 2, rfl, rfl, ⟨by decide, by decide⟩, _, 8, rfl, rfl, (by show (0 : Int) < 8; decide), n / 2 % 8, rfl, (by omega), (by omega), fun D nD => ?_⟩
    refine lc_range (lo := 0) (n := (n / 2 % 8).toNat) (fun i H' => H' = upd H1 D (.lst (((frameL n).take i).map fun x => V.str ⟨#[x]⟩))) rfl (fun i H' hi e => ?_) (fun H' e => ?_)
    · subst e
      refine ⟨rfl, ?_⟩
      refine ⟨_, rfl, _, rfl, n, 7, rfl, rfl, ⟨by decide, by decide⟩, _, rfl, 5, 0 + (i : Int), rfl, rfl, .inl ⟨by decide, by decide⟩, _, _, rfl, rfl, _, _, rfl, rfl, (by show (0 : Int) < 26; decide), ?_⟩
      refine ⟨_, _, 97 + ((n / 7 + 5 * (0 + (i : Int))) % 26).toNat, rfl, rfl, (by rw [letters_eq, SX.S_len]; exact line1000 (by decide)), ?_, _, upd_same, ?_, ?_⟩
      · rw [letters_eq]
        exact letters_at (by omega) (by omega)
      · rw [List.length_map, List.length_take]
        exact small1000 (by have := frameL_len n; omega)
      · rw [upd_upd]
        have e1 : (frameL n)[i]? = some (97 + ((n / 7 + 5 * (0 + (i : Int))) % 26).toNat) := by
          unfold frameL
          rw [List.getElem?_map, List.getElem?_range hi, Int.zero_add]
          rfl
        rw [List.take_add_one, e1, List.map_append]
        rfl
    subst e
    have el : (frameL n).length = (n / 2 % 8).toNat := by
      unfold frameL
      rw [List.length_map, List.length_range]
    have hfl := frameL_len n
    have hfa := frameL_az n
    have k2 := Kp.new (o := HO.lst (((frameL n).take (n / 2 % 8).toNat).map fun x => V.str ⟨#[x]⟩)) t1 nD
    refine ⟨_, D, (frameL n).map fun x => ⟨#[x]⟩, rfl, rfl, .inl (.of (by
      rw [upd_same, List.take_of_length_le (by omega), List.map_map]
      rfl)), ?_, ?_⟩
    · rw [sum_ones]
      have e5 : (("" : Str)).length = 0 := by decide +kernel
      rw [e5]
      omega
    rw [join_ones2]
    have k12 := k1.trans k2
    have t2 := k2.tab
    generalize upd H1 D (.lst (((frameL n).take (n / 2 % 8).toNat).map fun x => V.str ⟨#[x]⟩)) = H2 at k12 t2 ⊢
    clear k2 nD k1 t1
    generalize hF : frameL n = fr at hfl hfa ⊢
    have hfS : (SX.S fr).length = fr.length := SX.S_len _
    -- at
    refine ⟨_, rfl, n, 56, rfl, rfl, ⟨by decide, by decide⟩, _, rfl, _, rfl, line1000 (by omega), _, 1, rfl, rfl, n / 56, _, rfl, rfl, (by show (0 : Int) < ((SX.S fr).length : Int) + 1; omega), ?_⟩
    have hat0 : 0 ≤ n / 56 % (((SX.S fr).length : Int) + 1) := Int.emod_nonneg _ (by omega)
    -- the names
    refine ⟨(by show (0 : Nat) ≤ sizeLine; decide), fun L nL => ?_⟩
    have k3 := Kp.new (o := HO.lst []) t2 nL
    have nLH := k12.free nL
    have LT := tab_nn t2 nL
    refine ⟨_, rfl, k, rfl, (by omega), (by omega), for_range (lo := 0) (n := (k : Int).toNat) (fun i σ' H' => ∃ (x8 x9 : Option V) (names : List Str), σ' = [some (.ref a), some (.int k), some (.str "abcdefghijklmnopqrstuvwxyz"), some (.int n), some (.int st), some (.str (SX.S fr)), some (.int (n / 56 % (((SX.S fr).length : Int) + 1))), some (.ref L), x8, x9, none] ∧
        Kp T H H' ∧ H' L = some (.lst (names.map V.str)) ∧ names = (List.range i).map (nameS fr (n / 56 % (((SX.S fr).length : Int) + 1)).toNat (n / 504) st) ∧ ∀ y ∈ names, GoodN y)
      ⟨none, none, [], rfl, k12.trans k3, upd_same, rfl, fun y hy => by cases hy⟩ (fun i σ' H' hi hm => ?_) (fun σ' H' hm => ?_)⟩
    · obtain ⟨x8, x9, names, rfl, kk, hL, hnm, hgd⟩ := hm
      have hln : names.length = i := by rw [hnm, List.length_map, List.length_range]
      have hik : i < k := by omega
      have hstb : 0 ≤ st ∧ st ≤ 23 := by rcases hst with rfl | rfl <;> omega
      refine ⟨_, rfl, _, rfl, n, 504, rfl, rfl, ⟨by decide, by decide⟩, _, rfl, _, rfl, st, 0 + (i : Int), rfl, rfl, .inl ⟨by omega, by omega⟩, _, _, rfl, rfl, _, 26, rfl, rfl, (by show (0 : Int) < 26; decide), ?_⟩
      refine ⟨_, _, 97 + ((n / 504 + st * (0 + (i : Int))) % 26).toNat, rfl, rfl, (by rw [letters_eq, SX.S_len]; exact line1000 (by decide)), (by rw [letters_eq]; exact letters_at (by omega) (by omega)), ?_⟩
      have e1 := cutS_to (l := fr) hat0
      have e2 := cutS_from (l := fr) hat0
      have ha1 : (fr.take (n / 56 % (((SX.S fr).length : Int) + 1)).toNat).length + (fr.drop (n / 56 % (((SX.S fr).length : Int) + 1)).toNat).length = fr.length := by
        rw [← List.length_append, List.take_append_drop]
      have l1 : (cutS (SX.S fr) none (some (n / 56 % (((SX.S fr).length : Int) + 1)))).length ≤ 7 := by rw [e1, SX.S_len]; omega
      have l2 : (cutS (SX.S fr) (some (n / 56 % (((SX.S fr).length : Int) + 1))) none).length ≤ 7 := by rw [e2, SX.S_len]; omega
      have ec : (⟨#[97 + ((n / 504 + st * (0 + (i : Int))) % 26).toNat]⟩ : Str) = SX.S [97 + ((n / 504 + st * (0 + (i : Int))) % 26).toNat] := rfl
      have l3 : (cutS (SX.S fr) none (some (n / 56 % (((SX.S fr).length : Int) + 1))) ++ (⟨#[97 + ((n / 504 + st * (0 + (i : Int))) % 26).toNat]⟩ : Str)).length ≤ 8 := by
        rw [e1, ec, SX.S_cat, SX.S_len, List.length_append, List.length_singleton]; omega
      have l4 : ((⟨#[97 + ((n / 504 + st * (0 + (i : Int))) % 26).toNat]⟩ : Str)).length = 1 := rfl
      refine ⟨_, rfl, .inl ⟨rfl, _, .inl (.inl hL)⟩, _, rfl, _, rfl, _, rfl, _, rfl, line1000 (by omega), _, rfl, _, _, rfl, rfl, line1000 (by omega), _, rfl, _, rfl, _, rfl, _, rfl, line1000 (by omega), _, _, rfl, rfl, line1000 (by omega), ?_⟩
      refine ⟨L, _, _, rfl, rfl, hL, small1000 (by rw [List.length_map]; omega), ?_⟩
      refine ⟨_, _, names ++ [SX.S (fr.take (n / 56 % (((SX.S fr).length : Int) + 1)).toNat ++ [97 + ((n / 504 + st * (0 + (i : Int))) % 26).toNat] ++ fr.drop (n / 56 % (((SX.S fr).length : Int) + 1)).toNat)], rfl, kk.set nLH LT, ?_, ?_, ?_⟩
      · rw [upd_same, List.map_append, List.map_singleton, e1, e2, ec, SX.S_cat, SX.S_cat]
      · rw [List.range_succ, List.map_append, ← hnm]
        rfl
      · intro y hy
        rcases List.mem_append.mp hy with hy | hy
        · exact hgd y hy
        · rw [List.mem_singleton.mp hy]
          refine goodN ((Az.app (hfa.sub fun c hc => List.mem_of_mem_take hc) (fun c hc => ?_)).app (hfa.sub fun c hc => List.mem_of_mem_drop hc)) ?_ ?_
          · rw [List.mem_singleton.mp hc]; omega
          · rw [List.length_append, List.length_append, List.length_singleton]; omega
          · rw [List.length_append, List.length_append, List.length_singleton]; omega
    -- perhaps other names
    obtain ⟨x8, x9, names, rfl, kk, hL, hnm, hgd⟩ := hm
    have hln' : names.length = k := by rw [hnm, List.length_map, List.length_range]; omega
    have hnd : names.Nodup := by rw [hnm]; exact names_nodup hst (by omega)
    clear hnm
    refine ⟨fun σ2 H3 => ∃ (x8 x9 : Option V) (M : Addr) (names : List Str), σ2 = [some (.ref a), some (.int k), some (.str "abcdefghijklmnopqrstuvwxyz"), some (.int n), some (.int st), some (.str (SX.S fr)), some (.int (n / 56 % (((SX.S fr).length : Int) + 1))), some (.ref M), x8, x9, none] ∧
        Kp T H H3 ∧ H3 M = some (.lst (names.map V.str)) ∧ names.length = k ∧ (∀ y ∈ names, GoodN y) ∧ names.Nodup, ?_, fun σ2 H3 hm => ?_⟩
    · refine ⟨_, rfl, n, 16, rfl, rfl, ⟨by decide, by decide⟩, _, 3, rfl, rfl, (by show (0 : Int) < 3; decide), rfl, _, rfl, iteD (fun hz => ?_) (fun hz => ⟨x8, x9, L, names, rfl, kk, hL, hln', hgd, hnd⟩)⟩
      refine ⟨_, rfl, k, 9, rfl, rfl, _, rfl, iteD (fun hz2 => ?_) (fun hz2 => ⟨x8, x9, L, names, rfl, kk, hL, hln', hgd, hnd⟩)⟩
      exact absurd hz2 (by omega)
    · obtain ⟨x8, x9, M, names, rfl, kk, hL, hln, hgd, hnd⟩ := hm
      refine ⟨_, rfl, 1, rfl, (by show (2 : Nat) ≤ sizeLine; decide), fun p2 np2 => ?_⟩
      have k4 := Kp.new (o := HO.lst [.int 1, .int (-1)]) kk.tab np2
      have pk : ∃ v, atI [V.int 1, .int (-1)] (n / 48 % 2) = some v ∧ (v = .int 1 ∨ v = .int (-1)) := at_pick (by omega) (by show n / 48 % 2 < ((2 : Nat) : Int); omega) (fun x hx => by
        simp only [List.mem_cons, List.not_mem_nil, or_false] at hx
        exact hx)
      obtain ⟨v, hv, hv2⟩ := pk
      have hM := k4.lst hL
      rcases hv2 with rfl | rfl
      · refine ⟨_, rfl, n, 48, rfl, rfl, ⟨by decide, by decide⟩, _, 2, rfl, rfl, (by show (0 : Int) < 2; decide), p2, _, _, _, rfl, rfl, .inl (.of upd_same), hv, 1, rfl, M, _, rfl, .inl (.of hM), .inl ⟨rfl, fun r nr => ?_⟩⟩
        have k5 := Kp.new (o := HO.lst (names.map V.str)) k4.tab nr
        have k6 := kk.trans k4
        exact q names r _ hln hgd hnd (k6.trans k5) (k6.free nr) upd_same
      · refine ⟨_, rfl, n, 48, rfl, rfl, ⟨by decide, by decide⟩, _, 2, rfl, rfl, (by show (0 : Int) < 2; decide), p2, _, _, _, rfl, rfl, .inl (.of upd_same), hv, -1, rfl, M, _, rfl, .inl (.of hM), .inr ⟨rfl, fun r nr => ?_⟩⟩
        have k5 := Kp.new (o := HO.lst (names.map V.str).reverse) k4.tab nr
        have k6 := kk.trans k4
        exact q names.reverse r _ (by rw [List.length_reverse]; exact hln) (fun y hy => hgd y (List.mem_reverse.mp hy)) ((List.reverse_perm names).nodup_iff.mpr hnd) (k6.trans k5) (k6.free nr) (by rw [upd_same, List.map_reverse])
end
end Pk

set_option Elab.async false
set_option linter.all false
set_option maxRecDepth 100000
set_option maxHeartbeats 4000000
namespace Pk
open PySem PySem.Spec PyProof.Rows L2
abbrev sBadW : Stmt := topS 29
/-! ### things that are no ware -/
def BadW (d : PyData) : Prop := wareB d = false ∧ okS d = true
theorem badw_sign {l : List Nat} {c : Nat} (hc : c ∈ l) (hb : ¬ (97 ≤ c ∧ c ≤ 122)) (ho : Ok8 l) (hl : l.length ≤ 1000) : BadW (.str (SX.S l)) := by
  constructor
  · show (decide _ && decide _ && _) = false
    have z : (SX.S l).cps.toList.all azB = false := by
      rw [show (SX.S l).cps.toList = l by simp, List.all_eq_false]
      refine ⟨c, hc, fun q => hb ?_⟩
      rw [azB_iff, Bool.and_eq_true] at q
      exact ⟨of_decide_eq_true q.1, of_decide_eq_true q.2⟩
    rw [z, Bool.and_false]
  · exact okS_S ho hl
theorem good_ex {y : Str} (h : GoodN y) : ∃ l, y = SX.S l ∧ Az l ∧ 1 ≤ l.length ∧ l.length ≤ 8 := by
  have z : (decide (1 ≤ y.length) && decide (y.length ≤ 8) && y.cps.toList.all azB) = true := h.1
  simp only [Bool.and_eq_true, List.all_eq_true] at z
  refine ⟨y.cps.toList, ?_, fun c hc => ?_, of_decide_eq_true z.1.1, of_decide_eq_true z.1.2⟩
  · cases y with
    | mk a => simp [SX.S]
  · have q := z.2 c hc
    rw [azB_iff, Bool.and_eq_true] at q
    exact ⟨of_decide_eq_true q.1, of_decide_eq_true q.2⟩
section
variable {P : Program} {w : World} {K : PySem.W.Frag} {mg : Str → Option Value} {base : Heap}
def badwN : List Str := ["_law_names_here", "_law_number", "_law_name", "_law_at", "_law_some"]
theorem scBadW : FnScope badwN ["_law_names_here", "_law_number"] (defScope sBadW) := ⟨rfl, rfl, rfl, by decide +kernel, rfl, by decide +kernel, by decide +kernel⟩
def spBadW (K : PySem.W.Frag) (T : Addr) : Sp := fun vs H Q _ => ∃ (pn : Addr) (names : List Str) (n : Int), vs = [.ref pn, .int n] ∧ SqL K H pn (names.map V.str) ∧ 0 < names.length ∧ (∀ y ∈ names, GoodN y) ∧ GxR.TabG H T ∧
  ∀ v d H', Kp T H H' → Dp K H' v d → BadW d → Q v H'
theorem ok_badw {f T : Addr} {fd : FuncData} (F : Fun K "_law_bad_ware" "_law_bad_ware" sBadW f fd) (mL : mg "len" = none) : FnOk P w K mg base CX0 1 f fd ["_law_names_here", "_law_number"] (spBadW K T) := by
  refine F.ok scBadW (fun vs H Q E h => ?_) (fun cdv A outer s H vs Q E hr h => ?_)
  · obtain ⟨pn, names, n, rfl, _⟩ := h
    rfl
  · obtain ⟨pn, names, n, rfl, hN, hn0, hgd, ht, q⟩ := h
    refine ⟨_, pss_cons (ps_set (i := 2) scBadW.nd rfl (.inl rfl) (pe_ix ix_list (pv 0) (pe_op op_mod (pe_op op_fdiv (pv 1) pe_int) (pe_callB call_len_seq (by rfl) mL PySem.boot_len (pa_cons (pv 0) pa_nil))) (fun _ _ => rfl)))
      (pss_cons (ps_set (i := 3) scBadW.nd rfl (.inl rfl) (pe_op op_mod (pe_op op_fdiv (pv 1) pe_int) (pe_op op_add (pe_callB call_len_str (by rfl) mL PySem.boot_len (pa_cons (pv 2) pa_nil)) pe_int)))
      (pss_cons (ps_set (i := 4) scBadW.nd rfl (.inl rfl) (pe_lst (pa_cons pe_str (pa_cons pe_str (pa_cons (pe_op op_add_str (pe_op op_add_str (pe_slice sl_str (pv 2) po_none (po_some (pv 3))) (pe_ix ix_str pe_str (pe_op op_mod (pe_op op_fdiv (pv 1) pe_int) pe_int) (fun _ _ => rfl))) (pe_slice sl_str (pv 2) (po_some (pv 3)) po_none))
        (pa_cons pe_int (pa_cons pe_non (pa_cons pe_bl (pa_cons (pe_lst (pa_cons (pv 2) pa_nil)) pa_nil)))))))))
      (pss_one (ps_ret (pe_ix ix_list (pv 4) (pe_op op_mod (pv 1) pe_int) (fun _ _ => rfl)))))), ?_⟩
    -- the name and the place
    have hlen : (names.map V.str).length = names.length := List.length_map _
    obtain ⟨vy, ey, y, rfl, hy⟩ := at_pick (xs := names.map V.str) (i := n / 11 % ((names.map V.str).length : Int)) (p := fun v => ∃ y : Str, v = .str y ∧ y ∈ names) (Int.emod_nonneg _ (by rw [hlen]; omega)) (Int.emod_lt_of_pos _ (by rw [hlen]; omega)) (fun v hv => by
      obtain ⟨y, hy, rfl⟩ := List.mem_map.mp hv
      exact ⟨y, rfl, hy⟩)
    refine ⟨_, rfl, _, rfl, n, 11, rfl, rfl, ⟨by decide, by decide⟩, _, rfl, pn, _, rfl, .inl hN, _, _, rfl, rfl, (by show (0 : Int) < ((names.map V.str).length : Int); rw [hlen]; omega), pn, _, _, _, rfl, rfl, hN, ey, ?_⟩
    obtain ⟨l, rfl, hla, hl1, hl8⟩ := good_ex (hgd y hy)
    have hlS : (SX.S l).length = l.length := SX.S_len _
    refine ⟨_, rfl, n, 7, rfl, rfl, ⟨by decide, by decide⟩, _, rfl, _, rfl, line1000 (by omega), _, 1, rfl, rfl, n / 7, _, rfl, rfl, (by show (0 : Int) < ((SX.S l).length : Int) + 1; omega), ?_⟩
    -- the things
    have e6 : ("A0 _-\n" : Str) = SX.S [65, 48, 32, 95, 45, 10] := by decide +kernel
    obtain ⟨g, hg, hg1⟩ := at_pick (xs := [65, 48, 32, 95, 45, 10]) (i := n / 77 % 6) (p := fun g : Nat => g < 97) (by omega) (by show n / 77 % 6 < ((6 : Nat) : Int); omega) (by decide)
    obtain ⟨m1, em1, lm1, mm1⟩ := cutS_S (l := l) (lo := none) (hi := some (n / 7 % (((SX.S l).length : Int) + 1)))
    obtain ⟨m2, em2, lm2, mm2⟩ := cutS_S (l := l) (lo := some (n / 7 % (((SX.S l).length : Int) + 1))) (hi := none)
    have etx : cutS (SX.S l) none (some (n / 7 % (((SX.S l).length : Int) + 1))) ++ (⟨#[g]⟩ : Str) ++ cutS (SX.S l) (some (n / 7 % (((SX.S l).length : Int) + 1))) none = SX.S (m1 ++ [g] ++ m2) := by
      rw [em1, em2, show (⟨#[g]⟩ : Str) = SX.S [g] from rfl, SX.S_cat, SX.S_cat]
    have ln1 : (cutS (SX.S l) none (some (n / 7 % (((SX.S l).length : Int) + 1)))).length ≤ 9 := by rw [em1, SX.S_len]; omega
    have ln2 : (cutS (SX.S l) (some (n / 7 % (((SX.S l).length : Int) + 1))) none).length ≤ 9 := by rw [em2, SX.S_len]; omega
    have ln3 : (cutS (SX.S l) none (some (n / 7 % (((SX.S l).length : Int) + 1))) ++ (⟨#[g]⟩ : Str)).length ≤ 10 := by rw [em1, show (⟨#[g]⟩ : Str) = SX.S [g] from rfl, SX.S_cat, SX.S_len, List.length_append, List.length_singleton]; omega
    have ln4 : ((⟨#[g]⟩ : Str)).length = 1 := rfl
    have lW : (SX.S l).length ≤ sizeLine := line1000 (by omega)
    have bX : BadW (.str (SX.S (m1 ++ [g] ++ m2))) := badw_sign (c := g) (List.mem_append_left _ (List.mem_append_right _ (List.mem_singleton.mpr rfl))) (by omega) (fun x hx => by
      rcases List.mem_append.mp hx with hx | hx
      · rcases List.mem_append.mp hx with hx | hx
        · exact hla.ok x (mm1 x hx)
        · rw [List.mem_singleton.mp hx]; exact (by omega)
      · exact hla.ok x (mm2 x hx)) (by rw [List.length_append, List.length_append, List.length_singleton]; omega)
    refine ⟨_, rfl, _, rfl, _, rfl, _, rfl, lW, _, rfl, n, 77, rfl, rfl, ⟨by decide, by decide⟩, _, 6, rfl, rfl, (by show (0 : Int) < 6; decide), _, n / 77 % 6, g, rfl, rfl, (by rw [e6]; show (6 : Nat) ≤ sizeLine; decide), (by rw [e6]; exact hg), ?_⟩
    refine ⟨_, _, rfl, rfl, line1000 (by omega), _, rfl, _, rfl, _, rfl, _, rfl, lW, _, _, rfl, rfl, line1000 (by omega), ?_⟩
    rw [etx]
    refine ⟨_, rfl, (by show (1 : Nat) ≤ sizeLine; decide), fun a6 na6 => ?_⟩
    have k1 := Kp.new (o := HO.lst [V.str (SX.S l)]) ht na6
    refine ⟨(by show (7 : Nat) ≤ sizeLine; decide), fun l5 nl5 => ?_⟩
    have k2 := Kp.new (o := HO.lst [.str "", .str "abcdefghi", .str (SX.S (m1 ++ [g] ++ m2)), .int 5, .non, .bl true, .ref a6]) k1.tab nl5
    have d6 : Dp K (upd (upd H a6 (.lst [V.str (SX.S l)])) l5 (.lst [.str "", .str "abcdefghi", .str (SX.S (m1 ++ [g] ++ m2)), .int 5, .non, .bl true, .ref a6])) (.ref a6) (.list [.str (SX.S l)]) := .lst (k2.seq (.inl (.of upd_same))) (.cons (.str _) .nil)
    obtain ⟨v, ev, d, dv, bd⟩ := at_pick (xs := [V.str "", .str "abcdefghi", .str (SX.S (m1 ++ [g] ++ m2)), .int 5, .non, .bl true, .ref a6]) (i := n % 7) (p := fun v => ∃ d, Dp K (upd (upd H a6 (.lst [V.str (SX.S l)])) l5 (.lst [.str "", .str "abcdefghi", .str (SX.S (m1 ++ [g] ++ m2)), .int 5, .non, .bl true, .ref a6])) v d ∧ BadW d)
      (by omega) (by show n % 7 < ((7 : Nat) : Int); omega) (fun v hv => by
        simp only [List.mem_cons, List.not_mem_nil, or_false] at hv
        rcases hv with rfl | rfl | rfl | rfl | rfl | rfl | rfl
        · exact ⟨_, .str _, by decide +kernel, by decide +kernel⟩
        · exact ⟨_, .str _, by decide +kernel, by decide +kernel⟩
        · exact ⟨_, .str _, bX⟩
        · exact ⟨_, .int _, rfl, rfl⟩
        · exact ⟨_, .non, rfl, rfl⟩
        · exact ⟨_, .bl _, rfl, rfl⟩
        · exact ⟨_, d6, rfl, rfl⟩)
    exact ⟨_, rfl, _, rfl, n, 7, rfl, rfl, (by show (0 : Int) < 7; decide), l5, _, _, _, rfl, rfl, .inl (.of upd_same), ev, q v d _ (k1.trans k2) dv bd⟩
end
end Pk

set_option Elab.async false
set_option linter.all false
set_option maxRecDepth 100000
set_option maxHeartbeats 4000000
namespace Pk
open PySem PySem.Spec PyProof.Rows L2
abbrev sBadN : Stmt := topS 30
/-- no need for a make of the ware x -/
def BadN (x : Str) (d : PyData) : Prop := (needB d = false ∨ wOf d = x) ∧ okT d = true
theorem okT3 {a b c : PyData} (ha : okS a = true) (hb : okS b = true) (hc : okS c = true) : okT (.tuple [a, b, c]) = true := okT_tup (fun d hd => by
  simp only [List.mem_cons, List.not_mem_nil, or_false] at hd
  rcases hd with rfl | rfl | rfl
  · exact ha
  · exact hb
  · exact hc) (by simp)
theorem okT2 {a b : PyData} (ha : okS a = true) (hb : okS b = true) : okT (.tuple [a, b]) = true := okT_tup (fun d hd => by
  simp only [List.mem_cons, List.not_mem_nil, or_false] at hd
  rcases hd with rfl | rfl
  · exact ha
  · exact hb) (by simp)
theorem others_len {names : List Str} {x : Str} (nd : names.Nodup) (hx : x ∈ names) : (names.filter fun y => decide (y ≠ x)).length + 1 = names.length := by
  induction names with
  | nil => cases hx
  | cons y r ih =>
    rw [List.nodup_cons] at nd
    by_cases h : y = x
    · subst h
      have e : r.filter (fun z => decide (z ≠ y)) = r := List.filter_eq_self.mpr fun z hz => decide_eq_true fun q => nd.1 (by rw [← q]; exact hz)
      rw [List.filter_cons, if_neg (by simp), e, List.length_cons]
    · have hx' : x ∈ r := by
        rcases List.mem_cons.mp hx with z | z
        · exact absurd z.symm h
        · exact z
      rw [List.filter_cons, if_pos (decide_eq_true h), List.length_cons, ih nd.2 hx', List.length_cons]
theorem tSeq_in {a b : TS} {D : Ends} {σ : L2.St} {H : Hp} (h : a { D with nx := b D } σ H) : tSeq a b D σ H := h
theorem tAsg_in {te : TE} {g : TG} {D : Ends} {σ : L2.St} {H : Hp} (h : te σ H fun v H1 => g v σ H1 D.nx) : tAsg te g D σ H := h
theorem tOp_in {r : R2} {ta tb : TE} {σ : L2.St} {H : Hp} {Q : VK} (h : ta σ H fun x H1 => tb σ H1 fun y H2 => r x y H2 Q) : tOp r ta tb σ H Q := h
/-- the reading of [name for name in names if name != ware], the ware in slot j, names in slot 0 -/
theorem read_others {K : PySem.W.Frag} {H : Hp} {T pn : Addr} {names : List Str} {x : Str} {i j p : Nat} {σ : L2.St} {Q : VK} (hp : SqL K H pn (names.map V.str)) (t : GxR.TabG H T) (hp0 : σ[p]? = some (some (.ref pn))) (hj : σ[j]? = some (some (.str x))) (hij : i ≠ j) (hi : i < σ.length) (hn : names.length ≤ 100)
    (q : ∀ D H', Kp T H H' → H D = none → H' D = some (.lst ((names.filter fun y => decide (y ≠ x)).map V.str)) → Q (.ref D) H') :
    tLc (iList K (tVar p)) (gName i) (tTest (tOp rNe (tVar i) (tVar j))) (tVar i) [i] σ H Q := by
  refine ⟨_, hp0, pn, rfl, ⟨_, hp⟩, fun D nD => ?_⟩
  have DT := tab_nn t nD
  have w1 : wipe σ [i] = σ.set i none := rfl
  refine lc_list (K := K) (a := pn) (xs := names.map V.str) (fun n H' => H' = upd H D (.lst (((names.take n).filter fun y => decide (y ≠ x)).map V.str))) rfl (fun n H' _ e => by subst e; exact (Kp.new t nD).seq hp) (fun n v H' hx e => ?_) (fun H' e => ?_)
  · subst e
    have hnl : n < names.length := by
      have := (List.getElem?_eq_some_iff.mp hx).1
      rw [List.length_map] at this
      exact this
    rw [List.getElem?_map, List.getElem?_eq_getElem hnl] at hx
    have ex : v = .str names[n] := (Option.some.inj hx).symm
    subst ex
    have s2i : ((wipe σ [i]).set i (some (V.str names[n])))[i]? = some (some (.str names[n])) := by rw [w1, List.set_set, List.getElem?_set_self hi]
    have s2j : ((wipe σ [i]).set i (some (V.str names[n])))[j]? = some (some (.str x)) := by rw [w1, List.set_set, List.getElem?_set_ne hij]; exact hj
    have tk : names.take (n + 1) = names.take n ++ [names[n]] := by rw [List.take_add_one, List.getElem?_eq_getElem hnl]; rfl
    refine ⟨by show ((σ.set i none).set i _).set i none = σ.set i none; rw [List.set_set, List.set_set], _, s2i, _, s2j, rfl, _, rfl, ?_⟩
    have fl : ((names.take n).filter fun y => decide (y ≠ x)).length ≤ names.length := Nat.le_trans (List.length_filter_le _ _) (by rw [List.length_take]; omega)
    by_cases hz : names[n] = x
    · rw [show (!decide (V.str names[n] = V.str x)) = false by rw [hz, decide_eq_true rfl]; rfl]
      refine iteF ?_
      rw [tk, List.filter_append, List.filter_cons, if_neg (by simp [hz]), List.filter_nil, List.append_nil]
    · rw [show (!decide (V.str names[n] = V.str x)) = true by rw [decide_eq_false (fun q => hz (V.str.inj q))]; rfl]
      refine iteT ⟨_, s2i, _, upd_same, small1000 (by rw [List.length_map]; omega), ?_⟩
      rw [upd_upd, tk, List.filter_append, List.filter_cons, if_pos (decide_eq_true hz), List.filter_nil, List.map_append]
      rfl
  · subst e
    rw [List.length_map, List.take_length]
    exact q D _ (Kp.new t nD) nD upd_same
section
variable {P : Program} {w : World} {K : PySem.W.Frag} {mg : Str → Option Value} {base : Heap}
def badnN : List Str := ["_law_names_here", "_law_ware", "_law_number", "_law_other", "_law_some", "_law_name"]
theorem scBadN : FnScope badnN ["_law_names_here", "_law_ware", "_law_number"] (defScope sBadN) := ⟨rfl, rfl, rfl, by decide +kernel, rfl, by decide +kernel, by decide +kernel⟩
def spBadN (K : PySem.W.Frag) (T : Addr) : Sp := fun vs H Q _ => ∃ (pn : Addr) (names : List Str) (x : Str) (n : Int), vs = [.ref pn, .str x, .int n] ∧ SqL K H pn (names.map V.str) ∧ x ∈ names ∧ names.Nodup ∧ 2 ≤ names.length ∧ names.length ≤ 100 ∧ (∀ y ∈ names, GoodN y) ∧ GxR.TabG H T ∧
  ∀ v d H', Kp T H H' → Dq K H' v d → BadN x d → Q v H'
theorem ok_badn {f T : Addr} {fd : FuncData} (F : Fun K "_law_bad_need" "_law_bad_need" sBadN f fd) (mL : mg "len" = none) : FnOk P w K mg base CX0 1 f fd ["_law_names_here", "_law_ware", "_law_number"] (spBadN K T) := by
  refine F.ok scBadN (fun vs H Q E h => ?_) (fun cdv A outer s H vs Q E hr h => ?_)
  · obtain ⟨pn, names, x, n, rfl, _⟩ := h
    rfl
  · obtain ⟨pn, names, x, n, rfl, hN, hx, hnd, hn2, hn100, hgd, ht, q⟩ := h
    refine ⟨_, pss_cons (ps_set (i := 3) scBadN.nd rfl (.inl rfl) (pe_ix ix_list (pe_lc (own := [("_law_name", 5)]) (g := gName 5) rfl scBadN.nd (pi_list (pv 0)) (blkOk_by (own := [("_law_name", 5)]) (N := badnN) (sc := defScope sBadN) (by decide +kernel))
          (fun _ _ _ _ _ => pg_name (i := 5) scBadN.nd rfl (Or.inl rfl)) (fun _ _ _ _ _ => pts_one (pt_cmpR op_ne (pv 5) (pv 1) (nomark _))) (fun _ _ _ _ _ => pv 5))
          (pe_op op_mod (pe_op op_fdiv (pv 2) pe_int) (pe_op op_sub (pe_callB call_len_seq (by rfl) mL PySem.boot_len (pa_cons (pv 0) pa_nil)) pe_int)) (fun _ _ => rfl)))
      (pss_cons (ps_set (i := 4) scBadN.nd rfl (.inl rfl) (pe_lst (pa_cons (pe_tup (pa_cons (pv 1) (pa_cons pe_int (pa_cons pe_int pa_nil)))) (pa_cons (pe_tup (pa_cons (pv 3) (pa_cons pe_int (pa_cons pe_int pa_nil)))) (pa_cons (pe_tup (pa_cons (pv 3) (pa_cons pe_int (pa_cons pe_int pa_nil)))) (pa_cons (pe_tup (pa_cons (pv 3) (pa_cons pe_int (pa_cons pe_int pa_nil))))
          (pa_cons (pe_tup (pa_cons (pv 3) (pa_cons pe_int pa_nil))) (pa_cons (pe_lst (pa_cons (pv 3) (pa_cons pe_int (pa_cons pe_int pa_nil)))) (pa_cons (pe_tup (pa_cons (pv 3) (pa_cons pe_bl (pa_cons pe_int pa_nil)))) pa_nil)))))))))
      (pss_one (ps_ret (pe_ix ix_list (pe_op op_cat (pv 4) (pe_lst (pa_cons (pe_tup (pa_cons pe_str (pa_cons pe_int (pa_cons pe_int pa_nil)))) (pa_cons pe_non (pa_cons (pe_tup (pa_cons (pe_lst (pa_cons (pv 3) pa_nil)) (pa_cons pe_int (pa_cons pe_int pa_nil))))
          (pa_cons (pe_tup (pa_cons (pv 3) (pa_cons (pe_lst (pa_cons pe_int pa_nil)) (pa_cons pe_int pa_nil)))) (pa_cons (pe_tup (pa_cons (pv 3) (pa_cons pe_int (pa_cons pe_dnewK pa_nil)))) pa_nil))))))) (pe_op op_mod (pv 2) pe_int) (fun _ _ => rfl))))), ?_⟩
    refine tSeq_in (tAsg_in (tOp_in (read_others (K := K) (i := 5) (j := 1) (p := 0) (names := names) (x := x) hN ht ?h0 ?hj (by decide) ?hi (by omega) fun D H1 k1 nD eD => ?_)))
    case h0 => rfl
    case hj => rfl
    case hi => show 5 < 6; decide
    have ol := others_len hnd hx
    obtain ⟨vy, ey, y, rfl, hy⟩ := at_pick (xs := (names.filter fun y => decide (y ≠ x)).map V.str) (i := n / 9 % (((names.map V.str).length : Int) - 1)) (p := fun v => ∃ y : Str, v = .str y ∧ y ∈ names) (by rw [List.length_map]; exact Int.emod_nonneg _ (by omega)) (by
        rw [List.length_map, List.length_map]
        have := Int.emod_lt_of_pos (n / 9) (show (0 : Int) < (names.length : Int) - 1 by omega)
        omega) (fun v hv => by
      obtain ⟨y, hy, rfl⟩ := List.mem_map.mp hv
      exact ⟨y, rfl, (List.mem_filter.mp hy).1⟩)
    refine ⟨_, rfl, n, 9, rfl, rfl, ⟨by decide, by decide⟩, _, rfl, pn, _, rfl, .inl (k1.seq hN), _, 1, rfl, rfl, _, _, rfl, rfl, (by show (0 : Int) < ((names.map V.str).length : Int) - 1; rw [List.length_map]; omega), D, _, _, _, rfl, rfl, .inl (.of eD), ey, ?_⟩
    have gx := (hgd x hx).2
    have gy := (hgd y hy).2
    have t1 := k1.tab
    refine ⟨_, rfl, (by show (3 : Nat) ≤ sizeLine; decide), fun a1 n_a1 => ?_⟩
    have k_a1 := Kp.new (o := HO.tup [.str x, .int 1, .int 2]) t1 n_a1
    have e_a1 : upd H1 a1 (HO.tup [.str x, .int 1, .int 2]) a1 = some (HO.tup [.str x, .int 1, .int 2]) := upd_same
    have t_a1 := k_a1.tab
    generalize upd H1 a1 (HO.tup [.str x, .int 1, .int 2]) = H_a1 at k_a1 e_a1 t_a1 ⊢
    refine ⟨_, rfl, (by show (3 : Nat) ≤ sizeLine; decide), fun a2 n_a2 => ?_⟩
    have k_a2 := Kp.new (o := HO.tup [.str y, .int 3, .int 2]) t_a1 n_a2
    have e_a2 : upd H_a1 a2 (HO.tup [.str y, .int 3, .int 2]) a2 = some (HO.tup [.str y, .int 3, .int 2]) := upd_same
    have t_a2 := k_a2.tab
    generalize upd H_a1 a2 (HO.tup [.str y, .int 3, .int 2]) = H_a2 at k_a2 e_a2 t_a2 ⊢
    refine ⟨_, rfl, (by show (3 : Nat) ≤ sizeLine; decide), fun a3 n_a3 => ?_⟩
    have k_a3 := Kp.new (o := HO.tup [.str y, .int 0, .int 2]) t_a2 n_a3
    have e_a3 : upd H_a2 a3 (HO.tup [.str y, .int 0, .int 2]) a3 = some (HO.tup [.str y, .int 0, .int 2]) := upd_same
    have t_a3 := k_a3.tab
    generalize upd H_a2 a3 (HO.tup [.str y, .int 0, .int 2]) = H_a3 at k_a3 e_a3 t_a3 ⊢
    refine ⟨_, rfl, (by show (3 : Nat) ≤ sizeLine; decide), fun a4 n_a4 => ?_⟩
    have k_a4 := Kp.new (o := HO.tup [.str y, .int 1, .int 1000]) t_a3 n_a4
    have e_a4 : upd H_a3 a4 (HO.tup [.str y, .int 1, .int 1000]) a4 = some (HO.tup [.str y, .int 1, .int 1000]) := upd_same
    have t_a4 := k_a4.tab
    generalize upd H_a3 a4 (HO.tup [.str y, .int 1, .int 1000]) = H_a4 at k_a4 e_a4 t_a4 ⊢
    refine ⟨_, rfl, (by show (2 : Nat) ≤ sizeLine; decide), fun a5 n_a5 => ?_⟩
    have k_a5 := Kp.new (o := HO.tup [.str y, .int 1]) t_a4 n_a5
    have e_a5 : upd H_a4 a5 (HO.tup [.str y, .int 1]) a5 = some (HO.tup [.str y, .int 1]) := upd_same
    have t_a5 := k_a5.tab
    generalize upd H_a4 a5 (HO.tup [.str y, .int 1]) = H_a5 at k_a5 e_a5 t_a5 ⊢
    refine ⟨_, rfl, (by show (3 : Nat) ≤ sizeLine; decide), fun a6 n_a6 => ?_⟩
    have k_a6 := Kp.new (o := HO.lst [.str y, .int 1, .int 2]) t_a5 n_a6
    have e_a6 : upd H_a5 a6 (HO.lst [.str y, .int 1, .int 2]) a6 = some (HO.lst [.str y, .int 1, .int 2]) := upd_same
    have t_a6 := k_a6.tab
    generalize upd H_a5 a6 (HO.lst [.str y, .int 1, .int 2]) = H_a6 at k_a6 e_a6 t_a6 ⊢
    refine ⟨_, rfl, (by show (3 : Nat) ≤ sizeLine; decide), fun a7 n_a7 => ?_⟩
    have k_a7 := Kp.new (o := HO.tup [.str y, .bl true, .int 2]) t_a6 n_a7
    have e_a7 : upd H_a6 a7 (HO.tup [.str y, .bl true, .int 2]) a7 = some (HO.tup [.str y, .bl true, .int 2]) := upd_same
    have t_a7 := k_a7.tab
    generalize upd H_a6 a7 (HO.tup [.str y, .bl true, .int 2]) = H_a7 at k_a7 e_a7 t_a7 ⊢
    refine ⟨(by show (7 : Nat) ≤ sizeLine; decide), fun l1 n_l1 => ?_⟩
    have k_l1 := Kp.new (o := HO.lst [.ref a1, .ref a2, .ref a3, .ref a4, .ref a5, .ref a6, .ref a7]) t_a7 n_l1
    have e_l1 : upd H_a7 l1 (HO.lst [.ref a1, .ref a2, .ref a3, .ref a4, .ref a5, .ref a6, .ref a7]) l1 = some (HO.lst [.ref a1, .ref a2, .ref a3, .ref a4, .ref a5, .ref a6, .ref a7]) := upd_same
    have t_l1 := k_l1.tab
    generalize upd H_a7 l1 (HO.lst [.ref a1, .ref a2, .ref a3, .ref a4, .ref a5, .ref a6, .ref a7]) = H_l1 at k_l1 e_l1 t_l1 ⊢
    refine ⟨_, rfl, (by show (3 : Nat) ≤ sizeLine; decide), fun a8 n_a8 => ?_⟩
    have k_a8 := Kp.new (o := HO.tup [.str "A", .int 1, .int 2]) t_l1 n_a8
    have e_a8 : upd H_l1 a8 (HO.tup [.str "A", .int 1, .int 2]) a8 = some (HO.tup [.str "A", .int 1, .int 2]) := upd_same
    have t_a8 := k_a8.tab
    generalize upd H_l1 a8 (HO.tup [.str "A", .int 1, .int 2]) = H_a8 at k_a8 e_a8 t_a8 ⊢
    refine ⟨_, rfl, (by show (1 : Nat) ≤ sizeLine; decide), fun b9 n_b9 => ?_⟩
    have k_b9 := Kp.new (o := HO.lst [.str y]) t_a8 n_b9
    have e_b9 : upd H_a8 b9 (HO.lst [.str y]) b9 = some (HO.lst [.str y]) := upd_same
    have t_b9 := k_b9.tab
    generalize upd H_a8 b9 (HO.lst [.str y]) = H_b9 at k_b9 e_b9 t_b9 ⊢
    refine ⟨(by show (3 : Nat) ≤ sizeLine; decide), fun a9 n_a9 => ?_⟩
    have k_a9 := Kp.new (o := HO.tup [.ref b9, .int 1, .int 2]) t_b9 n_a9
    have e_a9 : upd H_b9 a9 (HO.tup [.ref b9, .int 1, .int 2]) a9 = some (HO.tup [.ref b9, .int 1, .int 2]) := upd_same
    have t_a9 := k_a9.tab
    generalize upd H_b9 a9 (HO.tup [.ref b9, .int 1, .int 2]) = H_a9 at k_a9 e_a9 t_a9 ⊢
    refine ⟨_, rfl, (by show (1 : Nat) ≤ sizeLine; decide), fun b10 n_b10 => ?_⟩
    have k_b10 := Kp.new (o := HO.lst [.int 1]) t_a9 n_b10
    have e_b10 : upd H_a9 b10 (HO.lst [.int 1]) b10 = some (HO.lst [.int 1]) := upd_same
    have t_b10 := k_b10.tab
    generalize upd H_a9 b10 (HO.lst [.int 1]) = H_b10 at k_b10 e_b10 t_b10 ⊢
    refine ⟨(by show (3 : Nat) ≤ sizeLine; decide), fun a10 n_a10 => ?_⟩
    have k_a10 := Kp.new (o := HO.tup [.str y, .ref b10, .int 2]) t_b10 n_a10
    have e_a10 : upd H_b10 a10 (HO.tup [.str y, .ref b10, .int 2]) a10 = some (HO.tup [.str y, .ref b10, .int 2]) := upd_same
    have t_a10 := k_a10.tab
    generalize upd H_b10 a10 (HO.tup [.str y, .ref b10, .int 2]) = H_a10 at k_a10 e_a10 t_a10 ⊢
    refine ⟨_, rfl, fun b11 n_b11 => ?_⟩
    have k_b11 := Kp.new (o := HO.dK []) t_a10 n_b11
    have e_b11 : upd H_a10 b11 (HO.dK []) b11 = some (HO.dK []) := upd_same
    have t_b11 := k_b11.tab
    generalize upd H_a10 b11 (HO.dK []) = H_b11 at k_b11 e_b11 t_b11 ⊢
    refine ⟨(by show (3 : Nat) ≤ sizeLine; decide), fun a11 n_a11 => ?_⟩
    have k_a11 := Kp.new (o := HO.tup [.str y, .int 1, .ref b11]) t_b11 n_a11
    have e_a11 : upd H_b11 a11 (HO.tup [.str y, .int 1, .ref b11]) a11 = some (HO.tup [.str y, .int 1, .ref b11]) := upd_same
    have t_a11 := k_a11.tab
    generalize upd H_b11 a11 (HO.tup [.str y, .int 1, .ref b11]) = H_a11 at k_a11 e_a11 t_a11 ⊢
    refine ⟨(by show (5 : Nat) ≤ sizeLine; decide), fun l2 n_l2 => ?_⟩
    have k_l2 := Kp.new (o := HO.lst [.ref a8, .non, .ref a9, .ref a10, .ref a11]) t_a11 n_l2
    have e_l2 : upd H_a11 l2 (HO.lst [.ref a8, .non, .ref a9, .ref a10, .ref a11]) l2 = some (HO.lst [.ref a8, .non, .ref a9, .ref a10, .ref a11]) := upd_same
    have t_l2 := k_l2.tab
    generalize upd H_a11 l2 (HO.lst [.ref a8, .non, .ref a9, .ref a10, .ref a11]) = H_l2 at k_l2 e_l2 t_l2 ⊢
    have F_l2 := Kp.refl t_l2
    have F_a11 := k_l2.trans F_l2
    have F_b11 := k_a11.trans F_a11
    have F_a10 := k_b11.trans F_b11
    have F_b10 := k_a10.trans F_a10
    have F_a9 := k_b10.trans F_b10
    have F_b9 := k_a9.trans F_a9
    have F_a8 := k_b9.trans F_b9
    have F_l1 := k_a8.trans F_a8
    have F_a7 := k_l1.trans F_l1
    have F_a6 := k_a7.trans F_a7
    have F_a5 := k_a6.trans F_a6
    have F_a4 := k_a5.trans F_a5
    have F_a3 := k_a4.trans F_a4
    have F_a2 := k_a3.trans F_a3
    have F_a1 := k_a2.trans F_a2
    have F0 := k_a1.trans F_a1
    refine ⟨l1, l2, _, _, rfl, rfl, F_l1.lst e_l1, e_l2, (by show (7 + 5 : Nat) ≤ sizeLine; decide), fun l3 nl3 => ?_⟩
    have k3 := Kp.new (o := HO.lst ([V.ref a1, .ref a2, .ref a3, .ref a4, .ref a5, .ref a6, .ref a7] ++ [V.ref a8, .non, .ref a9, .ref a10, .ref a11])) t_l2 nl3
    have tq : ∀ {a : Addr} {H' H2 : Hp} {xs : List V} {ds : List PyData}, H' a = some (HO.tup xs) → Kp T H' H2 → DqAll K H2 xs ds → Dq K H2 (.ref a) (.tuple ds) := fun e k h => .tup (k.sqt (.inl (.inl e))) h
    have lq : ∀ {a : Addr} {H' H2 : Hp} {xs : List V} {ds : List PyData}, H' a = some (HO.lst xs) → Kp T H' H2 → DqAll K H2 xs ds → Dq K H2 (.ref a) (.list ds) := fun e k h => .lst (k.seq (.inl (.of e))) h
    obtain ⟨v, ev, d, dv, bd⟩ := at_pick (xs := [V.ref a1, .ref a2, .ref a3, .ref a4, .ref a5, .ref a6, .ref a7, .ref a8, .non, .ref a9, .ref a10, .ref a11]) (i := n % 12) (p := fun v => ∃ d, Dq K H_l2 v d ∧ BadN x d)
      (by omega) (by show n % 12 < ((12 : Nat) : Int); omega) (fun v hv => by
        have wy : ∀ b c d : Bool, (b = false ∨ c = false ∨ d = false) → (wareB (.str y) && b && c && d) = false := fun b c d h => by
          rcases h with rfl | rfl | rfl <;> simp
        simp only [List.mem_cons, List.not_mem_nil, or_false] at hv
        rcases hv with rfl | rfl | rfl | rfl | rfl | rfl | rfl | rfl | rfl | rfl | rfl | rfl
        · exact ⟨_, tq e_a1 F_a1 (.cons (.str x) (.cons (.int 1) (.cons (.int 2) .nil))), .inr rfl, okT3 gx rfl rfl⟩
        · exact ⟨_, tq e_a2 F_a2 (.cons (.str y) (.cons (.int 3) (.cons (.int 2) .nil))), .inl (wy _ _ _ (.inr (.inr rfl))), okT3 gy rfl rfl⟩
        · exact ⟨_, tq e_a3 F_a3 (.cons (.str y) (.cons (.int 0) (.cons (.int 2) .nil))), .inl (wy _ _ _ (.inl rfl)), okT3 gy rfl rfl⟩
        · exact ⟨_, tq e_a4 F_a4 (.cons (.str y) (.cons (.int 1) (.cons (.int 1000) .nil))), .inl (wy _ _ _ (.inr (.inl rfl))), okT3 gy rfl rfl⟩
        · exact ⟨_, tq e_a5 F_a5 (.cons (.str y) (.cons (.int 1) .nil)), .inl rfl, okT2 gy rfl⟩
        · exact ⟨_, lq e_a6 F_a6 (.cons (.str y) (.cons (.int 1) (.cons (.int 2) .nil))), .inl rfl, rfl⟩
        · exact ⟨_, tq e_a7 F_a7 (.cons (.str y) (.cons (.bl true) (.cons (.int 2) .nil))), .inl (wy _ _ _ (.inl rfl)), okT3 gy rfl rfl⟩
        · exact ⟨_, tq e_a8 F_a8 (.cons (.str "A") (.cons (.int 1) (.cons (.int 2) .nil))), .inl (by decide +kernel), okT3 (by decide +kernel) rfl rfl⟩
        · exact ⟨_, .non, .inl rfl, rfl⟩
        · exact ⟨_, tq e_a9 F_a9 (.cons (lq e_b9 F_b9 (.cons (.str y) .nil)) (.cons (.int 1) (.cons (.int 2) .nil))), .inl rfl, okT3 rfl rfl rfl⟩
        · exact ⟨_, tq e_a10 F_a10 (.cons (.str y) (.cons (lq e_b10 F_b10 (.cons (.int 1) .nil)) (.cons (.int 2) .nil))), .inl (wy _ _ _ (.inl rfl)), okT3 gy rfl rfl⟩
        · exact ⟨_, tq e_a11 F_a11 (.cons (.str y) (.cons (.int 1) (.cons (.dct (F_b11.keep _ _ (tab_ne t_b11 e_b11 fun _ z => by cases z) e_b11)) .nil))), .inl (wy _ _ _ (.inr (.inl rfl))), okT3 gy rfl rfl⟩)
    exact ⟨_, rfl, n, 12, rfl, rfl, (by show (0 : Int) < 12; decide), l3, _, _, _, rfl, rfl, .inl (.of upd_same), ev, q v d _ ((k1.trans F0).trans k3) (k3.dq _ _ dv) bd⟩
end
end Pk

set_option Elab.async false
set_option linter.all false
set_option maxRecDepth 100000
set_option maxHeartbeats 4000000
namespace Pk
open PySem PySem.Spec PyProof.Rows L2
abbrev sBadNs : Stmt := topS 31
theorem tYes_if {σ : L2.St} {H : Hp} {a b : Hp → Prop} (h : a H) : tYes σ H (fun c H3 => if c = true then a H3 else b H3) := by
  show (if true = true then a H else b H)
  rw [if_pos rfl]
  exact h
/-! ### lists of new tuples -/
def TupsAt (H : Hp) (f : Str → List V) (ts : List Addr) (ys : List Str) : Prop := Paired (fun t y => H t = some (.tup (f y))) ts ys
theorem TupsAt.keep {H H' : Hp} {f : Str → List V} (k : ∀ t xs, H t = some (.tup xs) → H' t = some (.tup xs)) {ts : List Addr} {ys : List Str} (h : TupsAt H f ts ys) : TupsAt H' f ts ys := by
  induction h with
  | nil => exact .nil
  | cons h1 _ ih => exact .cons (k _ _ h1) ih
theorem TupsAt.app {H : Hp} {f : Str → List V} {ts us : List Addr} {ys zs : List Str} (h : TupsAt H f ts ys) (h2 : TupsAt H f us zs) : TupsAt H f (ts ++ us) (ys ++ zs) := by
  induction h with
  | nil => exact h2
  | cons h1 _ ih => exact .cons h1 ih
theorem TupsAt.dq {K : PySem.W.Frag} {H : Hp} {f : Str → List V} {g : Str → List PyData} (hfg : ∀ y, DpAll K H (f y) (g y)) {ts : List Addr} {ys : List Str} (h : TupsAt H f ts ys) : DpAll K H (ts.map V.ref) (ys.map fun y => PyData.tuple (g y)) := by
  induction h with
  | nil => exact .nil
  | cons h1 _ ih => exact .cons (.tup (.inl (.inl h1)) (hfg _)) ih
theorem Kp.tups {T : Addr} {H H' : Hp} {f : Str → List V} {ts : List Addr} {ys : List Str} (k : Kp T H H') (h : TupsAt H f ts ys) : TupsAt H' f ts ys := h.keep fun t xs e => k.keep t _ (tab_ne k.t0 e fun _ z => by cases z) e
/-- the reading of [(others[k], e1, e2) for k in range(m)] -/
theorem read_tups {K : PySem.W.Frag} {H : Hp} {T po : Addr} {oth : List Str} {m : Nat} {a b : Int} {i j : Nat} {σ : L2.St} {Q : VK} {tm te1 te2 : TE} (hm : m ≤ oth.length) (hm2 : m ≤ 1000) (hp : SqL K H po (oth.map V.str)) (t : GxR.TabG H T) (hj : σ[j]? = some (some (.ref po))) (hij : i ≠ j) (hi : i < σ.length)
    (hmv : ∀ Q : VK, Q (.int m) H → tm σ H Q) (h1 : ∀ v (H' : Hp) (Q : VK), Q (.int a) H' → te1 ((wipe σ [i]).set i v) H' Q) (h2 : ∀ v (H' : Hp) (Q : VK), Q (.int b) H' → te2 ((wipe σ [i]).set i v) H' Q)
    (q : ∀ D ts H', Kp T H H' → H D = none → H' D = some (.lst (ts.map V.ref)) → TupsAt H' (fun y => [.str y, .int a, .int b]) ts (oth.take m) → Q (.ref D) H') :
    tLc (iRng1 (tCons tm tNil)) (gName i) tYes (tTup (tCons (tOp (rIxL K) (tVar j) (tVar i)) (tCons te1 (tCons te2 tNil)))) [i] σ H Q := by
  refine hmv _ ⟨m, rfl, (by omega), (by omega), fun D nD => ?_⟩
  have DT := tab_nn t nD
  have w1 : wipe σ [i] = σ.set i none := rfl
  refine lc_range (lo := 0) (n := ((m : Nat) : Int).toNat) (fun n H' => ∃ ts : List Addr, H' D = some (.lst (ts.map V.ref)) ∧ Kp T H H' ∧ ts.length = n ∧ TupsAt H' (fun y => [.str y, .int a, .int b]) ts (oth.take n)) ⟨[], upd_same, Kp.new t nD, rfl, .nil⟩ (fun n H' hn hm' => ?_) (fun H' hm' => ?_)
  · obtain ⟨ts, eD, kk, tl, tt⟩ := hm'
    have hnm : n < m := by omega
    have hno : n < oth.length := by omega
    have s2i : ((wipe σ [i]).set i (some (V.int (0 + (n : Int)))))[i]? = some (some (.int (0 + (n : Int)))) := by rw [w1, List.set_set, List.getElem?_set_self hi]
    have s2j : ((wipe σ [i]).set i (some (V.int (0 + (n : Int)))))[j]? = some (some (.ref po)) := by rw [w1, List.set_set, List.getElem?_set_ne hij]; exact hj
    have ea : atI (oth.map V.str) (0 + (n : Int)) = some (.str oth[n]) := by
      rw [Int.zero_add]
      exact atI_nat (by rw [List.getElem?_map, List.getElem?_eq_getElem hno]; rfl)
    refine ⟨by show ((σ.set i none).set i _).set i none = σ.set i none; rw [List.set_set, List.set_set], tYes_if ⟨_, s2j, _, s2i, po, _, _, _, rfl, rfl, kk.seq hp, ea, h1 _ _ _ (h2 _ _ _ ⟨(by show (3 : Nat) ≤ sizeLine; decide), fun tp ntp => ?_⟩)⟩⟩
    have k2 := Kp.new (o := HO.tup [.str oth[n], .int a, .int b]) kk.tab ntp
    have tD : tp ≠ D := fun z => by rw [z, eD] at ntp; cases ntp
    refine ⟨_, k2.lst eD, small1000 (by rw [List.length_map]; omega), ts ++ [tp], by rw [upd_same, List.map_append]; rfl, (kk.trans k2).set nD DT, by rw [List.length_append, List.length_singleton, tl], ?_⟩
    have tk : oth.take (n + 1) = oth.take n ++ [oth[n]] := by rw [List.take_add_one, List.getElem?_eq_getElem hno]; rfl
    rw [tk]
    refine TupsAt.keep (fun u xs e => ?_) (TupsAt.app (k2.tups tt) (.cons upd_same .nil))
    rw [upd_ne (fun z => ?_)]
    · exact e
    · rw [z, k2.lst eD] at e; cases e
  · obtain ⟨ts, eD, kk, tl, tt⟩ := hm'
    exact q D ts H' kk nD eD tt
/-! ### which lists of needs are good -/
theorem mayL_true : ∀ {ds : List PyData} {bar : List Str}, mayL bar ds = true → (∀ d ∈ ds, needB d = true) ∧ (∀ d ∈ ds, wOf d ∉ bar) ∧ (ds.map wOf).Nodup
  | [], _, _ => ⟨fun d h => (by cases h), fun d h => (by cases h), List.nodup_nil⟩
  | x :: r, bar, h => by
    have h' : (needB x && !decide (wOf x ∈ bar) && mayL (bar ++ [wOf x]) r) = true := h
    simp only [Bool.and_eq_true, Bool.not_eq_true', decide_eq_false_iff_not] at h'
    obtain ⟨⟨a, b⟩, c⟩ := h'
    obtain ⟨i1, i2, i3⟩ := mayL_true c
    refine ⟨fun d hd => ?_, fun d hd => ?_, ?_⟩
    · rcases List.mem_cons.mp hd with rfl | hd
      · exact a
      · exact i1 d hd
    · rcases List.mem_cons.mp hd with rfl | hd
      · exact b
      · exact fun z => i2 d hd (List.mem_append_left _ z)
    · rw [List.map_cons, List.nodup_cons]
      refine ⟨fun z => ?_, i3⟩
      obtain ⟨d, hd, e⟩ := List.mem_map.mp z
      exact i2 d hd (List.mem_append_right _ (by rw [e]; exact List.mem_singleton.mpr rfl))
theorem may_bad {x : Str} {ds : List PyData} (h : ∃ d ∈ ds, BadN x d) : mayB x (.list ds) = false := by
  obtain ⟨d, hd, hb, _⟩ := h
  cases e : mayB x (.list ds) with
  | false => rfl
  | true =>
    have z : (decide (ds.length ≤ 6) && mayL [x] ds) = true := e
    rw [Bool.and_eq_true] at z
    obtain ⟨i1, i2, _⟩ := mayL_true z.2
    rcases hb with hb | hb
    · rw [i1 d hd] at hb; cases hb
    · exact absurd (List.mem_singleton.mpr hb) (i2 d hd)
theorem may_long {x : Str} {ds : List PyData} (h : 6 < ds.length) : mayB x (.list ds) = false := by
  show (decide (ds.length ≤ 6) && mayL [x] ds) = false
  rw [decide_eq_false (by omega), Bool.false_and]
theorem may_twice {x : Str} {a c : List PyData} {d : PyData} (h : wOf d ∈ (a ++ c).map wOf) : mayB x (.list (a ++ [d] ++ c)) = false := by
  cases e : mayB x (.list (a ++ [d] ++ c)) with
  | false => rfl
  | true =>
    have z : (decide ((a ++ [d] ++ c).length ≤ 6) && mayL [x] (a ++ [d] ++ c)) = true := e
    rw [Bool.and_eq_true] at z
    obtain ⟨_, _, i3⟩ := mayL_true z.2
    rw [List.map_append, List.map_append, List.nodup_append] at i3
    obtain ⟨j1, j2, j3⟩ := i3
    rw [List.nodup_append] at j1
    rw [List.map_append] at h
    rcases List.mem_append.mp h with h | h
    · exact absurd rfl (j1.2.2 _ h _ (List.mem_singleton.mpr rfl))
    · exact absurd rfl (j3 _ (List.mem_append_right _ (List.mem_singleton.mpr rfl)) _ h)
theorem cutV_to {l : List V} {a : Int} (h0 : 0 ≤ a) : cutV l none (some a) = l.take a.toNat := by
  have e : a = ((a.toNat : Nat) : Int) := by omega
  unfold cutV
  rw [HT.sIx_none, e, HT.sIx_nat, List.drop_zero, Nat.sub_zero]
  rw [show ((a.toNat : Nat) : Int).toNat = a.toNat by omega]
  by_cases h : a.toNat ≤ l.length
  · rw [Nat.min_eq_left h]
  · rw [Nat.min_eq_right (by omega), List.take_length, List.take_of_length_le (by omega)]
theorem cutV_from {l : List V} {a : Int} (h0 : 0 ≤ a) : cutV l (some a) none = l.drop a.toNat := by
  have e : a = ((a.toNat : Nat) : Int) := by omega
  unfold cutV
  rw [HT.sIx_none, e, HT.sIx_nat]
  rw [show ((a.toNat : Nat) : Int).toNat = a.toNat by omega]
  by_cases h : a.toNat ≤ l.length
  · rw [Nat.min_eq_left h, List.take_of_length_le (by rw [List.length_drop]; omega)]
  · rw [Nat.min_eq_right (by omega), List.drop_length, List.drop_eq_nil_of_le (by omega)]
    exact List.take_nil
theorem dqAll_take {K : PySem.W.Frag} {H : Hp} : ∀ {ds : List PyData} {vs : List V} (n : Nat), DqAll K H vs ds → DqAll K H (vs.take n) (ds.take n)
  | _, _, 0, _ => by rw [List.take_zero, List.take_zero]; exact .nil
  | [], _, n + 1, h => by cases h; exact .nil
  | d :: r, _, n + 1, h => by
    cases h with
    | cons a b => exact .cons a (dqAll_take n b)
theorem dqAll_drop {K : PySem.W.Frag} {H : Hp} : ∀ {ds : List PyData} {vs : List V} (n : Nat), DqAll K H vs ds → DqAll K H (vs.drop n) (ds.drop n)
  | _, _, 0, h => h
  | [], _, n + 1, h => by cases h; exact .nil
  | d :: r, _, n + 1, h => by
    cases h with
    | cons a b => exact dqAll_drop n b
end Pk

set_option Elab.async false
set_option linter.all false
set_option maxRecDepth 100000
set_option maxHeartbeats 4000000
namespace Pk
open PySem PySem.Spec PyProof.Rows L2
/-! ### good needs -/
def ND (d : PyData) : Prop := ∃ y i j, d = .tuple [.str y, .int i, .int j] ∧ GoodN y ∧ makeB (.int i) = true ∧ makeB (.int j) = true ∧ i ≤ j
theorem ND.need {d : PyData} (h : ND d) : needB d = true := by
  obtain ⟨y, i, j, rfl, g, hi, hj, hij⟩ := h
  show (wareB (.str y) && makeB (.int i) && makeB (.int j) && decide (i ≤ j)) = true
  rw [g.1, hi, hj, decide_eq_true hij] <;> rfl
theorem ND.okT {d : PyData} (h : ND d) : okT d = true := by
  obtain ⟨y, i, j, rfl, g, _⟩ := h
  exact okT_tup (fun d hd => by
    simp only [List.mem_cons, List.not_mem_nil, or_false] at hd
    rcases hd with rfl | rfl | rfl
    · exact g.2
    · rfl
    · rfl) (by simp)
theorem ND.lay {d : PyData} (h : ND d) : d.canLay0 = true ∧ d.depth = 1 := by
  obtain ⟨y, i, j, rfl, g, _⟩ := h
  have e := okS_ok g.2
  constructor
  · show (PyData.strOk y && (true && (true && true))) = true
    rw [e] <;> rfl
  · rfl
theorem shaped_nd {ds : List PyData} (h : ∀ d ∈ ds, ND d) : SeqAt.shaped (.list ds) = true := by
  have h1 : PyData.canLayAll0 ds = true ∧ PyData.depthAll ds ≤ 1 := by
    induction ds with
    | nil => exact ⟨rfl, Nat.zero_le _⟩
    | cons d r ih =>
      obtain ⟨i1, i2⟩ := ih fun x hx => h x (List.mem_cons_of_mem _ hx)
      obtain ⟨j1, j2⟩ := (h d (List.mem_cons_self ..)).lay
      constructor
      · show (d.canLay0 && PyData.canLayAll0 r) = true
        rw [i1, j1] <;> rfl
      · show max d.depth (PyData.depthAll r) ≤ 1
        rw [j2]
        omega
  show (PyData.canLayAll0 ds && decide (PyData.depthAll ds + 1 ≤ 64)) = true
  rw [h1.1, decide_eq_true (by omega)] <;> rfl
theorem nx_in {a b : TS} {D D' : Ends} {σ : L2.St} {H : Hp} (h : tSeq a b D' σ H) : ({ D with nx := tSeq a b D' } : Ends).nx σ H := h
theorem tRet_in {te : TE} {D : Ends} {σ : L2.St} {H : Hp} (h : te σ H D.rt) : tRet te D σ H := h
theorem gName_in {i : Nat} {v : V} {σ : L2.St} {H : Hp} {Q : L2.St → Hp → Prop} (h : Q (σ.set i (some v)) H) : gName i v σ H Q := h
theorem okT_need {y : Str} {i j : Int} (h : GoodN y) : okT (.tuple [.str y, .int i, .int j]) = true := okT3 h.2 rfl rfl
theorem mk_in {i : Int} (h1 : 1 ≤ i) (h2 : i ≤ 999) : makeB (.int i) = true := by
  show (decide (1 ≤ i) && decide (i ≤ 999)) = true
  rw [decide_eq_true h1, decide_eq_true h2] <;> rfl
def BadL (x : Str) (d : PyData) : Prop := mayB x d = false ∧ okL d = true
theorem okL_list {ds : List PyData} (h : ∀ d ∈ ds, okT d = true) (hl : ds.length ≤ 1000) : okL (.list ds) = true := by
  show (ds.all okT && decide (ds.length ≤ 1000)) = true
  rw [decide_eq_true hl, Bool.and_true, List.all_eq_true]
  exact h
section
variable {P : Program} {w : World} {K : PySem.W.Frag} {mg : Str → Option Value} {base : Heap}
def badnsN : List Str := ["_law_names_here", "_law_ware", "_law_number", "_law_others", "_law_good", "_law_at", "_law_way", "_law_name", "_law_k"]
theorem scBadNs : FnScope badnsN ["_law_names_here", "_law_ware", "_law_number"] (defScope sBadNs) := ⟨rfl, rfl, rfl, by decide +kernel, rfl, by decide +kernel, by decide +kernel⟩
def spBadNs (K : PySem.W.Frag) (T : Addr) : Sp := fun vs H Q _ => ∃ (pn : Addr) (names : List Str) (x : Str) (n : Int), vs = [.ref pn, .str x, .int n] ∧ SqL K H pn (names.map V.str) ∧ x ∈ names ∧ names.Nodup ∧ 9 ≤ names.length ∧ names.length ≤ 100 ∧ (∀ y ∈ names, GoodN y) ∧ GxR.TabG H T ∧
  ∀ v d H', Kp T H H' → Dq K H' v d → BadL x d → Q v H'
theorem ok_badns {f fB T : Addr} {fd fdB : FuncData} (F : Fun K "_law_bad_needs" "_law_bad_needs" sBadNs f fd)
    (GB : FnOk P w K mg base CX0 1 fB fdB ["_law_names_here", "_law_ware", "_law_number"] (spBadN K T)) (kB : PySem.W.keepIn K (.ref fB) = true) (bB : Binds K fdB ["_law_names_here", "_law_ware", "_law_number"] []) (gB : mg "_law_bad_need" = some (.ref fB))
    (mL : mg "len" = none) (mR : mg "range" = none) (mT : mg "tuple" = none) : FnOk P w K mg base CX0 2 f fd ["_law_names_here", "_law_ware", "_law_number"] (spBadNs K T) := by
  refine F.ok scBadNs (fun vs H Q E h => ?_) (fun cdv A outer s H vs Q E hr h => ?_)
  · obtain ⟨pn, names, x, n, rfl, _⟩ := h
    rfl
  · obtain ⟨pn, names, x, n, rfl, hN, hx, hnd, hn2, hn100, hgd, ht, q⟩ := h
    refine ⟨_, pss_cons (ps_set (i := 3) scBadNs.nd rfl (.inr rfl) (pe_lc (own := [("_law_name", 7)]) (g := gName 7) rfl scBadNs.nd (pi_list (pv 0)) (blkOk_by (own := [("_law_name", 7)]) (N := badnsN) (sc := defScope sBadNs) (by decide +kernel))
          (fun _ _ _ _ _ => pg_name (i := 7) scBadNs.nd rfl (Or.inl rfl)) (fun _ _ _ _ _ => pts_one (pt_cmpR op_ne (pv 7) (pv 1) (nomark _))) (fun _ _ _ _ _ => pv 7)))
      (pss_cons (ps_setLc (i := 4) (own := [("_law_k", 8)]) (g := gName 8) (tt := tYes) rfl scBadNs.nd rfl rfl (sw_true rfl rfl rfl (by decide +kernel)) (pi_range1 (by rfl) mR (pa_cons (pe_op op_mod (pe_op op_fdiv (pv 2) pe_int) pe_int) pa_nil)) (blkOk_by (own := [("_law_k", 8)]) (N := badnsN) (sc := defScope sBadNs) (by decide +kernel))
          (fun _ _ _ _ _ => pg_name (i := 8) scBadNs.nd rfl (Or.inl rfl)) (fun _ _ _ _ _ => pts_nil) (fun _ _ _ _ _ => pe_tup (pa_cons (pe_ix (r := rIxL K) ix_list (pv 3) (pv 8) (fun _ _ => rfl)) (pa_cons (pe_op op_add pe_int (pe_op op_mod (pv 2) pe_int)) (pa_cons (pe_op op_add pe_int (pe_op op_mod (pv 2) pe_int)) pa_nil)))))
      (pss_cons (ps_set (i := 5) scBadNs.nd rfl (.inl rfl) (pe_op op_mod (pe_op op_fdiv (pv 2) pe_int) (pe_op op_add (pe_callB call_len_seq (by rfl) mL PySem.boot_len (pa_cons (pv 4) pa_nil)) pe_int)))
      (pss_cons (ps_set (i := 6) scBadNs.nd rfl (.inl rfl) (pe_op op_mod (pv 2) pe_int))
      (pss_cons (ps_if (pt_cmpR op_eq (pv 6) pe_int (nomark _)) (pss_one (ps_ret (pe_ix ix_list (pe_lst (pa_cons pe_non (pa_cons pe_int (pa_cons (pe_callTy call_tuple_of (by rfl) mT boot_tuple (pa_cons (pv 4) pa_nil)) (pa_cons pe_str (pa_cons (pe_disp (pps_cons pe_str pe_int pps_nil) (by rfl) (by rfl) (fun z => by cases z) (by decide)) pa_nil))))))
          (pe_op op_mod (pe_op op_fdiv (pv 2) pe_int) pe_int) (fun _ _ => rfl)))) pss_nil)
      (pss_cons (ps_if (pt_cmpR op_eq (pv 6) pe_int (nomark _)) (pss_one (ps_ret (pe_lc (own := [("_law_k", 8)]) (g := gName 8) (tt := tYes) rfl scBadNs.nd (pi_range1 (by rfl) mR (pa_cons pe_int pa_nil)) (blkOk_by (own := [("_law_k", 8)]) (N := badnsN) (sc := defScope sBadNs) (by decide +kernel))
          (fun _ _ _ _ _ => pg_name (i := 8) scBadNs.nd rfl (Or.inl rfl)) (fun _ _ _ _ _ => pts_nil) (fun _ _ _ _ _ => pe_tup (pa_cons (pe_ix (r := rIxL K) ix_list (pv 3) (pv 8) (fun _ _ => rfl)) (pa_cons pe_int (pa_cons pe_int pa_nil))))))) pss_nil)
      (C8.pss_cut (ps_if (PW.pt (pw_and (pt_cmpR op_eq (pv 6) pe_int (nomark _)) (pw_and1 (pt_cmpR (op_neD hr.units) (pv 4) (pe_lst pa_nil) (nomark _)))))
          (pss_one (ps_ret (pe_op op_cat (pe_op op_cat (pe_slice sl_list (pv 4) po_none (po_some (pv 5))) (pe_lst (pa_cons (pe_tup (pa_cons (pe_ix ix_tup (pe_ix ix_list (pv 4) pe_int (fun _ _ => rfl)) pe_int (fun _ _ => rfl)) (pa_cons pe_int (pa_cons pe_int pa_nil)))) pa_nil))) (pe_slice sl_list (pv 4) (po_some (pv 5)) po_none)))) pss_nil)
      (pss_one (ps_ret (pe_op op_cat (pe_op op_cat (pe_slice sl_list (pv 4) po_none (po_some (pv 5))) (pe_lst (pa_cons (pe_call GB hr (by rfl) gB kB bB .nil pass0 (pa_cons (pv 0) (pa_cons (pv 1) (pa_cons (pe_op op_fdiv (pv 2) pe_int) pa_nil)))) pa_nil))) (pe_slice sl_list (pv 4) (po_some (pv 5)) po_none)))))))))), ?_⟩
    -- others
    refine tSeq_in (tAsg_in (read_others (K := K) (i := 7) (j := 1) (p := 0) (names := names) (x := x) hN ht ?h0 ?hj (by decide) ?hi (by omega) fun O H1 k1 nO eO => gName_in ?_))
    case h0 => rfl
    case hj => rfl
    case hi => show 7 < 9; decide
    have ol := others_len hnd hx
    have og : ∀ y ∈ names.filter (fun y => decide (y ≠ x)), GoodN y := fun y hy => hgd y (List.mem_filter.mp hy).1
    have hN1 := k1.seq hN
    have t1 := k1.tab
    generalize names.filter (fun y => decide (y ≠ x)) = oth at ol og eO
    -- good
    obtain ⟨m, em⟩ : ∃ m : Nat, n / 3 % 4 = (m : Int) := ⟨(n / 3 % 4).toNat, by omega⟩
    have hm4 : m < 4 := by omega
    refine nx_in ?_
    refine tSeq_in (tAsg_in (read_tups (K := K) (oth := oth) (m := m) (a := 1 + n % 9) (b := 9 + n % 9) (i := 8) (j := 3) (by omega) (by omega) (.inl (.of eO)) t1 ?g1 (by decide) ?g2 (fun Q h => ?g3) (fun v H' Q h => ?g4) (fun v H' Q h => ?g5) fun G ts H2 k2 nG eG tt => ?_))
    case g1 => rfl
    case g2 => show 8 < 9; decide
    case g3 => exact ⟨_, rfl, n, 3, rfl, rfl, ⟨by decide, by decide⟩, _, 4, rfl, rfl, (by show (0 : Int) < 4; decide), by show Q (.int (n / 3 % 4)) H1; rw [em]; exact h⟩
    case g4 => exact ⟨_, rfl, n, 9, rfl, rfl, (by show (0 : Int) < 9; decide), 1, _, rfl, rfl, h⟩
    case g5 => exact ⟨_, rfl, n, 9, rfl, rfl, (by show (0 : Int) < 9; decide), 9, _, rfl, rfl, h⟩
    have dg := tt.dq (K := K) (g := fun y => [.str y, .int (1 + n % 9), .int (9 + n % 9)]) (fun y => .cons (.str y) (.cons (.int _) (.cons (.int _) .nil)))
    have gt : ∀ y ∈ oth.take m, GoodN y := fun y hy => og y (List.mem_of_mem_take hy)
    have hlt : ts.length = (oth.take m).length := by have := dpAll_len dg; rw [List.length_map, List.length_map] at this; exact this
    have hl3 : (oth.take m).length = m := by rw [List.length_take]; omega
    have t2 := k2.tab
    have eO2 := k2.lst eO
    have k12 := k1.trans k2
    have hN2 := k2.seq hN1
    -- at, way
    refine ⟨_, rfl, n, 12, rfl, rfl, ⟨by decide, by decide⟩, _, rfl, G, _, rfl, .inl (.inl (.of eG)), _, 1, rfl, rfl, n / 12, _, rfl, rfl, (by show (0 : Int) < ((ts.map V.ref).length : Int) + 1; omega), ?_⟩
    have hat0 : 0 ≤ n / 12 % (((ts.map V.ref).length : Int) + 1) := Int.emod_nonneg _ (by omega)
    refine ⟨_, rfl, n, 4, rfl, rfl, (by show (0 : Int) < 4; decide), ?_⟩
    refine ⟨_, rfl, rfl, _, rfl, iteD (fun w0 => ?_) (fun w0 => ?_)⟩
    · refine ⟨_, rfl, G, _, rfl, .inl ⟨.inl (.of eG), fun tu ntu => ?_⟩⟩
      have k3 := Kp.new (o := HO.tup (ts.map V.ref)) t2 ntu
      refine fun dp ndp => ⟨upd_same, [((Sum.inr "a" : Key), V.int 1)], rfl, (by decide), ?_⟩
      have k4 := (Kp.new (o := HO.dK []) k3.tab ndp).set (o := HO.dK (mergeK [] [((Sum.inr "a" : Key), V.int 1)])) ndp (tab_nn k3.tab ndp)
      have e4 : upd (upd (upd H2 tu (.tup (ts.map V.ref))) dp (.dK [])) dp (.dK (mergeK [] [((Sum.inr "a" : Key), V.int 1)])) dp = some (.dK (mergeK [] [((Sum.inr "a" : Key), V.int 1)])) := upd_same
      have t4 := k4.tab
      generalize upd (upd (upd H2 tu (.tup (ts.map V.ref))) dp (.dK [])) dp (.dK (mergeK [] [((Sum.inr "a" : Key), V.int 1)])) = H4 at k4 e4 t4 ⊢
      refine ⟨(by show (5 : Nat) ≤ sizeLine; decide), fun l nl => ?_⟩
      have k5 := Kp.new (o := HO.lst [.non, .int 5, .ref tu, .str "needs", .ref dp]) t4 nl
      obtain ⟨v, ev, d, dv, bd⟩ := at_pick (xs := [V.non, .int 5, .ref tu, .str "needs", .ref dp]) (i := n / 4 % 5) (p := fun v => ∃ d, Dq K H4 v d ∧ BadL x d) (by omega) (by show n / 4 % 5 < ((5 : Nat) : Int); omega) (fun v hv => by
        simp only [List.mem_cons, List.not_mem_nil, or_false] at hv
        rcases hv with rfl | rfl | rfl | rfl | rfl
        · exact ⟨_, .non, rfl, rfl⟩
        · exact ⟨_, .int _, rfl, rfl⟩
        · exact ⟨_, .tup (k4.sqt (.inl (.inl upd_same))) ((k3.trans k4).dqAll _ _ (DqAll.of dg)), rfl, rfl⟩
        · exact ⟨_, .str _, rfl, rfl⟩
        · exact ⟨_, .dct e4, rfl, rfl⟩)
      exact ⟨_, rfl, n, 4, rfl, rfl, ⟨by decide, by decide⟩, _, 5, rfl, rfl, (by show (0 : Int) < 5; decide), l, _, _, _, rfl, rfl, .inl (.of upd_same), ev, q v d _ (((k12.trans k3).trans k4).trans k5) (k5.dq _ _ dv) bd⟩
    refine ⟨_, rfl, rfl, _, rfl, iteD (fun w1 => ?_) (fun w1 => ?_)⟩
    · refine tRet_in (read_tups (K := K) (oth := oth) (m := 7) (a := 1) (b := 5) (i := 8) (j := 3) (by omega) (by omega) (.inl (.of eO2)) t2 ?u1 (by decide) ?u2 (fun Q h => h) (fun v H' Q h => h) (fun v H' Q h => h) fun D us H3 k3 nD eD uu => ?_)
      case u1 => rfl
      case u2 => show 8 < 9; decide
      have du := uu.dq (K := K) (g := fun y => [.str y, .int 1, .int 5]) (fun y => .cons (.str y) (.cons (.int _) (.cons (.int _) .nil)))
      refine q _ _ _ (k12.trans k3) (.lst (.inl (.of eD)) (DqAll.of du)) ⟨may_long (by rw [List.length_map, List.length_take]; omega), okL_list (fun d hd => ?_) (by rw [List.length_map, List.length_take]; omega)⟩
      obtain ⟨y, hy, rfl⟩ := List.mem_map.mp hd
      exact okT_need (og y (List.mem_of_mem_take hy))
    have t2r := Kp.refl t2
    have hV : (ts.map V.ref).length ≤ 3 := by rw [List.length_map]; omega
    have hg3 : ((oth.take m).map fun y => PyData.tuple [.str y, .int (1 + n % 9), .int (9 + n % 9)]).length ≤ 3 := by rw [List.length_map]; omega
    refine ⟨fun σ' H3 => σ' = [some (.ref pn), some (.str x), some (.int n), some (.ref O), some (.ref G), some (.int (n / 12 % (((ts.map V.ref).length : Int) + 1))), some (.int (n % 4)), none, none] ∧ Kp T H2 H3, ?_, fun σ' H3 hm => ?_⟩
    · refine ⟨_, rfl, rfl, _, rfl, iteD (fun w2 => ?_) (fun w2 => ⟨rfl, t2r⟩)⟩
      refine ⟨_, rfl, (by show (0 : Nat) ≤ sizeLine; decide), fun g ng => ?_⟩
      have k3 := Kp.new (o := HO.lst []) t2 ng
      have eg : upd H2 g (.lst []) g = some (.lst []) := upd_same
      generalize upd H2 g (.lst []) = H3 at k3 eg ⊢
      refine ⟨_, _, .lst (.inl (.of (k3.lst eG))) (k3.dpAll _ _ dg), .lst (.inl (.of eg)) .nil, shaped_nd (fun d hd => ?_), rfl, _, rfl, ?_⟩
      · obtain ⟨y, hy, rfl⟩ := List.mem_map.mp hd
        exact ⟨y, _, _, rfl, gt y hy, mk_in (by omega) (by omega), mk_in (by omega) (by omega), by omega⟩
      rw [eqv_nil]
      cases hz : ((oth.take m).map fun y => PyData.tuple [.str y, .int (1 + n % 9), .int (9 + n % 9)]).isEmpty with
      | true => exact iteF ⟨rfl, k3⟩
      | false =>
      refine iteT ?_
      have hne : oth.take m ≠ [] := fun z => by rw [z] at hz; cases hz
      refine ⟨_, rfl, _, rfl, _, rfl, G, _, rfl, .inl (.of (k3.lst eG)), fun s1 ns1 => ?_⟩
      have ks1 := Kp.new (o := HO.lst (cutV (ts.map V.ref) none (some (n / 12 % (((ts.map V.ref).length : Int) + 1))))) k3.tab ns1
      have es1 : upd H3 s1 (.lst (cutV (ts.map V.ref) none (some (n / 12 % (((ts.map V.ref).length : Int) + 1))))) s1 = some (.lst (cutV (ts.map V.ref) none (some (n / 12 % (((ts.map V.ref).length : Int) + 1))))) := upd_same
      have ts1 := ks1.tab
      have kk1 := k3.trans ks1
      generalize upd H3 s1 (.lst (cutV (ts.map V.ref) none (some (n / 12 % (((ts.map V.ref).length : Int) + 1))))) = Hs1 at ks1 es1 ts1 kk1 ⊢
      obtain ⟨y0, yr, ey⟩ : ∃ y0 yr, oth.take m = y0 :: yr := by
        cases hz : oth.take m with
        | nil => rw [hz] at hne; exact absurd rfl hne
        | cons a b => exact ⟨a, b, rfl⟩
      obtain ⟨t0, tr, et0, e00⟩ : ∃ t0 tr, ts = t0 :: tr ∧ H2 t0 = some (.tup [.str y0, .int (1 + n % 9), .int (9 + n % 9)]) := by
        rw [ey] at tt
        cases tt with
        | cons h1 _ => exact ⟨_, _, rfl, h1⟩
      have e00' := kk1.sqt (K := K) (.inl (.inl e00))
      refine ⟨_, rfl, G, _, 0, .ref t0, rfl, rfl, .inl (.of (kk1.lst eG)), (by rw [et0]; exact atI_nat (j := 0) rfl), t0, _, 0, _, rfl, rfl, e00', atI_nat (j := 0) rfl, (by show (3 : Nat) ≤ sizeLine; decide), fun tp ntp => ?_⟩
      have ktp := Kp.new (o := HO.tup [.str y0, .int 7, .int 8]) ts1 ntp
      have etp : upd Hs1 tp (.tup [.str y0, .int 7, .int 8]) tp = some (.tup [.str y0, .int 7, .int 8]) := upd_same
      have ttp := ktp.tab
      generalize upd Hs1 tp (.tup [.str y0, .int 7, .int 8]) = Hv at ktp etp ttp ⊢
      refine ⟨(by show (1 : Nat) ≤ sizeLine; decide), fun l1 nl1 => ?_⟩
      have kl1 := Kp.new (o := HO.lst [V.ref tp]) ktp.tab nl1
      have kA := ktp.trans kl1
      refine ⟨s1, l1, _, _, rfl, rfl, kA.lst es1, upd_same, line1000 (by have := cutV_length (ts.map V.ref) none (some (n / 12 % (((ts.map V.ref).length : Int) + 1))); show _ + 1 ≤ 1000; omega), fun c1 nc1 => ?_⟩
      have kc1 := Kp.new (o := HO.lst (cutV (ts.map V.ref) none (some (n / 12 % (((ts.map V.ref).length : Int) + 1))) ++ [V.ref tp])) kl1.tab nc1
      have kB := (kk1.trans kA).trans kc1
      refine ⟨_, rfl, _, rfl, _, rfl, G, _, rfl, .inl (.of (kB.lst eG)), fun s2 ns2 => ?_⟩
      have ks2 := Kp.new (o := HO.lst (cutV (ts.map V.ref) (some (n / 12 % (((ts.map V.ref).length : Int) + 1))) none)) kc1.tab ns2
      refine ⟨c1, s2, _, _, rfl, rfl, ks2.lst upd_same, upd_same, line1000 (by
        have h1 := cutV_length (ts.map V.ref) none (some (n / 12 % (((ts.map V.ref).length : Int) + 1)))
        have h2 := cutV_length (ts.map V.ref) (some (n / 12 % (((ts.map V.ref).length : Int) + 1))) none
        rw [List.length_append, List.length_singleton]
        omega), fun c2 nc2 => ?_⟩
      have kc2 := Kp.new (o := HO.lst (cutV (ts.map V.ref) none (some (n / 12 % (((ts.map V.ref).length : Int) + 1))) ++ [V.ref tp] ++ cutV (ts.map V.ref) (some (n / 12 % (((ts.map V.ref).length : Int) + 1))) none)) ks2.tab nc2
      have kE := (kc1.trans ks2).trans kc2
      have kD := kl1.trans kE
      have kF := (kk1.trans ktp).trans kD
      have dall := (DqAll.of dg)
      have dall2 := kF.dqAll _ _ dall
      have dfin := dqAll_app (dqAll_app (dqAll_take (n / 12 % (((ts.map V.ref).length : Int) + 1)).toNat dall2) (.cons (kD.dq _ _ (.tup (.inl (.inl etp)) (.cons (.str y0) (.cons (.int 7) (.cons (.int 8) .nil))))) .nil)) (dqAll_drop (n / 12 % (((ts.map V.ref).length : Int) + 1)).toNat dall2)
      refine q _ _ _ (k12.trans kF) (.lst (.inl (.of (by rw [upd_same, cutV_to hat0, cutV_from hat0]))) dfin) ⟨may_twice (d := PyData.tuple [.str y0, .int 7, .int 8]) (by rw [List.take_append_drop, ey]; exact List.mem_cons_self ..), okL_list (fun d hd => ?_) ?_⟩
      · rcases List.mem_append.mp hd with hd | hd
        · rcases List.mem_append.mp hd with hd | hd
          · obtain ⟨y, hy, rfl⟩ := List.mem_map.mp (List.mem_of_mem_take hd)
            exact okT_need (gt y hy)
          · rw [List.mem_singleton.mp hd]
            exact okT_need (gt y0 (by rw [ey]; exact List.mem_cons_self ..))
        · obtain ⟨y, hy, rfl⟩ := List.mem_map.mp (List.mem_of_mem_drop hd)
          exact okT_need (gt y hy)
      · simp only [List.length_append, List.length_take, List.length_drop, List.length_singleton]
        omega
    · obtain ⟨rfl, k3⟩ := hm
      refine ⟨_, rfl, _, rfl, _, rfl, G, _, rfl, .inl (.of (k3.lst eG)), fun s1 ns1 => ?_⟩
      have ks1 := Kp.new (o := HO.lst (cutV (ts.map V.ref) none (some (n / 12 % (((ts.map V.ref).length : Int) + 1))))) k3.tab ns1
      have es1 : upd H3 s1 (.lst (cutV (ts.map V.ref) none (some (n / 12 % (((ts.map V.ref).length : Int) + 1))))) s1 = some (.lst (cutV (ts.map V.ref) none (some (n / 12 % (((ts.map V.ref).length : Int) + 1))))) := upd_same
      have ts1 := ks1.tab
      have kk1 := k3.trans ks1
      generalize upd H3 s1 (.lst (cutV (ts.map V.ref) none (some (n / 12 % (((ts.map V.ref).length : Int) + 1))))) = Hs1 at ks1 es1 ts1 kk1 ⊢
      refine ⟨_, rfl, _, rfl, _, rfl, n, 60, rfl, rfl, ⟨by decide, by decide⟩, pn, names, x, _, rfl, kk1.seq hN2, hx, hnd, (by omega), (by omega), hgd, ts1, fun vb db Hv kv dv bd => ?_⟩
      refine ⟨(by show (1 : Nat) ≤ sizeLine; decide), fun l1 nl1 => ?_⟩
      have kl1 := Kp.new (o := HO.lst [vb]) kv.tab nl1
      have kA := kv.trans kl1
      refine ⟨s1, l1, _, _, rfl, rfl, kA.lst es1, upd_same, line1000 (by have := cutV_length (ts.map V.ref) none (some (n / 12 % (((ts.map V.ref).length : Int) + 1))); show _ + 1 ≤ 1000; omega), fun c1 nc1 => ?_⟩
      have kc1 := Kp.new (o := HO.lst (cutV (ts.map V.ref) none (some (n / 12 % (((ts.map V.ref).length : Int) + 1))) ++ [vb])) kl1.tab nc1
      have kB := (kk1.trans kA).trans kc1
      refine ⟨_, rfl, _, rfl, _, rfl, G, _, rfl, .inl (.of (kB.lst eG)), fun s2 ns2 => ?_⟩
      have ks2 := Kp.new (o := HO.lst (cutV (ts.map V.ref) (some (n / 12 % (((ts.map V.ref).length : Int) + 1))) none)) kc1.tab ns2
      refine ⟨c1, s2, _, _, rfl, rfl, ks2.lst upd_same, upd_same, line1000 (by
        have h1 := cutV_length (ts.map V.ref) none (some (n / 12 % (((ts.map V.ref).length : Int) + 1)))
        have h2 := cutV_length (ts.map V.ref) (some (n / 12 % (((ts.map V.ref).length : Int) + 1))) none
        rw [List.length_append, List.length_singleton]
        omega), fun c2 nc2 => ?_⟩
      have kc2 := Kp.new (o := HO.lst (cutV (ts.map V.ref) none (some (n / 12 % (((ts.map V.ref).length : Int) + 1))) ++ [vb] ++ cutV (ts.map V.ref) (some (n / 12 % (((ts.map V.ref).length : Int) + 1))) none)) ks2.tab nc2
      have kE := (kc1.trans ks2).trans kc2
      have kD := kl1.trans kE
      have kF := (kk1.trans kv).trans kD
      have dall := (DqAll.of dg)
      have dall2 := kF.dqAll _ _ dall
      have dfin := dqAll_app (dqAll_app (dqAll_take (n / 12 % (((ts.map V.ref).length : Int) + 1)).toNat dall2) (.cons (kD.dq _ _ (dv)) .nil)) (dqAll_drop (n / 12 % (((ts.map V.ref).length : Int) + 1)).toNat dall2)
      refine q _ _ _ (k12.trans kF) (.lst (.inl (.of (by rw [upd_same, cutV_to hat0, cutV_from hat0]))) dfin) ⟨may_bad ⟨db, List.mem_append_left _ (List.mem_append_right _ (List.mem_singleton.mpr rfl)), bd⟩, okL_list (fun d hd => ?_) ?_⟩
      · rcases List.mem_append.mp hd with hd | hd
        · rcases List.mem_append.mp hd with hd | hd
          · obtain ⟨y, hy, rfl⟩ := List.mem_map.mp (List.mem_of_mem_take hd)
            exact okT_need (gt y hy)
          · rw [List.mem_singleton.mp hd]
            exact bd.2
        · obtain ⟨y, hy, rfl⟩ := List.mem_map.mp (List.mem_of_mem_drop hd)
          exact okT_need (gt y hy)
      · simp only [List.length_append, List.length_take, List.length_drop, List.length_singleton]
        omega
end
end Pk

set_option Elab.async false
set_option linter.all false
set_option maxRecDepth 100000
set_option maxHeartbeats 4000000
namespace Pk
open PySem PySem.Spec PyProof.Rows L2
/-! ### a comprehension while an error is handled: the block's context bears the error too -/
abbrev blkP (X : Cx) (p : Addr × Obj) (s : Shared) (H : Hp) (scope : Scope) (ce : Env) (fp : List Addr) : Cx := (X.blk s H scope ce fp).tr [p] (fun _ _ => False)
theorem inv_bear {X : Cx} {p : Addr × Obj} {σ : L2.St} {H : Hp} {s : Shared} (I : Inv X [] σ H s) (hpn : X.pn = []) (e1 : s.heap.get? p.1 = some p.2) (e2 : H p.1 = none) (e3 : p.1 ≠ X.env.locals) (e4 : p.1 ∉ X.fs) (e5 : ∀ v, p.2.data ≠ .cell v) : Inv (X.tr [p] (fun _ _ => False)) [] σ H s :=
  ⟨I.ok.toTry _ _, I.os, I.bare, I.base, I.loc, I.cell, I.free, I.freeC, (fun r hr => by
    have hr' : r = p := by simpa using hr
    subst hr'
    exact ⟨e1, e2, e3, e4, e5⟩), I.hok, I.len⟩
section
variable {X : Cx}
theorem pe_lcH {p : Addr × Obj} {elt tg iter : Expr} {ifs : List Expr} {scope : Scope} {own : List (Str × Nat)} {pos : Pos} {wi : TI} {g : TG} {tt : TT} {te : TE} (hot : L2H.Hot1 X.A p) (hp : p ∈ X.pn) (hN : X.N.Nodup) (hi : L2H.PIH X tg iter wi) (ok : BlkOk X.N X.env.scope scope own)
    (hg : ∀ (s : Shared) (H : Hp) (C : Addr) (cl : List (Str × Addr)) (fp : List Addr), PG (blkP X p s H scope (compEnvC scope cl C X.env) fp) tg g) (ht : ∀ (s : Shared) (H : Hp) (C : Addr) (cl : List (Str × Addr)) (fp : List Addr), PTs (blkP X p s H scope (compEnvC scope cl C X.env) fp) ifs tt)
    (he : ∀ (s : Shared) (H : Hp) (C : Addr) (cl : List (Str × Addr)) (fp : List Addr), PE (blkP X p s H scope (compEnvC scope cl C X.env) fp) elt te) (hs : ∀ x, foldedSetIterable iter X.env x = pure x := by intro _; rfl) :
    PE X (.ListComp elt [⟨tg, iter, ifs, 0⟩] scope pos) (tLc wi g tt te (own.map fun o => o.2)) := by
  refine ⟨fun pins s σ H Q I h => ?_⟩
  rw [eval_ListComp]
  have cl0 : ∀ y ∈ scope.names, y.2 = .free → ∃ c, X.env.cells.lookup y.1 = some c := fun y hy e => (ok.free y hy e).elim (fun z => I.ok.has _ (.inl z)) fun z => I.ok.has _ (.inr z)
  refine wpAny_comprehension_free rfl hs (closure_ok cl0) ok.kind (fun y hy e => by rw [ok.uniq y hy, e]) (thn (hi.run pins s σ H _ I h) fun v1 sA hA => thn hA fun v2 sB hB => ?_)
  obtain ⟨it, fp, tn, J, HB, rfl, IB, T, stB, fB, q⟩ := hB
  have pB := IB.pin p (List.mem_append_left _ hp)
  refine wpAny_newObj_type (newEnv_comp ?_) (Nat.zero_le _)
  generalize eD : sB.heap.objs.size = D
  have freshD : HB D = none := IB.hok.fresh (Nat.le_of_eq eD)
  obtain ⟨W, ⟨mm, w0⟩, turn⟩ := q D freshD
  -- the state with the new list
  generalize eC : ({ sB with heap := sB.heap.push { cls := .type "list", data := .seq ([] : List Value).toArray } } : Shared) = sC
  have up : sC.heap = sB.heap.push { cls := .type "list", data := .seq ([] : List Value).toArray } := by rw [← eC]
  have IC : Inv X pins σ (upd HB D (.lst [])) sC := by
    subst eC
    refine IB.laid (t' := sB.toks) (fun b o e => Heap.get?_push_of_some _ e) (Nat.le_of_eq eD) ⟨Nat.zero_le _, [], 0, .nil, ?_⟩
    exact eD ▸ Heap.get?_push_size _ rfl
  have old : ∀ b ∈ fp, b < sB.heap.objs.size := fun b hb => (T.obj _ _ stB b hb).elim fun o z => Heap.lt_size z.1
  have neD : ∀ b, b < sB.heap.objs.size → b ≠ D := fun b hb => by rw [← eD]; exact Nat.ne_of_lt hb
  have fC : ∀ b ∈ fp, FpOk X pins (upd HB D (.lst [])) b ∧ b < sC.heap.objs.size := fun b hb =>
    ⟨⟨by rw [upd_ne (neD b (old b hb))]; exact (fB b hb).1, (fB b hb).2⟩, by rw [up, Heap.size_push]; exact Nat.lt_succ_of_lt (old b hb)⟩
  have stC : tn 0 sC.heap := T.keep _ _ _ stB fun b _ o e => by rw [up]; exact Heap.get?_push_of_some _ e
  have pC := IC.pin p (List.mem_append_left _ hp)
  have I0 := block_start IC ok hN fC
  have runG := hg sC (upd HB D (.lst [])) sC.heap.objs.size (cellsFrom (sC.heap.objs.size + 1) scope.names (cloFrom X.env.cells scope.names [])) fp
  have runT := ht sC (upd HB D (.lst [])) sC.heap.objs.size (cellsFrom (sC.heap.objs.size + 1) scope.names (cloFrom X.env.cells scope.names [])) fp
  have runE := he sC (upd HB D (.lst [])) sC.heap.objs.size (cellsFrom (sC.heap.objs.size + 1) scope.names (cloFrom X.env.cells scope.names [])) fp
  have none0 : ∀ b ∈ fp, upd HB D (.lst []) b = none := fun b hb => (fC b hb).1.1
  show codeAny _ _ (.compStart _ 0 (.ref it) (.ref D) (compEnvC scope (cellsFrom (sC.heap.objs.size + 1) scope.names (cloFrom X.env.cells scope.names [])) sC.heap.objs.size X.env)) _ { sC with heap := pushCells (sC.heap.push { cls := .type "dict", data := .dict #[] }) scope.names }
  generalize ec : compEnvC scope (cellsFrom (sC.heap.objs.size + 1) scope.names (cloFrom X.env.cells scope.names [])) sC.heap.objs.size X.env = ce at I0 runG runT runE ⊢
  have ceL : ce.locals = sC.heap.objs.size := by
    subst ec
    rfl
  generalize eH : upd HB D (.lst []) = HC at IC I0 runG runT runE w0 none0 fC pC
  generalize eF : ({ sC with heap := pushCells (sC.heap.push { cls := .type "dict", data := .dict #[] }) scope.names } : Shared) = sF at I0 ⊢
  have keepF : ∀ b o, sC.heap.get? b = some o → sF.heap.get? b = some o := fun b o e => by
    subst eF
    exact pushCells_keeps _ _ _ _ (Heap.get?_push_of_some _ e)
  have stF : tn 0 sF.heap := T.keep _ _ _ stC fun b _ o e => keepF b o e
  -- the block bears the error
  have I1 : Inv (blkP X p sC HC scope ce fp) [] (wipe σ (own.map (·.2))) HC sF := inv_bear I0 rfl (keepF _ _ pC.1) pC.2.1 (by
      show p.1 ≠ ce.locals
      rw [ceL]
      exact Nat.ne_of_lt (Heap.lt_size pC.1)) (fun z => (List.mem_cons.mp (IC.stkSub _ z)).elim pC.2.2.1 pC.2.2.2.1) pC.2.2.2.2
  have hotB : L2H.HotC (blkP X p sC HC scope ce fp) := ⟨p, hot, List.mem_singleton.mpr rfl⟩
  have still : ∀ {σ' : L2.St} {H' : Hp} {s' : Shared}, Inv (blkP X p sC HC scope ce fp) [] σ' H' s' → (∀ b ∈ fp, H' b = none) → ∀ b ∈ fp, FpOk (blkP X p sC HC scope ce fp) [] H' b := fun {_ _ _} I' nn b hb => by
    refine ⟨nn b hb, (I'.ok.exf b hb).1, I'.ok.exfs b hb, .inl hb, (I'.ok.exf b hb).2, fun r hr => ?_⟩
    have er : r = p := by simpa using hr
    rw [er]
    exact (fC b hb).1.2.2.2.2.2 p (List.mem_append_left _ hp)
  refine codeAny_compStart_list ?loop (T.self X.A 0 _ _ _ stF ?loop)
  refine compLoop_any (fun n s' => ∃ i H', Inv (blkP X p sC HC scope ce fp) [] (wipe σ (own.map (·.2))) H' s' ∧ tn i s'.heap ∧ (∀ b ∈ fp, H' b = none) ∧ W i n H') ?_ mm ⟨0, HC, I1, stF, none0, w0⟩
  rintro n s5 ⟨i, H5, I5, st5, none5, w5⟩
  rcases turn i n H5 w5 with ⟨stop, done⟩ | ⟨go, Nx, less, step⟩
  · -- no more items: back where the comprehension stands
    refine thnF (T.done (blkP X p sC HC scope ce fp) rfl rfl rfl hotB i [] s5 _ H5 (fun _ _ => False) I5 (still I5 none5) st5 stop) fun r s6 hr => ?_
    obtain ⟨rfl, I6⟩ := hr
    have I7 : Inv X pins σ H5 s6 := IC.call' (ch := fp) I6.os I6.base I6.hok I6.bare fun b hb => ⟨(fC b hb).1.2.2.2.1, (fC b hb).1.2.1, (fC b hb).1.2.2.2.2.1, (fC b hb).1.2.2.2.2.2⟩
    have free5 : H5 sC.heap.objs.size = none := by
      rw [← ceL]
      exact I6.free
    obtain ⟨m, ns, _⟩ := I6.loc
    have ns : s6.heap.Ns sC.heap.objs.size m := by
      rw [← ceL]
      exact ns
    obtain ⟨f0, f1, f2, f3, f4, f5⟩ := IC.fpOk (Nat.le_refl _) free5
    exact ⟨m, ns, fun h2 same => ⟨.ref D, H5, I7.turned (t' := s6.toks) (fun b o hb e => (same.2 b hb).trans e) f0 f1 f3 f4 f5, rfl, done⟩⟩
  · -- one more item
    refine thnF (T.item (blkP X p sC HC scope ce fp) rfl rfl rfl hotB i [] s5 _ H5 (fun _ _ => False) I5 (still I5 none5) st5 go) fun r s6 hr => ?_
    obtain ⟨u, rfl, h6⟩ := hr
    refine thnF h6 fun _ s7 h7 => ?_
    obtain ⟨x, H7, I7, rx, yx, st7, n7⟩ := h7
    refine thnF (runG.run _ s7 _ H7 x u _ (I7.pinned (still I7 n7) (T.obj _ _ st7)) rx (step x H7 yx)) fun _ s8 h8 => ?_
    obtain ⟨σ8, H8, I8, same, q8⟩ := h8
    refine thnF (runT.run _ s8 σ8 H8 _ I8 q8) fun b s9 h9 => ?_
    obtain ⟨H9, I9, q9⟩ := h9
    have next : ∀ {s' : Shared} {H' : Hp}, Inv (blkP X p sC HC scope ce fp) ([] ++ pinsAt fp s7.heap) σ8 H' s' → Nx H' → ∃ m, m < n ∧ ∃ i H', Inv (blkP X p sC HC scope ce fp) [] (wipe σ (own.map (·.2))) H' s' ∧ tn i s'.heap ∧ (∀ b ∈ fp, H' b = none) ∧ W i m H' := fun {s' H'} I' nx => by
      obtain ⟨m', lt, w'⟩ := less H' nx
      have stays : ∀ b ∈ fp, ∀ o, s7.heap.get? b = some o → s'.heap.get? b = some o ∧ H' b = none := fun b hb o e => by
        have z := I'.pin (b, o) (List.mem_append_right _ (List.mem_append_right _ (mem_pinsAt hb e)))
        exact ⟨z.1, z.2.1⟩
      refine ⟨m', lt, i + 1, H', (I'.unpinned (pins := [])).weak (by rw [← same, wipe_length]) (fun j v e => ?_), T.keep _ _ _ st7 fun b hb o e => (stays b hb o e).1, fun b hb => ?_, w'⟩
      · rw [← same] at e
        exact (wipe_some e).1
      · exact (T.obj _ _ st7 b hb).elim fun o z => (stays b hb o z.1).2
    cases b with
    | false => exact next I9 q9
    | true =>
      refine thnF (runE.run _ s9 σ8 H9 _ I9 q9) fun z s10 h10 => ?_
      obtain ⟨yv, H10, I10, ry, acc, eacc, lacc, nx⟩ := h10
      exact app_ok (X := blkP X p sC HC scope ce fp) I10 eacc lacc ry fun s11 I11 => next I11 nx
end
end Pk

set_option Elab.async false
set_option linter.all false
set_option maxRecDepth 100000
set_option maxHeartbeats 4000000
namespace Pk
open PySem PySem.Spec PyProof.Rows L2
abbrev sAsk : Stmt := topS 27
abbrev sRef : Stmt := topS 28
/-! ### isinstance of the error in hand, whatever its class -/
def rIsE2 (K : PySem.W.Frag) (cls : Value) (d : Option Addr) (a : Addr) : List V → Hp → VK → Prop := fun xs H Q => ∃ D, cls = .ref D ∧ d = none ∧ ExcC K D ∧ rIsE K D a xs H Q
theorem call_isE2 {X : Cx} {a : Addr} {cls : Value} {d : Option Addr} {oe : Obj} {pn : List (Addr × Obj)} (hz : Zc cls d oe) (hf : ∃ vs, oe.data = .fields vs) : CallR (X.suite a ((a, oe) :: pn)) (.builtin "isinstance") (rIsE2 X.K cls d a) := by
  intro pins s σ H xs us Q I r h
  obtain ⟨D, rfl, rfl, ec, h⟩ := h
  exact call_isE ec hz hf pins s σ H xs us Q I r h
/-- an error's class among the document's -/
structure ErrT (K : PySem.W.Frag) (PE : Addr) (Cs : List Addr) (D : Addr) (k : Nat) : Prop where
  ec : ExcC K D
  is : ∀ j C, Cs[j]? = some C → PySem.W.kitOne K (.ref D) (.ref C) = some (decide (j = k))
  ve : PySem.W.kitOne K (.ref D) (.type "ValueError") = some true
  ex : PySem.W.exmOne K (.ref D) (.ref PE) = some true
section
variable {P : Program} {w : World} {K : PySem.W.Frag} {mg : Str → Option Value} {base : Heap}
/-! ### asked -/
theorem scAsk : FnScope ["_law_shop", "_law_deed"] ["_law_shop", "_law_deed"] (defScope sAsk) := ⟨rfl, rfl, rfl, by decide +kernel, rfl, by decide +kernel, by decide +kernel⟩
def spAsk (K : PySem.W.Frag) (C T BW BM BN TW FU NM : Addr) : Sp := fun vs H Q E => ∃ (p dd : Addr) (xs : List V), vs = [.ref p, .ref dd] ∧ SqT K H dd xs ∧
  ((∃ wv mv nv, xs = [.str "put", wv, mv, nv] ∧ spPut K C T BW BM BN TW FU [.ref p, wv, mv, nv] H Q E) ∨ (∃ wv mv, xs = [.str "take", wv, mv] ∧ spTake K C T NM [.ref p, wv, mv] H Q E) ∨
    (∃ wv mv, xs = [.str "needs", wv, mv] ∧ spNeeds K C T NM [.ref p, wv, mv] H Q E) ∨ (∃ wv, xs = [.str "makes", wv] ∧ spMakes K C T BW [.ref p, wv] H Q E))
theorem ok_ask {f C T fP fT fN fM BW BM BN TW FU NM : Addr} {fd fdP fdT fdN fdM : FuncData} (F : Fun K "_law_asked" "_law_asked" sAsk f fd) (X : ShopT K mg C)
    (GP : FnOk P w K mg base (L2N.CX P w) 5 fP fdP ["self", "ware", "make", "needs"] (spPut K C T BW BM BN TW FU)) (bP : Binds K fdP ["self", "ware", "make", "needs"] []) (mP : Meth K C "put" fP)
    (GT : FnOk P w K mg base (L2N.CX P w) 4 fT fdT ["self", "ware", "make"] (spTake K C T NM)) (bT : Binds K fdT ["self", "ware", "make"] []) (mT : Meth K C "take" fT)
    (GN : FnOk P w K mg base (L2N.CX P w) 4 fN fdN ["self", "ware", "make"] (spNeeds K C T NM)) (bN : Binds K fdN ["self", "ware", "make"] []) (mN : Meth K C "needs" fN)
    (GM : FnOk P w K mg base (L2N.CX P w) 2 fM fdM ["self", "ware"] (spMakes K C T BW)) (bM : Binds K fdM ["self", "ware"] []) (mM : Meth K C "makes" fM) :
    FnOk P w K mg base (L2N.CX P w) 6 f fd ["_law_shop", "_law_deed"] (spAsk K C T BW BM BN TW FU NM) := by
  refine Fun.okN F scAsk (fun vs H Q E h => ?_) (fun cdv A outer s H vs Q E hr h => ?_)
  · obtain ⟨p, dd, xs, rfl, _⟩ := h
    rfl
  · obtain ⟨p, dd, xs, rfl, hd, h⟩ := h
    have pass : Passes (L2N.CX P w) (cxOf (L2N.CX P w) P w K mg base ["_law_shop", "_law_deed"] "_law_asked" (defScope sAsk) f cdv A outer s H E) E := L2N.passes_call (L2N.takes_of rfl rfl rfl rfl) fun _ _ _ _ h => h
    refine ⟨_, pss_cons (ps_if (pt_cmpR op_eq (pe_ix ix_tup (pv 1) pe_int (fun _ _ => rfl)) pe_str (nomark _)) (pss_one (ps_ret (pe_meth (E := E) (pv 0) X.cl mP GP hr bP .nil pass (pa_cons (pe_ix ix_tup (pv 1) pe_int (fun _ _ => rfl)) (pa_cons (pe_ix ix_tup (pv 1) pe_int (fun _ _ => rfl)) (pa_cons (pe_ix ix_tup (pv 1) pe_int (fun _ _ => rfl)) pa_nil)))))) pss_nil)
      (pss_cons (ps_if (pt_cmpR op_eq (pe_ix ix_tup (pv 1) pe_int (fun _ _ => rfl)) pe_str (nomark _)) (pss_one (ps_ret (pe_meth (E := E) (pv 0) X.cl mT GT (hr.mono (by decide)) bT .nil pass (pa_cons (pe_ix ix_tup (pv 1) pe_int (fun _ _ => rfl)) (pa_cons (pe_ix ix_tup (pv 1) pe_int (fun _ _ => rfl)) pa_nil))))) pss_nil)
      (pss_cons (ps_if (pt_cmpR op_eq (pe_ix ix_tup (pv 1) pe_int (fun _ _ => rfl)) pe_str (nomark _)) (pss_one (ps_ret (pe_meth (E := E) (pv 0) X.cl mN GN (hr.mono (by decide)) bN .nil pass (pa_cons (pe_ix ix_tup (pv 1) pe_int (fun _ _ => rfl)) (pa_cons (pe_ix ix_tup (pv 1) pe_int (fun _ _ => rfl)) pa_nil))))) pss_nil)
      (pss_one (ps_ret (pe_meth (E := E) (pv 0) X.cl mM GM (hr.mono (by decide)) bM .nil pass (pa_cons (pe_ix ix_tup (pv 1) pe_int (fun _ _ => rfl)) pa_nil)))))), ?_⟩
    have a0 : ∀ (x : V) r, atI (x :: r) 0 = some x := fun _ _ => atI_nat (j := 0) rfl
    have a1 : ∀ (x y : V) r, atI (x :: y :: r) 1 = some y := fun _ _ _ => atI_nat (j := 1) rfl
    have a2 : ∀ (x y z : V) r, atI (x :: y :: z :: r) 2 = some z := fun _ _ _ _ => atI_nat (j := 2) rfl
    have a3 : ∀ (x y z u : V) r, atI (x :: y :: z :: u :: r) 3 = some u := fun _ _ _ _ _ => atI_nat (j := 3) rfl
    rcases h with ⟨wv, mv, nv, rfl, h⟩ | ⟨wv, mv, rfl, h⟩ | ⟨wv, mv, rfl, h⟩ | ⟨wv, rfl, h⟩
    · have h0 := h
      obtain ⟨A0, p', D, st, wv', mv', nv', wd, md, nd, e, S, _⟩ := h0
      cases e
      obtain ⟨dx, o⟩ := S.ob
      refine ⟨_, rfl, dd, _, 0, _, rfl, rfl, hd, a0 _ _, rfl, _, rfl, iteT ?_⟩
      exact ⟨_, rfl, p, dx, _, rfl, o, flS_no D (by decide +kernel), _, rfl, dd, _, 1, _, rfl, rfl, hd, a1 _ _ _, _, rfl, dd, _, 2, _, rfl, rfl, hd, a2 _ _ _ _, _, rfl, dd, _, 3, _, rfl, rfl, hd, a3 _ _ _ _ _, h⟩
    · have h0 := h
      obtain ⟨A0, p', D, st, wv', mv', wd, md, e, S, _⟩ := h0
      cases e
      obtain ⟨dx, o⟩ := S.ob
      refine ⟨_, rfl, dd, _, 0, _, rfl, rfl, hd, a0 _ _, rfl, _, rfl, iteD (fun z => absurd (V.str.inj z) (by decide +kernel)) (fun _ => ?_)⟩
      refine ⟨_, rfl, dd, _, 0, _, rfl, rfl, hd, a0 _ _, rfl, _, rfl, iteT ?_⟩
      exact ⟨_, rfl, p, dx, _, rfl, o, flS_no D (by decide +kernel), _, rfl, dd, _, 1, _, rfl, rfl, hd, a1 _ _ _, _, rfl, dd, _, 2, _, rfl, rfl, hd, a2 _ _ _ _, h⟩
    · have h0 := h
      obtain ⟨A0, p', D, st, wv', mv', wd, md, e, S, _⟩ := h0
      cases e
      obtain ⟨dx, o⟩ := S.ob
      refine ⟨_, rfl, dd, _, 0, _, rfl, rfl, hd, a0 _ _, rfl, _, rfl, iteD (fun z => absurd (V.str.inj z) (by decide +kernel)) (fun _ => ?_)⟩
      refine ⟨_, rfl, dd, _, 0, _, rfl, rfl, hd, a0 _ _, rfl, _, rfl, iteD (fun z => absurd (V.str.inj z) (by decide +kernel)) (fun _ => ?_)⟩
      refine ⟨_, rfl, dd, _, 0, _, rfl, rfl, hd, a0 _ _, rfl, _, rfl, iteT ?_⟩
      exact ⟨_, rfl, p, dx, _, rfl, o, flS_no D (by decide +kernel), _, rfl, dd, _, 1, _, rfl, rfl, hd, a1 _ _ _, _, rfl, dd, _, 2, _, rfl, rfl, hd, a2 _ _ _ _, h⟩
    · have h0 := h
      obtain ⟨A0, p', D, st, wv', wd, e, S, _⟩ := h0
      cases e
      obtain ⟨dx, o⟩ := S.ob
      refine ⟨_, rfl, dd, _, 0, _, rfl, rfl, hd, a0 _ _, rfl, _, rfl, iteD (fun z => absurd (V.str.inj z) (by decide +kernel)) (fun _ => ?_)⟩
      refine ⟨_, rfl, dd, _, 0, _, rfl, rfl, hd, a0 _ _, rfl, _, rfl, iteD (fun z => absurd (V.str.inj z) (by decide +kernel)) (fun _ => ?_)⟩
      refine ⟨_, rfl, dd, _, 0, _, rfl, rfl, hd, a0 _ _, rfl, _, rfl, iteD (fun z => absurd (V.str.inj z) (by decide +kernel)) (fun _ => ?_)⟩
      exact ⟨_, rfl, p, dx, _, rfl, o, flS_no D (by decide +kernel), _, rfl, dd, _, 1, _, rfl, rfl, hd, a1 _ _ _, h⟩
end
end Pk

set_option Elab.async false
set_option linter.all false
set_option maxRecDepth 100000
set_option maxHeartbeats 4000000
namespace Pk
open PySem PySem.Spec PyProof.Rows L2
section
variable {K : PySem.W.Frag} {C T BW BM BN TW FU NM : Addr} {vs : List V} {H : Hp} {Q Q' : VK} {E E' : XK}
theorem spTake_mono (hq : ∀ v H, Q v H → Q' v H) (he : ∀ c d H, E c d H → E' c d H) (h : spTake K C T NM vs H Q E) : spTake K C T NM vs H Q' E' := by
  obtain ⟨A, p, D, st, wv, mv, wd, md, e, S, a1, a2, a3, a4, b1, b2⟩ := h
  exact ⟨A, p, D, st, wv, mv, wd, md, e, S, a1, a2, a3, a4, fun z H' k => he _ _ _ (b1 z H' k), fun x m z1 z2 z3 H' z4 z5 => hq _ _ (b2 x m z1 z2 z3 H' z4 z5)⟩
theorem spNeeds_mono (hq : ∀ v H, Q v H → Q' v H) (he : ∀ c d H, E c d H → E' c d H) (h : spNeeds K C T NM vs H Q E) : spNeeds K C T NM vs H Q' E' := by
  obtain ⟨A, p, D, st, wv, mv, wd, md, e, S, a1, a2, a3, a4, b1, b2⟩ := h
  exact ⟨A, p, D, st, wv, mv, wd, md, e, S, a1, a2, a3, a4, fun z H' k => he _ _ _ (b1 z H' k), fun x m z1 z2 z3 xs ds l H' z4 z5 z6 z7 z8 => hq _ _ (b2 x m z1 z2 z3 xs ds l H' z4 z5 z6 z7 z8)⟩
theorem spMakes_mono (hq : ∀ v H, Q v H → Q' v H) (he : ∀ c d H, E c d H → E' c d H) (h : spMakes K C T BW vs H Q E) : spMakes K C T BW vs H Q' E' := by
  obtain ⟨A, p, D, st, wv, wd, e, S, a1, a2, a4, b1, b2⟩ := h
  refine ⟨A, p, D, st, wv, wd, e, S, a1, a2, a4, fun z H' k => he _ _ _ (b1 z H' k), fun x z1 z2 => ?_⟩
  obtain ⟨c1, c2⟩ := b2 x z1 z2
  exact ⟨c1, fun ys l H' z4 z5 z6 z7 z8 => hq _ _ (c2 ys l H' z4 z5 z6 z7 z8)⟩
theorem spPut_mono (hq : ∀ v H, Q v H → Q' v H) (he : ∀ c d H, E c d H → E' c d H) (h : spPut K C T BW BM BN TW FU vs H Q E) : spPut K C T BW BM BN TW FU vs H Q' E' := by
  obtain ⟨A, p, D, st, wv, mv, nv, wd, md, nd, e, S, a1, a2, a3, a4, a5, a6, a7, a8, b1, b2, b3, b4, b5, b6⟩ := h
  refine ⟨A, p, D, st, wv, mv, nv, wd, md, nd, e, S, a1, a2, a3, a4, a5, a6, a7, a8, fun z H' k => he _ _ _ (b1 z H' k), fun z y H' k => he _ _ _ (b2 z y H' k), fun x z y u t H' k => he _ _ _ (b3 x z y u t H' k),
    fun x z y u t r H' k => he _ _ _ (b4 x z y u t r H' k), fun x z y u t r o H' k => he _ _ _ (b5 x z y u t r o H' k), fun x m z1 z2 z3 z4 z5 z6 z7 => ?_⟩
  obtain ⟨a, xs, ds, c1, c2, c3, c4, c5⟩ := b6 x m z1 z2 z3 z4 z5 z6 z7
  exact ⟨a, xs, ds, c1, c2, c3, c4, fun H' st' y1 y2 y3 y4 => hq _ _ (c5 H' st' y1 y2 y3 y4)⟩
theorem spAsk_mono (hq : ∀ v H, Q v H → Q' v H) (he : ∀ c d H, E c d H → E' c d H) (h : spAsk K C T BW BM BN TW FU NM vs H Q E) : spAsk K C T BW BM BN TW FU NM vs H Q' E' := by
  obtain ⟨p, dd, xs, e, hd, h⟩ := h
  refine ⟨p, dd, xs, e, hd, ?_⟩
  rcases h with ⟨wv, mv, nv, e, h⟩ | ⟨wv, mv, e, h⟩ | ⟨wv, mv, e, h⟩ | ⟨wv, e, h⟩
  · exact .inl ⟨wv, mv, nv, e, spPut_mono hq he h⟩
  · exact .inr (.inl ⟨wv, mv, e, spTake_mono hq he h⟩)
  · exact .inr (.inr (.inl ⟨wv, mv, e, spNeeds_mono hq he h⟩))
  · exact .inr (.inr (.inr ⟨wv, e, spMakes_mono hq he h⟩))
end
theorem takesF {X : Cx} : L2N.Takes X (fun _ _ _ _ => False) := fun _ _ x => by
  obtain ⟨_, _, _, _, _, _, _, _, _, _, _, _, _, _, _, _, z⟩ := x
  exact z.elim
section
variable {P : Program} {w : World} {K : PySem.W.Frag} {mg : Str → Option Value} {base : Heap}
def refN : List Str := ["_law_shop", "_law_deed", "e", "_law_found", "_law_k"]
theorem scRef : FnScope refN ["_law_shop", "_law_deed"] (defScope sRef) := ⟨rfl, rfl, rfl, by decide +kernel, rfl, by decide +kernel, by decide +kernel⟩
def spRef (K : PySem.W.Frag) (C T BW BM BN TW FU NM PE : Addr) (Cs : List Addr) : Sp := fun vs H Q _ => ∃ (p dd : Addr), vs = [.ref p, .ref dd] ∧
  spAsk K C T BW BM BN TW FU NM [.ref p, .ref dd] H (fun _ H' => ∀ l, H' l = none → Q (.ref l) (upd H' l (.lst []))) (fun cls d H' => ∃ (D : Addr) (k : Nat), cls = .ref D ∧ d = none ∧ k < 8 ∧ ErrT K PE Cs D k ∧ GxR.TabG H' T ∧
    ∀ l H'', Kp T H' H'' → H' l = none → H'' l = some (.lst [.int k]) → Q (.ref l) H'')
theorem ok_ref {f C T fA BW BM BN TW FU NM PE BI BP : Addr} {fd fdA : FuncData} (F : Fun K "_law_refused" "_law_refused" sRef f fd)
    (GA : FnOk P w K mg base (L2N.CX P w) 6 fA fdA ["_law_shop", "_law_deed"] (spAsk K C T BW BM BN TW FU NM)) (kA : PySem.W.keepIn K (.ref fA) = true) (bA : Binds K fdA ["_law_shop", "_law_deed"] []) (gA : mg "_law_asked" = some (.ref fA))
    (gPE : mg "PickError" = some (.ref PE)) (g0 : mg "BadWare" = some (.ref BW)) (g1 : mg "BadMake" = some (.ref BM)) (g2 : mg "BadNeed" = some (.ref BN)) (g3 : mg "Twice" = some (.ref TW)) (g4 : mg "Full" = some (.ref FU)) (g5 : mg "NoMake" = some (.ref NM)) (g6 : mg "BadWish" = some (.ref BI)) (g7 : mg "BadPick" = some (.ref BP))
    (mI : mg "isinstance" = none) (mR : mg "range" = none) (mV : mg "ValueError" = none) :
    FnOk P w K mg base CX0 7 f fd ["_law_shop", "_law_deed"] (spRef K C T BW BM BN TW FU NM PE [BW, BM, BN, TW, FU, NM, BI, BP]) := by
  refine F.ok scRef (fun vs H Q E h => ?_) (fun cdv A outer s H vs Q E hr h => ?_)
  · obtain ⟨p, dd, rfl, _⟩ := h
    rfl
  · obtain ⟨p, dd, rfl, h⟩ := h
    refine ⟨_, pss_cons (L2N.ps_try_as (i := 2) rfl rfl scRef.nd rfl rfl ⟨rfl, by decide, .inl gPE⟩ takesF
        (fun W pn xe tk _ => pss_one (ps_expr (pe_callS GA hr (by rfl) gA kA bA (fun σ => L2N.passAt tk σ) (pa_cons (pv 0) (pa_cons (pv 1) pa_nil)))))
        (fun a oe cls d pn hz hf => pss_cons (ps_set (i := 3) scRef.nd rfl (.inr rfl) (pe_lst (pa_cons (pe_callB (call_isE2 hz.zc hf) (by rfl) mI boot_isinstance (pa_cons (pv 2) (pa_cons (pe_glob (v := .ref BW) rfl g0 rfl) pa_nil)))
            (pa_cons (pe_callB (call_isE2 hz.zc hf) (by rfl) mI boot_isinstance (pa_cons (pv 2) (pa_cons (pe_glob (v := .ref BM) rfl g1 rfl) pa_nil))) (pa_cons (pe_callB (call_isE2 hz.zc hf) (by rfl) mI boot_isinstance (pa_cons (pv 2) (pa_cons (pe_glob (v := .ref BN) rfl g2 rfl) pa_nil)))
            (pa_cons (pe_callB (call_isE2 hz.zc hf) (by rfl) mI boot_isinstance (pa_cons (pv 2) (pa_cons (pe_glob (v := .ref TW) rfl g3 rfl) pa_nil))) pa_nil))))))
          (pss_cons (ps_set (i := 3) scRef.nd rfl (.inr rfl) (pe_op op_cat (pv 3) (pe_lst (pa_cons (pe_callB (call_isE2 hz.zc hf) (by rfl) mI boot_isinstance (pa_cons (pv 2) (pa_cons (pe_glob (v := .ref FU) rfl g4 rfl) pa_nil)))
            (pa_cons (pe_callB (call_isE2 hz.zc hf) (by rfl) mI boot_isinstance (pa_cons (pv 2) (pa_cons (pe_glob (v := .ref NM) rfl g5 rfl) pa_nil))) (pa_cons (pe_callB (call_isE2 hz.zc hf) (by rfl) mI boot_isinstance (pa_cons (pv 2) (pa_cons (pe_glob (v := .ref BI) rfl g6 rfl) pa_nil)))
            (pa_cons (pe_callB (call_isE2 hz.zc hf) (by rfl) mI boot_isinstance (pa_cons (pv 2) (pa_cons (pe_glob (v := .ref BP) rfl g7 rfl) pa_nil))) pa_nil)))))))
          (pss_cons (ps_if (pt_not (pt_val (pe_callB (call_isE2 hz.zc hf) (by rfl) mI boot_isinstance (pa_cons (pv 2) (pa_cons (pe_bltn (v := .ty "ValueError") (by rfl) mV (by decide +kernel) rfl) pa_nil))))) (pss_one (ps_ret (pe_lst (pa_cons (pe_un un_neg pe_int) pa_nil)))) pss_nil)
          (pss_one (ps_ret (pe_lcH (p := (a, oe)) (own := [("_law_k", 4)]) (g := gName 4) ⟨rfl, hf.elim fun vs e => ⟨vs, e, hz.2.2 vs e⟩⟩ (List.mem_cons_self ..) scRef.nd (L2H.pi_range1H (by rfl) mR (pa_cons pe_int pa_nil)) (blkOk_by (own := [("_law_k", 4)]) (N := refN) (sc := defScope sRef) (by decide +kernel))
            (fun _ _ _ _ _ => pg_name (i := 4) scRef.nd rfl (Or.inl rfl)) (fun _ _ _ _ _ => pts_one (pt_val (pe_ix (r := rIxL K) ix_list (pv 3) (pv 4) (fun _ _ => rfl)))) (fun _ _ _ _ _ => pv 4))))))))
      (pss_one (ps_ret (pe_lst pa_nil))), ?_⟩
    refine ⟨_, rfl, _, rfl, spAsk_mono (fun v H' hq => ⟨(by show (0 : Nat) ≤ sizeLine; decide), fun l nl => hq l nl⟩) (fun cls d H' hE => ?_) h⟩
    obtain ⟨D, k, rfl, rfl, hk, er, t0, q⟩ := hE
    refine ⟨true, er.ex, fun _ a na => ?_, fun z => nomatch z⟩
    refine ⟨_, rfl, D, rfl, rfl, er.ec, _, _, _, rfl, fun u z => z, er.is 0 _ rfl, _, rfl, D, rfl, rfl, er.ec, _, _, _, rfl, fun u z => z, er.is 1 _ rfl, _, rfl, D, rfl, rfl, er.ec, _, _, _, rfl, fun u z => z, er.is 2 _ rfl, _, rfl, D, rfl, rfl, er.ec, _, _, _, rfl, fun u z => z, er.is 3 _ rfl, (by show (4 : Nat) ≤ sizeLine; decide), fun l1 n1 => ?_⟩
    have k1 := Kp.new (o := HO.lst [.bl (decide (0 = k)), .bl (decide (1 = k)), .bl (decide (2 = k)), .bl (decide (3 = k))]) t0 n1
    have e1 : upd H' l1 (.lst [.bl (decide (0 = k)), .bl (decide (1 = k)), .bl (decide (2 = k)), .bl (decide (3 = k))]) l1 = some (.lst [.bl (decide (0 = k)), .bl (decide (1 = k)), .bl (decide (2 = k)), .bl (decide (3 = k))]) := upd_same
    have t1 := k1.tab
    generalize upd H' l1 (.lst [.bl (decide (0 = k)), .bl (decide (1 = k)), .bl (decide (2 = k)), .bl (decide (3 = k))]) = H1 at k1 e1 t1 ⊢
    refine ⟨_, rfl, _, rfl, D, rfl, rfl, er.ec, _, _, _, rfl, fun u z => z, er.is 4 _ rfl, _, rfl, D, rfl, rfl, er.ec, _, _, _, rfl, fun u z => z, er.is 5 _ rfl, _, rfl, D, rfl, rfl, er.ec, _, _, _, rfl, fun u z => z, er.is 6 _ rfl, _, rfl, D, rfl, rfl, er.ec, _, _, _, rfl, fun u z => z, er.is 7 _ rfl, (by show (4 : Nat) ≤ sizeLine; decide), fun l2 n2 => ?_⟩
    have k2 := Kp.new (o := HO.lst [.bl (decide (4 = k)), .bl (decide (5 = k)), .bl (decide (6 = k)), .bl (decide (7 = k))]) t1 n2
    have e2 : upd H1 l2 (.lst [.bl (decide (4 = k)), .bl (decide (5 = k)), .bl (decide (6 = k)), .bl (decide (7 = k))]) l2 = some (.lst [.bl (decide (4 = k)), .bl (decide (5 = k)), .bl (decide (6 = k)), .bl (decide (7 = k))]) := upd_same
    have t2 := k2.tab
    have e1' := k2.lst e1
    generalize upd H1 l2 (.lst [.bl (decide (4 = k)), .bl (decide (5 = k)), .bl (decide (6 = k)), .bl (decide (7 = k))]) = H2 at k2 e2 t2 e1' ⊢
    refine ⟨l1, l2, _, _, rfl, rfl, e1', e2, (by show (4 + 4 : Nat) ≤ sizeLine; decide), fun l3 n3 => ?_⟩
    have k3 := Kp.new (o := HO.lst [V.bl (decide (0 = k)), .bl (decide (1 = k)), .bl (decide (2 = k)), .bl (decide (3 = k)), .bl (decide (4 = k)), .bl (decide (5 = k)), .bl (decide (6 = k)), .bl (decide (7 = k))]) t2 n3
    have e3 : upd H2 l3 (.lst [V.bl (decide (0 = k)), .bl (decide (1 = k)), .bl (decide (2 = k)), .bl (decide (3 = k)), .bl (decide (4 = k)), .bl (decide (5 = k)), .bl (decide (6 = k)), .bl (decide (7 = k))]) l3 = some (.lst [V.bl (decide (0 = k)), .bl (decide (1 = k)), .bl (decide (2 = k)), .bl (decide (3 = k)), .bl (decide (4 = k)), .bl (decide (5 = k)), .bl (decide (6 = k)), .bl (decide (7 = k))]) := upd_same
    have t3 := k3.tab
    have kH := (k1.trans k2).trans k3
    refine ⟨_, rfl, D, rfl, rfl, er.ec, _, _, _, rfl, fun u z => z, er.ve, true, rfl, iteF ?_⟩
    refine ⟨8, rfl, (by decide), (by decide), fun L nL => ?_⟩
    have nLH := kH.free nL
    refine lc_range (lo := 0) (n := (8 : Int).toNat) (fun i H3 => ∃ xs, H3 L = some (.lst xs) ∧ xs = (if k < i then [V.int k] else []) ∧ Kp T H' H3 ∧ H3 l3 = some (.lst [V.bl (decide (0 = k)), .bl (decide (1 = k)), .bl (decide (2 = k)), .bl (decide (3 = k)), .bl (decide (4 = k)), .bl (decide (5 = k)), .bl (decide (6 = k)), .bl (decide (7 = k))])) ⟨[], upd_same, rfl, kH.trans (Kp.new t3 nL), (Kp.new t3 nL).lst e3⟩ (fun i H3 hi hm => ?_) (fun H3 hm => ?_)
    · obtain ⟨xs, eL, exs, kk, el⟩ := hm
      have i8 : i < 8 := hi
      have hv : atI [V.bl (decide (0 = k)), .bl (decide (1 = k)), .bl (decide (2 = k)), .bl (decide (3 = k)), .bl (decide (4 = k)), .bl (decide (5 = k)), .bl (decide (6 = k)), .bl (decide (7 = k))] (0 + (i : Int)) = some (.bl (decide (i = k))) := by
        rw [Int.zero_add]
        have : i = 0 ∨ i = 1 ∨ i = 2 ∨ i = 3 ∨ i = 4 ∨ i = 5 ∨ i = 6 ∨ i = 7 := by omega
        rcases this with rfl | rfl | rfl | rfl | rfl | rfl | rfl | rfl <;> exact atI_nat rfl
      have hxl : xs.length ≤ 1 := by
        rw [exs]
        by_cases z : k < i
        · rw [if_pos z]; exact Nat.le_refl _
        · rw [if_neg z]; exact Nat.zero_le _
      refine ⟨rfl, _, rfl, _, rfl, l3, _, _, _, rfl, rfl, .inl (.of el), hv, _, rfl, iteD (fun e => ?_) (fun e => ?_)⟩
      · refine ⟨_, rfl, xs, eL, small1000 (by omega), _, upd_same, ?_, kk.set nLH (tab_nn t3 nL), ?_⟩
        · rw [exs, if_neg (by omega), if_pos (by omega), Int.zero_add, e]
          rfl
        · rw [upd_ne (ne_of_none e3 nL)]
          exact el
      · refine ⟨xs, eL, ?_, kk, el⟩
        rw [exs]
        by_cases z : k < i
        · rw [if_pos z, if_pos (by omega)]
        · rw [if_neg z, if_neg (by omega)]
    · obtain ⟨xs, eL, exs, kk, el⟩ := hm
      refine q L H3 kk nLH ?_
      rw [eL, exs, if_pos (show k < (8 : Int).toNat from hk)]
end
end Pk

set_option Elab.async false
set_option linter.all false
set_option maxRecDepth 100000
set_option maxHeartbeats 4000000
namespace Pk
open PySem PySem.Spec PyProof.Rows L2
abbrev sFill : Stmt := topS 33
theorem new_shop {K : PySem.W.Frag} {C T x dx D : Addr} {H : Hp} (t : GxR.TabG H T) (nx : H x = none) (ndx : H dx = none) (ne : dx ≠ x) (nD : (upd (upd H dx (.own x)) x (.ins C dx [])) D = none) :
    Kp T H (upd (upd (upd (upd H dx (.own x)) x (.ins C dx [])) D (.dK [])) x (.ins C dx (flS D))) ∧ (∀ A, ShopAt K C A (upd (upd (upd (upd H dx (.own x)) x (.ins C dx [])) D (.dK [])) x (.ins C dx (flS D))) x D []) ∧ H D = none := by
  have k1 := Kp.new (o := HO.own x) t ndx
  have nx1 : upd H dx (.own x) x = none := by rw [upd_ne ne.symm]; exact nx
  have k2 := Kp.new (o := HO.ins C dx []) k1.tab nx1
  have k3 := Kp.new (o := HO.dK []) k2.tab nD
  have xT := tab_nn t nx
  have Dx : D ≠ x := fun z => by rw [z, upd_same] at nD; cases nD
  refine ⟨((k1.trans k2).trans k3).set nx xT, fun A => ⟨⟨dx, upd_same⟩, ⟨?_, fun s hs => (by cases hs), List.nodup_nil, List.nodup_cons.mpr ⟨List.not_mem_nil, List.nodup_nil⟩⟩, fun s hs => (by cases hs)⟩, (k1.trans k2).free nD⟩
  rw [upd_ne Dx, upd_same]
  rfl
theorem data_ne {st : List Shelf} {s : Shelf} (nd : (st.map (·.ware)).Nodup) (hs : s ∈ st) (ne : s.ents ≠ []) : dataOf st s.ware ≠ [] := by
  unfold dataOf
  rw [look_of nd hs rfl]
  show s.ents.map entD ≠ []
  exact fun z => ne (List.map_eq_nil_iff.mp z)
theorem data_look {cl : List Shelf} {v : Str} (h : dataOf cl v ≠ []) : ∃ s, look cl v = some s ∧ s.ents ≠ [] := by
  unfold dataOf at h
  cases el : look cl v with
  | none => rw [el] at h; exact absurd rfl h
  | some s =>
    rw [el] at h
    exact ⟨s, rfl, fun z => h (by show s.ents.map entD = []; rw [z]; rfl)⟩
theorem idx_at {α} [BEq α] [LawfulBEq α] : ∀ {l : List α} {i : Nat} (hi : i < l.length), l.Nodup → l.idxOf l[i] = i
  | a :: r, 0, _, _ => by simp [List.idxOf_cons]
  | a :: r, i + 1, hi, nd => by
    rw [List.nodup_cons] at nd
    have hi' : i < r.length := by simpa using hi
    have ih := idx_at hi' nd.2
    rw [List.idxOf_cons]
    have ne : (a == (a :: r)[i + 1]) = false := by
      simp only [List.getElem_cons_succ]
      exact beq_false_of_ne fun z => nd.1 (by rw [z]; exact List.getElem_mem hi')
    rw [ne]
    simp only [List.getElem_cons_succ, cond_false]
    rw [ih]

theorem passN {X : Cx} : Passes (L2N.CX X.prog X.w) X E0 := fun _ _ _ _ _ _ _ h => by
  obtain ⟨_, _, _, _, _, _, _, _, _, _, _, _, z⟩ := h
  exact z.elim
/-! ### a filled shop -/
def nameAt (names : List Str) (i : Nat) : Str := names.getD i ""
def fdE (names : List Str) (i t : Nat) : Int × List PyData := (1 + 3 * (t : Int), [.tuple [.str (nameAt names ((i + 1) % names.length)), .int 1, .int (1 + (t : Int))]])
def fdL (names : List Str) (i j : Nat) : List (Int × List PyData) := (List.range j).map (fdE names i)
def FillD (names : List Str) (mk i j : Nat) (v : Str) : List (Int × List PyData) := if names.idxOf v < i then fdL names (names.idxOf v) mk else if names.idxOf v = i then fdL names i j else []
theorem nameAt_eq {names : List Str} {i : Nat} (h : i < names.length) : nameAt names i = names[i] := by
  unfold nameAt
  rw [List.getD_eq_getElem?_getD, List.getElem?_eq_getElem h]
  rfl
theorem idx_iff {names : List Str} {i : Nat} {v : Str} (nd : names.Nodup) (h : i < names.length) : names.idxOf v = i ↔ v = names[i] := by
  constructor
  · intro e
    subst e
    exact (List.getElem_idxOf h).symm
  · intro e
    subst e
    exact idx_at h nd
theorem fdL_succ (names : List Str) (i j : Nat) : fdL names i (j + 1) = fdL names i j ++ [fdE names i j] := by
  unfold fdL
  rw [List.range_succ, List.map_append]
  rfl
theorem fdL_find {names : List Str} {i j : Nat} {m : Int} (h : ∀ t, t < j → 1 + 3 * (t : Int) ≠ m) : findD (fdL names i j) m = none := by
  unfold findD fdL
  rw [List.find?_eq_none]
  intro e he
  obtain ⟨t, ht, rfl⟩ := List.mem_map.mp he
  exact fun z => h t (List.mem_range.mp ht) (of_decide_eq_true z)
theorem FillD_step {names : List Str} {mk i j : Nat} (nd : names.Nodup) (hi : i < names.length) (v : Str) : FillD names mk i (j + 1) v = if v = names[i] then FillD names mk i j names[i] ++ [fdE names i j] else FillD names mk i j v := by
  unfold FillD
  by_cases hv : v = names[i]
  · rw [if_pos hv, hv, idx_at hi nd, if_neg (Nat.lt_irrefl _), if_pos rfl, if_neg (Nat.lt_irrefl _), if_pos rfl, fdL_succ]
  · have ne : ¬ names.idxOf v = i := fun z => hv ((idx_iff nd hi).mp z)
    rw [if_neg hv, if_neg ne, if_neg ne]
theorem FillD_next {names : List Str} {mk i : Nat} (v : Str) : FillD names mk i mk v = FillD names mk (i + 1) 0 v := by
  unfold FillD
  by_cases h1 : names.idxOf v < i
  · rw [if_pos h1, if_pos (by omega)]
  · by_cases h2 : names.idxOf v = i
    · rw [if_neg h1, if_pos h2, if_pos (by omega), h2]
    · rw [if_neg h1, if_neg h2, if_neg (by omega)]
      by_cases h3 : names.idxOf v = i + 1
      · rw [if_pos h3]; rfl
      · rw [if_neg h3]
theorem fdL_len (names : List Str) (i j : Nat) : (fdL names i j).length = j := by
  unfold fdL
  rw [List.length_map, List.length_range]
theorem nodup_len {l m : List Str} (nd : l.Nodup) (nm : m.Nodup) (h : ∀ x ∈ l, x ∈ m) : l.length ≤ m.length := by
  have p : l.Perm (m.filter fun x => decide (x ∈ l)) := (List.perm_ext_iff_of_nodup nd (List.Sublist.nodup List.filter_sublist nm)).mpr fun x =>
    ⟨fun hx => List.mem_filter.mpr ⟨h x hx, decide_eq_true hx⟩, fun hx => of_decide_eq_true (List.mem_filter.mp hx).2⟩
  rw [p.length_eq]
  exact List.length_filter_le _ _
/-- wares with makes are among the first -/
theorem fill_mem {st : List Shelf} {names : List Str} {mk i j : Nat} (nd : (st.map (·.ware)).Nodup) (ne : ∀ s ∈ st, s.ents ≠ []) (h : ∀ v, dataOf st v = FillD names mk i j v) (hi : i ≤ names.length) (hj : 0 < j → i < names.length) : ∀ x ∈ st.map (·.ware), x ∈ names.take (i + (if 0 < j then 1 else 0)) := fun x hx => by
  obtain ⟨s, hs, rfl⟩ := List.mem_map.mp hx
  have z := data_ne nd hs (ne s hs)
  rw [h] at z
  unfold FillD at z
  have lt : names.idxOf s.ware < i + (if 0 < j then 1 else 0) ∧ names.idxOf s.ware < names.length := by
    by_cases h1 : names.idxOf s.ware < i
    · exact ⟨by omega, by omega⟩
    · rw [if_neg h1] at z
      by_cases h2 : names.idxOf s.ware = i
      · rw [if_pos h2] at z
        by_cases h3 : 0 < j
        · have := hj h3
          rw [if_pos h3]
          exact ⟨by omega, by omega⟩
        · have h4 : j = 0 := by omega
          subst h4
          exact absurd rfl z
      · rw [if_neg h2] at z
        exact absurd rfl z
  refine List.mem_iff_getElem?.mpr ⟨names.idxOf s.ware, ?_⟩
  rw [List.getElem?_take, if_pos lt.1, List.getElem?_eq_getElem lt.2, List.getElem_idxOf lt.2]
theorem fill_len {st : List Shelf} {names : List Str} {mk i j : Nat} (nn : names.Nodup) (nd : (st.map (·.ware)).Nodup) (ne : ∀ s ∈ st, s.ents ≠ []) (h : ∀ v, dataOf st v = FillD names mk i j v) (hi : i ≤ names.length) (hj : 0 < j → i < names.length) : st.length ≤ i + (if 0 < j then 1 else 0) := by
  have z := nodup_len nd (List.Sublist.nodup (List.take_sublist _ _) nn) (fill_mem nd ne h hi hj)
  rw [List.length_map, List.length_take] at z
  omega
/-- a shop as it was filled -/
structure Filled (K : PySem.W.Frag) (C : Addr) (H : Hp) (p D : Addr) (st : List Shelf) (names : List Str) (mk i j : Nat) : Prop where
  S : ShopAt K C [] H p D st
  dt : ∀ v, dataOf st v = FillD names mk i j v
section
variable {P : Program} {w : World} {K : PySem.W.Frag} {mg : Str → Option Value} {base : Heap}
theorem scFill : FnScope ["_law_names_here", "_law_many", "_law_makes", "_law_shop", "_law_k", "_law_make"] ["_law_names_here", "_law_many", "_law_makes"] (defScope sFill) := ⟨rfl, rfl, rfl, by decide +kernel, rfl, by decide +kernel, by decide +kernel⟩
def spFill (K : PySem.W.Frag) (C T : Addr) : Sp := fun vs H Q _ => ∃ (pn : Addr) (names : List Str) (mn mk : Nat), vs = [.ref pn, .int mn, .int mk] ∧ SqL K H pn (names.map V.str) ∧ names.Nodup ∧ 13 ≤ names.length ∧ names.length ≤ 26 ∧ (∀ y ∈ names, GoodN y) ∧ mn ≤ 12 ∧ mk ≤ 8 ∧ GxR.TabG H T ∧
  ∀ p D st H', Kp T H H' → Filled K C H' p D st names mk mn 0 → Q (.ref p) H'
theorem ok_fill {f C T fI fP BW BM BN TW FU : Addr} {fd fdI fdP : FuncData} (F : Fun K "_law_filled" "_law_filled" sFill f fd) (X : ShopT K mg C) (gC : mg "Shop" = some (.ref C)) (M : Mk K C fI)
    (GI : FnOk P w K mg base CX0 1 fI fdI ["self"] (spInit C)) (bI : Binds K fdI ["self"] [])
    (GP : FnOk P w K mg base (L2N.CX P w) 5 fP fdP ["self", "ware", "make", "needs"] (spPut K C T BW BM BN TW FU)) (bP : Binds K fdP ["self", "ware", "make", "needs"] []) (mP : Meth K C "put" fP)
    (mL : mg "len" = none) (mR : mg "range" = none) : FnOk P w K mg base CX0 6 f fd ["_law_names_here", "_law_many", "_law_makes"] (spFill K C T) := by
  refine F.ok scFill (fun vs H Q E h => ?_) (fun cdv A outer s H vs Q E hr h => ?_)
  · obtain ⟨pn, names, mn, mk, rfl, _⟩ := h
    rfl
  · obtain ⟨pn, names, mn, mk, rfl, hN, nn, hl13, hl26, hgd, hmn, hmk, ht, q⟩ := h
    refine ⟨_, pss_cons (ps_set (i := 3) scFill.nd rfl (.inl rfl) (pe_make0 M GI (hr.mono (by decide)) (by rfl) gC bI .nil pass0))
      (pss_cons (ps_for PassesOwn.never rfl (pi_range1 (by rfl) mR (pa_cons (pv 1) pa_nil)) (pg_name (i := 4) scFill.nd rfl (.inl rfl))
        (pss_one (ps_for PassesOwn.never rfl (pi_range1 (by rfl) mR (pa_cons (pv 2) pa_nil)) (pg_name (i := 5) scFill.nd rfl (.inl rfl))
          (pss_one (ps_expr (pe_meth (E := E0) (pv 3) X.cl mP GP hr bP .nil passN (pa_cons (pe_ix ix_list (pv 0) (pv 4) (fun _ _ => rfl)) (pa_cons (pe_op op_add pe_int (pe_op op_mul pe_int (pv 5)))
            (pa_cons (pe_lst (pa_cons (pe_tup (pa_cons (pe_ix ix_list (pv 0) (pe_op op_mod (pe_op op_add (pv 4) pe_int) (pe_callB call_len_seq (by rfl) mL PySem.boot_len (pa_cons (pv 0) pa_nil))) (fun _ _ => rfl)) (pa_cons pe_int (pa_cons (pe_op op_add pe_int (pv 5)) pa_nil)))) pa_nil)) pa_nil)))))))))
      (pss_one (ps_ret (pv 3)))), ?_⟩
    refine fun x0 dx0 nx0 ndx0 ne0 => ⟨x0, dx0, rfl, upd_same, fun D nD => ⟨rfl, ?_⟩⟩
    obtain ⟨k1, S0, _⟩ := new_shop (K := K) ht nx0 ndx0 ne0 nD
    have nDH : H D = none := by
      have z := nD
      have z2 : D ≠ x0 := fun e => by rw [e, upd_same] at z; cases z
      rw [upd_ne z2] at z
      have z3 : D ≠ dx0 := fun e => by rw [e, upd_same] at z; cases z
      rw [upd_ne z3] at z
      exact z
    generalize upd (upd (upd (upd H dx0 (.own x0)) x0 (.ins C dx0 [])) D (.dK [])) x0 (.ins C dx0 (flS D)) = H1 at k1 S0 ⊢
    -- the turns
    have inv0 : Filled K C H1 x0 D [] names mk 0 0 := ⟨S0 [], fun v => by
      unfold FillD
      rw [if_neg (Nat.not_lt_zero _)]
      by_cases h : names.idxOf v = 0
      · rw [if_pos h]; rfl
      · rw [if_neg h]; rfl⟩
    refine ⟨_, rfl, mn, rfl, (by omega), (by omega), for_range (lo := 0) (n := ((mn : Nat) : Int).toNat) (fun i σ' H' => ∃ (x4 x5 : Option V) (st : List Shelf), σ' = [some (.ref pn), some (.int mn), some (.int mk), some (.ref x0), x4, x5] ∧ Kp T H H' ∧ Filled K C H' x0 D st names mk i 0 ∧ ∀ f ∈ foot D st, H f = none)
      ⟨none, none, [], rfl, k1, inv0, fun f hf => by rw [List.mem_singleton.mp hf]; exact nDH⟩ (fun i σ' H' hi hm => ?_) (fun σ' H' hm => ?_)⟩
    · obtain ⟨x4, x5, st, rfl, kk, Fi, nf⟩ := hm
      have him : i < mn := by omega
      have hil : i < names.length := by omega
      refine ⟨_, rfl, mk, rfl, (by omega), (by omega), for_range (lo := 0) (n := ((mk : Nat) : Int).toNat) (fun j σ' H' => ∃ (x5 : Option V) (st : List Shelf), σ' = [some (.ref pn), some (.int mn), some (.int mk), some (.ref x0), some (.int (0 + (i : Int))), x5] ∧ Kp T H H' ∧ Filled K C H' x0 D st names mk i j ∧ ∀ f ∈ foot D st, H f = none)
        ⟨x5, st, rfl, kk, Fi, nf⟩ (fun j σ' H' hj hm => ?_) (fun σ' H' hm => ?_)⟩
      · obtain ⟨x5, st, rfl, kk, Fi, nf⟩ := hm
        have hjm : j < mk := by omega
        have hN' := kk.seq hN
        have hlN : (names.map V.str).length = names.length := List.length_map _
        have gx := hgd _ (List.getElem_mem hil)
        have hi1 : i + 1 < names.length := by omega
        have emod : (i + 1) % names.length = i + 1 := Nat.mod_eq_of_lt hi1
        have ey : nameAt names ((i + 1) % names.length) = names[i + 1] := by rw [emod]; exact nameAt_eq hi1
        have gy := hgd _ (List.getElem_mem hi1)
        have nexy : names[i + 1] ≠ names[i] := fun z => by
          have h1 := idx_at hi1 nn
          rw [z, idx_at hil nn] at h1
          omega
        have at1 : atI (names.map V.str) (0 + (i : Int)) = some (.str names[i]) := by
          rw [Int.zero_add]
          exact atI_nat (by rw [List.getElem?_map, List.getElem?_eq_getElem hil]; rfl)
        have at2 : atI (names.map V.str) ((0 + (i : Int) + 1) % ((names.map V.str).length : Int)) = some (.str names[i + 1]) := by
          rw [hlN, Int.emod_eq_of_lt (by omega) (by omega), show 0 + (i : Int) + 1 = ((i + 1 : Nat) : Int) by omega]
          exact atI_nat (by rw [List.getElem?_map, List.getElem?_eq_getElem hi1]; rfl)
        obtain ⟨dx, o1⟩ := Fi.S.ob
        refine ⟨_, rfl, x0, dx, _, rfl, o1, flS_no D (by decide +kernel), _, rfl, _, rfl, pn, _, _, _, rfl, rfl, hN', at1, _, rfl, 3, 0 + (j : Int), rfl, rfl, .inl ⟨by decide, by decide⟩, 1, _, rfl, rfl, ?_⟩
        refine ⟨_, rfl, _, rfl, _, 1, rfl, rfl, _, rfl, pn, _, rfl, .inl hN', _, _, rfl, rfl, (by show (0 : Int) < ((names.map V.str).length : Int); rw [hlN]; omega), pn, _, _, _, rfl, rfl, hN', at2, _, rfl, 1, _, rfl, rfl, (by show (3 : Nat) ≤ sizeLine; decide), fun tp ntp => ⟨(by show (1 : Nat) ≤ sizeLine; decide), fun l nl => ?_⟩⟩
        have k2 := Kp.new (o := HO.tup [.str names[i + 1], .int 1, .int (1 + (0 + (j : Int)))]) kk.tab ntp
        have k3 := Kp.new (o := HO.lst [.ref tp]) k2.tab nl
        have kA := k2.trans k3
        have etp : upd (upd H' tp (.tup [.str names[i + 1], .int 1, .int (1 + (0 + (j : Int)))])) l (.lst [.ref tp]) tp = some (.tup [.str names[i + 1], .int 1, .int (1 + (0 + (j : Int)))]) := by
          rw [upd_ne (ne_of_none upd_same nl)]
          exact upd_same
        have el : upd (upd H' tp (.tup [.str names[i + 1], .int 1, .int (1 + (0 + (j : Int)))])) l (.lst [.ref tp]) l = some (.lst [.ref tp]) := upd_same
        generalize upd (upd H' tp (.tup [.str names[i + 1], .int 1, .int (1 + (0 + (j : Int)))])) l (.lst [.ref tp]) = H3 at kA etp el ⊢
        have kkA := kk.trans kA
        have hmk' : makeB (.int (1 + 3 * (0 + (j : Int)))) = true := mk_in (by omega) (by omega)
        have nd1 : ND (.tuple [.str names[i + 1], .int 1, .int (1 + (0 + (j : Int)))]) := ⟨_, _, _, rfl, gy, mk_in (by omega) (by omega), mk_in (by omega) (by omega), by omega⟩
        have hmay : mayB names[i] (.list [.tuple [.str names[i + 1], .int 1, .int (1 + (0 + (j : Int)))]]) = true := by
          show (decide ((1 : Nat) ≤ 6) && (needB _ && !decide (names[i + 1] ∈ [names[i]]) && true)) = true
          rw [nd1.need, decide_eq_false (fun z => nexy (List.mem_singleton.mp z))]
          rfl
        have e0 : dataOf st names[i] = fdL names i j := by
          rw [Fi.dt]
          unfold FillD
          rw [idx_at hil nn, if_neg (Nat.lt_irrefl _), if_pos rfl]
        have hhas : hasB st (.str names[i]) (.int (1 + 3 * (0 + (j : Int)))) = false := by
          rw [hasB_data gx.1 hmk', e0, fdL_find (fun t ht => by omega)]
          rfl
        have hpl : placeB st names[i] = true := by
          unfold placeB
          cases es : look st names[i] with
          | some s =>
            have z : (dataOf st names[i]).length = j := by rw [e0, fdL_len]
            unfold dataOf at z
            rw [es] at z
            have z2 : s.ents.length = j := by
              have z3 : (s.ents.map entD).length = j := z
              rw [List.length_map] at z3
              exact z3
            exact decide_eq_true (by omega)
          | none =>
            have z : (dataOf st names[i]).length = j := by rw [e0, fdL_len]
            unfold dataOf at z
            rw [es] at z
            have j0 : j = 0 := z.symm
            have z3 := fill_len nn Fi.S.bx.nd Fi.S.ne Fi.dt (by omega) (fun _ => hil)
            rw [j0, if_neg (Nat.lt_irrefl _)] at z3
            exact decide_eq_true (by omega)
        have hsl : st.length ≤ 100 := by
          have z3 := fill_len nn Fi.S.bx.nd Fi.S.ne Fi.dt (by omega) (fun _ => hil)
          by_cases z : 0 < j
          · rw [if_pos z] at z3; omega
          · rw [if_neg z] at z3; omega
        have dtp : Dp K (hide [] H3) (.ref tp) (.tuple [.str names[i + 1], .int 1, .int (1 + (0 + (j : Int)))]) := .tup (.inl (.inl (hide_of etp List.not_mem_nil))) (.cons (.str _) (.cons (.int _) (.cons (.int _) .nil)))
        refine ⟨[], x0, D, st, _, _, _, _, _, .list [.tuple [.str names[i + 1], .int 1, .int (1 + (0 + (j : Int)))]], rfl, Fi.S.keptP kA, .str _, gx.2, .int _, Dq.of (.lst (.inl (.of el)) (.cons (dp_show dtp) .nil)), okL_list (fun d hd => by rw [List.mem_singleton.mp hd]; exact nd1.okT) (by show 1 ≤ 1000; decide), kA.tab, (fun a ha => by cases ha), hsl, ?_, ?_, ?_, ?_, ?_, ?_⟩
        · exact fun z => absurd (gx.1.symm.trans z) (by decide)
        · exact fun _ z => absurd (hmk'.symm.trans z) (by decide)
        · intro y e _ _ z
          rw [← PyData.str.inj e] at z
          exact absurd (hmay.symm.trans z) (by decide)
        · exact fun y _ _ _ _ z => absurd (hhas.symm.trans z) (by decide)
        · intro y e _ _ _ _ z
          rw [← PyData.str.inj e] at z
          exact absurd (hpl.symm.trans z) (by decide)
        · intro y m e e2 _ _ _ _ _
          rw [← PyData.str.inj e, ← PyData.int.inj e2]
          refine ⟨l, _, _, rfl, rfl, .inl (.of el), .cons dtp .nil, fun H4 st' S4 d4 k4 f4 => ⟨_, st', rfl, ⟨ht, k4.tab, fun b o hb eb => ?_⟩, ⟨S4, fun v => ?_⟩, fun f hf => ?_⟩⟩
          · exact k4.keep b o hb (fun z => by rw [nf b z] at eb; cases eb) (kkA.keep b o hb eb)
          · rw [d4, FillD_step nn hil, Fi.dt names[i], Fi.dt v]
            have ee : fdE names i j = (1 + 3 * (0 + (j : Int)), [.tuple [.str names[i + 1], .int 1, .int (1 + (0 + (j : Int)))]]) := by
              unfold fdE
              rw [ey, Int.zero_add]
            rw [ee]
          · rcases f4 f hf with z | z
            · exact nf f z
            · exact kkA.free z
      · obtain ⟨x5, st, rfl, kk, Fi, nf⟩ := hm
        have e : ((mk : Nat) : Int).toNat = mk := by omega
        rw [e] at Fi
        exact ⟨_, _, st, rfl, kk, ⟨Fi.S, fun v => by rw [Fi.dt]; exact FillD_next v⟩, nf⟩
    · obtain ⟨x4, x5, st, rfl, kk, Fi, nf⟩ := hm
      have e : ((mn : Nat) : Int).toNat = mn := by omega
      rw [e] at Fi
      exact ⟨_, rfl, q x0 D st H' kk Fi⟩
end
end Pk

set_option Elab.async false
set_option linter.all false
set_option maxRecDepth 100000
set_option maxHeartbeats 4000000
namespace Pk
open PySem PySem.Spec PyProof.Rows L2
abbrev sTold : Stmt := topS 32
theorem dpAll_kx {K : PySem.W.Frag} {T : Addr} {A F : List Addr} {H H' : Hp} (k : Kx T F H H') (hF : ∀ f ∈ F, f ∈ A ∨ ∃ kvs, H f = some (.dK kvs)) {xs : List V} {ds : List PyData} (h : DpAll K (hide A H) xs ds) : DpAll K (hide A H') xs ds :=
  dpAll_mono (fun b o hs e => by
    obtain ⟨e1, e2⟩ := hide_some e
    refine hide_of (k.keep b o (isSeq_ne_tab k.t0 hs e1) (fun z => ?_) e1) e2
    rcases hF b z with z | ⟨kvs, z⟩
    · exact e2 z
    · rw [z] at e1
      cases e1
      cases hs) ds xs h
theorem dp_strs {K : PySem.W.Frag} {H : Hp} : ∀ l : List Str, DpAll K H (l.map V.str) (l.map PyData.str)
  | [] => .nil
  | x :: r => .cons (.str x) (dp_strs r)
theorem dpAll_app {K : PySem.W.Frag} {H : Hp} : ∀ {ds es : List PyData} {vs us : List V}, DpAll K H vs ds → DpAll K H us es → DpAll K H (vs ++ us) (ds ++ es)
  | [], _, _, _, h, h2 => by cases h; exact h2
  | x :: r, _, _, _, h, h2 => by
    cases h with
    | cons a b => exact .cons a (dpAll_app b h2)
/-! ### what a shop tells -/
def needsOf (st : List Shelf) (x : Str) (m : Int) : List PyData := ((findD (dataOf st x) m).map (·.2)).getD []
def rowE (st : List Shelf) (x : Str) (m : Int) : PyData := .tuple [.int m, .list (needsOf st x m)]
def RowT (st : List Shelf) (row : PyData) (x : Str) : Prop := ∃ ys : List Int, row = .list (ys.map (rowE st x)) ∧ ys.Perm ((dataOf st x).map (·.1)) ∧ ys.Pairwise (· ≤ ·)
def IsTold (st : List Shelf) (names : List Str) (d : PyData) : Prop := ∃ (ws : List Str) (rows : List PyData), d = .list (.list (ws.map PyData.str) :: rows) ∧ ws.Perm (st.map (·.ware)) ∧ sortedS ws = true ∧ Paired (RowT st) rows names
theorem rows_same {st : List Shelf} : ∀ {names : List Str} {a b : List PyData}, Paired (RowT st) a names → Paired (RowT st) b names → a = b
  | [], _, _, h1, h2 => by cases h1; cases h2; rfl
  | x :: r, _, _, h1, h2 => by
    cases h1 with
    | cons p1 t1 =>
      cases h2 with
      | cons p2 t2 =>
        obtain ⟨ys, rfl, a1, a2⟩ := p1
        obtain ⟨zs, rfl, b1, b2⟩ := p2
        rw [ints_same (a1.trans b1.symm) a2 b2, rows_same t1 t2]
theorem told_same {st : List Shelf} {names : List Str} {d e : PyData} (h1 : IsTold st names d) (h2 : IsTold st names e) : d = e := by
  obtain ⟨ws, rows, rfl, a1, a2, a3⟩ := h1
  obtain ⟨us, sows, rfl, b1, b2, b3⟩ := h2
  rw [sorted_same (a1.trans b1.symm) a2 b2, rows_same a3 b3]
def Lay (n : Nat) (d : PyData) : Prop := d.canLay0 = true ∧ d.depth ≤ n
theorem lay_all {n : Nat} : ∀ {ds : List PyData}, (∀ d ∈ ds, Lay n d) → PyData.canLayAll0 ds = true ∧ PyData.depthAll ds ≤ n
  | [], _ => ⟨rfl, Nat.zero_le _⟩
  | d :: r, h => by
    obtain ⟨i1, i2⟩ := lay_all fun x hx => h x (List.mem_cons_of_mem _ hx)
    obtain ⟨j1, j2⟩ := h d (List.mem_cons_self ..)
    constructor
    · show (d.canLay0 && PyData.canLayAll0 r) = true
      rw [i1, j1] <;> rfl
    · show max d.depth (PyData.depthAll r) ≤ n
      omega
theorem lay_list {n : Nat} {ds : List PyData} (h : ∀ d ∈ ds, Lay n d) : Lay (n + 1) (.list ds) := by
  obtain ⟨a, b⟩ := lay_all h
  exact ⟨a, by show PyData.depthAll ds + 1 ≤ n + 1; omega⟩
theorem lay_tup {n : Nat} {ds : List PyData} (h : ∀ d ∈ ds, Lay n d) : Lay (n + 1) (.tuple ds) := by
  obtain ⟨a, b⟩ := lay_all h
  exact ⟨a, by show PyData.depthAll ds + 1 ≤ n + 1; omega⟩
theorem lay_shaped {n : Nat} {ds : List PyData} (h : Lay n (.list ds)) (hn : n ≤ 64) : SeqAt.shaped (.list ds) = true := by
  have h1 : PyData.canLayAll0 ds = true := h.1
  have h2 : PyData.depthAll ds + 1 ≤ n := h.2
  show (PyData.canLayAll0 ds && decide (PyData.depthAll ds + 1 ≤ 64)) = true
  rw [h1, decide_eq_true (by omega)] <;> rfl
theorem Lay.mono {n m : Nat} {d : PyData} (h : Lay n d) (hm : n ≤ m) : Lay m d := ⟨h.1, Nat.le_trans h.2 hm⟩
theorem lay_str {x : Str} (h : GoodN x) : Lay 0 (.str x) := ⟨okS_ok h.2, Nat.le_refl _⟩
theorem lay_int (i : Int) : Lay 0 (.int i) := ⟨rfl, Nat.le_refl _⟩
theorem ShopAt.more {K : PySem.W.Frag} {C : Addr} {A : List Addr} {H : Hp} {p D n : Addr} {st : List Shelf} (S : ShopAt K C A H p D st) (nn : H n = none) : ShopAt K C (n :: A) H p D st :=
  ⟨S.ob, S.bx.hideMore fun _ _ _ _ _ h => dp_more nn h, S.ne⟩
/-- what every shelf of the shop holds -/
structure GoodD (st : List Shelf) : Prop where
  len : ∀ v, (dataOf st v).length ≤ 8
  gd : ∀ v, ∀ e ∈ dataOf st v, makeB (.int e.1) = true ∧ (∀ d ∈ e.2, ND d)
theorem findD_mem {l : List (Int × List PyData)} {m : Int} (h : m ∈ l.map (·.1)) : ∃ e, findD l m = some e ∧ e ∈ l ∧ e.1 = m := by
  unfold findD
  cases hf : l.find? fun e => decide (e.1 = m) with
  | none =>
    obtain ⟨e, he, rfl⟩ := List.mem_map.mp h
    rw [List.find?_eq_none] at hf
    exact absurd (decide_eq_true rfl) (hf e he)
  | some e => exact ⟨e, rfl, List.mem_of_find?_eq_some hf, of_decide_eq_true (List.find?_some (p := fun e : Int × List PyData => decide (e.1 = m)) hf)⟩
section
variable {K : PySem.W.Frag} {mg : Str → Option Value}
theorem read_row3 {C T BW NM p D : Addr} {A : List Addr} {H : Hp} {st : List Shelf} {x : Str} {σ : L2.St} {Q : VK} (X : ShopT K mg C) (S : ShopAt K C A H p D st) (G : GoodD st) (hx : GoodN x) (hA : ∀ a ∈ A, ∃ ys, H a = some (.lst ys)) (t : GxR.TabG H T) (h0 : σ[0]? = some (some (.ref p))) (h3 : σ[3]? = some (some (.str x))) (hl : σ.length = 4)
    (q : ∀ R row H', Kp T H H' → H R = none → Dp K (hide A H') (.ref R) row → RowT st row x → Lay 4 row → Q (.ref R) H') :
    tLc (iList K (tMeth C "makes" (spMakes K C T BW) [] E0 (tVar 0) (tCons (tVar 3) tNil))) (gName 2) tYes (tTup (tCons (tVar 2) (tCons (tMeth C "needs" (spNeeds K C T NM) [] E0 (tVar 0) (tCons (tVar 3) (tCons (tVar 2) tNil))) tNil))) [2] σ H Q := by
  obtain ⟨dx, o⟩ := S.ob
  refine ⟨_, h0, p, dx, _, rfl, o, flS_no D (by decide +kernel), _, h3, A, p, D, st, _, _, rfl, S, .str x, hx.2, t, fun z => absurd (hx.1.symm.trans z) (by decide), fun y e _ => ?_⟩
  cases e
  refine ⟨by have := G.len x; omega, fun ys l H1 hp hs k1 nl hl1 => ?_⟩
  refine ⟨l, rfl, ⟨_, .inl (.of hl1)⟩, fun R nR => ?_⟩
  have RT := tab_nn k1.tab nR
  have kR := Kp.new (o := HO.lst []) k1.tab nR
  have nRH := k1.free nR
  have w1 : wipe σ [2] = σ.set 2 none := rfl
  have SR := ((S.keptP k1).more nR).keptP kR
  have lA : l ∉ A := fun z => by obtain ⟨u, e⟩ := hA l z; rw [e] at nl; cases nl
  refine lc_list (K := K) (a := l) (xs := ys.map V.int) (fun i H' => ∃ (ts : List V), H' R = some (.lst ts) ∧ Kp T H1 H' ∧ ts.length = i ∧ DpAll K (hide (R :: A) H') ts ((ys.take i).map (rowE st x)) ∧ ShopAt K C (R :: A) H' p D st)
    ⟨[], upd_same, kR, rfl, .nil, SR⟩ (fun i H' _ ⟨_, _, kk, _⟩ => .inl (.of (kk.lst hl1))) (fun i v H' hi hm => ?_) (fun H' hm => ?_)
  · obtain ⟨ts, eR, kk, tl, dts, S'⟩ := hm
    have hil : i < ys.length := by
      have := (List.getElem?_eq_some_iff.mp hi).1
      rw [List.length_map] at this
      exact this
    rw [List.getElem?_map, List.getElem?_eq_getElem hil] at hi
    have ev : v = .int ys[i] := (Option.some.inj hi).symm
    subst ev
    have s2 : ((wipe σ [2]).set 2 (some (V.int ys[i])))[2]? = some (some (.int ys[i])) := by rw [w1, List.set_set, List.getElem?_set_self (by omega)]
    have s0 : ((wipe σ [2]).set 2 (some (V.int ys[i])))[0]? = some (some (.ref p)) := by rw [w1, List.set_set, List.getElem?_set_ne (by decide)]; exact h0
    have s3 : ((wipe σ [2]).set 2 (some (V.int ys[i])))[3]? = some (some (.str x)) := by rw [w1, List.set_set, List.getElem?_set_ne (by decide)]; exact h3
    have mem : ys[i] ∈ (dataOf st x).map (·.1) := hp.mem_iff.mp (List.getElem_mem hil)
    obtain ⟨e, fe, he, e1⟩ := findD_mem mem
    have gm : makeB (.int ys[i]) = true := by rw [← e1]; exact (G.gd x e he).1
    have hh : hasB st (.str x) (.int ys[i]) = true := by rw [hasB_data hx.1 gm, fe]; rfl
    obtain ⟨dx', o'⟩ := S'.ob
    refine ⟨by show ((σ.set 2 none).set 2 _).set 2 none = σ.set 2 none; rw [List.set_set, List.set_set], tYes_if ⟨_, s2, _, s0, p, dx', _, rfl, o', flS_no D (by decide +kernel), _, s3, _, s2, R :: A, p, D, st, _, _, _, _, rfl, S', .str x, hx.2, .int _, kk.tab, fun z => absurd (hh.symm.trans z) (by decide), fun y m e2 e3 _ xs ds l2 H3 hfd k3 nl2 hl2 hall => ⟨(by show (2 : Nat) ≤ sizeLine; decide), fun tp ntp => ?_⟩⟩⟩
    cases e2
    cases e3
    have k4 := Kp.new (o := HO.tup [.int ys[i], .ref l2]) k3.tab ntp
    have k34 := k3.trans k4
    have e2 : ds = needsOf st x ys[i] := by
      unfold needsOf
      rw [hfd]
      rfl
    have notA : ∀ n, H' n = none → n ∉ R :: A := fun n nn z => by
      rcases List.mem_cons.mp z with z | z
      · rw [z, eR] at nn; cases nn
      · obtain ⟨u, e⟩ := hA n z
        rw [(k1.trans kk).lst e] at nn; cases nn
    have l2A := notA l2 nl2
    have tpA := notA tp (k3.free ntp)
    have kx : Kx T [R] (upd H3 tp (.tup [.int ys[i], .ref l2])) (upd (upd H3 tp (.tup [.int ys[i], .ref l2])) R (.lst (ts ++ [.ref tp]))) := Kx.upd k4.tab RT (List.mem_singleton.mpr rfl)
    have hF : ∀ f ∈ [R], f ∈ R :: A ∨ ∃ kvs, upd H3 tp (.tup [.int ys[i], .ref l2]) f = some (.dK kvs) := fun f hf => .inl (by rw [List.mem_singleton.mp hf]; exact List.mem_cons_self ..)
    have tk : ys.take (i + 1) = ys.take i ++ [ys[i]] := by rw [List.take_add_one, List.getElem?_eq_getElem hil]; rfl
    have hall4 := dpAll_kx (A := R :: A) (Kx.of (A := []) k4) (fun f hf => by cases hf) hall
    have dtp : Dp K (hide (R :: A) (upd H3 tp (.tup [.int ys[i], .ref l2]))) (.ref tp) (rowE st x ys[i]) := .tup (.inl (.inl (hide_of upd_same tpA))) (.cons (.int _) (.cons (.lst (.inl (.inl (hide_of (k4.lst hl2) l2A))) (by rw [← e2]; exact hall4)) .nil))
    refine ⟨ts, k34.lst eR, small1000 (by have := G.len x; have := hp.length_eq; rw [List.length_map] at this; omega), ts ++ [.ref tp], upd_same, (kk.trans k34).set nR RT, by rw [List.length_append, List.length_singleton, tl], ?_, ?_⟩
    · rw [tk, List.map_append]
      have h1 := dpAll_kx kx hF (dpAll_kx (A := R :: A) (Kx.of (A := []) k34) (fun f hf => by cases hf) dts)
      exact dpAll_app h1 (.cons (kx.dpA hF dtp) .nil)
    · exact (S'.keptP k34).kept kx hF (fun f hf _ => ⟨ts, by rw [List.mem_singleton.mp hf]; exact k34.lst eR⟩) (fun f hf hf2 => by
        obtain ⟨kvs, e⟩ := (S'.keptP k34).bx.foot_dict f hf
        rw [List.mem_singleton.mp hf2, k34.lst eR] at e; cases e)
  · obtain ⟨ts, eR, kk, tl, dts, S'⟩ := hm
    rw [List.length_map, List.take_length] at dts
    have RA : R ∉ A := fun z => by obtain ⟨u, e⟩ := hA R z; rw [e] at nRH; cases nRH
    refine q R _ H' (k1.trans kk) nRH (.lst (.inl (.inl (hide_of eR RA))) (dpAll_mono (fun b o _ e => by
      obtain ⟨a1, a2⟩ := hide_some e
      exact hide_of a1 fun z => a2 (List.mem_cons_of_mem _ z)) _ _ dts)) ⟨ys, rfl, hp, hs⟩ (lay_list fun d hd => ?_)
    obtain ⟨m, hm, rfl⟩ := List.mem_map.mp hd
    refine lay_tup (n := 2) fun d hd => ?_
    simp only [List.mem_cons, List.not_mem_nil, or_false] at hd
    rcases hd with rfl | rfl
    · exact (lay_int m).mono (by decide)
    · refine lay_list (n := 1) fun d hd => ?_
      obtain ⟨e, fe, he, e1⟩ := findD_mem (hp.mem_iff.mp hm)
      unfold needsOf at hd
      rw [fe] at hd
      obtain ⟨y, i', j', rfl, g, _⟩ := (G.gd x e he).2 d hd
      refine lay_tup (n := 0) fun d hd => ?_
      simp only [List.mem_cons, List.not_mem_nil, or_false] at hd
      rcases hd with rfl | rfl | rfl
      · exact lay_str g
      · exact lay_int _
      · exact lay_int _
end
end Pk

set_option Elab.async false
set_option linter.all false
set_option maxRecDepth 100000
set_option maxHeartbeats 4000000
namespace Pk
open PySem PySem.Spec PyProof.Rows L2
theorem paired_app {α β : Type} {R : α → β → Prop} {a c : List α} {b d : List β} (h : Paired R a b) (h2 : Paired R c d) : Paired R (a ++ c) (b ++ d) := by
  induction h with
  | nil => exact h2
  | cons h1 _ ih => exact .cons h1 ih
section
variable {P : Program} {w : World} {K : PySem.W.Frag} {mg : Str → Option Value} {base : Heap}
def toldN : List Str := ["_law_shop", "_law_wares", "_law_make", "_law_ware"]
theorem scTold : FnScope toldN ["_law_shop", "_law_wares"] (defScope sTold) := ⟨rfl, rfl, rfl, by decide +kernel, rfl, by decide +kernel, by decide +kernel⟩
def spTold (K : PySem.W.Frag) (C T : Addr) : Sp := fun vs H Q _ => ∃ (p D : Addr) (st : List Shelf) (pn : Addr) (names : List Str), vs = [.ref p, .ref pn] ∧ ShopAt K C [] H p D st ∧ GoodD st ∧ st.length < 64 ∧ (∀ s ∈ st, GoodN s.ware) ∧ SqL K H pn (names.map V.str) ∧ names.length ≤ 100 ∧ (∀ y ∈ names, GoodN y) ∧ GxR.TabG H T ∧
  ∀ v d H', Kp T H H' → Dp K H' v d → IsTold st names d → SeqAt.shaped d = true → Q v H'
theorem ok_told {f C T fW fM fN BW NM : Addr} {fd fdW fdM fdN : FuncData} (F : Fun K "_law_told" "_law_told" sTold f fd) (X : ShopT K mg C)
    (GW : FnOk P w K mg base CX0 1 fW fdW ["self"] (spWares K C T)) (bW : Binds K fdW ["self"] []) (mW : Meth K C "wares" fW)
    (GM : FnOk P w K mg base (L2N.CX P w) 2 fM fdM ["self", "ware"] (spMakes K C T BW)) (bM : Binds K fdM ["self", "ware"] []) (mM : Meth K C "makes" fM)
    (GN : FnOk P w K mg base (L2N.CX P w) 4 fN fdN ["self", "ware", "make"] (spNeeds K C T NM)) (bN : Binds K fdN ["self", "ware", "make"] []) (mN : Meth K C "needs" fN) :
    FnOk P w K mg base CX0 5 f fd ["_law_shop", "_law_wares"] (spTold K C T) := by
  refine F.ok scTold (fun vs H Q E h => ?_) (fun cdv A outer s H vs Q E hr h => ?_)
  · obtain ⟨p, D, st, pn, names, rfl, _⟩ := h
    rfl
  · obtain ⟨p, D, st, pn, names, rfl, S, G, h64, hgw, hN, hn100, hgd, ht, q⟩ := h
    have hr1 : Room 1 _ := hr.mono (by decide)
    have hr2 : Room 2 _ := hr.mono (by decide)
    refine ⟨_, pss_one (ps_ret (pe_op op_cat (pe_lst (pa_cons (pe_meth0 (pv 0) X.cl mW GW hr1 bW .nil pass0) pa_nil))
      (pe_lc (own := [("_law_ware", 3)]) (g := gName 3) (tt := tYes) rfl scTold.nd (pi_list (pv 1)) (blkOk_by (own := [("_law_ware", 3)]) (N := toldN) (sc := defScope sTold) (by decide +kernel)) (fun _ _ _ _ _ => pg_name (i := 3) scTold.nd rfl (Or.inr rfl)) (fun _ _ _ _ _ => pts_nil)
        (fun _ _ _ _ _ => pe_lc (own := [("_law_make", 2)]) (g := gName 2) (tt := tYes) (wi := iList K (tMeth C "makes" (spMakes K C T BW) [] E0 (tVar 0) (tCons (tVar 3) tNil))) rfl scTold.nd (pi_list (pe_meth (E := E0) (pv 0) X.cl mM GM hr2 bM .nil passN (pa_cons (pv 3) pa_nil)))
          (blkOk_by (own := [("_law_make", 2)]) (N := toldN) (sc := relS _ (defScope sTold)) (by decide +kernel)) (fun _ _ _ _ _ => pg_name (i := 2) scTold.nd rfl (Or.inl rfl)) (fun _ _ _ _ _ => pts_nil)
          (fun _ _ _ _ _ => pe_tup (pa_cons (pv 2) (pa_cons (pe_meth (E := E0) (pv 0) X.cl mN GN hr bN .nil passN (pa_cons (pv 3) (pa_cons (pv 2) pa_nil))) pa_nil))))))), ?_⟩
    obtain ⟨dx, o⟩ := S.ob
    refine ⟨_, rfl, p, dx, _, rfl, o, flS_no D (by decide +kernel), [], p, D, st, rfl, S, ht, h64, fun ws l H1 hp hs k1 nl hl => ⟨(by show (1 : Nat) ≤ sizeLine; decide), fun l1 n1 => ?_⟩⟩
    have k2 := Kp.new (o := HO.lst [.ref l]) k1.tab n1
    have e1 : upd H1 l1 (.lst [.ref l]) l1 = some (.lst [.ref l]) := upd_same
    have hl2 := k2.lst hl
    have k12 := k1.trans k2
    have S2 := S.keptP k12
    have hN2 := k12.seq hN
    have t2 := k2.tab
    generalize upd H1 l1 (.lst [.ref l]) = H2 at k2 e1 hl2 k12 S2 hN2 t2 ⊢
    refine ⟨_, rfl, pn, rfl, ⟨_, hN2⟩, fun L nL => ?_⟩
    have LT := tab_nn t2 nL
    have kL := Kp.new (o := HO.lst []) t2 nL
    refine lc_list (K := K) (a := pn) (xs := names.map V.str) (fun i H' => ∃ (ts : List V) (rows : List PyData), H' L = some (.lst ts) ∧ Kp T H2 H' ∧ ts.length = i ∧ DpAll K (hide [L] H') ts rows ∧ Paired (RowT st) rows (names.take i) ∧ (∀ r ∈ rows, Lay 4 r) ∧ ShopAt K C [L] H' p D st)
      ⟨[], [], upd_same, kL, rfl, .nil, .nil, fun r hr => (by cases hr), (S2.more nL).keptP kL⟩ (fun i H' _ ⟨_, _, _, kk, _⟩ => kk.seq hN2) (fun i v H' hi hm => ?_) (fun H' hm => ?_)
    · obtain ⟨ts, rows, eL, kk, tl, dts, rts, lts, S'⟩ := hm
      have hil : i < names.length := by
        have := (List.getElem?_eq_some_iff.mp hi).1
        rw [List.length_map] at this
        exact this
      rw [List.getElem?_map, List.getElem?_eq_getElem hil] at hi
      have ev : v = .str names[i] := (Option.some.inj hi).symm
      subst ev
      refine ⟨rfl, tYes_if (read_row3 (A := [L]) X S' G (hgd _ (List.getElem_mem hil)) (fun a ha => ⟨ts, by rw [List.mem_singleton.mp ha]; exact eL⟩) kk.tab ?g0 ?g3 ?gl fun R row H3 k3 nR dR rt lr => ?_)⟩
      case g0 => rfl
      case g3 => rfl
      case gl => rfl
      have kx : Kx T [L] H3 (upd H3 L (.lst (ts ++ [.ref R]))) := Kx.upd k3.tab LT (List.mem_singleton.mpr rfl)
      have hF : ∀ f ∈ [L], f ∈ [L] ∨ ∃ kvs, H3 f = some (.dK kvs) := fun f hf => .inl hf
      have tk : names.take (i + 1) = names.take i ++ [names[i]] := by rw [List.take_add_one, List.getElem?_eq_getElem hil]; rfl
      refine ⟨ts, k3.lst eL, small1000 (by omega), ts ++ [.ref R], rows ++ [row], upd_same, (kk.trans k3).set nL LT, by rw [List.length_append, List.length_singleton, tl], ?_, ?_, fun r hr => ?_, ?_⟩
      · exact dpAll_app (dpAll_kx kx hF (dpAll_kx (A := [L]) (Kx.of (A := []) k3) (fun f hf => by cases hf) dts)) (.cons (kx.dpA hF dR) .nil)
      · rw [tk]
        exact paired_app rts (.cons rt .nil)
      · rcases List.mem_append.mp hr with hr | hr
        · exact lts r hr
        · rw [List.mem_singleton.mp hr]; exact lr
      · exact (S'.keptP k3).kept kx hF (fun f hf _ => ⟨ts, by rw [List.mem_singleton.mp hf]; exact k3.lst eL⟩) (fun f hf hf2 => by
          obtain ⟨kvs, e⟩ := (S'.keptP k3).bx.foot_dict f hf
          rw [List.mem_singleton.mp hf2, k3.lst eL] at e; cases e)
    · obtain ⟨ts, rows, eL, kk, tl, dts, rts, lts, S'⟩ := hm
      rw [List.length_map, List.take_length] at rts
      rw [List.length_map] at tl
      refine ⟨l1, L, _, _, rfl, rfl, kk.lst e1, eL, line1000 (by show 1 + ts.length ≤ 1000; omega), fun l3 n3 => ?_⟩
      have k5 := Kp.new (o := HO.lst ([.ref l] ++ ts)) kk.tab n3
      have hws : ∀ d ∈ ws.map PyData.str, Lay 0 d := fun d hd => by
        obtain ⟨x, hx, rfl⟩ := List.mem_map.mp hd
        obtain ⟨s', hs', rfl⟩ := List.mem_map.mp (hp.mem_iff.mp hx)
        exact lay_str (hgw s' hs')
      refine q _ (.list (.list (ws.map PyData.str) :: rows)) _ ((k12.trans kk).trans k5) (.lst (.inl (.of upd_same)) (.cons (.lst ((kk.trans k5).seq (.inl (.of hl2))) (dp_strs ws)) (k5.dpAll _ _ (dpAll_mono (fun b o _ e => (hide_some e).1) _ _ dts)))) ⟨ws, rows, rfl, hp, hs, rts⟩
        (lay_shaped (n := 5) (lay_list fun d hd => ?_) (by decide))
      rcases List.mem_cons.mp hd with rfl | hd
      · exact (lay_list hws).mono (by decide)
      · exact lts d hd
end
end Pk

set_option Elab.async false
set_option linter.all false
set_option maxRecDepth 100000
set_option maxHeartbeats 8000000
namespace Pk
open PySem PySem.Spec PyProof.Rows L2
abbrev sDue : Stmt := topS 34
/-! ### a deed and its refusal -/
def rep4 (b : Bool) : List V := (List.replicate (if b = true then (1 : Int) else 0).toNat [V.int 4]).flatten
theorem rep4_eq (b : Bool) : rep4 b = if b = true then [V.int 4] else [] := by
  cases b <;> rfl
theorem rep01 (b : Bool) : (if b = true then (1 : Int) else 0) = 0 ∨ (if b = true then (1 : Int) else 0) = 1 := by
  cases b with
  | true => exact .inr rfl
  | false => exact .inl rfl
theorem rep4_dec (m c : Nat) : (List.replicate (if (decide (V.int (m : Int) = V.int (c : Int))) = true then (1 : Int) else 0).toNat [V.int 4]).flatten = rep4 (decide (m = c)) := by
  have e : decide (V.int (m : Int) = V.int (c : Int)) = decide (m = c) := by
    by_cases h : m = c
    · rw [decide_eq_true h, h, decide_eq_true rfl]
    · rw [decide_eq_false h, decide_eq_false]
      exact fun z => h (by have := V.int.inj z; omega)
  rw [e]
  rfl
def duN : List Str := ["_law_names_here", "_law_number", "_law_many", "_law_makes", "_law_ware", "_law_fresh", "_law_bad_ware_here", "_law_bad_make", "_law_bad_needs_here", "_law_there", "_law_rows", "_law_others"]
section
variable {P : Program} {w : World} {K : PySem.W.Frag} {mg : Str → Option Value} {base : Heap}
theorem scDue : FnScope duN ["_law_names_here", "_law_number", "_law_many", "_law_makes"] (defScope sDue) := ⟨rfl, rfl, rfl, by decide +kernel, rfl, by decide +kernel, by decide +kernel⟩
/-- what the rows of due speak of -/
structure DueV (K : PySem.W.Frag) (H : Hp) (x fr : Str) (vw vm vn vo : V) (dw dm dn dq : PyData) : Prop where
  w : Dp K H vw dw
  bw : BadW dw
  m : Dp K H vm dm
  bm : makeB dm = false
  n : Dq K H vn dn
  bn : BadL x dn
  o : Dq K H vo dq
  bo : BadL fr dq
/-- the row with its deed xs and the numbers of its refusal -/
def DueC (H : Hp) (mn mk : Nat) (x fr : Str) (vw vm vn vo : V) (xs : List V) (due : List V) : Prop :=
  (∃ e, H e = some (.lst []) ∧ ((xs = [.str "put", vw, vm, .ref e] ∧ due = [.int 0]) ∨ (∃ t : Nat, t < mk ∧ xs = [.str "put", .str x, .int (1 + 3 * (t : Int)), .ref e] ∧ due = [.int 3]) ∨
    (xs = [.str "put", .str fr, .int 2, .ref e] ∧ due = rep4 (decide (mn = 12))) ∨ (xs = [.str "put", .str x, .int 2, .ref e] ∧ due = rep4 (decide (mk = 8))))) ∨
  (xs = [.str "put", .str x, vm, vn] ∧ due = [.int 1]) ∨ (∃ t : Nat, t < mk ∧ xs = [.str "put", .str x, .int (1 + 3 * (t : Int)), vn] ∧ due = [.int 2]) ∨
  (xs = [.str "take", .str x, .int 2] ∧ due = [.int 5]) ∨ (xs = [.str "take", vw, .int 1] ∧ due = [.int 5]) ∨ (xs = [.str "take", .str x, vm] ∧ due = [.int 5]) ∨
  (xs = [.str "needs", .str x, .int (3 * (mk : Int) + 1)] ∧ due = [.int 5]) ∨ (xs = [.str "needs", vw, vm] ∧ due = [.int 5]) ∨
  (xs = [.str "makes", vw] ∧ due = [.int 0]) ∨ (xs = [.str "needs", .str fr, .int 1] ∧ due = [.int 5]) ∨ (xs = [.str "put", vw, .int 1, vn] ∧ due = [.int 0]) ∨
  (xs = [.str "put", .str fr, vm, vo] ∧ due = [.int 1]) ∨ (xs = [.str "put", .str fr, .int 2, vo] ∧ due = [.int 2])
def spDue (K : PySem.W.Frag) (T : Addr) : Sp := fun vs H Q _ => ∃ (pn : Addr) (names : List Str) (n : Int) (mn mk : Nat), vs = [.ref pn, .int n, .int mn, .int mk] ∧ SqL K H pn (names.map V.str) ∧ names.Nodup ∧ 13 ≤ names.length ∧ names.length ≤ 100 ∧ (∀ y ∈ names, GoodN y) ∧ 1 ≤ mn ∧ mn ≤ 12 ∧ 1 ≤ mk ∧ mk ≤ 8 ∧ GxR.TabG H T ∧
  ∀ (i : Nat) (vw vm vn vo : V) (dw dm dn dq : PyData) (xs due : List V) (R d u : Addr) H', i < mn → Kp T H H' → DueV K H' (nameAt names i) (nameAt names 12) vw vm vn vo dw dm dn dq → DueC H' mn mk (nameAt names i) (nameAt names 12) vw vm vn vo xs due →
    H' R = some (.tup [.ref d, .ref u]) → H' d = some (.tup xs) → H' u = some (.lst due) → Q (.ref R) H'
theorem ok_due {f fW fN T : Addr} {fd fdW fdN : FuncData} (F : Fun K "_law_due" "_law_due" sDue f fd)
    (GW : FnOk P w K mg base CX0 1 fW fdW ["_law_names_here", "_law_number"] (spBadW K T)) (kW : PySem.W.keepIn K (.ref fW) = true) (bW : Binds K fdW ["_law_names_here", "_law_number"] []) (gW : mg "_law_bad_ware" = some (.ref fW))
    (GN : FnOk P w K mg base CX0 2 fN fdN ["_law_names_here", "_law_ware", "_law_number"] (spBadNs K T)) (kN : PySem.W.keepIn K (.ref fN) = true) (bN : Binds K fdN ["_law_names_here", "_law_ware", "_law_number"] []) (gN : mg "_law_bad_needs" = some (.ref fN))
    (mInt : mg "int" = none) : FnOk P w K mg base CX0 3 f fd ["_law_names_here", "_law_number", "_law_many", "_law_makes"] (spDue K T) := by
  refine F.ok scDue (fun vs H Q E h => ?_) (fun cdv A outer s H vs Q E hr h => ?_)
  · obtain ⟨pn, names, n, mn, mk, rfl, _⟩ := h
    rfl
  · obtain ⟨pn, names, n, mn, mk, rfl, hN, nn, hl13, hl100, hgd, hmn1, hmn, hmk1, hmk, ht, q⟩ := h
    refine ⟨_, (pss_cons (ps_set (i := 4) scDue.nd rfl (.inl rfl) (pe_ix ix_list (pv 0) (pe_op op_mod (pe_op op_fdiv (pv 1) pe_int) (pv 2)) (fun _ _ => rfl)))
      (pss_cons (ps_set (i := 5) scDue.nd rfl (.inl rfl) (pe_ix ix_list (pv 0) pe_int (fun _ _ => rfl)))
      (pss_cons (ps_set (i := 6) scDue.nd rfl (.inl rfl) (pe_call GW (hr.mono (by decide)) (by rfl) gW kW bW .nil pass0 (pa_cons (pv 0) (pa_cons (pe_op op_fdiv (pv 1) pe_int) pa_nil))))
      (pss_cons (ps_set (i := 7) scDue.nd rfl (.inl rfl) (pe_ix ix_list (pe_lst (pa_cons pe_int (pa_cons pe_int (pa_cons (pe_un un_neg pe_int) (pa_cons pe_bl (pa_cons pe_str (pa_cons pe_non (pa_cons (pe_op op_pow pe_int pe_int) (pa_cons (pe_lst (pa_cons pe_int pa_nil)) pa_nil))))))))) (pe_op op_mod (pe_op op_fdiv (pv 1) pe_int) pe_int) (fun _ _ => rfl)))
      (pss_cons (ps_set (i := 8) scDue.nd rfl (.inl rfl) (pe_call GN hr (by rfl) gN kN bN .nil pass0 (pa_cons (pv 0) (pa_cons (pv 4) (pa_cons (pe_op op_fdiv (pv 1) pe_int) pa_nil)))))
      (pss_cons (ps_set (i := 9) scDue.nd rfl (.inl rfl) (pe_op op_add pe_int (pe_op op_mul pe_int (pe_op op_mod (pe_op op_fdiv (pv 1) pe_int) (pv 3)))))
      (pss_cons (ps_set (i := 10) scDue.nd rfl (.inl rfl) (pe_lst (pa_cons (pe_tup (pa_cons (pe_tup (pa_cons pe_str (pa_cons (pv 6) (pa_cons (pv 7) (pa_cons (pe_lst pa_nil) pa_nil))))) (pa_cons (pe_lst (pa_cons pe_int pa_nil)) pa_nil))) (pa_cons (pe_tup (pa_cons (pe_tup (pa_cons pe_str (pa_cons (pv 4) (pa_cons (pv 7) (pa_cons (pv 8) pa_nil))))) (pa_cons (pe_lst (pa_cons pe_int pa_nil)) pa_nil))) pa_nil))))
      (pss_cons (ps_set (i := 10) scDue.nd rfl (.inl rfl) (pe_op op_cat (pv 10) (pe_lst (pa_cons (pe_tup (pa_cons (pe_tup (pa_cons pe_str (pa_cons (pv 4) (pa_cons (pv 9) (pa_cons (pv 8) pa_nil))))) (pa_cons (pe_lst (pa_cons pe_int pa_nil)) pa_nil))) (pa_cons (pe_tup (pa_cons (pe_tup (pa_cons pe_str (pa_cons (pv 4) (pa_cons (pv 9) (pa_cons (pe_lst pa_nil) pa_nil))))) (pa_cons (pe_lst (pa_cons pe_int pa_nil)) pa_nil))) pa_nil)))))
      (pss_cons (ps_set (i := 10) scDue.nd rfl (.inl rfl) (pe_op op_cat (pv 10) (pe_lst (pa_cons (pe_tup (pa_cons (pe_tup (pa_cons pe_str (pa_cons (pv 5) (pa_cons pe_int (pa_cons (pe_lst pa_nil) pa_nil))))) (pa_cons (pe_op op_rep (pe_lst (pa_cons pe_int pa_nil)) (pe_callTy call_int1 (by rfl) mInt boot_int (pa_cons (pe_cmpR op_eq (pv 2) pe_int (nomark _)) pa_nil))) pa_nil))) (pa_cons (pe_tup (pa_cons (pe_tup (pa_cons pe_str (pa_cons (pv 4) (pa_cons pe_int (pa_cons (pe_lst pa_nil) pa_nil))))) (pa_cons (pe_op op_rep (pe_lst (pa_cons pe_int pa_nil)) (pe_callTy call_int1 (by rfl) mInt boot_int (pa_cons (pe_cmpR op_eq (pv 3) pe_int (nomark _)) pa_nil))) pa_nil))) pa_nil)))))
      (pss_cons (ps_set (i := 10) scDue.nd rfl (.inl rfl) (pe_op op_cat (pv 10) (pe_lst (pa_cons (pe_tup (pa_cons (pe_tup (pa_cons pe_str (pa_cons (pv 4) (pa_cons pe_int pa_nil)))) (pa_cons (pe_lst (pa_cons pe_int pa_nil)) pa_nil))) (pa_cons (pe_tup (pa_cons (pe_tup (pa_cons pe_str (pa_cons (pv 6) (pa_cons pe_int pa_nil)))) (pa_cons (pe_lst (pa_cons pe_int pa_nil)) pa_nil))) (pa_cons (pe_tup (pa_cons (pe_tup (pa_cons pe_str (pa_cons (pv 4) (pa_cons (pv 7) pa_nil)))) (pa_cons (pe_lst (pa_cons pe_int pa_nil)) pa_nil))) pa_nil))))))
      (pss_cons (ps_set (i := 10) scDue.nd rfl (.inl rfl) (pe_op op_cat (pv 10) (pe_lst (pa_cons (pe_tup (pa_cons (pe_tup (pa_cons pe_str (pa_cons (pv 4) (pa_cons (pe_op op_add (pe_op op_mul pe_int (pv 3)) pe_int) pa_nil)))) (pa_cons (pe_lst (pa_cons pe_int pa_nil)) pa_nil))) (pa_cons (pe_tup (pa_cons (pe_tup (pa_cons pe_str (pa_cons (pv 6) (pa_cons (pv 7) pa_nil)))) (pa_cons (pe_lst (pa_cons pe_int pa_nil)) pa_nil))) pa_nil)))))
      (pss_cons (ps_set (i := 10) scDue.nd rfl (.inl rfl) (pe_op op_cat (pv 10) (pe_lst (pa_cons (pe_tup (pa_cons (pe_tup (pa_cons pe_str (pa_cons (pv 6) pa_nil))) (pa_cons (pe_lst (pa_cons pe_int pa_nil)) pa_nil))) (pa_cons (pe_tup (pa_cons (pe_tup (pa_cons pe_str (pa_cons (pv 5) (pa_cons pe_int pa_nil)))) (pa_cons (pe_lst (pa_cons pe_int pa_nil)) pa_nil))) (pa_cons (pe_tup (pa_cons (pe_tup (pa_cons pe_str (pa_cons (pv 6) (pa_cons pe_int (pa_cons (pv 8) pa_nil))))) (pa_cons (pe_lst (pa_cons pe_int pa_nil)) pa_nil))) pa_nil))))))
      (pss_cons (ps_set (i := 11) scDue.nd rfl (.inl rfl) (pe_call GN hr (by rfl) gN kN bN .nil pass0 (pa_cons (pv 0) (pa_cons (pv 5) (pa_cons (pe_op op_fdiv (pv 1) pe_int) pa_nil)))))
      (pss_cons (ps_set (i := 10) scDue.nd rfl (.inl rfl) (pe_op op_cat (pv 10) (pe_lst (pa_cons (pe_tup (pa_cons (pe_tup (pa_cons pe_str (pa_cons (pv 5) (pa_cons (pv 7) (pa_cons (pv 11) pa_nil))))) (pa_cons (pe_lst (pa_cons pe_int pa_nil)) pa_nil))) (pa_cons (pe_tup (pa_cons (pe_tup (pa_cons pe_str (pa_cons (pv 5) (pa_cons pe_int (pa_cons (pv 11) pa_nil))))) (pa_cons (pe_lst (pa_cons pe_int pa_nil)) pa_nil))) pa_nil)))))
      (pss_one (ps_ret (pe_ix ix_list (pv 10) (pe_op op_mod (pv 1) pe_int) (fun _ _ => rfl)))))))))))))))))), ?_⟩
    have hx12 : 12 < names.length := by omega
    obtain ⟨i, ei⟩ : ∃ i : Nat, n / 3 % (mn : Int) = (i : Int) := ⟨(n / 3 % (mn : Int)).toNat, by have := Int.emod_nonneg (n / 3) (show (mn : Int) ≠ 0 by omega); omega⟩
    have hi : i < mn := by have := Int.emod_lt_of_pos (n / 3) (show (0 : Int) < (mn : Int) by omega); omega
    obtain ⟨t, et⟩ : ∃ t : Nat, n / 40 % (mk : Int) = (t : Int) := ⟨(n / 40 % (mk : Int)).toNat, by have := Int.emod_nonneg (n / 40) (show (mk : Int) ≠ 0 by omega); omega⟩
    have htm : t < mk := by have := Int.emod_lt_of_pos (n / 40) (show (0 : Int) < (mk : Int) by omega); omega
    have hil : i < names.length := by omega
    obtain ⟨x, ex⟩ : ∃ x, x = nameAt names i := ⟨_, rfl⟩
    obtain ⟨fr, ef⟩ : ∃ x, x = nameAt names 12 := ⟨_, rfl⟩
    have hx : x ∈ names := by rw [ex, nameAt_eq hil]; exact List.getElem_mem hil
    have hfr : fr ∈ names := by rw [ef, nameAt_eq hx12]; exact List.getElem_mem hx12
    have at1 : atI (names.map V.str) (n / 3 % (mn : Int)) = some (.str x) := by
      rw [ei, ex, nameAt_eq hil]
      exact atI_nat (by rw [List.getElem?_map, List.getElem?_eq_getElem hil]; rfl)
    have at2 : atI (names.map V.str) 12 = some (.str fr) := by
      rw [ef, nameAt_eq hx12]
      exact atI_nat (j := 12) (by rw [List.getElem?_map, List.getElem?_eq_getElem hx12]; rfl)
    refine ⟨_, rfl, _, rfl, n, 3, rfl, rfl, ⟨by decide, by decide⟩, _, rfl, n / 3, (mn : Int), rfl, rfl, (by show (0 : Int) < (mn : Int); omega), pn, _, _, _, rfl, rfl, hN, at1, ?_⟩
    refine ⟨_, rfl, pn, _, 12, _, rfl, rfl, hN, at2, ?_⟩
    refine ⟨_, rfl, _, rfl, n, 40, rfl, rfl, ⟨by decide, by decide⟩, pn, names, _, rfl, hN, (by omega), hgd, ht, fun vw dw H1 k1 ew bw => ?_⟩
    -- no make
    refine ⟨1, rfl, 10, 30, rfl, rfl, ⟨by decide, by decide, by decide⟩, (by show (1 : Nat) ≤ sizeLine; decide), fun b8 n_b8 => ?_⟩
    have kb := Kp.new (o := HO.lst [.int 1]) k1.tab n_b8
    refine ⟨(by show (8 : Nat) ≤ sizeLine; decide), fun bl n_bl => ?_⟩
    have kb2 := Kp.new (o := HO.lst [.int 0, .int 1000, .int (-1), .bl true, .str "1", .non, .int (10 ^ (30 : Int).toNat), .ref b8]) kb.tab n_bl
    have e_bl : upd (upd H1 b8 (.lst [.int 1])) bl (.lst [.int 0, .int 1000, .int (-1), .bl true, .str "1", .non, .int (10 ^ (30 : Int).toNat), .ref b8]) bl = some (.lst [.int 0, .int 1000, .int (-1), .bl true, .str "1", .non, .int (10 ^ (30 : Int).toNat), .ref b8]) := upd_same
    have e_b8 := kb2.lst (a := b8) (xs := [.int 1]) upd_same
    have kB := kb.trans kb2
    generalize upd (upd H1 b8 (.lst [.int 1])) bl (.lst [.int 0, .int 1000, .int (-1), .bl true, .str "1", .non, .int (10 ^ (30 : Int).toNat), .ref b8]) = H2 at kb2 e_bl e_b8 kB ⊢
    obtain ⟨vm, evm, dm, em, bm⟩ := at_pick (xs := [V.int 0, .int 1000, .int (-1), .bl true, .str "1", .non, .int (10 ^ (30 : Int).toNat), .ref b8]) (i := n / 40 % 8) (p := fun v => ∃ d, Dp K H2 v d ∧ makeB d = false) (by omega) (by show n / 40 % 8 < ((8 : Nat) : Int); omega) (fun v hv => by
      simp only [List.mem_cons, List.not_mem_nil, or_false] at hv
      rcases hv with rfl | rfl | rfl | rfl | rfl | rfl | rfl | rfl
      · exact ⟨_, .int _, rfl⟩
      · exact ⟨_, .int _, rfl⟩
      · exact ⟨_, .int _, rfl⟩
      · exact ⟨_, .bl _, rfl⟩
      · exact ⟨_, .str _, rfl⟩
      · exact ⟨_, .non, rfl⟩
      · exact ⟨_, .int _, by decide +kernel⟩
      · exact ⟨_, .lst (.inl (.of e_b8)) (.cons (.int 1) .nil), rfl⟩)
    refine ⟨_, rfl, n, 40, rfl, rfl, ⟨by decide, by decide⟩, _, 8, rfl, rfl, (by show (0 : Int) < 8; decide), bl, _, _, _, rfl, rfl, .inl (.of e_bl), evm, ?_⟩
    have hN2 := kB.seq (k1.seq hN)
    refine ⟨_, rfl, _, rfl, _, rfl, n, 40, rfl, rfl, ⟨by decide, by decide⟩, pn, names, x, _, rfl, hN2, hx, nn, (by omega), hl100, hgd, kB.tab, fun vn dn H3 k3 en bn => ?_⟩
    have t3 := k3.tab
    have hN3 := k3.seq hN2
    refine ⟨_, rfl, n, 40, rfl, rfl, ⟨by decide, by decide⟩, _, rfl, n / 40, (mk : Int), rfl, rfl, (by show (0 : Int) < (mk : Int); omega), 3, _, rfl, rfl, .inl ⟨by decide, by decide⟩, 1, _, rfl, rfl, ?_⟩
    refine ⟨_, rfl, _, rfl, (by show (0 : Nat) ≤ sizeLine; decide), fun e0 n_e0 => ?_⟩
    have k_e0 := Kp.new (o := HO.lst []) t3 n_e0
    have e_e0 : upd H3 e0 (HO.lst []) e0 = some (HO.lst []) := upd_same
    have t_e0 := k_e0.tab
    generalize upd H3 e0 (HO.lst []) = H_e0 at k_e0 e_e0 t_e0 ⊢
    refine ⟨(by show (4 : Nat) ≤ sizeLine; decide), fun d0 n_d0 => ?_⟩
    have k_d0 := Kp.new (o := HO.tup [.str "put", vw, vm, .ref e0]) t_e0 n_d0
    have e_d0 : upd H_e0 d0 (HO.tup [.str "put", vw, vm, .ref e0]) d0 = some (HO.tup [.str "put", vw, vm, .ref e0]) := upd_same
    have t_d0 := k_d0.tab
    generalize upd H_e0 d0 (HO.tup [.str "put", vw, vm, .ref e0]) = H_d0 at k_d0 e_d0 t_d0 ⊢
    refine ⟨(by show (1 : Nat) ≤ sizeLine; decide), fun u0 n_u0 => ?_⟩
    have k_u0 := Kp.new (o := HO.lst [.int 0]) t_d0 n_u0
    have e_u0 : upd H_d0 u0 (HO.lst [.int 0]) u0 = some (HO.lst [.int 0]) := upd_same
    have t_u0 := k_u0.tab
    generalize upd H_d0 u0 (HO.lst [.int 0]) = H_u0 at k_u0 e_u0 t_u0 ⊢
    refine ⟨(by show (2 : Nat) ≤ sizeLine; decide), fun r0 n_r0 => ?_⟩
    have k_r0 := Kp.new (o := HO.tup [.ref d0, .ref u0]) t_u0 n_r0
    have e_r0 : upd H_u0 r0 (HO.tup [.ref d0, .ref u0]) r0 = some (HO.tup [.ref d0, .ref u0]) := upd_same
    have t_r0 := k_r0.tab
    generalize upd H_u0 r0 (HO.tup [.ref d0, .ref u0]) = H_r0 at k_r0 e_r0 t_r0 ⊢
    refine ⟨_, rfl, _, rfl, _, rfl, (by show (4 : Nat) ≤ sizeLine; decide), fun d1 n_d1 => ?_⟩
    have k_d1 := Kp.new (o := HO.tup [.str "put", .str x, vm, vn]) t_r0 n_d1
    have e_d1 : upd H_r0 d1 (HO.tup [.str "put", .str x, vm, vn]) d1 = some (HO.tup [.str "put", .str x, vm, vn]) := upd_same
    have t_d1 := k_d1.tab
    generalize upd H_r0 d1 (HO.tup [.str "put", .str x, vm, vn]) = H_d1 at k_d1 e_d1 t_d1 ⊢
    refine ⟨(by show (1 : Nat) ≤ sizeLine; decide), fun u1 n_u1 => ?_⟩
    have k_u1 := Kp.new (o := HO.lst [.int 1]) t_d1 n_u1
    have e_u1 : upd H_d1 u1 (HO.lst [.int 1]) u1 = some (HO.lst [.int 1]) := upd_same
    have t_u1 := k_u1.tab
    generalize upd H_d1 u1 (HO.lst [.int 1]) = H_u1 at k_u1 e_u1 t_u1 ⊢
    refine ⟨(by show (2 : Nat) ≤ sizeLine; decide), fun r1 n_r1 => ?_⟩
    have k_r1 := Kp.new (o := HO.tup [.ref d1, .ref u1]) t_u1 n_r1
    have e_r1 : upd H_u1 r1 (HO.tup [.ref d1, .ref u1]) r1 = some (HO.tup [.ref d1, .ref u1]) := upd_same
    have t_r1 := k_r1.tab
    generalize upd H_u1 r1 (HO.tup [.ref d1, .ref u1]) = H_r1 at k_r1 e_r1 t_r1 ⊢
    refine ⟨(by show (2 : Nat) ≤ sizeLine; decide), fun L0 n_L0 => ?_⟩
    have k_L0 := Kp.new (o := HO.lst [.ref r0, .ref r1]) t_r1 n_L0
    have e_L0 : upd H_r1 L0 (HO.lst [.ref r0, .ref r1]) L0 = some (HO.lst [.ref r0, .ref r1]) := upd_same
    have t_L0 := k_L0.tab
    generalize upd H_r1 L0 (HO.lst [.ref r0, .ref r1]) = H_L0 at k_L0 e_L0 t_L0 ⊢
    refine ⟨_, rfl, _, rfl, _, rfl, _, rfl, (by show (4 : Nat) ≤ sizeLine; decide), fun d2 n_d2 => ?_⟩
    have k_d2 := Kp.new (o := HO.tup [.str "put", .str x, .int (1 + 3 * (n / 40 % (mk : Int))), vn]) t_L0 n_d2
    have e_d2 : upd H_L0 d2 (HO.tup [.str "put", .str x, .int (1 + 3 * (n / 40 % (mk : Int))), vn]) d2 = some (HO.tup [.str "put", .str x, .int (1 + 3 * (n / 40 % (mk : Int))), vn]) := upd_same
    have t_d2 := k_d2.tab
    generalize upd H_L0 d2 (HO.tup [.str "put", .str x, .int (1 + 3 * (n / 40 % (mk : Int))), vn]) = H_d2 at k_d2 e_d2 t_d2 ⊢
    refine ⟨(by show (1 : Nat) ≤ sizeLine; decide), fun u2 n_u2 => ?_⟩
    have k_u2 := Kp.new (o := HO.lst [.int 2]) t_d2 n_u2
    have e_u2 : upd H_d2 u2 (HO.lst [.int 2]) u2 = some (HO.lst [.int 2]) := upd_same
    have t_u2 := k_u2.tab
    generalize upd H_d2 u2 (HO.lst [.int 2]) = H_u2 at k_u2 e_u2 t_u2 ⊢
    refine ⟨(by show (2 : Nat) ≤ sizeLine; decide), fun r2 n_r2 => ?_⟩
    have k_r2 := Kp.new (o := HO.tup [.ref d2, .ref u2]) t_u2 n_r2
    have e_r2 : upd H_u2 r2 (HO.tup [.ref d2, .ref u2]) r2 = some (HO.tup [.ref d2, .ref u2]) := upd_same
    have t_r2 := k_r2.tab
    generalize upd H_u2 r2 (HO.tup [.ref d2, .ref u2]) = H_r2 at k_r2 e_r2 t_r2 ⊢
    refine ⟨_, rfl, _, rfl, (by show (0 : Nat) ≤ sizeLine; decide), fun e3 n_e3 => ?_⟩
    have k_e3 := Kp.new (o := HO.lst []) t_r2 n_e3
    have e_e3 : upd H_r2 e3 (HO.lst []) e3 = some (HO.lst []) := upd_same
    have t_e3 := k_e3.tab
    generalize upd H_r2 e3 (HO.lst []) = H_e3 at k_e3 e_e3 t_e3 ⊢
    refine ⟨(by show (4 : Nat) ≤ sizeLine; decide), fun d3 n_d3 => ?_⟩
    have k_d3 := Kp.new (o := HO.tup [.str "put", .str x, .int (1 + 3 * (n / 40 % (mk : Int))), .ref e3]) t_e3 n_d3
    have e_d3 : upd H_e3 d3 (HO.tup [.str "put", .str x, .int (1 + 3 * (n / 40 % (mk : Int))), .ref e3]) d3 = some (HO.tup [.str "put", .str x, .int (1 + 3 * (n / 40 % (mk : Int))), .ref e3]) := upd_same
    have t_d3 := k_d3.tab
    generalize upd H_e3 d3 (HO.tup [.str "put", .str x, .int (1 + 3 * (n / 40 % (mk : Int))), .ref e3]) = H_d3 at k_d3 e_d3 t_d3 ⊢
    refine ⟨(by show (1 : Nat) ≤ sizeLine; decide), fun u3 n_u3 => ?_⟩
    have k_u3 := Kp.new (o := HO.lst [.int 3]) t_d3 n_u3
    have e_u3 : upd H_d3 u3 (HO.lst [.int 3]) u3 = some (HO.lst [.int 3]) := upd_same
    have t_u3 := k_u3.tab
    generalize upd H_d3 u3 (HO.lst [.int 3]) = H_u3 at k_u3 e_u3 t_u3 ⊢
    refine ⟨(by show (2 : Nat) ≤ sizeLine; decide), fun r3 n_r3 => ?_⟩
    have k_r3 := Kp.new (o := HO.tup [.ref d3, .ref u3]) t_u3 n_r3
    have e_r3 : upd H_u3 r3 (HO.tup [.ref d3, .ref u3]) r3 = some (HO.tup [.ref d3, .ref u3]) := upd_same
    have t_r3 := k_r3.tab
    generalize upd H_u3 r3 (HO.tup [.ref d3, .ref u3]) = H_r3 at k_r3 e_r3 t_r3 ⊢
    refine ⟨(by show (2 : Nat) ≤ sizeLine; decide), fun L1 n_L1 => ?_⟩
    have k_L1 := Kp.new (o := HO.lst [.ref r2, .ref r3]) t_r3 n_L1
    have e_L1 : upd H_r3 L1 (HO.lst [.ref r2, .ref r3]) L1 = some (HO.lst [.ref r2, .ref r3]) := upd_same
    have t_L1 := k_L1.tab
    generalize upd H_r3 L1 (HO.lst [.ref r2, .ref r3]) = H_L1 at k_L1 e_L1 t_L1 ⊢
    have z_C1 := ((((((((k_d2).trans k_u2).trans k_r2).trans k_e3).trans k_d3).trans k_u3).trans k_r3).trans k_L1).lst e_L0
    refine ⟨L0, L1, _, _, rfl, rfl, z_C1, e_L1, (by show (2 + 2 : Nat) ≤ sizeLine; decide), fun C1 n_C1 => ?_⟩
    have k_C1 := Kp.new (o := HO.lst ([V.ref r0, V.ref r1] ++ [V.ref r2, V.ref r3])) t_L1 n_C1
    have e_C1 : upd H_L1 C1 (HO.lst ([V.ref r0, V.ref r1] ++ [V.ref r2, V.ref r3])) C1 = some (HO.lst ([V.ref r0, V.ref r1] ++ [V.ref r2, V.ref r3])) := upd_same
    have t_C1 := k_C1.tab
    generalize upd H_L1 C1 (HO.lst ([V.ref r0, V.ref r1] ++ [V.ref r2, V.ref r3])) = H_C1 at k_C1 e_C1 t_C1 ⊢
    have e_C1 : H_C1 C1 = some (HO.lst [.ref r0, .ref r1, .ref r2, .ref r3]) := e_C1
    refine ⟨_, rfl, _, rfl, (by show (0 : Nat) ≤ sizeLine; decide), fun e4 n_e4 => ?_⟩
    have k_e4 := Kp.new (o := HO.lst []) t_C1 n_e4
    have e_e4 : upd H_C1 e4 (HO.lst []) e4 = some (HO.lst []) := upd_same
    have t_e4 := k_e4.tab
    generalize upd H_C1 e4 (HO.lst []) = H_e4 at k_e4 e_e4 t_e4 ⊢
    refine ⟨(by show (4 : Nat) ≤ sizeLine; decide), fun d4 n_d4 => ?_⟩
    have k_d4 := Kp.new (o := HO.tup [.str "put", .str fr, .int 2, .ref e4]) t_e4 n_d4
    have e_d4 : upd H_e4 d4 (HO.tup [.str "put", .str fr, .int 2, .ref e4]) d4 = some (HO.tup [.str "put", .str fr, .int 2, .ref e4]) := upd_same
    have t_d4 := k_d4.tab
    generalize upd H_e4 d4 (HO.tup [.str "put", .str fr, .int 2, .ref e4]) = H_d4 at k_d4 e_d4 t_d4 ⊢
    refine ⟨(by show (1 : Nat) ≤ sizeLine; decide), fun v4 n_v4 => ?_⟩
    have k_v4 := Kp.new (o := HO.lst [.int 4]) t_d4 n_v4
    have e_v4 : upd H_d4 v4 (HO.lst [.int 4]) v4 = some (HO.lst [.int 4]) := upd_same
    have t_v4 := k_v4.tab
    generalize upd H_d4 v4 (HO.lst [.int 4]) = H_v4 at k_v4 e_v4 t_v4 ⊢
    refine ⟨_, rfl, rfl, .inr ⟨_, rfl, v4, _, _, rfl, rfl, e_v4, (by rcases rep01 (decide (V.int (mn : Int) = V.int 12)) with z | z <;> rw [z] <;> decide), (by rcases rep01 (decide (V.int (mn : Int) = V.int 12)) with z | z <;> rw [z] <;> decide), line1000 (by rcases rep01 (decide (V.int (mn : Int) = V.int 12)) with z | z <;> rw [z] <;> decide), fun u4 n_u4 => ?_⟩⟩
    have k_u4 := Kp.new (o := HO.lst (List.replicate (if (decide (V.int (mn : Int) = V.int 12)) = true then (1 : Int) else 0).toNat [V.int 4]).flatten) t_v4 n_u4
    have e_u4 : upd H_v4 u4 (HO.lst (List.replicate (if (decide (V.int (mn : Int) = V.int 12)) = true then (1 : Int) else 0).toNat [V.int 4]).flatten) u4 = some (HO.lst (List.replicate (if (decide (V.int (mn : Int) = V.int 12)) = true then (1 : Int) else 0).toNat [V.int 4]).flatten) := upd_same
    have t_u4 := k_u4.tab
    generalize upd H_v4 u4 (HO.lst (List.replicate (if (decide (V.int (mn : Int) = V.int 12)) = true then (1 : Int) else 0).toNat [V.int 4]).flatten) = H_u4 at k_u4 e_u4 t_u4 ⊢
    refine ⟨(by show (2 : Nat) ≤ sizeLine; decide), fun r4 n_r4 => ?_⟩
    have k_r4 := Kp.new (o := HO.tup [.ref d4, .ref u4]) t_u4 n_r4
    have e_r4 : upd H_u4 r4 (HO.tup [.ref d4, .ref u4]) r4 = some (HO.tup [.ref d4, .ref u4]) := upd_same
    have t_r4 := k_r4.tab
    generalize upd H_u4 r4 (HO.tup [.ref d4, .ref u4]) = H_r4 at k_r4 e_r4 t_r4 ⊢
    refine ⟨_, rfl, (by show (0 : Nat) ≤ sizeLine; decide), fun e5 n_e5 => ?_⟩
    have k_e5 := Kp.new (o := HO.lst []) t_r4 n_e5
    have e_e5 : upd H_r4 e5 (HO.lst []) e5 = some (HO.lst []) := upd_same
    have t_e5 := k_e5.tab
    generalize upd H_r4 e5 (HO.lst []) = H_e5 at k_e5 e_e5 t_e5 ⊢
    refine ⟨(by show (4 : Nat) ≤ sizeLine; decide), fun d5 n_d5 => ?_⟩
    have k_d5 := Kp.new (o := HO.tup [.str "put", .str x, .int 2, .ref e5]) t_e5 n_d5
    have e_d5 : upd H_e5 d5 (HO.tup [.str "put", .str x, .int 2, .ref e5]) d5 = some (HO.tup [.str "put", .str x, .int 2, .ref e5]) := upd_same
    have t_d5 := k_d5.tab
    generalize upd H_e5 d5 (HO.tup [.str "put", .str x, .int 2, .ref e5]) = H_d5 at k_d5 e_d5 t_d5 ⊢
    refine ⟨(by show (1 : Nat) ≤ sizeLine; decide), fun v5 n_v5 => ?_⟩
    have k_v5 := Kp.new (o := HO.lst [.int 4]) t_d5 n_v5
    have e_v5 : upd H_d5 v5 (HO.lst [.int 4]) v5 = some (HO.lst [.int 4]) := upd_same
    have t_v5 := k_v5.tab
    generalize upd H_d5 v5 (HO.lst [.int 4]) = H_v5 at k_v5 e_v5 t_v5 ⊢
    refine ⟨_, rfl, rfl, .inr ⟨_, rfl, v5, _, _, rfl, rfl, e_v5, (by rcases rep01 (decide (V.int (mk : Int) = V.int 8)) with z | z <;> rw [z] <;> decide), (by rcases rep01 (decide (V.int (mk : Int) = V.int 8)) with z | z <;> rw [z] <;> decide), line1000 (by rcases rep01 (decide (V.int (mk : Int) = V.int 8)) with z | z <;> rw [z] <;> decide), fun u5 n_u5 => ?_⟩⟩
    have k_u5 := Kp.new (o := HO.lst (List.replicate (if (decide (V.int (mk : Int) = V.int 8)) = true then (1 : Int) else 0).toNat [V.int 4]).flatten) t_v5 n_u5
    have e_u5 : upd H_v5 u5 (HO.lst (List.replicate (if (decide (V.int (mk : Int) = V.int 8)) = true then (1 : Int) else 0).toNat [V.int 4]).flatten) u5 = some (HO.lst (List.replicate (if (decide (V.int (mk : Int) = V.int 8)) = true then (1 : Int) else 0).toNat [V.int 4]).flatten) := upd_same
    have t_u5 := k_u5.tab
    generalize upd H_v5 u5 (HO.lst (List.replicate (if (decide (V.int (mk : Int) = V.int 8)) = true then (1 : Int) else 0).toNat [V.int 4]).flatten) = H_u5 at k_u5 e_u5 t_u5 ⊢
    refine ⟨(by show (2 : Nat) ≤ sizeLine; decide), fun r5 n_r5 => ?_⟩
    have k_r5 := Kp.new (o := HO.tup [.ref d5, .ref u5]) t_u5 n_r5
    have e_r5 : upd H_u5 r5 (HO.tup [.ref d5, .ref u5]) r5 = some (HO.tup [.ref d5, .ref u5]) := upd_same
    have t_r5 := k_r5.tab
    generalize upd H_u5 r5 (HO.tup [.ref d5, .ref u5]) = H_r5 at k_r5 e_r5 t_r5 ⊢
    refine ⟨(by show (2 : Nat) ≤ sizeLine; decide), fun L2 n_L2 => ?_⟩
    have k_L2 := Kp.new (o := HO.lst [.ref r4, .ref r5]) t_r5 n_L2
    have e_L2 : upd H_r5 L2 (HO.lst [.ref r4, .ref r5]) L2 = some (HO.lst [.ref r4, .ref r5]) := upd_same
    have t_L2 := k_L2.tab
    generalize upd H_r5 L2 (HO.lst [.ref r4, .ref r5]) = H_L2 at k_L2 e_L2 t_L2 ⊢
    have z_C2 := (((((((((((k_e4).trans k_d4).trans k_v4).trans k_u4).trans k_r4).trans k_e5).trans k_d5).trans k_v5).trans k_u5).trans k_r5).trans k_L2).lst e_C1
    refine ⟨C1, L2, _, _, rfl, rfl, z_C2, e_L2, (by show (4 + 2 : Nat) ≤ sizeLine; decide), fun C2 n_C2 => ?_⟩
    have k_C2 := Kp.new (o := HO.lst ([V.ref r0, V.ref r1, V.ref r2, V.ref r3] ++ [V.ref r4, V.ref r5])) t_L2 n_C2
    have e_C2 : upd H_L2 C2 (HO.lst ([V.ref r0, V.ref r1, V.ref r2, V.ref r3] ++ [V.ref r4, V.ref r5])) C2 = some (HO.lst ([V.ref r0, V.ref r1, V.ref r2, V.ref r3] ++ [V.ref r4, V.ref r5])) := upd_same
    have t_C2 := k_C2.tab
    generalize upd H_L2 C2 (HO.lst ([V.ref r0, V.ref r1, V.ref r2, V.ref r3] ++ [V.ref r4, V.ref r5])) = H_C2 at k_C2 e_C2 t_C2 ⊢
    have e_C2 : H_C2 C2 = some (HO.lst [.ref r0, .ref r1, .ref r2, .ref r3, .ref r4, .ref r5]) := e_C2
    refine ⟨_, rfl, _, rfl, (by show (3 : Nat) ≤ sizeLine; decide), fun d6 n_d6 => ?_⟩
    have k_d6 := Kp.new (o := HO.tup [.str "take", .str x, .int 2]) t_C2 n_d6
    have e_d6 : upd H_C2 d6 (HO.tup [.str "take", .str x, .int 2]) d6 = some (HO.tup [.str "take", .str x, .int 2]) := upd_same
    have t_d6 := k_d6.tab
    generalize upd H_C2 d6 (HO.tup [.str "take", .str x, .int 2]) = H_d6 at k_d6 e_d6 t_d6 ⊢
    refine ⟨(by show (1 : Nat) ≤ sizeLine; decide), fun u6 n_u6 => ?_⟩
    have k_u6 := Kp.new (o := HO.lst [.int 5]) t_d6 n_u6
    have e_u6 : upd H_d6 u6 (HO.lst [.int 5]) u6 = some (HO.lst [.int 5]) := upd_same
    have t_u6 := k_u6.tab
    generalize upd H_d6 u6 (HO.lst [.int 5]) = H_u6 at k_u6 e_u6 t_u6 ⊢
    refine ⟨(by show (2 : Nat) ≤ sizeLine; decide), fun r6 n_r6 => ?_⟩
    have k_r6 := Kp.new (o := HO.tup [.ref d6, .ref u6]) t_u6 n_r6
    have e_r6 : upd H_u6 r6 (HO.tup [.ref d6, .ref u6]) r6 = some (HO.tup [.ref d6, .ref u6]) := upd_same
    have t_r6 := k_r6.tab
    generalize upd H_u6 r6 (HO.tup [.ref d6, .ref u6]) = H_r6 at k_r6 e_r6 t_r6 ⊢
    refine ⟨_, rfl, (by show (3 : Nat) ≤ sizeLine; decide), fun d7 n_d7 => ?_⟩
    have k_d7 := Kp.new (o := HO.tup [.str "take", vw, .int 1]) t_r6 n_d7
    have e_d7 : upd H_r6 d7 (HO.tup [.str "take", vw, .int 1]) d7 = some (HO.tup [.str "take", vw, .int 1]) := upd_same
    have t_d7 := k_d7.tab
    generalize upd H_r6 d7 (HO.tup [.str "take", vw, .int 1]) = H_d7 at k_d7 e_d7 t_d7 ⊢
    refine ⟨(by show (1 : Nat) ≤ sizeLine; decide), fun u7 n_u7 => ?_⟩
    have k_u7 := Kp.new (o := HO.lst [.int 5]) t_d7 n_u7
    have e_u7 : upd H_d7 u7 (HO.lst [.int 5]) u7 = some (HO.lst [.int 5]) := upd_same
    have t_u7 := k_u7.tab
    generalize upd H_d7 u7 (HO.lst [.int 5]) = H_u7 at k_u7 e_u7 t_u7 ⊢
    refine ⟨(by show (2 : Nat) ≤ sizeLine; decide), fun r7 n_r7 => ?_⟩
    have k_r7 := Kp.new (o := HO.tup [.ref d7, .ref u7]) t_u7 n_r7
    have e_r7 : upd H_u7 r7 (HO.tup [.ref d7, .ref u7]) r7 = some (HO.tup [.ref d7, .ref u7]) := upd_same
    have t_r7 := k_r7.tab
    generalize upd H_u7 r7 (HO.tup [.ref d7, .ref u7]) = H_r7 at k_r7 e_r7 t_r7 ⊢
    refine ⟨_, rfl, _, rfl, (by show (3 : Nat) ≤ sizeLine; decide), fun d8 n_d8 => ?_⟩
    have k_d8 := Kp.new (o := HO.tup [.str "take", .str x, vm]) t_r7 n_d8
    have e_d8 : upd H_r7 d8 (HO.tup [.str "take", .str x, vm]) d8 = some (HO.tup [.str "take", .str x, vm]) := upd_same
    have t_d8 := k_d8.tab
    generalize upd H_r7 d8 (HO.tup [.str "take", .str x, vm]) = H_d8 at k_d8 e_d8 t_d8 ⊢
    refine ⟨(by show (1 : Nat) ≤ sizeLine; decide), fun u8 n_u8 => ?_⟩
    have k_u8 := Kp.new (o := HO.lst [.int 5]) t_d8 n_u8
    have e_u8 : upd H_d8 u8 (HO.lst [.int 5]) u8 = some (HO.lst [.int 5]) := upd_same
    have t_u8 := k_u8.tab
    generalize upd H_d8 u8 (HO.lst [.int 5]) = H_u8 at k_u8 e_u8 t_u8 ⊢
    refine ⟨(by show (2 : Nat) ≤ sizeLine; decide), fun r8 n_r8 => ?_⟩
    have k_r8 := Kp.new (o := HO.tup [.ref d8, .ref u8]) t_u8 n_r8
    have e_r8 : upd H_u8 r8 (HO.tup [.ref d8, .ref u8]) r8 = some (HO.tup [.ref d8, .ref u8]) := upd_same
    have t_r8 := k_r8.tab
    generalize upd H_u8 r8 (HO.tup [.ref d8, .ref u8]) = H_r8 at k_r8 e_r8 t_r8 ⊢
    refine ⟨(by show (3 : Nat) ≤ sizeLine; decide), fun L3 n_L3 => ?_⟩
    have k_L3 := Kp.new (o := HO.lst [.ref r6, .ref r7, .ref r8]) t_r8 n_L3
    have e_L3 : upd H_r8 L3 (HO.lst [.ref r6, .ref r7, .ref r8]) L3 = some (HO.lst [.ref r6, .ref r7, .ref r8]) := upd_same
    have t_L3 := k_L3.tab
    generalize upd H_r8 L3 (HO.lst [.ref r6, .ref r7, .ref r8]) = H_L3 at k_L3 e_L3 t_L3 ⊢
    have z_C3 := ((((((((((k_d6).trans k_u6).trans k_r6).trans k_d7).trans k_u7).trans k_r7).trans k_d8).trans k_u8).trans k_r8).trans k_L3).lst e_C2
    refine ⟨C2, L3, _, _, rfl, rfl, z_C3, e_L3, (by show (6 + 3 : Nat) ≤ sizeLine; decide), fun C3 n_C3 => ?_⟩
    have k_C3 := Kp.new (o := HO.lst ([V.ref r0, V.ref r1, V.ref r2, V.ref r3, V.ref r4, V.ref r5] ++ [V.ref r6, V.ref r7, V.ref r8])) t_L3 n_C3
    have e_C3 : upd H_L3 C3 (HO.lst ([V.ref r0, V.ref r1, V.ref r2, V.ref r3, V.ref r4, V.ref r5] ++ [V.ref r6, V.ref r7, V.ref r8])) C3 = some (HO.lst ([V.ref r0, V.ref r1, V.ref r2, V.ref r3, V.ref r4, V.ref r5] ++ [V.ref r6, V.ref r7, V.ref r8])) := upd_same
    have t_C3 := k_C3.tab
    generalize upd H_L3 C3 (HO.lst ([V.ref r0, V.ref r1, V.ref r2, V.ref r3, V.ref r4, V.ref r5] ++ [V.ref r6, V.ref r7, V.ref r8])) = H_C3 at k_C3 e_C3 t_C3 ⊢
    have e_C3 : H_C3 C3 = some (HO.lst [.ref r0, .ref r1, .ref r2, .ref r3, .ref r4, .ref r5, .ref r6, .ref r7, .ref r8]) := e_C3
    refine ⟨_, rfl, _, rfl, _, rfl, 3, (mk : Int), rfl, rfl, .inl ⟨by decide, by decide⟩, _, 1, rfl, rfl, (by show (3 : Nat) ≤ sizeLine; decide), fun d9 n_d9 => ?_⟩
    have k_d9 := Kp.new (o := HO.tup [.str "needs", .str x, .int (3 * (mk : Int) + 1)]) t_C3 n_d9
    have e_d9 : upd H_C3 d9 (HO.tup [.str "needs", .str x, .int (3 * (mk : Int) + 1)]) d9 = some (HO.tup [.str "needs", .str x, .int (3 * (mk : Int) + 1)]) := upd_same
    have t_d9 := k_d9.tab
    generalize upd H_C3 d9 (HO.tup [.str "needs", .str x, .int (3 * (mk : Int) + 1)]) = H_d9 at k_d9 e_d9 t_d9 ⊢
    refine ⟨(by show (1 : Nat) ≤ sizeLine; decide), fun u9 n_u9 => ?_⟩
    have k_u9 := Kp.new (o := HO.lst [.int 5]) t_d9 n_u9
    have e_u9 : upd H_d9 u9 (HO.lst [.int 5]) u9 = some (HO.lst [.int 5]) := upd_same
    have t_u9 := k_u9.tab
    generalize upd H_d9 u9 (HO.lst [.int 5]) = H_u9 at k_u9 e_u9 t_u9 ⊢
    refine ⟨(by show (2 : Nat) ≤ sizeLine; decide), fun r9 n_r9 => ?_⟩
    have k_r9 := Kp.new (o := HO.tup [.ref d9, .ref u9]) t_u9 n_r9
    have e_r9 : upd H_u9 r9 (HO.tup [.ref d9, .ref u9]) r9 = some (HO.tup [.ref d9, .ref u9]) := upd_same
    have t_r9 := k_r9.tab
    generalize upd H_u9 r9 (HO.tup [.ref d9, .ref u9]) = H_r9 at k_r9 e_r9 t_r9 ⊢
    refine ⟨_, rfl, _, rfl, (by show (3 : Nat) ≤ sizeLine; decide), fun d10 n_d10 => ?_⟩
    have k_d10 := Kp.new (o := HO.tup [.str "needs", vw, vm]) t_r9 n_d10
    have e_d10 : upd H_r9 d10 (HO.tup [.str "needs", vw, vm]) d10 = some (HO.tup [.str "needs", vw, vm]) := upd_same
    have t_d10 := k_d10.tab
    generalize upd H_r9 d10 (HO.tup [.str "needs", vw, vm]) = H_d10 at k_d10 e_d10 t_d10 ⊢
    refine ⟨(by show (1 : Nat) ≤ sizeLine; decide), fun u10 n_u10 => ?_⟩
    have k_u10 := Kp.new (o := HO.lst [.int 5]) t_d10 n_u10
    have e_u10 : upd H_d10 u10 (HO.lst [.int 5]) u10 = some (HO.lst [.int 5]) := upd_same
    have t_u10 := k_u10.tab
    generalize upd H_d10 u10 (HO.lst [.int 5]) = H_u10 at k_u10 e_u10 t_u10 ⊢
    refine ⟨(by show (2 : Nat) ≤ sizeLine; decide), fun r10 n_r10 => ?_⟩
    have k_r10 := Kp.new (o := HO.tup [.ref d10, .ref u10]) t_u10 n_r10
    have e_r10 : upd H_u10 r10 (HO.tup [.ref d10, .ref u10]) r10 = some (HO.tup [.ref d10, .ref u10]) := upd_same
    have t_r10 := k_r10.tab
    generalize upd H_u10 r10 (HO.tup [.ref d10, .ref u10]) = H_r10 at k_r10 e_r10 t_r10 ⊢
    refine ⟨(by show (2 : Nat) ≤ sizeLine; decide), fun L4 n_L4 => ?_⟩
    have k_L4 := Kp.new (o := HO.lst [.ref r9, .ref r10]) t_r10 n_L4
    have e_L4 : upd H_r10 L4 (HO.lst [.ref r9, .ref r10]) L4 = some (HO.lst [.ref r9, .ref r10]) := upd_same
    have t_L4 := k_L4.tab
    generalize upd H_r10 L4 (HO.lst [.ref r9, .ref r10]) = H_L4 at k_L4 e_L4 t_L4 ⊢
    have z_C4 := (((((((k_d9).trans k_u9).trans k_r9).trans k_d10).trans k_u10).trans k_r10).trans k_L4).lst e_C3
    refine ⟨C3, L4, _, _, rfl, rfl, z_C4, e_L4, (by show (9 + 2 : Nat) ≤ sizeLine; decide), fun C4 n_C4 => ?_⟩
    have k_C4 := Kp.new (o := HO.lst ([V.ref r0, V.ref r1, V.ref r2, V.ref r3, V.ref r4, V.ref r5, V.ref r6, V.ref r7, V.ref r8] ++ [V.ref r9, V.ref r10])) t_L4 n_C4
    have e_C4 : upd H_L4 C4 (HO.lst ([V.ref r0, V.ref r1, V.ref r2, V.ref r3, V.ref r4, V.ref r5, V.ref r6, V.ref r7, V.ref r8] ++ [V.ref r9, V.ref r10])) C4 = some (HO.lst ([V.ref r0, V.ref r1, V.ref r2, V.ref r3, V.ref r4, V.ref r5, V.ref r6, V.ref r7, V.ref r8] ++ [V.ref r9, V.ref r10])) := upd_same
    have t_C4 := k_C4.tab
    generalize upd H_L4 C4 (HO.lst ([V.ref r0, V.ref r1, V.ref r2, V.ref r3, V.ref r4, V.ref r5, V.ref r6, V.ref r7, V.ref r8] ++ [V.ref r9, V.ref r10])) = H_C4 at k_C4 e_C4 t_C4 ⊢
    have e_C4 : H_C4 C4 = some (HO.lst [.ref r0, .ref r1, .ref r2, .ref r3, .ref r4, .ref r5, .ref r6, .ref r7, .ref r8, .ref r9, .ref r10]) := e_C4
    refine ⟨_, rfl, _, rfl, (by show (2 : Nat) ≤ sizeLine; decide), fun d11 n_d11 => ?_⟩
    have k_d11 := Kp.new (o := HO.tup [.str "makes", vw]) t_C4 n_d11
    have e_d11 : upd H_C4 d11 (HO.tup [.str "makes", vw]) d11 = some (HO.tup [.str "makes", vw]) := upd_same
    have t_d11 := k_d11.tab
    generalize upd H_C4 d11 (HO.tup [.str "makes", vw]) = H_d11 at k_d11 e_d11 t_d11 ⊢
    refine ⟨(by show (1 : Nat) ≤ sizeLine; decide), fun u11 n_u11 => ?_⟩
    have k_u11 := Kp.new (o := HO.lst [.int 0]) t_d11 n_u11
    have e_u11 : upd H_d11 u11 (HO.lst [.int 0]) u11 = some (HO.lst [.int 0]) := upd_same
    have t_u11 := k_u11.tab
    generalize upd H_d11 u11 (HO.lst [.int 0]) = H_u11 at k_u11 e_u11 t_u11 ⊢
    refine ⟨(by show (2 : Nat) ≤ sizeLine; decide), fun r11 n_r11 => ?_⟩
    have k_r11 := Kp.new (o := HO.tup [.ref d11, .ref u11]) t_u11 n_r11
    have e_r11 : upd H_u11 r11 (HO.tup [.ref d11, .ref u11]) r11 = some (HO.tup [.ref d11, .ref u11]) := upd_same
    have t_r11 := k_r11.tab
    generalize upd H_u11 r11 (HO.tup [.ref d11, .ref u11]) = H_r11 at k_r11 e_r11 t_r11 ⊢
    refine ⟨_, rfl, (by show (3 : Nat) ≤ sizeLine; decide), fun d12 n_d12 => ?_⟩
    have k_d12 := Kp.new (o := HO.tup [.str "needs", .str fr, .int 1]) t_r11 n_d12
    have e_d12 : upd H_r11 d12 (HO.tup [.str "needs", .str fr, .int 1]) d12 = some (HO.tup [.str "needs", .str fr, .int 1]) := upd_same
    have t_d12 := k_d12.tab
    generalize upd H_r11 d12 (HO.tup [.str "needs", .str fr, .int 1]) = H_d12 at k_d12 e_d12 t_d12 ⊢
    refine ⟨(by show (1 : Nat) ≤ sizeLine; decide), fun u12 n_u12 => ?_⟩
    have k_u12 := Kp.new (o := HO.lst [.int 5]) t_d12 n_u12
    have e_u12 : upd H_d12 u12 (HO.lst [.int 5]) u12 = some (HO.lst [.int 5]) := upd_same
    have t_u12 := k_u12.tab
    generalize upd H_d12 u12 (HO.lst [.int 5]) = H_u12 at k_u12 e_u12 t_u12 ⊢
    refine ⟨(by show (2 : Nat) ≤ sizeLine; decide), fun r12 n_r12 => ?_⟩
    have k_r12 := Kp.new (o := HO.tup [.ref d12, .ref u12]) t_u12 n_r12
    have e_r12 : upd H_u12 r12 (HO.tup [.ref d12, .ref u12]) r12 = some (HO.tup [.ref d12, .ref u12]) := upd_same
    have t_r12 := k_r12.tab
    generalize upd H_u12 r12 (HO.tup [.ref d12, .ref u12]) = H_r12 at k_r12 e_r12 t_r12 ⊢
    refine ⟨_, rfl, _, rfl, (by show (4 : Nat) ≤ sizeLine; decide), fun d13 n_d13 => ?_⟩
    have k_d13 := Kp.new (o := HO.tup [.str "put", vw, .int 1, vn]) t_r12 n_d13
    have e_d13 : upd H_r12 d13 (HO.tup [.str "put", vw, .int 1, vn]) d13 = some (HO.tup [.str "put", vw, .int 1, vn]) := upd_same
    have t_d13 := k_d13.tab
    generalize upd H_r12 d13 (HO.tup [.str "put", vw, .int 1, vn]) = H_d13 at k_d13 e_d13 t_d13 ⊢
    refine ⟨(by show (1 : Nat) ≤ sizeLine; decide), fun u13 n_u13 => ?_⟩
    have k_u13 := Kp.new (o := HO.lst [.int 0]) t_d13 n_u13
    have e_u13 : upd H_d13 u13 (HO.lst [.int 0]) u13 = some (HO.lst [.int 0]) := upd_same
    have t_u13 := k_u13.tab
    generalize upd H_d13 u13 (HO.lst [.int 0]) = H_u13 at k_u13 e_u13 t_u13 ⊢
    refine ⟨(by show (2 : Nat) ≤ sizeLine; decide), fun r13 n_r13 => ?_⟩
    have k_r13 := Kp.new (o := HO.tup [.ref d13, .ref u13]) t_u13 n_r13
    have e_r13 : upd H_u13 r13 (HO.tup [.ref d13, .ref u13]) r13 = some (HO.tup [.ref d13, .ref u13]) := upd_same
    have t_r13 := k_r13.tab
    generalize upd H_u13 r13 (HO.tup [.ref d13, .ref u13]) = H_r13 at k_r13 e_r13 t_r13 ⊢
    refine ⟨(by show (3 : Nat) ≤ sizeLine; decide), fun L5 n_L5 => ?_⟩
    have k_L5 := Kp.new (o := HO.lst [.ref r11, .ref r12, .ref r13]) t_r13 n_L5
    have e_L5 : upd H_r13 L5 (HO.lst [.ref r11, .ref r12, .ref r13]) L5 = some (HO.lst [.ref r11, .ref r12, .ref r13]) := upd_same
    have t_L5 := k_L5.tab
    generalize upd H_r13 L5 (HO.lst [.ref r11, .ref r12, .ref r13]) = H_L5 at k_L5 e_L5 t_L5 ⊢
    have z_C5 := ((((((((((k_d11).trans k_u11).trans k_r11).trans k_d12).trans k_u12).trans k_r12).trans k_d13).trans k_u13).trans k_r13).trans k_L5).lst e_C4
    refine ⟨C4, L5, _, _, rfl, rfl, z_C5, e_L5, (by show (11 + 3 : Nat) ≤ sizeLine; decide), fun C5 n_C5 => ?_⟩
    have k_C5 := Kp.new (o := HO.lst ([V.ref r0, V.ref r1, V.ref r2, V.ref r3, V.ref r4, V.ref r5, V.ref r6, V.ref r7, V.ref r8, V.ref r9, V.ref r10] ++ [V.ref r11, V.ref r12, V.ref r13])) t_L5 n_C5
    have e_C5 : upd H_L5 C5 (HO.lst ([V.ref r0, V.ref r1, V.ref r2, V.ref r3, V.ref r4, V.ref r5, V.ref r6, V.ref r7, V.ref r8, V.ref r9, V.ref r10] ++ [V.ref r11, V.ref r12, V.ref r13])) C5 = some (HO.lst ([V.ref r0, V.ref r1, V.ref r2, V.ref r3, V.ref r4, V.ref r5, V.ref r6, V.ref r7, V.ref r8, V.ref r9, V.ref r10] ++ [V.ref r11, V.ref r12, V.ref r13])) := upd_same
    have t_C5 := k_C5.tab
    generalize upd H_L5 C5 (HO.lst ([V.ref r0, V.ref r1, V.ref r2, V.ref r3, V.ref r4, V.ref r5, V.ref r6, V.ref r7, V.ref r8, V.ref r9, V.ref r10] ++ [V.ref r11, V.ref r12, V.ref r13])) = H_C5 at k_C5 e_C5 t_C5 ⊢
    have e_C5 : H_C5 C5 = some (HO.lst [.ref r0, .ref r1, .ref r2, .ref r3, .ref r4, .ref r5, .ref r6, .ref r7, .ref r8, .ref r9, .ref r10, .ref r11, .ref r12, .ref r13]) := e_C5
    refine ⟨_, rfl, _, rfl, _, rfl, n, 40, rfl, rfl, ⟨by decide, by decide⟩, pn, names, fr, _, rfl, (((((((((((((((((((((((((((((((((((((((((((((((((((((((((((k_e0).trans k_d0).trans k_u0).trans k_r0).trans k_d1).trans k_u1).trans k_r1).trans k_L0).trans k_d2).trans k_u2).trans k_r2).trans k_e3).trans k_d3).trans k_u3).trans k_r3).trans k_L1).trans k_C1).trans k_e4).trans k_d4).trans k_v4).trans k_u4).trans k_r4).trans k_e5).trans k_d5).trans k_v5).trans k_u5).trans k_r5).trans k_L2).trans k_C2).trans k_d6).trans k_u6).trans k_r6).trans k_d7).trans k_u7).trans k_r7).trans k_d8).trans k_u8).trans k_r8).trans k_L3).trans k_C3).trans k_d9).trans k_u9).trans k_r9).trans k_d10).trans k_u10).trans k_r10).trans k_L4).trans k_C4).trans k_d11).trans k_u11).trans k_r11).trans k_d12).trans k_u12).trans k_r12).trans k_d13).trans k_u13).trans k_r13).trans k_L5).trans k_C5).seq hN3, hfr, nn, (by omega), hl100, hgd, t_C5, fun vo dq H_call k_call eo bo => ?_⟩
    have t_call := k_call.tab
    refine ⟨_, rfl, _, rfl, _, rfl, _, rfl, (by show (4 : Nat) ≤ sizeLine; decide), fun d14 n_d14 => ?_⟩
    have k_d14 := Kp.new (o := HO.tup [.str "put", .str fr, vm, vo]) t_call n_d14
    have e_d14 : upd H_call d14 (HO.tup [.str "put", .str fr, vm, vo]) d14 = some (HO.tup [.str "put", .str fr, vm, vo]) := upd_same
    have t_d14 := k_d14.tab
    generalize upd H_call d14 (HO.tup [.str "put", .str fr, vm, vo]) = H_d14 at k_d14 e_d14 t_d14 ⊢
    refine ⟨(by show (1 : Nat) ≤ sizeLine; decide), fun u14 n_u14 => ?_⟩
    have k_u14 := Kp.new (o := HO.lst [.int 1]) t_d14 n_u14
    have e_u14 : upd H_d14 u14 (HO.lst [.int 1]) u14 = some (HO.lst [.int 1]) := upd_same
    have t_u14 := k_u14.tab
    generalize upd H_d14 u14 (HO.lst [.int 1]) = H_u14 at k_u14 e_u14 t_u14 ⊢
    refine ⟨(by show (2 : Nat) ≤ sizeLine; decide), fun r14 n_r14 => ?_⟩
    have k_r14 := Kp.new (o := HO.tup [.ref d14, .ref u14]) t_u14 n_r14
    have e_r14 : upd H_u14 r14 (HO.tup [.ref d14, .ref u14]) r14 = some (HO.tup [.ref d14, .ref u14]) := upd_same
    have t_r14 := k_r14.tab
    generalize upd H_u14 r14 (HO.tup [.ref d14, .ref u14]) = H_r14 at k_r14 e_r14 t_r14 ⊢
    refine ⟨_, rfl, _, rfl, (by show (4 : Nat) ≤ sizeLine; decide), fun d15 n_d15 => ?_⟩
    have k_d15 := Kp.new (o := HO.tup [.str "put", .str fr, .int 2, vo]) t_r14 n_d15
    have e_d15 : upd H_r14 d15 (HO.tup [.str "put", .str fr, .int 2, vo]) d15 = some (HO.tup [.str "put", .str fr, .int 2, vo]) := upd_same
    have t_d15 := k_d15.tab
    generalize upd H_r14 d15 (HO.tup [.str "put", .str fr, .int 2, vo]) = H_d15 at k_d15 e_d15 t_d15 ⊢
    refine ⟨(by show (1 : Nat) ≤ sizeLine; decide), fun u15 n_u15 => ?_⟩
    have k_u15 := Kp.new (o := HO.lst [.int 2]) t_d15 n_u15
    have e_u15 : upd H_d15 u15 (HO.lst [.int 2]) u15 = some (HO.lst [.int 2]) := upd_same
    have t_u15 := k_u15.tab
    generalize upd H_d15 u15 (HO.lst [.int 2]) = H_u15 at k_u15 e_u15 t_u15 ⊢
    refine ⟨(by show (2 : Nat) ≤ sizeLine; decide), fun r15 n_r15 => ?_⟩
    have k_r15 := Kp.new (o := HO.tup [.ref d15, .ref u15]) t_u15 n_r15
    have e_r15 : upd H_u15 r15 (HO.tup [.ref d15, .ref u15]) r15 = some (HO.tup [.ref d15, .ref u15]) := upd_same
    have t_r15 := k_r15.tab
    generalize upd H_u15 r15 (HO.tup [.ref d15, .ref u15]) = H_r15 at k_r15 e_r15 t_r15 ⊢
    refine ⟨(by show (2 : Nat) ≤ sizeLine; decide), fun L6 n_L6 => ?_⟩
    have k_L6 := Kp.new (o := HO.lst [.ref r14, .ref r15]) t_r15 n_L6
    have e_L6 : upd H_r15 L6 (HO.lst [.ref r14, .ref r15]) L6 = some (HO.lst [.ref r14, .ref r15]) := upd_same
    have t_L6 := k_L6.tab
    generalize upd H_r15 L6 (HO.lst [.ref r14, .ref r15]) = H_L6 at k_L6 e_L6 t_L6 ⊢
    have z_C6 := ((((((((k_call).trans k_d14).trans k_u14).trans k_r14).trans k_d15).trans k_u15).trans k_r15).trans k_L6).lst e_C5
    refine ⟨C5, L6, _, _, rfl, rfl, z_C6, e_L6, (by show (14 + 2 : Nat) ≤ sizeLine; decide), fun C6 n_C6 => ?_⟩
    have k_C6 := Kp.new (o := HO.lst ([V.ref r0, V.ref r1, V.ref r2, V.ref r3, V.ref r4, V.ref r5, V.ref r6, V.ref r7, V.ref r8, V.ref r9, V.ref r10, V.ref r11, V.ref r12, V.ref r13] ++ [V.ref r14, V.ref r15])) t_L6 n_C6
    have e_C6 : upd H_L6 C6 (HO.lst ([V.ref r0, V.ref r1, V.ref r2, V.ref r3, V.ref r4, V.ref r5, V.ref r6, V.ref r7, V.ref r8, V.ref r9, V.ref r10, V.ref r11, V.ref r12, V.ref r13] ++ [V.ref r14, V.ref r15])) C6 = some (HO.lst ([V.ref r0, V.ref r1, V.ref r2, V.ref r3, V.ref r4, V.ref r5, V.ref r6, V.ref r7, V.ref r8, V.ref r9, V.ref r10, V.ref r11, V.ref r12, V.ref r13] ++ [V.ref r14, V.ref r15])) := upd_same
    have t_C6 := k_C6.tab
    generalize upd H_L6 C6 (HO.lst ([V.ref r0, V.ref r1, V.ref r2, V.ref r3, V.ref r4, V.ref r5, V.ref r6, V.ref r7, V.ref r8, V.ref r9, V.ref r10, V.ref r11, V.ref r12, V.ref r13] ++ [V.ref r14, V.ref r15])) = H_C6 at k_C6 e_C6 t_C6 ⊢
    have e_C6 : H_C6 C6 = some (HO.lst [.ref r0, .ref r1, .ref r2, .ref r3, .ref r4, .ref r5, .ref r6, .ref r7, .ref r8, .ref r9, .ref r10, .ref r11, .ref r12, .ref r13, .ref r14, .ref r15]) := e_C6
    have F_C6 := Kp.refl t_C6
    have F_L6 := k_C6.trans F_C6
    have F_r15 := k_L6.trans F_L6
    have F_u15 := k_r15.trans F_r15
    have F_d15 := k_u15.trans F_u15
    have F_r14 := k_d15.trans F_d15
    have F_u14 := k_r14.trans F_r14
    have F_d14 := k_u14.trans F_u14
    have F_call := k_d14.trans F_d14
    have F_C5 := k_call.trans F_call
    have F_L5 := k_C5.trans F_C5
    have F_r13 := k_L5.trans F_L5
    have F_u13 := k_r13.trans F_r13
    have F_d13 := k_u13.trans F_u13
    have F_r12 := k_d13.trans F_d13
    have F_u12 := k_r12.trans F_r12
    have F_d12 := k_u12.trans F_u12
    have F_r11 := k_d12.trans F_d12
    have F_u11 := k_r11.trans F_r11
    have F_d11 := k_u11.trans F_u11
    have F_C4 := k_d11.trans F_d11
    have F_L4 := k_C4.trans F_C4
    have F_r10 := k_L4.trans F_L4
    have F_u10 := k_r10.trans F_r10
    have F_d10 := k_u10.trans F_u10
    have F_r9 := k_d10.trans F_d10
    have F_u9 := k_r9.trans F_r9
    have F_d9 := k_u9.trans F_u9
    have F_C3 := k_d9.trans F_d9
    have F_L3 := k_C3.trans F_C3
    have F_r8 := k_L3.trans F_L3
    have F_u8 := k_r8.trans F_r8
    have F_d8 := k_u8.trans F_u8
    have F_r7 := k_d8.trans F_d8
    have F_u7 := k_r7.trans F_r7
    have F_d7 := k_u7.trans F_u7
    have F_r6 := k_d7.trans F_d7
    have F_u6 := k_r6.trans F_r6
    have F_d6 := k_u6.trans F_u6
    have F_C2 := k_d6.trans F_d6
    have F_L2 := k_C2.trans F_C2
    have F_r5 := k_L2.trans F_L2
    have F_u5 := k_r5.trans F_r5
    have F_v5 := k_u5.trans F_u5
    have F_d5 := k_v5.trans F_v5
    have F_e5 := k_d5.trans F_d5
    have F_r4 := k_e5.trans F_e5
    have F_u4 := k_r4.trans F_r4
    have F_v4 := k_u4.trans F_u4
    have F_d4 := k_v4.trans F_v4
    have F_e4 := k_d4.trans F_d4
    have F_C1 := k_e4.trans F_e4
    have F_L1 := k_C1.trans F_C1
    have F_r3 := k_L1.trans F_L1
    have F_u3 := k_r3.trans F_r3
    have F_d3 := k_u3.trans F_u3
    have F_e3 := k_d3.trans F_d3
    have F_r2 := k_e3.trans F_e3
    have F_u2 := k_r2.trans F_r2
    have F_d2 := k_u2.trans F_u2
    have F_L0 := k_d2.trans F_d2
    have F_r1 := k_L0.trans F_L0
    have F_u1 := k_r1.trans F_r1
    have F_d1 := k_u1.trans F_u1
    have F_r0 := k_d1.trans F_d1
    have F_u0 := k_r0.trans F_r0
    have F_d0 := k_u0.trans F_u0
    have F_e0 := k_d0.trans F_d0
    have F3 := k_e0.trans F_e0
    have tk : ∀ {a : Addr} {H' H2 : Hp} {ys : List V}, H' a = some (.tup ys) → Kp T H' H2 → H2 a = some (.tup ys) := fun e k => k.keep _ _ (tab_ne k.t0 e fun _ z => by cases z) e
    have all16 : ∀ v ∈ [V.ref r0, V.ref r1, V.ref r2, V.ref r3, V.ref r4, V.ref r5, V.ref r6, V.ref r7, V.ref r8, V.ref r9, V.ref r10, V.ref r11, V.ref r12, V.ref r13, V.ref r14, V.ref r15], ∃ (R d u : Addr) (xs du : List V), v = V.ref R ∧ H_C6 R = some (.tup [.ref d, .ref u]) ∧ H_C6 d = some (.tup xs) ∧ H_C6 u = some (.lst du) ∧ DueC H_C6 mn mk x fr vw vm vn vo xs du := by
      exact List.forall_mem_cons.mpr ⟨⟨r0, d0, u0, _, _, rfl, tk e_r0 F_r0, tk e_d0 F_d0, F_u0.lst e_u0, .inl ⟨e0, F_e0.lst e_e0, .inl ⟨rfl, rfl⟩⟩⟩,
        List.forall_mem_cons.mpr ⟨⟨r1, d1, u1, _, _, rfl, tk e_r1 F_r1, tk e_d1 F_d1, F_u1.lst e_u1, .inr (.inl ⟨rfl, rfl⟩)⟩,
        List.forall_mem_cons.mpr ⟨⟨r2, d2, u2, _, _, rfl, tk e_r2 F_r2, tk e_d2 F_d2, F_u2.lst e_u2, .inr (.inr (.inl ⟨t, htm, by rw [← et], rfl⟩))⟩,
        List.forall_mem_cons.mpr ⟨⟨r3, d3, u3, _, _, rfl, tk e_r3 F_r3, tk e_d3 F_d3, F_u3.lst e_u3, .inl ⟨e3, F_e3.lst e_e3, .inr (.inl ⟨t, htm, by rw [← et], rfl⟩)⟩⟩,
        List.forall_mem_cons.mpr ⟨⟨r4, d4, u4, _, _, rfl, tk e_r4 F_r4, tk e_d4 F_d4, F_u4.lst e_u4, .inl ⟨e4, F_e4.lst e_e4, .inr (.inr (.inl ⟨rfl, rep4_dec mn 12⟩))⟩⟩,
        List.forall_mem_cons.mpr ⟨⟨r5, d5, u5, _, _, rfl, tk e_r5 F_r5, tk e_d5 F_d5, F_u5.lst e_u5, .inl ⟨e5, F_e5.lst e_e5, .inr (.inr (.inr ⟨rfl, rep4_dec mk 8⟩))⟩⟩,
        List.forall_mem_cons.mpr ⟨⟨r6, d6, u6, _, _, rfl, tk e_r6 F_r6, tk e_d6 F_d6, F_u6.lst e_u6, .inr (.inr (.inr (.inl ⟨rfl, rfl⟩)))⟩,
        List.forall_mem_cons.mpr ⟨⟨r7, d7, u7, _, _, rfl, tk e_r7 F_r7, tk e_d7 F_d7, F_u7.lst e_u7, .inr (.inr (.inr (.inr (.inl ⟨rfl, rfl⟩))))⟩,
        List.forall_mem_cons.mpr ⟨⟨r8, d8, u8, _, _, rfl, tk e_r8 F_r8, tk e_d8 F_d8, F_u8.lst e_u8, .inr (.inr (.inr (.inr (.inr (.inl ⟨rfl, rfl⟩)))))⟩,
        List.forall_mem_cons.mpr ⟨⟨r9, d9, u9, _, _, rfl, tk e_r9 F_r9, tk e_d9 F_d9, F_u9.lst e_u9, .inr (.inr (.inr (.inr (.inr (.inr (.inl ⟨rfl, rfl⟩))))))⟩,
        List.forall_mem_cons.mpr ⟨⟨r10, d10, u10, _, _, rfl, tk e_r10 F_r10, tk e_d10 F_d10, F_u10.lst e_u10, .inr (.inr (.inr (.inr (.inr (.inr (.inr (.inl ⟨rfl, rfl⟩)))))))⟩,
        List.forall_mem_cons.mpr ⟨⟨r11, d11, u11, _, _, rfl, tk e_r11 F_r11, tk e_d11 F_d11, F_u11.lst e_u11, .inr (.inr (.inr (.inr (.inr (.inr (.inr (.inr (.inl ⟨rfl, rfl⟩))))))))⟩,
        List.forall_mem_cons.mpr ⟨⟨r12, d12, u12, _, _, rfl, tk e_r12 F_r12, tk e_d12 F_d12, F_u12.lst e_u12, .inr (.inr (.inr (.inr (.inr (.inr (.inr (.inr (.inr (.inl ⟨rfl, rfl⟩)))))))))⟩,
        List.forall_mem_cons.mpr ⟨⟨r13, d13, u13, _, _, rfl, tk e_r13 F_r13, tk e_d13 F_d13, F_u13.lst e_u13, .inr (.inr (.inr (.inr (.inr (.inr (.inr (.inr (.inr (.inr (.inl ⟨rfl, rfl⟩))))))))))⟩,
        List.forall_mem_cons.mpr ⟨⟨r14, d14, u14, _, _, rfl, tk e_r14 F_r14, tk e_d14 F_d14, F_u14.lst e_u14, .inr (.inr (.inr (.inr (.inr (.inr (.inr (.inr (.inr (.inr (.inr (.inl ⟨rfl, rfl⟩)))))))))))⟩,
        List.forall_mem_cons.mpr ⟨⟨r15, d15, u15, _, _, rfl, tk e_r15 F_r15, tk e_d15 F_d15, F_u15.lst e_u15, .inr (.inr (.inr (.inr (.inr (.inr (.inr (.inr (.inr (.inr (.inr (.inr (⟨rfl, rfl⟩))))))))))))⟩,
        fun _ h => nomatch h⟩⟩⟩⟩⟩⟩⟩⟩⟩⟩⟩⟩⟩⟩⟩⟩
    obtain ⟨v, ev, R, d, u, xs, du, rfl, er, ed, eu, hc⟩ := at_pick (xs := [V.ref r0, V.ref r1, V.ref r2, V.ref r3, V.ref r4, V.ref r5, V.ref r6, V.ref r7, V.ref r8, V.ref r9, V.ref r10, V.ref r11, V.ref r12, V.ref r13, V.ref r14, V.ref r15]) (i := n % 16) (p := fun v => ∃ (R d u : Addr) (xs du : List V), v = V.ref R ∧ H_C6 R = some (.tup [.ref d, .ref u]) ∧ H_C6 d = some (.tup xs) ∧ H_C6 u = some (.lst du) ∧ DueC H_C6 mn mk x fr vw vm vn vo xs du) (Int.emod_nonneg _ (by decide)) (by show n % 16 < (16 : Int); exact Int.emod_lt_of_pos n (by decide)) all16
    refine ⟨_, rfl, _, rfl, n, 16, rfl, rfl, (by show (0 : Int) < 16; decide), C6, _, _, _, rfl, rfl, .inl (.of e_C6), ev, ?_⟩
    refine q i vw vm vn vo dw dm dn dq xs du R d u H_C6 hi ((((k1.trans kB).trans k3)).trans F3) ?_ ?_ er ed eu
    · rw [← ex, ← ef]
      exact ⟨F3.dp _ _ (k3.dp _ _ (kB.dp _ _ ew)), bw, F3.dp _ _ (k3.dp _ _ em), bm, F3.dq _ _ en, bn, F_call.dq _ _ eo, bo⟩
    · rw [← ex, ← ef]
      exact hc
end
end Pk

set_option Elab.async false
set_option linter.all false
set_option maxRecDepth 100000
set_option maxHeartbeats 4000000
namespace Pk
open PySem PySem.Spec PyProof.Rows L2
/-! ### what a shop has, by its data -/
theorem keyE_iff {es : List (Int × Addr × List PyData)} {m : Int} : (lookE es m).isSome = decide (m ∈ (es.map entD).map (·.1)) := by
  cases h : lookE es m with
  | none =>
    rw [decide_eq_false]
    · rfl
    · intro z
      rw [List.map_map] at z
      obtain ⟨e, he, e2⟩ := List.mem_map.mp z
      exact lookE_none h e he e2
  | some e =>
    rw [decide_eq_true]
    · rfl
    · obtain ⟨h1, h2⟩ := lookE_mem h
      rw [List.map_map]
      exact List.mem_map.mpr ⟨e, h1, h2⟩
theorem inB_data (st : List Shelf) (x : Str) (m : Int) : inB st (.str x) (.int m) = decide (m ∈ (dataOf st x).map (·.1)) := by
  show ((look st x).bind fun s => lookE s.ents m).isSome = _
  unfold dataOf
  cases h : look st x with
  | none => rfl
  | some s => exact keyE_iff
theorem hasB_keys (st : List Shelf) (x : Str) (m : Int) : hasB st (.str x) (.int m) = (wareB (.str x) && makeB (.int m) && decide (m ∈ (dataOf st x).map (·.1))) := by
  unfold hasB
  rw [inB_data]
theorem look_data {st : List Shelf} {x : Str} {s : Shelf} (h : look st x = some s) : dataOf st x = s.ents.map entD := by
  unfold dataOf
  rw [h]
  rfl
theorem look_nil {st : List Shelf} (ne : ∀ s ∈ st, s.ents ≠ []) {x : Str} (h : dataOf st x = []) : look st x = none := by
  cases el : look st x with
  | none => rfl
  | some s =>
    rw [look_data el] at h
    exact absurd (List.map_eq_nil_iff.mp h) (ne s (look_mem el).1)
theorem look_cons {st : List Shelf} {x : Str} (h : dataOf st x ≠ []) : ∃ s, look st x = some s := by
  cases el : look st x with
  | none => exact absurd (by unfold dataOf; rw [el]; rfl) h
  | some s => exact ⟨s, rfl⟩
/-- the wares after a change at x that leaves it no make -/
theorem len_gone {st st' : List Shelf} {x : Str} (nd : (st.map (·.ware)).Nodup) (nd' : (st'.map (·.ware)).Nodup) (ne' : ∀ s ∈ st', s.ents ≠ []) (hx : dataOf st x ≠ []) (hd : ∀ v, dataOf st' v = if v = x then [] else dataOf st v) : st'.length < st.length := by
  obtain ⟨s, hs⟩ := look_cons hx
  obtain ⟨h1, h2⟩ := look_mem hs
  have sub : ∀ y ∈ x :: st'.map (·.ware), y ∈ st.map (·.ware) := fun y hy => by
    rcases List.mem_cons.mp hy with rfl | hy
    · exact List.mem_map.mpr ⟨s, h1, h2⟩
    · obtain ⟨t, ht, rfl⟩ := List.mem_map.mp hy
      have z := data_ne nd' ht (ne' t ht)
      rw [hd] at z
      by_cases e : t.ware = x
      · rw [if_pos e] at z; exact absurd rfl z
      · rw [if_neg e] at z
        obtain ⟨s2, hs2⟩ := look_cons z
        obtain ⟨g1, g2⟩ := look_mem hs2
        exact List.mem_map.mpr ⟨s2, g1, g2⟩
  have nn : (x :: st'.map (·.ware)).Nodup := List.nodup_cons.mpr ⟨fun z => by
    obtain ⟨t, ht, e⟩ := List.mem_map.mp z
    have z2 := data_ne nd' ht (ne' t ht)
    rw [hd, if_pos e] at z2
    exact z2 rfl, nd'⟩
  have z := nodup_len nn nd sub
  rw [List.length_cons, List.length_map, List.length_map] at z
  omega
/-- there is a place behind a change at W that leaves it D' -/
theorem place_after {st st' : List Shelf} {W y : Str} {D' : List (Int × List PyData)} (nd : (st.map (·.ware)).Nodup) (nd' : (st'.map (·.ware)).Nodup) (ne' : ∀ s ∈ st', s.ents ≠ []) (hW : dataOf st W ≠ []) (h12 : st.length ≤ 12)
    (hd : ∀ v, dataOf st' v = if v = W then D' else dataOf st v) (hl : (dataOf st' y).length < 8) (hn : dataOf st' y = [] → D' = []) : placeB st' y = true := by
  unfold placeB
  cases el : look st' y with
  | none =>
    have e0 : D' = [] := hn (by unfold dataOf; rw [el]; rfl)
    subst e0
    exact decide_eq_true (Nat.lt_of_lt_of_le (len_gone nd nd' ne' hW hd) h12)
  | some s =>
    have e1 := look_data el
    rw [e1, List.length_map] at hl
    exact decide_eq_true hl
theorem Kx.step {T : Addr} {F F2 : List Addr} {H H1 H2 : Hp} (a : Kx T F H H1) (h : ∀ f ∈ F2, f ∈ F ∨ H1 f = none) (b : Kx T F2 H1 H2) : Kx T F H H2 := ⟨a.t0, b.tab, fun c o n m e => by
  have e1 := a.keep c o n m e
  exact b.keep c o n (fun z => by
    rcases h c z with z | z
    · exact m z
    · rw [e1] at z; cases z) e1⟩
theorem okL_nil : okL (.list []) = true := by decide +kernel
theorem mayB_nil (x : Str) : mayB x (.list []) = true := rfl
section
variable {K : PySem.W.Frag} {mg : Str → Option Value}
/-- a put that is not refused, with no needs -/
theorem put_nil {C T BW BM BN TW FU p D e : Addr} {H : Hp} {st : List Shelf} {x : Str} {m : Int} {Q : VK} {E : XK} (S : ShopAt K C [] H p D st) (hx : GoodN x) (hm : makeB (.int m) = true) (he : H e = some (.lst [])) (ht : GxR.TabG H T) (h100 : st.length ≤ 100)
    (hh : hasB st (.str x) (.int m) = false) (hp : placeB st x = true)
    (q : ∀ H' st', ShopAt K C [] H' p D st' → (∀ v, dataOf st' v = if v = x then dataOf st x ++ [(m, [])] else dataOf st v) → Kx T (foot D st) H H' → (∀ f ∈ foot D st', f ∈ foot D st ∨ H f = none) → Q .non H') :
    spPut K C T BW BM BN TW FU [.ref p, .str x, .int m, .ref e] H Q E := by
  refine ⟨[], p, D, st, _, _, _, .str x, .int m, .list [], rfl, S, .str x, hx.2, .int m, .lst (.inl (.inl he)) .nil, okL_nil, ht, fun a ha => (by cases ha), h100, fun z => ?_, fun _ z => ?_, fun _ _ _ _ z => ?_, fun _ _ _ _ _ z => ?_, fun _ e _ _ _ _ z => ?_, fun x' m' e1 e2 _ _ _ _ _ => ?_⟩
  · rw [hx.1] at z; cases z
  · rw [hm] at z; cases z
  · cases z
  · rw [hh] at z; cases z
  · cases e; rw [hp] at z; cases z
  · cases e1; cases e2
    exact ⟨e, [], [], rfl, rfl, .inl (.inl he), .nil, q⟩
end
end Pk

set_option Elab.async false
set_option linter.all false
set_option maxRecDepth 100000
set_option maxHeartbeats 4000000
namespace Pk
open PySem PySem.Spec PyProof.Rows L2
/-! ### lists of a number or none, compared -/
theorem flat_ints (ks : List Int) : ∀ d ∈ ks.map PyData.int, d.canLay0 = true ∧ d.depth = 0 := fun d hd => by
  obtain ⟨i, _, rfl⟩ := List.mem_map.mp hd
  exact ⟨rfl, rfl⟩
theorem shaped_ints (ks : List Int) : SeqAt.shaped (.list (ks.map .int)) = true := (shaped_flat (flat_ints ks)).1
theorem eqv_ints : ∀ ks ls : List Int, PyData.eqv (.list (ks.map .int)) (.list (ls.map .int)) = decide (ks = ls)
  | [], [] => rfl
  | [], _ :: _ => rfl
  | _ :: _, [] => rfl
  | a :: r, b :: t => by
    have ih := eqv_ints r t
    have e1 : PyData.eqv (.list ((a :: r).map .int)) (.list ((b :: t).map .int)) = (PyData.eqv (.int a) (.int b) && PyData.eqv (.list (r.map .int)) (.list (t.map .int))) := rfl
    have e2 : PyData.eqv (.int a) (.int b) = decide (a = b) := rfl
    rw [e1, e2, ih]
    by_cases h1 : a = b
    · by_cases h2 : r = t
      · rw [decide_eq_true h1, decide_eq_true h2, h1, h2, decide_eq_true rfl] <;> rfl
      · rw [decide_eq_true h1, decide_eq_false h2, decide_eq_false (fun z => h2 (List.cons.inj z).2)] <;> rfl
    · rw [decide_eq_false h1, decide_eq_false (fun z => h1 (List.cons.inj z).1)] <;> rfl
theorem dp_ints {K : PySem.W.Frag} {H : Hp} : ∀ ks : List Int, DpAll K H (ks.map V.int) (ks.map .int)
  | [] => .nil
  | k :: r => .cons (.int k) (dp_ints r)
theorem dp_lst {K : PySem.W.Frag} {H : Hp} {a : Addr} {xs : List V} {ds : List PyData} (h : H a = some (.lst xs)) (h2 : DpAll K H xs ds) : Dp K H (.ref a) (.list ds) := .lst (.inl (.inl h)) h2
section
variable {K : PySem.W.Frag}
theorem eq_lit {T u : Addr} {i : Nat} {σ : L2.St} {H : Hp} {ks ls : List Int} {tl : TA} {Q : V → Hp → Prop} (hi : σ[i]? = some (some (.ref u))) (hu : H u = some (.lst (ks.map V.int))) (ht : GxR.TabG H T)
    (hl : ls.length ≤ 100) (hlit : ∀ H Q, Q (ls.map V.int) H → tl σ H Q) (q : ∀ H', Kp T H H' → Q (.bl (decide (ks = ls))) H') : tOp (rEqD K) (tVar i) (tLst tl) σ H Q := by
  refine ⟨_, hi, hlit _ _ ⟨by rw [List.length_map]; exact Nat.le_trans hl (by decide), fun l nl => ?_⟩⟩
  have k := Kp.new (o := HO.lst (ls.map V.int)) ht nl
  refine ⟨.list (ks.map .int), .list (ls.map .int), dp_lst (k.lst hu) (dp_ints ks), dp_lst upd_same (dp_ints ls), shaped_ints ks, shaped_ints ls, ?_⟩
  rw [eqv_ints]
  exact q _ k
theorem ne_lit {T u : Addr} {i : Nat} {σ : L2.St} {H : Hp} {ks ls : List Int} {tl : TA} {Q : V → Hp → Prop} (hi : σ[i]? = some (some (.ref u))) (hu : H u = some (.lst (ks.map V.int))) (ht : GxR.TabG H T)
    (hl : ls.length ≤ 100) (hlit : ∀ H Q, Q (ls.map V.int) H → tl σ H Q) (q : ∀ H', Kp T H H' → Q (.bl (!decide (ks = ls))) H') : tOp (rNeD K) (tVar i) (tLst tl) σ H Q := by
  refine ⟨_, hi, hlit _ _ ⟨by rw [List.length_map]; exact Nat.le_trans hl (by decide), fun l nl => ?_⟩⟩
  have k := Kp.new (o := HO.lst (ls.map V.int)) ht nl
  refine ⟨.list (ks.map .int), .list (ls.map .int), dp_lst (k.lst hu) (dp_ints ks), dp_lst upd_same (dp_ints ls), shaped_ints ks, shaped_ints ls, ?_⟩
  rw [eqv_ints]
  exact q _ k
/-- the test of two such -/
theorem eq_litT {T u : Addr} {i : Nat} {σ : L2.St} {H : Hp} {ks ls : List Int} {tl : TA} {Q : Bool → Hp → Prop} (hi : σ[i]? = some (some (.ref u))) (hu : H u = some (.lst (ks.map V.int))) (ht : GxR.TabG H T)
    (hl : ls.length ≤ 100) (hlit : ∀ H Q, Q (ls.map V.int) H → tl σ H Q) (q : ∀ H', Kp T H H' → Q (decide (ks = ls)) H') : tB (tOp (rEqD K) (tVar i) (tLst tl)) σ H Q :=
  eq_lit hi hu ht hl hlit fun H' k => ⟨_, rfl, q H' k⟩
theorem ne_litT {T u : Addr} {i : Nat} {σ : L2.St} {H : Hp} {ks ls : List Int} {tl : TA} {Q : Bool → Hp → Prop} (hi : σ[i]? = some (some (.ref u))) (hu : H u = some (.lst (ks.map V.int))) (ht : GxR.TabG H T)
    (hl : ls.length ≤ 100) (hlit : ∀ H Q, Q (ls.map V.int) H → tl σ H Q) (q : ∀ H', Kp T H H' → Q (!decide (ks = ls)) H') : tB (tOp (rNeD K) (tVar i) (tLst tl)) σ H Q :=
  ne_lit hi hu ht hl hlit fun H' k => ⟨_, rfl, q H' k⟩
end
end Pk

set_option Elab.async false
set_option linter.all false
set_option maxRecDepth 100000
set_option maxHeartbeats 4000000
namespace Pk
open PySem PySem.Spec PyProof.Rows L2
section
variable {K : PySem.W.Frag} {mg : Str → Option Value}
theorem Kx.at0 {T : Addr} {F : List Addr} {H H' : Hp} {a : Addr} {o : HO} (k : Kx T F H H') (hF : ∀ f ∈ F, ∃ kvs, H f = some (.dK kvs)) (h : H a = some o) (nd : ∀ kvs, o ≠ .dK kvs) (nt : ∀ ps, o ≠ .tbl ps) : H' a = some o :=
  k.keep a o (tab_ne k.t0 h nt) (fun z => by
    obtain ⟨kvs, e⟩ := hF a z
    rw [h] at e
    exact nd kvs (Option.some.inj e)) h
theorem Kx.lst0 {T : Addr} {F : List Addr} {H H' : Hp} {a : Addr} {xs : List V} (k : Kx T F H H') (hF : ∀ f ∈ F, ∃ kvs, H f = some (.dK kvs)) (h : H a = some (.lst xs)) : H' a = some (.lst xs) := k.at0 hF h (fun _ z => by cases z) (fun _ z => by cases z)
theorem Kx.seq0 {T : Addr} {F : List Addr} {H H' : Hp} {a : Addr} {xs : List V} (k : Kx T F H H') (hF : ∀ f ∈ F, ∃ kvs, H f = some (.dK kvs)) (h : SqL K H a xs) : SqL K H' a xs := by
  rcases h with (h | ⟨o, h⟩) | h
  · exact .inl (.inl (k.lst0 hF h))
  · exact .inl (.inr ⟨o, k.at0 hF h (fun _ z => by cases z) (fun _ z => by cases z)⟩)
  · exact .inr h
theorem Kx.sqt0 {T : Addr} {F : List Addr} {H H' : Hp} {a : Addr} {xs : List V} (k : Kx T F H H') (hF : ∀ f ∈ F, ∃ kvs, H f = some (.dK kvs)) (h : SqT K H a xs) : SqT K H' a xs := by
  rcases h with (h | ⟨o, h⟩) | h
  · exact .inl (.inl (k.at0 hF h (fun _ z => by cases z) (fun _ z => by cases z)))
  · exact .inl (.inr ⟨o, k.at0 hF h (fun _ z => by cases z) (fun _ z => by cases z)⟩)
  · exact .inr h
theorem Kx.dp0 {T : Addr} {F : List Addr} {H H' : Hp} (k : Kx T F H H') (hF : ∀ f ∈ F, ∃ kvs, H f = some (.dK kvs)) {v : V} {d : PyData} (h : Dp K H v d) : Dp K H' v d :=
  dp_mono (fun b o hs e => k.keep b o (isSeq_ne_tab k.t0 hs e) (fun z => by
    obtain ⟨kvs, e2⟩ := hF b z
    rw [e] at e2
    cases e2
    cases hs) e) d v h
theorem Kx.step0 {T : Addr} {F F2 : List Addr} {H H1 H2 : Hp} (a : Kx T F H H1) (h : ∀ f ∈ F2, f ∈ F ∨ H f = none) (b : Kx T F2 H1 H2) : Kx T F H H2 := ⟨a.t0, b.tab, fun c o n m e => b.keep c o n (fun z => by
    rcases h c z with z | z
    · exact m z
    · rw [e] at z; cases z) (a.keep c o n m e)⟩
theorem findD_last {l : List (Int × List PyData)} {m : Int} {ds es : List PyData} (h : m ∉ l.map (·.1)) (e : findD (l ++ [(m, es)]) m = some (m, ds)) : ds = es := by
  unfold findD at e
  rw [List.find?_append] at e
  have e0 : l.find? (fun e => decide (e.1 = m)) = none := by
    rw [List.find?_eq_none]
    intro x hx z
    exact h (List.mem_map.mpr ⟨x, hx, of_decide_eq_true z⟩)
  rw [e0, Option.none_or, List.find?_cons_of_pos (by exact decide_eq_true rfl)] at e
  exact (Prod.mk.inj (Option.some.inj e)).2.symm
theorem data_nd {C p D : Addr} {A : List Addr} {H : Hp} {st : List Shelf} (S : ShopAt K C A H p D st) (x : Str) : ((dataOf st x).map (·.1)).Nodup := by
  unfold dataOf
  cases el : look st x with
  | none => exact List.nodup_nil
  | some s =>
    have z := (S.bx.sh s (look_mem el).1).nd
    show ((s.ents.map entD).map (·.1)).Nodup
    rw [List.map_map]
    exact z
/-! ### the shop's methods, read -/
theorem makes_read {C T BW p D : Addr} {A : List Addr} {H : Hp} {st : List Shelf} {x : Str} {σ : L2.St} {Q : VK} {targ : TE} (S : ShopAt K C A H p D st) (h64 : (dataOf st x).length < 64) (hx : GoodN x) (t : GxR.TabG H T) (h0 : σ[0]? = some (some (.ref p)))
    (harg : ∀ Q : VK, Q (.str x) H → targ σ H Q) (q : ∀ (ys : List Int) l H', ys.Perm ((dataOf st x).map (·.1)) → ys.Pairwise (· ≤ ·) → Kp T H H' → H l = none → H' l = some (.lst (ys.map V.int)) → Q (.ref l) H') :
    tMeth C "makes" (spMakes K C T BW) [] E0 (tVar 0) (tCons targ tNil) σ H Q := by
  obtain ⟨dx, o⟩ := S.ob
  exact ⟨_, h0, p, dx, _, rfl, o, flS_no D (by decide +kernel), harg _ ⟨A, p, D, st, _, _, rfl, S, .str x, hx.2, t, fun z => absurd (hx.1.symm.trans z) (by decide), fun y e _ => by cases e; exact ⟨h64, q⟩⟩⟩
theorem wares_read {C T p D : Addr} {A : List Addr} {H : Hp} {st : List Shelf} {σ : L2.St} {Q : VK} (S : ShopAt K C A H p D st) (h64 : st.length < 64) (t : GxR.TabG H T) (h0 : σ[0]? = some (some (.ref p)))
    (q : ∀ (ys : List Str) l H', ys.Perm (st.map (·.ware)) → sortedS ys = true → Kp T H H' → H l = none → H' l = some (.lst (ys.map V.str)) → Q (.ref l) H') :
    tMeth C "wares" (spWares K C T) [] E0 (tVar 0) tNil σ H Q := by
  obtain ⟨dx, o⟩ := S.ob
  exact ⟨_, h0, p, dx, _, rfl, o, flS_no D (by decide +kernel), A, p, D, st, rfl, S, t, h64, q⟩
/-- an item of a tuple in a slot -/
theorem ixt_read {H : Hp} {dd : Addr} {xs : List V} {i : Nat} {n : Int} {j : Nat} {v : V} {σ : L2.St} {Q : VK} (hd : SqT K H dd xs) (hi : σ[i]? = some (some (.ref dd))) (en : n = (j : Int)) (ev : xs[j]? = some v) (q : Q v H) : tOp (rIxT K) (tVar i) (tC (.int n)) σ H Q :=
  ⟨_, hi, dd, xs, n, v, rfl, rfl, hd, at_gen en ev, q⟩
/-! ### what is told of a deed -/
def GdC (K : PySem.W.Frag) (st : List Shelf) (H : Hp) (xs : List V) (ks : List Int) : Prop :=
  (ks ≠ [3] ∧ ks ≠ [4] ∧ ks ≠ [5]) ∨
  (∃ (x : Str) (m : Int) (e : Addr), H e = some (.lst []) ∧ xs = [.str "put", .str x, .int m, .ref e] ∧ GoodN x ∧ makeB (.int m) = true ∧
    ((ks = [3] ∧ m ∈ (dataOf st x).map (·.1)) ∨ (ks = [4] ∧ m ∉ (dataOf st x).map (·.1) ∧ (dataOf st x = [] → st ≠ [])))) ∨
  (∃ (k : Str) (v1 v2 : V) (d1 d2 : PyData), (k = "take" ∨ k = "needs") ∧ xs = [.str k, v1, v2] ∧ ks = [5] ∧ Dp K H v1 d1 ∧ okS d1 = true ∧ Dp K H v2 d2 ∧ hasB st d1 d2 = false)
def spGd (K : PySem.W.Frag) (C T : Addr) : Sp := fun vs H Q _ => ∃ (p D dd u : Addr) (st : List Shelf) (xs : List V) (ks : List Int), vs = [.ref p, .ref dd, .ref u] ∧ ShopAt K C [] H p D st ∧ (ks ≠ [] → GoodD st ∧ st.length ≤ 12 ∧ ∀ s ∈ st, GoodN s.ware) ∧
  SqT K H dd xs ∧ H u = some (.lst (ks.map V.int)) ∧ GxR.TabG H T ∧ GdC K st H xs ks ∧ ∀ H', (ks = [] → Kp T H H') → Kx T (foot D st) H H' → Q (.bl true) H'
/-! ### takes one behind the other -/
/-- the shop st without the makes L of the ware W -/
structure Less (K : PySem.W.Frag) (C : Addr) (T : Addr) (H0 H : Hp) (p D : Addr) (st st' : List Shelf) (W : Str) (L : List Int) : Prop where
  S : ShopAt K C [] H p D st'
  dt : ∀ v, dataOf st' v = if v = W then (dataOf st W).filter (fun e => decide (e.1 ∉ L)) else dataOf st v
  kx : Kx T (foot D st) H0 H
  ft : ∀ f ∈ foot D st', f ∈ foot D st
theorem filter_app {l : List (Int × List PyData)} {L : List Int} {m : Int} : (l.filter (fun e => decide (e.1 ∉ L))).filter (fun e => decide (e.1 ≠ m)) = l.filter (fun e => decide (e.1 ∉ L ++ [m])) := by
  rw [List.filter_filter]
  congr 1
  funext e
  by_cases h1 : e.1 ∈ L <;> by_cases h2 : e.1 = m <;> simp [h1, h2]
theorem Less.take {C T NM p D : Addr} {H0 H : Hp} {st st' : List Shelf} {W : Str} {L : List Int} {m : Int} {Q : VK} {E : XK} (h : Less K C T H0 H p D st st' W L) (hW : GoodN W) (hm : makeB (.int m) = true) (hin : m ∈ (dataOf st W).map (·.1)) (hL : m ∉ L)
    (q : ∀ H' st'', Less K C T H0 H' p D st st'' W (L ++ [m]) → Q .non H') : spTake K C T NM [.ref p, .str W, .int m] H Q E := by
  have e1 : hasB st' (.str W) (.int m) = true := by
    rw [hasB_keys, hW.1, hm, h.dt, if_pos rfl, Bool.true_and, Bool.true_and]
    refine decide_eq_true ?_
    obtain ⟨e, he, rfl⟩ := List.mem_map.mp hin
    exact List.mem_map.mpr ⟨e, List.mem_filter.mpr ⟨he, decide_eq_true hL⟩, rfl⟩
  refine ⟨[], p, D, st', _, _, .str W, .int m, rfl, h.S, .str W, hW.2, .int m, h.kx.tab, fun z => ?_, fun x m' ex em _ H' S' k' => ?_⟩
  · rw [e1] at z; cases z
  · cases ex; cases em
    refine q H' (takeS st' W m) ⟨S', fun v => ?_, h.kx.step (fun f hf => .inl (h.ft f hf)) k', fun f hf => h.ft f (takeS_foot f hf)⟩
    rw [takeS_data]
    by_cases hv : v = W
    · rw [if_pos hv, if_pos hv, h.dt, if_pos rfl, filter_app]
    · rw [if_neg hv, if_neg hv, h.dt, if_neg hv]
theorem or_litT {T u : Addr} {i : Nat} {σ : L2.St} {H : Hp} {ks l1 l2 : List Int} {t1 t2 : TA} {Q : Bool → Hp → Prop} (hi : σ[i]? = some (some (.ref u))) (hu : H u = some (.lst (ks.map V.int))) (ht : GxR.TabG H T)
    (hl1 : l1.length ≤ 100) (hl2 : l2.length ≤ 100) (h1 : ∀ H Q, Q (l1.map V.int) H → t1 σ H Q) (h2 : ∀ H Q, Q (l2.map V.int) H → t2 σ H Q) (q : ∀ H', Kp T H H' → Q (decide (ks = l1) || decide (ks = l2)) H') :
    tOr (tB (tOp (rEqD K) (tVar i) (tLst t1))) (tB (tOp (rEqD K) (tVar i) (tLst t2))) σ H Q := by
  refine eq_litT hi hu ht hl1 h1 fun H1 k1 => ?_
  by_cases h : ks = l1
  · rw [decide_eq_true h]
    refine iteT ?_
    have z := q H1 k1
    rw [decide_eq_true h, Bool.true_or] at z
    exact z
  · rw [decide_eq_false h]
    refine iteF (eq_litT hi (k1.lst hu) k1.tab hl2 h2 fun H2 k2 => ?_)
    have z := q H2 (k1.trans k2)
    rw [decide_eq_false h, Bool.false_or] at z
    exact z
theorem take_read {C T NM p D : Addr} {H0 H : Hp} {st st' : List Shelf} {W : Str} {L : List Int} {m : Int} {σ : L2.St} {Q : VK} {ta tb : TE} (h : Less K C T H0 H p D st st' W L) (hW : GoodN W) (hm : makeB (.int m) = true) (hin : m ∈ (dataOf st W).map (·.1)) (hL : m ∉ L)
    (h0 : σ[0]? = some (some (.ref p))) (ha : ∀ Q : VK, Q (.str W) H → ta σ H Q) (hb : ∀ Q : VK, Q (.int m) H → tb σ H Q) (q : ∀ H' st'', Less K C T H0 H' p D st st'' W (L ++ [m]) → Q .non H') :
    tMeth C "take" (spTake K C T NM) [] E0 (tVar 0) (tCons ta (tCons tb tNil)) σ H Q := by
  obtain ⟨dx, o⟩ := h.S.ob
  exact ⟨_, h0, p, dx, _, rfl, o, flS_no D (by decide +kernel), ha _ (hb _ (h.take hW hm hin hL q))⟩
theorem needs_read {C T NM p D : Addr} {H : Hp} {st : List Shelf} {x : Str} {m : Int} {σ : L2.St} {Q : VK} {ta tb : TE} (S : ShopAt K C [] H p D st) (hx : GoodN x) (hh : hasB st (.str x) (.int m) = true) (ht : GxR.TabG H T) (h0 : σ[0]? = some (some (.ref p))) (ha : ∀ Q : VK, Q (.str x) H → ta σ H Q) (hb : ∀ Q : VK, Q (.int m) H → tb σ H Q)
    (q : ∀ (xs : List V) (ds : List PyData) l H', findD (dataOf st x) m = some (m, ds) → Kp T H H' → H l = none → H' l = some (.lst xs) → DpAll K (hide [] H') xs ds → Q (.ref l) H') :
    tMeth C "needs" (spNeeds K C T NM) [] E0 (tVar 0) (tCons ta (tCons tb tNil)) σ H Q := by
  obtain ⟨dx, o⟩ := S.ob
  exact ⟨_, h0, p, dx, _, rfl, o, flS_no D (by decide +kernel), ha _ (hb _ ⟨[], p, D, st, _, _, .str x, .int m, rfl, S, .str x, hx.2, .int m, ht, fun z => (by rw [hh] at z; cases z), fun x' m' ex em _ => by cases ex; cases em; exact q⟩)⟩
/-- a put of no needs that is not refused -/
theorem put_read {C T BW BM BN TW FU p D : Addr} {H : Hp} {st : List Shelf} {x : Str} {m : Int} {σ : L2.St} {Q : VK} {ta tb : TE} (S : ShopAt K C [] H p D st) (hx : GoodN x) (hm : makeB (.int m) = true) (ht : GxR.TabG H T) (h100 : st.length ≤ 100)
    (hh : hasB st (.str x) (.int m) = false) (hp : placeB st x = true) (h0 : σ[0]? = some (some (.ref p))) (ha : ∀ Q : VK, Q (.str x) H → ta σ H Q) (hb : ∀ Q : VK, Q (.int m) H → tb σ H Q)
    (q : ∀ H1 H' st', Kp T H H1 → ShopAt K C [] H' p D st' → (∀ v, dataOf st' v = if v = x then dataOf st x ++ [(m, [])] else dataOf st v) → Kx T (foot D st) H H' → (∀ f ∈ foot D st', f ∈ foot D st ∨ H f = none) → Q .non H') :
    tMeth C "put" (spPut K C T BW BM BN TW FU) [] E0 (tVar 0) (tCons ta (tCons tb (tCons (tLst tNil) tNil))) σ H Q := by
  obtain ⟨dx, o⟩ := S.ob
  refine ⟨_, h0, p, dx, _, rfl, o, flS_no D (by decide +kernel), ha _ (hb _ ⟨(by show (0 : Nat) ≤ sizeLine; decide), fun e ne => ?_⟩)⟩
  have k6 := Kp.new (o := HO.lst []) ht ne
  exact put_nil (S.keptP k6) hx hm upd_same k6.tab h100 hh hp fun H' st' S' d' k' f' => q _ H' st' k6 S' d' ((Kx.of k6).trans k') fun f hf => by
    rcases f' f hf with z | z
    · exact .inl z
    · exact .inr (k6.free z)
/-- refused(..) == [] where nothing is refused -/
theorem ref_nil {C T BW BM BN TW FU NM PE p dd : Addr} {Cs : List Addr} {H : Hp} {σ : L2.St} {Q : VK} {E : XK} (h0 : σ[0]? = some (some (.ref p))) (h1 : σ[1]? = some (some (.ref dd)))
    (h : spAsk K C T BW BM BN TW FU NM [.ref p, .ref dd] H (fun _ H' => GxR.TabG H' T ∧ ∀ H'', Kp T H' H'' → Q (.bl true) H'') (fun _ _ _ => False)) :
    tOp (rEqD K) (tCall (spRef K C T BW BM BN TW FU NM PE Cs) [] E (tCons (tVar 0) (tCons (tVar 1) tNil))) (tLst tNil) σ H Q := by
  refine ⟨_, h0, _, h1, p, dd, rfl, spAsk_mono (fun v H' ⟨t, q⟩ l nl => ?_) (fun _ _ _ z => z.elim) h⟩
  have k1 := Kp.new (o := HO.lst []) t nl
  refine ⟨(by show (0 : Nat) ≤ sizeLine; decide), fun l2 n2 => ?_⟩
  have k2 := Kp.new (o := HO.lst []) k1.tab n2
  exact ⟨.list [], .list [], dp_lst (k2.lst upd_same) .nil, dp_lst upd_same .nil, rfl, rfl, q _ (k1.trans k2)⟩
end
end Pk

set_option Elab.async false
set_option linter.all false
set_option maxRecDepth 100000
set_option maxHeartbeats 4000000
namespace Pk
open PySem PySem.Spec PyProof.Rows L2
abbrev sGood : Stmt := topS 35
def goodNs : List Str := ["_law_shop", "_law_deed", "_law_due_here", "_law_ware", "_law_makes", "_law_make"]
theorem scGood : FnScope goodNs ["_law_shop", "_law_deed", "_law_due_here"] (defScope sGood) := ⟨rfl, rfl, rfl, by decide +kernel, rfl, by decide +kernel, by decide +kernel⟩
section
variable {P : Program} {w : World} {K : PySem.W.Frag} {mg : Str → Option Value} {base : Heap}
theorem ok_good {f C T fP fT fN fM fW fR BW BM BN TW FU NM PE : Addr} {Cs : List Addr} {fd fdP fdT fdN fdM fdW fdR : FuncData} (F : Fun K "_law_made_good" "_law_made_good" sGood f fd) (X : ShopT K mg C)
    (GP : FnOk P w K mg base (L2N.CX P w) 5 fP fdP ["self", "ware", "make", "needs"] (spPut K C T BW BM BN TW FU)) (bP : Binds K fdP ["self", "ware", "make", "needs"] []) (mP : Meth K C "put" fP)
    (GT : FnOk P w K mg base (L2N.CX P w) 4 fT fdT ["self", "ware", "make"] (spTake K C T NM)) (bT : Binds K fdT ["self", "ware", "make"] []) (mT : Meth K C "take" fT)
    (GN : FnOk P w K mg base (L2N.CX P w) 4 fN fdN ["self", "ware", "make"] (spNeeds K C T NM)) (bN : Binds K fdN ["self", "ware", "make"] []) (mN : Meth K C "needs" fN)
    (GM : FnOk P w K mg base (L2N.CX P w) 2 fM fdM ["self", "ware"] (spMakes K C T BW)) (bM : Binds K fdM ["self", "ware"] []) (mM : Meth K C "makes" fM)
    (GW : FnOk P w K mg base CX0 1 fW fdW ["self"] (spWares K C T)) (bW : Binds K fdW ["self"] []) (mW : Meth K C "wares" fW)
    (GR : FnOk P w K mg base CX0 7 fR fdR ["_law_shop", "_law_deed"] (spRef K C T BW BM BN TW FU NM PE Cs)) (kR : PySem.W.keepIn K (.ref fR) = true) (bR : Binds K fdR ["_law_shop", "_law_deed"] []) (gR : mg "_law_refused" = some (.ref fR))
    (mI : mg "isinstance" = none) (mS : mg "str" = none) (mInt : mg "int" = none) (mB : mg "bool" = none) :
    FnOk P w K mg base CX0 8 f fd ["_law_shop", "_law_deed", "_law_due_here"] (spGd K C T) := by
  refine F.ok scGood (fun vs H Q E h => by obtain ⟨p, D, dd, u, st, xs, ks, rfl, _⟩ := h; rfl) (fun cdv A outer s H vs Q E hr h => ?_)
  have r1 : Room 1 _ := hr.mono (by decide)
  have r2 : Room 2 _ := hr.mono (by decide)
  have r4 : Room 4 _ := hr.mono (by decide)
  have r5 : Room 5 _ := hr.mono (by decide)
  refine ⟨_, pss_cons (ps_if (PW.pt (pw_or (pt_cmpR (op_eqD hr.units) (pv 2) (pe_lst (pa_cons pe_int pa_nil)) (nomark _)) (pw_or1 (pt_cmpR (op_eqD hr.units) (pv 2) (pe_lst (pa_cons pe_int pa_nil)) (nomark _)))))
      (C8.pss_cut (ps_set (i := 3) scGood.nd rfl (.inl rfl) (pe_ifExp (pt_cmpR (op_neD hr.units) (pe_meth (E := E0) (pv 0) X.cl mM GM r2 bM .nil passN (pa_cons (pe_ix ix_tup (pv 1) pe_int (fun _ _ => rfl)) pa_nil)) (pe_lst pa_nil) (nomark _))
          (pe_ix ix_tup (pv 1) pe_int (fun _ _ => rfl)) (pe_ix ix_list (pe_meth0 (pv 0) X.cl mW GW r1 bW .nil pass0) pe_int (fun _ _ => rfl))))
      (pss_cons (ps_set (i := 4) scGood.nd rfl (.inl rfl) (pe_meth (E := E0) (pv 0) X.cl mM GM r2 bM .nil passN (pa_cons (pv 3) pa_nil)))
      (pss_cons (ps_for PassesOwn.never rfl (pi_list (pe_lc (own := [("_law_make", 5)]) (g := gName 5) rfl scGood.nd (pi_list (pv 4)) (blkOk_by (own := [("_law_make", 5)]) (N := goodNs) (sc := defScope sGood) (by decide +kernel)) (fun _ _ _ _ _ => pg_name (i := 5) scGood.nd rfl (Or.inl rfl))
            (fun _ _ _ _ _ => pts_one (PW.pt (pw_or (pt_cmpR (r := rEqD K) (op_eqD hr.units) (pv 2) (pe_lst (pa_cons pe_int pa_nil)) (nomark _)) (pw_or1 (pt_cmpR (r := rEqD K) (op_eqD hr.units) (pv 5) (pe_ix (r := rIxT K) ix_tup (pv 1) pe_int (fun _ _ => rfl)) (nomark _)))))) (fun _ _ _ _ _ => pv 5)))
          (pg_name (i := 5) scGood.nd rfl (.inl rfl)) (pss_one (ps_expr (pe_meth (E := E0) (pv 0) X.cl mT GT r4 bT .nil passN (pa_cons (pv 3) (pa_cons (pv 5) pa_nil))))))
      (pss_one (ps_ret (pe_and (pe_cmpR (op_eqD hr.units) (pe_call GR hr (by rfl) gR kR bR .nil pass0 (pa_cons (pv 0) (pa_cons (pv 1) pa_nil))) (pe_lst pa_nil) (nomark _))
          (pe_one (pe_cmpR (op_eqD hr.units) (pe_meth (E := E0) (pv 0) X.cl mN GN r4 bN .nil passN (pa_cons (pe_ix ix_tup (pv 1) pe_int (fun _ _ => rfl)) (pa_cons (pe_ix ix_tup (pv 1) pe_int (fun _ _ => rfl)) pa_nil))) (pe_lst pa_nil) (nomark _)))))))))
      pss_nil)
    (pss_cons (ps_if (PW.pt (pw_and (pt_cmpR (op_eqD hr.units) (pv 2) (pe_lst (pa_cons pe_int pa_nil)) (nomark _)) (pw_and (pt_val (pe_callB call_isi (by rfl) mI boot_isinstance (pa_cons (pe_ix ix_tup (pv 1) pe_int (fun _ _ => rfl)) (pa_cons (pe_bltn (v := .ty "str") (by rfl) mS boot_str rfl) pa_nil))))
        (pw_and (pt_cmpR op_in_seq (pe_ix ix_tup (pv 1) pe_int (fun _ _ => rfl)) (pe_meth0 (pv 0) X.cl mW GW r1 bW .nil pass0) (by rfl)) (pw_and1 (pt_val (pe_callB call_isi (by rfl) mI boot_isinstance (pa_cons (pe_ix ix_tup (pv 1) pe_int (fun _ _ => rfl)) (pa_cons (pe_bltn (v := .ty "int") (by rfl) mInt boot_int rfl) pa_nil)))))))))
      (pss_one (ps_if (PW.pt (pw_and (pt_not (pt_val (pe_callB call_isi (by rfl) mI boot_isinstance (pa_cons (pe_ix ix_tup (pv 1) pe_int (fun _ _ => rfl)) (pa_cons (pe_bltn (v := .ty "bool") (by rfl) mB boot_bool rfl) pa_nil)))))
          (pw_and (pt_chain op_lt op_lt pe_int (pe_ix ix_tup (pv 1) pe_int (fun _ _ => rfl)) pe_int) (pw_and1 (pt_cmpR op_lt (pe_callB call_len_seq (by rfl) X.len PySem.boot_len (pa_cons (pe_meth (E := E0) (pv 0) X.cl mM GM r2 bM .nil passN (pa_cons (pe_ix ix_tup (pv 1) pe_int (fun _ _ => rfl)) pa_nil)) pa_nil)) pe_int (nomark _))))))
        (pss_cons (ps_expr (pe_meth (E := E0) (pv 0) X.cl mP GP r5 bP .nil passN (pa_cons (pe_ix ix_tup (pv 1) pe_int (fun _ _ => rfl)) (pa_cons (pe_ix ix_tup (pv 1) pe_int (fun _ _ => rfl)) (pa_cons (pe_lst pa_nil) pa_nil)))))
        (pss_one (ps_ret (pe_cmpR (op_eqD hr.units) (pe_call GR hr (by rfl) gR kR bR .nil pass0 (pa_cons (pv 0) (pa_cons (pv 1) pa_nil))) (pe_lst pa_nil) (nomark _)))))
        pss_nil)) pss_nil)
    (pss_one (ps_ret pe_bl))), ?_⟩
  obtain ⟨p, D, dd, u, st, xs, ks, rfl, S, G0, hdd, hu, ht, hc, q⟩ := h
  have fd0 : ∀ f ∈ foot D st, ∃ kvs, H f = some (.dK kvs) := S.bx.foot_dict
  rcases hc with ⟨n3, n4, n5⟩ | ⟨x, m, e, he, rfl, hx, hm, hc⟩ | ⟨k, v1, v2, d1, d2, hk, rfl, rfl, hv1, o1, hv2, hh⟩
  · -- nothing is made good
    refine eq_litT (ls := [3]) rfl hu ht (by decide) (fun _ _ z => z) (fun H1 k1 => ?_)
    rw [decide_eq_false n3]
    refine iteF (eq_litT (ls := [4]) rfl (k1.lst hu) k1.tab (by decide) (fun _ _ z => z) (fun H2 k2 => ?_))
    rw [decide_eq_false n4]
    have k12 := k1.trans k2
    refine iteF (eq_litT (ls := [5]) rfl (k12.lst hu) k12.tab (by decide) (fun _ _ z => z) (fun H3 k3 => ?_))
    rw [decide_eq_false n5]
    have k13 := k12.trans k3
    exact iteF (q H3 (fun _ => k13) (.of k13))
  · -- a make goes out, or all of a ware, and the deed is let
    have hks : ks ≠ [] := by rcases hc with ⟨z, _⟩ | ⟨z, _⟩ <;> rw [z] <;> exact List.cons_ne_nil _ _
    obtain ⟨G, h12, hgw⟩ := G0 hks
    have hne3 : (decide (ks = [3]) || decide (ks = [4])) = true := by
      rcases hc with ⟨z, _⟩ | ⟨z, _⟩
      · rw [decide_eq_true z] <;> rfl
      · rw [decide_eq_true z, Bool.or_true]
    have fin : ∀ H', Kx T (foot D st) H H' → Q (.bl true) H' := fun H' k => q H' (fun z => absurd z hks) k
    refine or_litT (l1 := [3]) (l2 := [4]) rfl hu ht (by decide) (by decide) (fun _ _ z => z) (fun _ _ z => z) (fun H1 k1 => ?_)
    rw [hne3]
    have hdd1 := k1.sqt hdd
    have S1 := S.keptP k1
    have hu1 := k1.lst hu
    have he1 := k1.lst he
    have t1 := k1.tab
    have fin1 : ∀ H', Kx T (foot D st) H1 H' → Q (.bl true) H' := fun H' k => fin H' ((Kx.of k1).trans k)
    clear fin k1
    refine iteT ⟨fun σ' H' => ∃ W, σ' = [some (.ref p), some (.ref dd), some (.ref u), some (.str W), none, none] ∧ Kp T H1 H' ∧ GoodN W ∧ dataOf st W ≠ [] ∧ (dataOf st x ≠ [] → W = x), ?_, ?_⟩
    · refine makes_read S1 (by have := G.len x; omega) hx t1 rfl (fun Q z => ixt_read (j := 1) hdd1 rfl rfl rfl z) fun ys l2 H2 hp2 _ k2 nl2 hl2 => ?_
      refine ⟨(by show (0 : Nat) ≤ sizeLine; decide), fun l3 n3 => ?_⟩
      have k3 := Kp.new (o := HO.lst []) k2.tab n3
      refine ⟨.list (ys.map .int), .list [], dp_lst (k3.lst hl2) (dp_ints ys), dp_lst upd_same .nil, shaped_ints ys, rfl, _, rfl, ?_⟩
      rw [show PyData.eqv (.list (ys.map .int)) (.list []) = decide (ys = []) from eqv_ints ys []]
      have kk := k2.trans k3
      have eys : dataOf st x = [] ↔ ys = [] := by
        constructor
        · intro z
          rw [z] at hp2
          exact List.perm_nil.mp hp2
        · intro z
          rw [z] at hp2
          exact List.map_eq_nil_iff.mp (List.nil_perm.mp hp2)
      refine iteN (fun hn => ?_) (fun hn => ?_)
      · exact ixt_read (j := 1) (kk.sqt hdd1) rfl rfl rfl ⟨x, rfl, kk, hx, fun z => hn (eys.mp z), fun _ => rfl⟩
      · have hst : st ≠ [] := by
          rcases hc with ⟨_, z⟩ | ⟨_, _, z⟩
          · rw [eys.mpr hn] at z; cases z
          · exact z (eys.mpr hn)
        refine wares_read (S1.keptP kk) (by omega) kk.tab rfl fun ws l4 H4 hp4 _ k4 nl4 hl4 => ?_
        obtain ⟨W, r, ew⟩ : ∃ W r, ws = W :: r := by
          cases ws with
          | nil => exact absurd (List.map_eq_nil_iff.mp (List.nil_perm.mp hp4)) hst
          | cons W r => exact ⟨W, r, rfl⟩
        subst ew
        obtain ⟨s, hs, es⟩ := List.mem_map.mp (hp4.mem_iff.mp (List.mem_cons_self ..))
        refine ⟨l4, _, 0, .str W, rfl, rfl, .inl (.inl hl4), atI_nat (j := 0) rfl, W, rfl, kk.trans k4, by rw [← es]; exact hgw s hs, ?_, fun z => absurd (eys.mpr hn) z⟩
        rw [← es]
        exact data_ne S.bx.nd hs (S.ne s hs)
    · rintro σ' H2 ⟨W, rfl, k2, hW, hWd, hWx⟩
      have hdd2 := k2.sqt hdd1
      have S2 := S1.keptP k2
      refine makes_read S2 (by have := G.len W; omega) hW k2.tab rfl (fun Q z => ⟨_, rfl, z⟩) fun ys l3 H3 hp3 _ k3 nl3 hl3 => ?_
      have k13 := k2.trans k3
      have hdd3 := k13.sqt hdd1
      have hu3 := k13.lst hu1
      have he3 := k13.lst he1
      have S3 := S1.keptP k13
      have t3 := k3.tab
      have fin3 : ∀ H', Kx T (foot D st) H3 H' → Q (.bl true) H' := fun H' k => fin1 H' ((Kx.of k13).trans k)
      clear hdd2 S2 hdd1 hu1 he1 S1 fin1
      obtain ⟨sp, esp⟩ : ∃ sp : Int → Bool, sp = fun a => decide (ks = [4]) || decide (a = m) := ⟨_, rfl⟩
      refine ⟨_, rfl, l3, rfl, ⟨_, .inl (.inl hl3)⟩, fun L nL => ?_⟩
      have LT := tab_nn t3 nL
      refine lc_list (K := K) (a := l3) (xs := ys.map V.int) (fun i H' => H' L = some (.lst (((ys.take i).filter sp).map V.int)) ∧ Kp T H3 H') ⟨upd_same, Kp.new t3 nL⟩ (fun i H' _ ⟨_, kk⟩ => .inl (.inl (kk.lst hl3))) (fun i v H' hi hv => ?_) (fun H4 hv => ?_)
      · obtain ⟨eL, kk⟩ := hv
        rw [List.getElem?_map] at hi
        obtain ⟨a, ha, rfl⟩ := Option.map_eq_some_iff.mp hi
        have hil : i < ys.length := (List.getElem?_eq_some_iff.mp ha).1
        have etake : (ys.take (i + 1)).filter sp = (ys.take i).filter sp ++ (if sp a = true then [a] else []) := by
          rw [List.take_succ, ha, List.filter_append]
          by_cases h : sp a = true
          · rw [if_pos h]
            show _ ++ List.filter sp [a] = _
            rw [List.filter_cons_of_pos h]
            rfl
          · rw [if_neg h]
            show _ ++ List.filter sp [a] = _
            rw [List.filter_cons_of_neg h]
            rfl
        have hlen : ((ys.take i).filter sp).length ≤ 64 := by
          have h1 := List.length_filter_le sp (ys.take i)
          have h2 := hp3.length_eq
          have h3 := G.len W
          rw [List.length_map] at h2
          rw [List.length_take] at h1
          omega
        -- where a is taken and where not
        have yes : ∀ H5, Kp T H' H5 → sp a = true → ∃ acc, H5 L = some (.lst acc) ∧ acc.length < sizeLine ∧ (upd H5 L (.lst (acc ++ [.int a])) L = some (.lst (((ys.take (i + 1)).filter sp).map V.int)) ∧ Kp T H3 (upd H5 L (.lst (acc ++ [.int a])))) := fun H5 k5 h => by
          refine ⟨_, k5.lst eL, small1000 (by rw [List.length_map]; omega), ?_, (kk.trans k5).set nL LT⟩
          rw [upd_same, etake, if_pos h, List.map_append]
          rfl
        have no : ∀ H5, Kp T H' H5 → sp a = false → H5 L = some (.lst (((ys.take (i + 1)).filter sp).map V.int)) ∧ Kp T H3 H5 := fun H5 k5 h => by
          refine ⟨?_, kk.trans k5⟩
          rw [etake, if_neg (by rw [h]; exact Bool.false_ne_true), List.append_nil]
          exact k5.lst eL
        refine ⟨rfl, eq_litT (ls := [4]) rfl (kk.lst hu3) kk.tab (by decide) (fun _ _ z => z) (fun H5 k5 => ?_)⟩
        by_cases h4 : ks = [4]
        · rw [decide_eq_true h4]
          refine iteT (iteT ⟨_, rfl, yes H5 k5 (by rw [esp, decide_eq_true h4] <;> rfl)⟩)
        · rw [decide_eq_false h4]
          refine iteF ⟨_, rfl, ixt_read (j := 2) ((kk.trans k5).sqt hdd3) rfl rfl rfl ⟨.int a, .int m, .int a, .int m, rfl, rfl, _, rfl, ?_⟩⟩
          have ee : PyData.eqv (.int a) (.int m) = decide (a = m) := rfl
          rw [ee]
          refine iteD (fun e => ⟨_, rfl, yes H5 k5 (by rw [esp]; show (decide (ks = [4]) || decide (a = m)) = true; rw [decide_eq_true e, Bool.or_true])⟩) (fun e => no H5 k5 (by rw [esp]; show (decide (ks = [4]) || decide (a = m)) = false; rw [decide_eq_false h4, decide_eq_false e] <;> rfl))
      · obtain ⟨eL, k4⟩ := hv
        rw [List.length_map, List.take_length] at eL
        obtain ⟨sel, es⟩ : ∃ s, s = ys.filter sp := ⟨_, rfl⟩
        rw [← es] at eL
        have hdd4 := k4.sqt hdd3
        have he4 := k4.lst he3
        have S4 := S3.keptP k4
        have t4 := k4.tab
        have fin4 : ∀ H', Kx T (foot D st) H4 H' → Q (.bl true) H' := fun H' k => fin3 H' ((Kx.of k4).trans k)
        have ydn := hp3.nodup_iff.mpr (data_nd S4 W)
        have snd : sel.Nodup := by rw [es]; exact List.Sublist.nodup List.filter_sublist ydn
        have sin : ∀ a ∈ sel, a ∈ (dataOf st W).map (·.1) := fun a ha => hp3.mem_iff.mp (List.mem_filter.mp (by rw [es] at ha; exact ha)).1
        have fd4 : ∀ f ∈ foot D st, ∃ kvs, H4 f = some (.dK kvs) := S4.bx.foot_dict
        clear hdd3 hu3 he3 S3 fin3 hl3
        refine ⟨L, rfl, ⟨_, .inl (.inl eL)⟩, for_list (K := K) (a := L) (xs := sel.map V.int) (fun i σ' H' => ∃ (x5 : Option V) (st' : List Shelf), σ' = [some (.ref p), some (.ref dd), some (.ref u), some (.str W), some (.ref l3), x5] ∧ Less K C T H4 H' p D st st' W (sel.take i))
          ⟨_, st, rfl, S4, fun v => ?_, .refl t4, fun f hf => hf⟩ (fun i σ' H' _ ⟨_, _, _, l⟩ => .inl (.inl (l.kx.lst0 fd4 eL))) ?_ ?_⟩
        · by_cases hv : v = W
          · rw [if_pos hv, hv]
            symm
            rw [List.filter_eq_self]
            intro a _
            exact decide_eq_true (by rw [List.take_zero]; exact List.not_mem_nil)
          · rw [if_neg hv]
        · rintro i v σ' H' hi ⟨x5, st', rfl, l⟩
          rw [List.getElem?_map] at hi
          obtain ⟨a, ha, rfl⟩ := Option.map_eq_some_iff.mp hi
          have ham := List.mem_of_getElem? ha
          have hgm : makeB (.int a) = true := by
            obtain ⟨e, he, ea⟩ := List.mem_map.mp (sin a ham)
            rw [← ea]
            exact (G.gd W e he).1
          refine take_read l hW hgm (sin a ham) (fun z => ?_) rfl (fun Q z => ⟨_, rfl, z⟩) (fun Q z => ⟨_, rfl, z⟩) fun H5 st5 l5 => ?_
          · have hil := (List.getElem?_eq_some_iff.mp ha).1
            have e2 : sel[i] = a := (List.getElem?_eq_some_iff.mp ha).2
            have nd2 : (sel.take i ++ sel.drop i).Nodup := by rw [List.take_append_drop]; exact snd
            have z2 : a ∈ sel.drop i := by rw [List.drop_eq_getElem_cons hil, e2]; exact List.mem_cons_self ..
            exact (List.nodup_append.mp nd2).2.2 a z a z2 rfl
          · refine ⟨_, st5, rfl, ?_⟩
            rw [List.take_succ, ha]
            exact l5
        · rintro σ' H5 ⟨x5, st5, rfl, l⟩
          rw [List.length_map, List.take_length] at l
          have hdd5 := l.kx.sqt0 fd4 hdd4
          have he5 := l.kx.lst0 fd4 he4
          have t5 := l.kx.tab
          have d5 := l.dt
          -- what of x and of W is left
          have cs : m ∉ (dataOf st5 x).map (·.1) ∧ (dataOf st5 x).length < 8 ∧ (dataOf st5 x = [] → (dataOf st W).filter (fun e => decide (e.1 ∉ sel)) = []) := by
            rcases hc with ⟨rfl, hin⟩ | ⟨rfl, hin, _⟩
            · have eW : W = x := hWx fun z => by rw [z] at hin; cases hin
              subst eW
              have sm : m ∈ sel := by rw [es]; exact List.mem_filter.mpr ⟨hp3.mem_iff.mpr hin, by rw [esp]; show (_ || decide (m = m)) = true; rw [decide_eq_true rfl, Bool.or_true]⟩
              rw [d5, if_pos rfl]
              refine ⟨fun z => ?_, ?_, fun z => z⟩
              · obtain ⟨e, he, ee⟩ := List.mem_map.mp z
                exact of_decide_eq_true (List.mem_filter.mp he).2 (by rw [ee]; exact sm)
              · obtain ⟨e, he, ee⟩ := List.mem_map.mp hin
                have h8 := G.len W
                have hlt : ((dataOf st W).filter (fun e => decide (e.1 ∉ sel))).length < (dataOf st W).length := by
                  refine List.length_filter_lt_length_iff_exists.mpr ⟨e, he, ?_⟩
                  rw [ee]
                  exact fun z => of_decide_eq_true z sm
                omega
            · have sall : ∀ e ∈ dataOf st W, e.1 ∈ sel := fun e he => by
                rw [es]
                exact List.mem_filter.mpr ⟨hp3.mem_iff.mpr (List.mem_map.mpr ⟨e, he, rfl⟩), by rw [esp]; rfl⟩
              have gone : (dataOf st W).filter (fun e => decide (e.1 ∉ sel)) = [] := by
                rw [List.filter_eq_nil_iff]
                intro e he z
                exact of_decide_eq_true z (sall e he)
              have dx : dataOf st5 x = [] := by
                rw [d5]
                by_cases hv : x = W
                · rw [if_pos hv, gone]
                · rw [if_neg hv]
                  cases hz : dataOf st x with
                  | nil => rfl
                  | cons a r => exact absurd (hWx (by rw [hz]; exact List.cons_ne_nil _ _)).symm hv
              rw [dx]
              exact ⟨List.not_mem_nil, by decide, fun _ => gone⟩
          have hp5 := place_after S4.bx.nd l.S.bx.nd l.S.ne hWd h12 d5 cs.2.1 cs.2.2
          have hh5 : hasB st5 (.str x) (.int m) = false := by
            rw [hasB_keys, decide_eq_false cs.1, Bool.and_false]
          have h100 : st5.length ≤ 100 := by
            have sub : ∀ y ∈ st5.map (·.ware), y ∈ st.map (·.ware) := fun y hy => by
              obtain ⟨s, hs, rfl⟩ := List.mem_map.mp hy
              have z := data_ne l.S.bx.nd hs (l.S.ne s hs)
              rw [d5] at z
              have z2 : dataOf st s.ware ≠ [] := by
                by_cases hv : s.ware = W
                · rw [hv]; exact hWd
                · rw [if_neg hv] at z; exact z
              obtain ⟨s2, hs2⟩ := look_cons z2
              obtain ⟨g1, g2⟩ := look_mem hs2
              exact List.mem_map.mpr ⟨s2, g1, g2⟩
            have := nodup_len l.S.bx.nd S4.bx.nd sub
            rw [List.length_map, List.length_map] at this
            omega
          refine ref_nil rfl rfl ⟨p, dd, _, rfl, hdd5, .inl ⟨_, _, _, rfl, put_nil l.S hx hm he5 t5 h100 hh5 hp5 fun H6 st6 S6 d6 k6 f6 => ⟨k6.tab, fun H7 k7 => ⟨_, rfl, iteT ?_⟩⟩⟩⟩
          have fd5 : ∀ f ∈ foot D st5, ∃ kvs, H5 f = some (.dK kvs) := l.S.bx.foot_dict
          have hdd7 := k7.sqt (k6.sqt0 fd5 hdd5)
          have kk7 : Kx T (foot D st) H4 H7 := (l.kx.step (fun f hf => .inl (l.ft f hf)) k6).trans (.of k7)
          have hin6 : hasB st6 (.str x) (.int m) = true := by
            rw [hasB_keys, hx.1, hm, d6, if_pos rfl, List.map_append]
            exact decide_eq_true (List.mem_append_right _ (List.mem_singleton.mpr rfl))
          refine needs_read (S6.keptP k7) hx hin6 k7.tab rfl (fun Q z => ixt_read (j := 1) hdd7 rfl rfl rfl z) (fun Q z => ixt_read (j := 2) hdd7 rfl rfl rfl z) fun xs ds l8 H8 hf k8 nl8 hl8 hxs => ?_
          rw [d6, if_pos rfl] at hf
          have eds := findD_last cs.1 hf
          subst eds
          cases hxs
          refine ⟨(by show (0 : Nat) ≤ sizeLine; decide), fun l9 n9 => ?_⟩
          have k9 := Kp.new (o := HO.lst []) k8.tab n9
          exact ⟨.list [], .list [], dp_lst (k9.lst hl8) .nil, dp_lst upd_same .nil, rfl, rfl, fin4 _ (kk7.trans (.of (k8.trans k9)))⟩
  · -- the make that was not there is put
    obtain ⟨G, h12, hgw⟩ := G0 (List.cons_ne_nil _ _)
    have goOn : ∀ H1, Kp T H H1 → tC (.bl true) [] H1 Q := fun H1 k1 => q H1 (fun z => by cases z) (.of k1)
    refine eq_litT (ls := [3]) rfl hu ht (by decide) (fun _ _ z => z) (fun H1 k1 => ?_)
    refine iteF (eq_litT (ls := [4]) rfl (k1.lst hu) k1.tab (by decide) (fun _ _ z => z) (fun H2 k2 => ?_))
    have k12 := k1.trans k2
    refine iteF (eq_litT (ls := [5]) rfl (k12.lst hu) k12.tab (by decide) (fun _ _ z => z) (fun H3 k3 => ?_))
    have k13 := k12.trans k3
    have hdd3 := k13.sqt hdd
    have S3 := S.keptP k13
    have hv13 := k13.dp _ _ hv1
    have hv23 := k13.dp _ _ hv2
    have t3 := k13.tab
    have fin3 : ∀ H', Kx T (foot D st) H3 H' → Q (.bl true) H' := fun H' k => q H' (fun z => by cases z) ((Kx.of k13).trans k)
    refine iteT (ixt_read (j := 1) hdd3 rfl rfl rfl ⟨_, .ty "str", _, _, _, rfl, .ty "str", tyx_of hv13, kit_str K d1, _, rfl, ?_⟩)
    cases es : isStrD d1 with
    | false => exact iteF (fin3 _ (.refl t3))
    | true =>
    obtain ⟨x, rfl⟩ := isStrD_ex es
    cases hv13
    refine iteT (ixt_read (j := 1) hdd3 rfl rfl rfl (wares_read S3 (by omega) t3 rfl fun ws l4 H4 hp4 _ k4 nl4 hl4 => ?_))
    refine ⟨l4, _, rfl, .inl (.inl (.inl hl4)), rfl, flat_strs ws, _, rfl, ?_⟩
    rw [inV_str]
    refine iteD (fun hin => ?_) (fun _ => fin3 _ (.of k4))
    have hx : GoodN x := by
      obtain ⟨s, hs, e⟩ := List.mem_map.mp (hp4.mem_iff.mp hin)
      rw [← e]
      exact hgw s hs
    obtain ⟨s, hs⟩ : ∃ s, look st x = some s := by
      obtain ⟨s, hs, e⟩ := List.mem_map.mp (hp4.mem_iff.mp hin)
      exact ⟨s, look_of S.bx.nd hs e⟩
    have hdd4 := k4.sqt hdd3
    have S4 := S3.keptP k4
    have hv24 := k4.dp _ _ hv23
    have t4 := k4.tab
    have fin4 : ∀ H', Kx T (foot D st) H4 H' → Q (.bl true) H' := fun H' k => fin3 H' ((Kx.of k4).trans k)
    refine ixt_read (j := 2) hdd4 rfl rfl rfl ⟨_, .ty "int", _, _, _, rfl, .ty "int", tyx_of hv24, kit_int K d2, _, rfl, ?_⟩
    cases ei : isIntD d2 with
    | false => exact iteF (fin4 _ (.refl t4))
    | true =>
    refine iteT (ixt_read (j := 2) hdd4 rfl rfl rfl ⟨_, .ty "bool", _, _, _, rfl, .ty "bool", tyx_of hv24, kit_bool K d2, _, rfl, ?_⟩)
    cases eb : isBoolD d2 with
    | true => exact iteF (fin4 _ (.refl t4))
    | false =>
    obtain ⟨i, rfl⟩ : ∃ i, d2 = .int i := by
      cases d2 <;> first | exact ⟨_, rfl⟩ | (cases ei; done) | (cases eb; done)
    cases hv24
    refine iteT (ixt_read (j := 2) hdd4 rfl rfl rfl ⟨_, _, rfl, rfl, _, rfl, ?_⟩)
    refine iteD (fun h0 => ?_) (fun _ => ⟨_, rfl, iteF (fin4 _ (.refl t4))⟩)
    refine ⟨_, _, rfl, rfl, _, rfl, iteD (fun h1 => ?_) (fun _ => fin4 _ (.refl t4))⟩
    have hm : makeB (.int i) = true := by
      show (decide (1 ≤ i) && decide (i ≤ 999)) = true
      rw [decide_eq_true (show 1 ≤ i by omega), decide_eq_true (show i ≤ 999 by omega)] <;> rfl
    refine makes_read S4 (by have := G.len x; omega) hx t4 rfl (fun Q z => ixt_read (j := 1) hdd4 rfl rfl rfl z) fun ys l5 H5 hp5 _ k5 nl5 hl5 => ?_
    refine ⟨l5, _, rfl, .inl (.inl (.inl hl5)), _, _, rfl, rfl, _, rfl, iteD (fun h8 => ?_) (fun _ => fin4 _ (.of k5))⟩
    rw [List.length_map, hp5.length_eq, List.length_map] at h8
    have S5 := S4.keptP k5
    have hdd5 := k5.sqt hdd4
    have t5 := k5.tab
    refine put_read S5 hx hm t5 (by omega) hh (by
      unfold placeB
      rw [hs]
      have := look_data hs
      rw [this, List.length_map] at h8
      exact decide_eq_true (by omega)) rfl (fun Q z => ixt_read (j := 1) hdd5 rfl rfl rfl z) (fun Q z => ixt_read (j := 2) hdd5 rfl rfl rfl z) fun _ H7 st7 _ S7 d7 k7 f7 => ?_
    have fd5 : ∀ f ∈ foot D st, ∃ kvs, H5 f = some (.dK kvs) := S5.bx.foot_dict
    have hdd7 := k7.sqt0 fd5 hdd5
    have kk7 : Kx T (foot D st) H4 H7 := (Kx.of k5).trans k7
    have hin7 : hasB st7 (.str x) (.int i) = true := by
      rw [hasB_keys, hx.1, hm, d7, if_pos rfl, List.map_append]
      exact decide_eq_true (List.mem_append_right _ (List.mem_singleton.mpr rfl))
    have fin7 : ∀ H', Kx T (foot D st7) H7 H' → ∀ H'', Kp T H' H'' → Q (.bl true) H'' := fun H' k H'' k2 =>
      fin4 _ ((Kx.step0 kk7 (fun f hf => by
        rcases f7 f hf with z | z
        · exact .inl z
        · exact .inr (k5.free z)) k).trans (.of k2))
    refine ref_nil rfl rfl ⟨p, dd, _, rfl, hdd7, ?_⟩
    rcases hk with rfl | rfl
    · exact .inr (.inl ⟨_, _, rfl, [], p, D, st7, _, _, .str x, .int i, rfl, S7, .str x, hx.2, .int i, k7.tab, fun z => (by rw [hin7] at z; cases z), fun x' m' _ _ _ H' S' k' => ⟨k'.tab, fin7 H' k'⟩⟩)
    · exact .inr (.inr (.inl ⟨_, _, rfl, [], p, D, st7, _, _, .str x, .int i, rfl, S7, .str x, hx.2, .int i, k7.tab, fun z => (by rw [hin7] at z; cases z), fun x' m' _ _ _ xs ds l H' _ k' _ _ _ => ⟨k'.tab, fin7 H' (.of k')⟩⟩))
end
end Pk

set_option Elab.async false
set_option linter.all false
set_option maxRecDepth 100000
set_option maxHeartbeats 4000000
namespace Pk
open PySem PySem.Spec PyProof.Rows L2
/-! ### a filled shop -/
theorem fdE_good {names : List Str} {i t mk : Nat} (hgd : ∀ y ∈ names, GoodN y) (h0 : 0 < names.length) (ht : t < mk) (hmk : mk ≤ 8) : makeB (.int (fdE names i t).1) = true ∧ (∀ d ∈ (fdE names i t).2, ND d) := by
  have hn : nameAt names ((i + 1) % names.length) ∈ names := by
    have z := Nat.mod_lt (i + 1) h0
    rw [nameAt_eq z]
    exact List.getElem_mem z
  constructor
  · show (decide (1 ≤ 1 + 3 * (t : Int)) && decide (1 + 3 * (t : Int) ≤ 999)) = true
    rw [decide_eq_true (show 1 ≤ 1 + 3 * (t : Int) by omega), decide_eq_true (show 1 + 3 * (t : Int) ≤ 999 by omega)] <;> rfl
  · intro d hd
    rw [List.mem_singleton.mp hd]
    refine ⟨_, _, _, rfl, hgd _ hn, rfl, ?_, by omega⟩
    show (decide (1 ≤ 1 + (t : Int)) && decide (1 + (t : Int) ≤ 999)) = true
    rw [decide_eq_true (show 1 ≤ 1 + (t : Int) by omega), decide_eq_true (show 1 + (t : Int) ≤ 999 by omega)] <;> rfl
theorem fdL_key {names : List Str} {i j : Nat} {m : Int} : m ∈ (fdL names i j).map (·.1) ↔ ∃ t : Nat, t < j ∧ m = 1 + 3 * (t : Int) := by
  unfold fdL
  rw [List.map_map]
  constructor
  · intro h
    obtain ⟨t, ht, rfl⟩ := List.mem_map.mp h
    exact ⟨t, List.mem_range.mp ht, rfl⟩
  · rintro ⟨t, ht, rfl⟩
    exact List.mem_map.mpr ⟨t, List.mem_range.mpr ht, rfl⟩
structure FillF (st : List Shelf) (names : List Str) (mk mn : Nat) : Prop where
  G : GoodD st
  l12 : st.length ≤ 12
  lmn : st.length ≤ mn
  lge : mn ≤ st.length
  gw : ∀ s ∈ st, GoodN s.ware
  at_ : ∀ i, i < mn → dataOf st (nameAt names i) = fdL names i mk
  no : dataOf st (nameAt names 12) = []
theorem Filled.facts {K : PySem.W.Frag} {C p D : Addr} {H : Hp} {st : List Shelf} {names : List Str} {mk mn : Nat} (F : Filled K C H p D st names mk mn 0) (nn : names.Nodup) (h13 : 13 ≤ names.length) (hgd : ∀ y ∈ names, GoodN y) (hmn : mn ≤ 12) (hmk1 : 1 ≤ mk) (hmk : mk ≤ 8) : FillF st names mk mn := by
  have hat : ∀ i, i < mn → dataOf st (nameAt names i) = fdL names i mk := fun i hi => by
    have hil : i < names.length := by omega
    rw [F.dt, nameAt_eq hil]
    unfold FillD
    rw [idx_at hil nn, if_pos hi]
  have hno : ∀ v, ¬ names.idxOf v < mn → dataOf st v = [] := fun v hv => by
    rw [F.dt]
    unfold FillD
    rw [if_neg hv]
    by_cases h : names.idxOf v = mn
    · rw [if_pos h] <;> rfl
    · rw [if_neg h]
  have hat2 : ∀ v, names.idxOf v < mn → dataOf st v = fdL names (names.idxOf v) mk := fun v hv => by
    rw [F.dt]
    unfold FillD
    rw [if_pos hv]
  have hl := fill_len nn F.S.bx.nd F.S.ne F.dt (by omega) (fun z => absurd z (Nat.lt_irrefl _))
  rw [if_neg (Nat.lt_irrefl _)] at hl
  refine ⟨⟨fun v => ?_, fun v e he => ?_⟩, by omega, by omega, ?_, fun s hs => ?_, hat, ?_⟩
  · by_cases h : names.idxOf v < mn
    · rw [hat2 v h, fdL_len]
      exact hmk
    · rw [hno v h]
      exact Nat.zero_le _
  · by_cases h : names.idxOf v < mn
    · rw [hat2 v h] at he
      unfold fdL at he
      obtain ⟨t, ht, rfl⟩ := List.mem_map.mp he
      exact fdE_good hgd (by omega) (List.mem_range.mp ht) hmk
    · rw [hno v h] at he
      cases he
  · have sub : ∀ y ∈ names.take mn, y ∈ st.map (·.ware) := fun y hy => by
      obtain ⟨i, hi⟩ := List.mem_iff_getElem?.mp hy
      obtain ⟨hil, ey⟩ := List.getElem?_eq_some_iff.mp hi
      rw [List.length_take] at hil
      have e1 : y = nameAt names i := by
        rw [nameAt_eq (by omega), ← ey, List.getElem_take]
      have z : dataOf st y ≠ [] := by
        rw [e1, hat i (by omega)]
        intro z
        have := congrArg List.length z
        rw [fdL_len] at this
        exact absurd this (by simp; omega)
      obtain ⟨s, hs⟩ := look_cons z
      obtain ⟨g1, g2⟩ := look_mem hs
      exact List.mem_map.mpr ⟨s, g1, g2⟩
    have z := nodup_len (List.Sublist.nodup (List.take_sublist _ _) nn) F.S.bx.nd sub
    rw [List.length_map, List.length_take] at z
    omega
  · have z := fill_mem F.S.bx.nd F.S.ne F.dt (by omega) (fun z => absurd z (Nat.lt_irrefl _)) s.ware (List.mem_map.mpr ⟨s, hs, rfl⟩)
    exact hgd _ (List.mem_of_mem_take z)
  · refine hno _ ?_
    rw [nameAt_eq (by omega), idx_at (by omega) nn]
    omega
section
variable {K : PySem.W.Frag} {mg : Str → Option Value} {C T BW BM BN TW FU NM p D : Addr} {H : Hp} {st : List Shelf} {Q : VK} {E : XK}
/-! ### puts that are refused -/
theorem put_e0 {wv mv nv : V} {wd md nd : PyData} (S : ShopAt K C [] H p D st) (hw : Dq K H wv wd) (ho : okS wd = true) (hm : Dq K H mv md) (hn : Dq K H nv nd) (hl : okL nd = true) (ht : GxR.TabG H T) (h100 : st.length ≤ 100) (h : wareB wd = false)
    (e : ∀ H', Kp T H H' → E (.ref BW) none H') : spPut K C T BW BM BN TW FU [.ref p, wv, mv, nv] H Q E :=
  ⟨[], p, D, st, _, _, _, wd, md, nd, rfl, S, hw, ho, hm, hn, hl, ht, fun a ha => (by cases ha), h100, fun _ => e, fun z => (by rw [h] at z; cases z), fun _ _ z => (by rw [h] at z; cases z), fun _ _ z => (by rw [h] at z; cases z), fun _ _ z => (by rw [h] at z; cases z), fun _ _ _ _ z => (by rw [h] at z; cases z)⟩
theorem put_e1 {wv mv nv : V} {wd md nd : PyData} (S : ShopAt K C [] H p D st) (hw : Dq K H wv wd) (ho : okS wd = true) (hm : Dq K H mv md) (hn : Dq K H nv nd) (hl : okL nd = true) (ht : GxR.TabG H T) (h100 : st.length ≤ 100) (hwb : wareB wd = true) (h : makeB md = false)
    (e : ∀ H', Kp T H H' → E (.ref BM) none H') : spPut K C T BW BM BN TW FU [.ref p, wv, mv, nv] H Q E :=
  ⟨[], p, D, st, _, _, _, wd, md, nd, rfl, S, hw, ho, hm, hn, hl, ht, fun a ha => (by cases ha), h100, fun z => (by rw [hwb] at z; cases z), fun _ _ => e, fun _ _ _ z => (by rw [h] at z; cases z), fun _ _ _ z => (by rw [h] at z; cases z), fun _ _ _ z => (by rw [h] at z; cases z), fun _ _ _ _ _ z => (by rw [h] at z; cases z)⟩
theorem put_e2 {x : Str} {mv nv : V} {md nd : PyData} (S : ShopAt K C [] H p D st) (hx : GoodN x) (hm : Dq K H mv md) (hn : Dq K H nv nd) (hl : okL nd = true) (ht : GxR.TabG H T) (h100 : st.length ≤ 100) (hmb : makeB md = true) (h : mayB x nd = false)
    (e : ∀ H', Kp T H H' → E (.ref BN) none H') : spPut K C T BW BM BN TW FU [.ref p, .str x, mv, nv] H Q E :=
  ⟨[], p, D, st, _, _, _, .str x, md, nd, rfl, S, .str x, hx.2, hm, hn, hl, ht, fun a ha => (by cases ha), h100, fun z => (by rw [hx.1] at z; cases z), fun _ z => (by rw [hmb] at z; cases z), fun _ _ _ _ _ => e, fun _ ex _ _ z => (by cases ex; rw [h] at z; cases z), fun _ ex _ _ z => (by cases ex; rw [h] at z; cases z), fun _ _ ex _ _ _ z => (by cases ex; rw [h] at z; cases z)⟩
theorem put_e3 {x : Str} {mv nv : V} {md nd : PyData} (S : ShopAt K C [] H p D st) (hx : GoodN x) (hm : Dq K H mv md) (hn : Dq K H nv nd) (hl : okL nd = true) (ht : GxR.TabG H T) (h100 : st.length ≤ 100) (hmb : makeB md = true) (hy : mayB x nd = true) (h : hasB st (.str x) md = true)
    (e : ∀ H', Kp T H H' → E (.ref TW) none H') : spPut K C T BW BM BN TW FU [.ref p, .str x, mv, nv] H Q E :=
  ⟨[], p, D, st, _, _, _, .str x, md, nd, rfl, S, .str x, hx.2, hm, hn, hl, ht, fun a ha => (by cases ha), h100, fun z => (by rw [hx.1] at z; cases z), fun _ z => (by rw [hmb] at z; cases z), fun _ ex _ _ z => (by cases ex; rw [hy] at z; cases z), fun _ _ _ _ _ _ => e, fun _ _ _ _ _ z => (by rw [h] at z; cases z), fun _ _ _ _ _ _ _ z => (by rw [h] at z; cases z)⟩
theorem put_e4 {x : Str} {mv nv : V} {md nd : PyData} (S : ShopAt K C [] H p D st) (hx : GoodN x) (hm : Dq K H mv md) (hn : Dq K H nv nd) (hl : okL nd = true) (ht : GxR.TabG H T) (h100 : st.length ≤ 100) (hmb : makeB md = true) (hy : mayB x nd = true) (hh : hasB st (.str x) md = false) (h : placeB st x = false)
    (e : ∀ H', Kp T H H' → E (.ref FU) none H') : spPut K C T BW BM BN TW FU [.ref p, .str x, mv, nv] H Q E :=
  ⟨[], p, D, st, _, _, _, .str x, md, nd, rfl, S, .str x, hx.2, hm, hn, hl, ht, fun a ha => (by cases ha), h100, fun z => (by rw [hx.1] at z; cases z), fun _ z => (by rw [hmb] at z; cases z), fun _ ex _ _ z => (by cases ex; rw [hy] at z; cases z), fun _ _ _ _ _ z => (by rw [hh] at z; cases z), fun _ _ _ _ _ _ _ => e, fun _ _ ex _ _ _ _ _ z => (by cases ex; rw [h] at z; cases z)⟩
theorem take_e {wv mv : V} {wd md : PyData} (S : ShopAt K C [] H p D st) (hw : Dq K H wv wd) (ho : okS wd = true) (hm : Dq K H mv md) (ht : GxR.TabG H T) (h : hasB st wd md = false) (e : ∀ H', Kp T H H' → E (.ref NM) none H') : spTake K C T NM [.ref p, wv, mv] H Q E :=
  ⟨[], p, D, st, _, _, wd, md, rfl, S, hw, ho, hm, ht, fun _ => e, fun _ _ _ _ z => (by rw [h] at z; cases z)⟩
theorem needs_e {wv mv : V} {wd md : PyData} (S : ShopAt K C [] H p D st) (hw : Dq K H wv wd) (ho : okS wd = true) (hm : Dq K H mv md) (ht : GxR.TabG H T) (h : hasB st wd md = false) (e : ∀ H', Kp T H H' → E (.ref NM) none H') : spNeeds K C T NM [.ref p, wv, mv] H Q E :=
  ⟨[], p, D, st, _, _, wd, md, rfl, S, hw, ho, hm, ht, fun _ => e, fun _ _ _ _ z => (by rw [h] at z; cases z)⟩
theorem makes_e {wv : V} {wd : PyData} (S : ShopAt K C [] H p D st) (hw : Dq K H wv wd) (ho : okS wd = true) (ht : GxR.TabG H T) (h : wareB wd = false) (e : ∀ H', Kp T H H' → E (.ref BW) none H') : spMakes K C T BW [.ref p, wv] H Q E :=
  ⟨[], p, D, st, _, wd, rfl, S, hw, ho, ht, fun _ => e, fun _ _ z => (by rw [h] at z; cases z)⟩
theorem hasB_ware {wd md : PyData} (h : wareB wd = false) : hasB st wd md = false := by
  unfold hasB
  rw [h] <;> rfl
theorem hasB_make {wd md : PyData} (h : makeB md = false) : hasB st wd md = false := by
  unfold hasB
  rw [h, Bool.and_false] <;> rfl
end
end Pk

set_option Elab.async false
set_option linter.all false
set_option maxRecDepth 100000
set_option maxHeartbeats 4000000
namespace Pk
open PySem PySem.Spec PyProof.Rows L2
section
variable {K : PySem.W.Frag} {mg : Str → Option Value} {C T BW BM BN TW FU NM p D : Addr} {H : Hp} {st : List Shelf}
/-- what becomes of a deed: ks are the numbers of its refusal -/
def AskQ (K : PySem.W.Frag) (C T : Addr) (H : Hp) (p D : Addr) (st : List Shelf) (xs : List V) (ks : List Int) : VK := fun _ H' => ks = [] ∧ ∃ st' y e, xs = [.str "put", .str y, .int 2, .ref e] ∧ GoodN y ∧ ShopAt K C [] H' p D st' ∧ 2 ∉ (dataOf st y).map (·.1) ∧ dataOf st' y = dataOf st y ++ [(2, [])] ∧ Kx T (foot D st) H H' ∧ ∀ f ∈ foot D st', f ∈ foot D st ∨ H f = none
def AskE (T : Addr) (H : Hp) (Ls : List Addr) (ks : List Int) : XK := fun cls d H' => ∃ (k : Nat) (D' : Addr), cls = .ref D' ∧ d = none ∧ Ls[k]? = some D' ∧ ks = [(k : Int)] ∧ Kp T H H'
theorem DueV.kept {H' : Hp} {x fr : Str} {vw vm vn vo : V} {dw dm dn dq : PyData} (h : DueV K H x fr vw vm vn vo dw dm dn dq) (k : Kp T H H') : DueV K H' x fr vw vm vn vo dw dm dn dq := ⟨k.dp _ _ h.w, h.bw, k.dp _ _ h.m, h.bm, k.dq _ _ h.n, h.bn, k.dq _ _ h.o, h.bo⟩
theorem DueC.kept {H' : Hp} {mn mk : Nat} {x fr : Str} {vw vm vn vo : V} {xs due : List V} (h : DueC H mn mk x fr vw vm vn vo xs due) (k : Kp T H H') : DueC H' mn mk x fr vw vm vn vo xs due := by
  rcases h with ⟨e, he, c⟩ | c
  · exact .inl ⟨e, k.lst he, c⟩
  · exact .inr c
theorem GdC.kept {H' : Hp} {xs : List V} {ks : List Int} (h : GdC K st H xs ks) (k : Kp T H H') : GdC K st H' xs ks := by
  rcases h with h | ⟨x, m, e, he, c⟩ | ⟨y, v1, v2, d1, d2, h1, h2, h3, h4, h5, h6, h7⟩
  · exact .inl h
  · exact .inr (.inl ⟨x, m, e, k.lst he, c⟩)
  · exact .inr (.inr ⟨y, v1, v2, d1, d2, h1, h2, h3, k.dp _ _ h4, h5, k.dp _ _ h6, h7⟩)
theorem due_ask {names : List Str} {mk mn i : Nat} {d : Addr} {vw vm vn vo : V} {dw dm dn dq : PyData} {xs due : List V} (F : Filled K C H p D st names mk mn 0) (nn : names.Nodup) (h13 : 13 ≤ names.length) (hgd : ∀ y ∈ names, GoodN y) (hmn1 : 1 ≤ mn) (hmn : mn ≤ 12) (hmk1 : 1 ≤ mk) (hmk : mk ≤ 8) (hi : i < mn) (ht : GxR.TabG H T)
    (V0 : DueV K H (nameAt names i) (nameAt names 12) vw vm vn vo dw dm dn dq) (c : DueC H mn mk (nameAt names i) (nameAt names 12) vw vm vn vo xs due) (hd : H d = some (.tup xs)) :
    ∃ ks : List Int, due = ks.map V.int ∧ GdC K st H xs ks ∧ spAsk K C T BW BM BN TW FU NM [.ref p, .ref d] H (AskQ K C T H p D st xs ks) (AskE T H [BW, BM, BN, TW, FU, NM] ks) := by
  have FF := F.facts nn h13 hgd hmn hmk1 hmk
  have S := F.S
  have hdT : SqT K H d xs := .inl (.inl hd)
  have gx : GoodN (nameAt names i) := hgd _ (by rw [nameAt_eq (by omega)]; exact List.getElem_mem _)
  have gf : GoodN (nameAt names 12) := hgd _ (by rw [nameAt_eq (by omega)]; exact List.getElem_mem _)
  have dx := FF.at_ i hi
  have df := FF.no
  have h100 : st.length ≤ 100 := by have := FF.l12; omega
  have hst : st ≠ [] := fun z => by have := FF.lge; rw [z] at this; simp at this; omega
  generalize nameAt names i = x at V0 c gx dx
  generalize nameAt names 12 = fr at V0 c gf df
  have m2 : makeB (.int 2) = true := rfl
  have n2 : (2 : Int) ∉ (dataOf st x).map (·.1) := by
    rw [dx, fdL_key]
    rintro ⟨t, _, e⟩
    omega
  have nf : ∀ m : Int, m ∉ (dataOf st fr).map (·.1) := fun m => by rw [df]; exact List.not_mem_nil
  have hb2 : hasB st (.str x) (.int 2) = false := by rw [hasB_keys, decide_eq_false n2, Bool.and_false]
  have hbf : ∀ m, hasB st (.str fr) (.int m) = false := fun m => by rw [hasB_keys, decide_eq_false (nf m), Bool.and_false]
  have gt : ∀ t : Nat, t < mk → makeB (.int (1 + 3 * (t : Int))) = true := fun t h => by
    show (decide (1 ≤ 1 + 3 * (t : Int)) && decide (1 + 3 * (t : Int) ≤ 999)) = true
    rw [decide_eq_true (show 1 ≤ 1 + 3 * (t : Int) by omega), decide_eq_true (show 1 + 3 * (t : Int) ≤ 999 by omega)] <;> rfl
  have kt : ∀ t : Nat, t < mk → (1 + 3 * (t : Int)) ∈ (dataOf st x).map (·.1) := fun t h => by
    rw [dx, fdL_key]
    exact ⟨t, h, rfl⟩
  have hbt : ∀ t : Nat, t < mk → hasB st (.str x) (.int (1 + 3 * (t : Int))) = true := fun t h => by rw [hasB_keys, gx.1, gt t h, decide_eq_true (kt t h)] <;> rfl
  have lf : look st fr = none := look_nil S.ne df
  have dlen : (dataOf st x).length = mk := by rw [dx, fdL_len]
  obtain ⟨sx, hsx⟩ : ∃ s, look st x = some s := look_cons fun z => by rw [z] at dlen; simp at dlen; omega
  have pf : placeB st fr = decide (mn < 12) := by
    unfold placeB
    rw [lf]
    have h1 := FF.lmn
    have h2 := FF.lge
    have e : st.length = mn := by omega
    show decide (st.length < 12) = _
    rw [e]
  have px : placeB st x = decide (mk < 8) := by
    unfold placeB
    rw [hsx]
    have e := look_data hsx
    rw [e, List.length_map] at dlen
    show decide (sx.ents.length < 8) = _
    rw [dlen]
  have E : ∀ (k : Nat) (D' : Addr), [BW, BM, BN, TW, FU, NM][k]? = some D' → ∀ H', Kp T H H' → AskE T H [BW, BM, BN, TW, FU, NM] [(k : Int)] (.ref D') none H' := fun k D' e H' k' => ⟨k, D', rfl, rfl, e, rfl, k'⟩
  have g0 : ∀ ks : List Int, ks ≠ [3] → ks ≠ [4] → ks ≠ [5] → GdC K st H xs ks := fun ks a b c => .inl ⟨a, b, c⟩
  have ld : okL (.list []) = true := okL_nil
  have vmq := Dq.of V0.m
  have vwq := Dq.of V0.w
  have hbvm : ∀ y, hasB st (.str y) dm = false := fun y => hasB_make V0.bm
  rcases c with ⟨e, he, c⟩ | c
  · have heq : Dq K H (.ref e) (.list []) := .lst (.inl (.inl he)) .nil
    rcases c with ⟨rfl, rfl⟩ | ⟨t, htm, rfl, rfl⟩ | ⟨rfl, rfl⟩ | ⟨rfl, rfl⟩
    · exact ⟨[0], rfl, g0 _ (by decide) (by decide) (by decide), p, d, _, rfl, hdT, .inl ⟨_, _, _, rfl, put_e0 S vwq V0.bw.2 vmq heq ld ht h100 V0.bw.1 (E 0 BW rfl)⟩⟩
    · exact ⟨[3], rfl, .inr (.inl ⟨x, _, e, he, rfl, gx, gt t htm, .inl ⟨rfl, kt t htm⟩⟩), p, d, _, rfl, hdT, .inl ⟨_, _, _, rfl, put_e3 S gx (.int _) heq ld ht h100 (gt t htm) rfl (hbt t htm) (E 3 TW rfl)⟩⟩
    · rw [rep4_eq]
      by_cases h : mn = 12
      · rw [decide_eq_true h]
        exact ⟨[4], rfl, .inr (.inl ⟨fr, _, e, he, rfl, gf, m2, .inr ⟨rfl, nf 2, fun _ => hst⟩⟩), p, d, _, rfl, hdT, .inl ⟨_, _, _, rfl, put_e4 S gf (.int _) heq ld ht h100 m2 rfl (hbf 2) (by rw [pf]; exact decide_eq_false (by omega)) (E 4 FU rfl)⟩⟩
      · rw [decide_eq_false h]
        refine ⟨[], rfl, g0 _ (by decide) (by decide) (by decide), p, d, _, rfl, hdT, .inl ⟨_, _, _, rfl, put_nil S gf m2 he ht h100 (hbf 2) (by rw [pf]; exact decide_eq_true (by omega)) fun H' st' S' d' k' f' => ⟨rfl, st', fr, e, rfl, gf, S', nf 2, ?_, k', f'⟩⟩⟩
        rw [d', if_pos rfl]
    · rw [rep4_eq]
      by_cases h : mk = 8
      · rw [decide_eq_true h]
        exact ⟨[4], rfl, .inr (.inl ⟨x, _, e, he, rfl, gx, m2, .inr ⟨rfl, n2, fun _ => hst⟩⟩), p, d, _, rfl, hdT, .inl ⟨_, _, _, rfl, put_e4 S gx (.int _) heq ld ht h100 m2 rfl hb2 (by rw [px]; exact decide_eq_false (by omega)) (E 4 FU rfl)⟩⟩
      · rw [decide_eq_false h]
        refine ⟨[], rfl, g0 _ (by decide) (by decide) (by decide), p, d, _, rfl, hdT, .inl ⟨_, _, _, rfl, put_nil S gx m2 he ht h100 hb2 (by rw [px]; exact decide_eq_true (by omega)) fun H' st' S' d' k' f' => ⟨rfl, st', x, e, rfl, gx, S', n2, ?_, k', f'⟩⟩⟩
        rw [d', if_pos rfl]
  · rcases c with ⟨rfl, rfl⟩ | ⟨t, htm, rfl, rfl⟩ | ⟨rfl, rfl⟩ | ⟨rfl, rfl⟩ | ⟨rfl, rfl⟩ | ⟨rfl, rfl⟩ | ⟨rfl, rfl⟩ | ⟨rfl, rfl⟩ | ⟨rfl, rfl⟩ | ⟨rfl, rfl⟩ | ⟨rfl, rfl⟩ | ⟨rfl, rfl⟩
    · exact ⟨[1], rfl, g0 _ (by decide) (by decide) (by decide), p, d, _, rfl, hdT, .inl ⟨_, _, _, rfl, put_e1 S (.str x) gx.2 vmq V0.n V0.bn.2 ht h100 gx.1 V0.bm (E 1 BM rfl)⟩⟩
    · exact ⟨[2], rfl, g0 _ (by decide) (by decide) (by decide), p, d, _, rfl, hdT, .inl ⟨_, _, _, rfl, put_e2 S gx (.int _) V0.n V0.bn.2 ht h100 (gt t htm) V0.bn.1 (E 2 BN rfl)⟩⟩
    · exact ⟨[5], rfl, .inr (.inr ⟨_, _, _, .str x, .int 2, .inl rfl, rfl, rfl, .str x, gx.2, .int 2, hb2⟩), p, d, _, rfl, hdT, .inr (.inl ⟨_, _, rfl, take_e S (.str x) gx.2 (.int 2) ht hb2 (E 5 NM rfl)⟩)⟩
    · exact ⟨[5], rfl, .inr (.inr ⟨_, _, _, dw, .int 1, .inl rfl, rfl, rfl, V0.w, V0.bw.2, .int 1, hasB_ware V0.bw.1⟩), p, d, _, rfl, hdT, .inr (.inl ⟨_, _, rfl, take_e S vwq V0.bw.2 (.int 1) ht (hasB_ware V0.bw.1) (E 5 NM rfl)⟩)⟩
    · exact ⟨[5], rfl, .inr (.inr ⟨_, _, _, .str x, dm, .inl rfl, rfl, rfl, .str x, gx.2, V0.m, hbvm x⟩), p, d, _, rfl, hdT, .inr (.inl ⟨_, _, rfl, take_e S (.str x) gx.2 vmq ht (hbvm x) (E 5 NM rfl)⟩)⟩
    · have hz : hasB st (.str x) (.int (3 * (mk : Int) + 1)) = false := by
        rw [hasB_keys, decide_eq_false, Bool.and_false]
        rw [dx, fdL_key]
        rintro ⟨t, h1, h2⟩
        omega
      exact ⟨[5], rfl, .inr (.inr ⟨_, _, _, .str x, .int _, .inr rfl, rfl, rfl, .str x, gx.2, .int _, hz⟩), p, d, _, rfl, hdT, .inr (.inr (.inl ⟨_, _, rfl, needs_e S (.str x) gx.2 (.int _) ht hz (E 5 NM rfl)⟩))⟩
    · exact ⟨[5], rfl, .inr (.inr ⟨_, _, _, dw, dm, .inr rfl, rfl, rfl, V0.w, V0.bw.2, V0.m, hasB_ware V0.bw.1⟩), p, d, _, rfl, hdT, .inr (.inr (.inl ⟨_, _, rfl, needs_e S vwq V0.bw.2 vmq ht (hasB_ware V0.bw.1) (E 5 NM rfl)⟩))⟩
    · exact ⟨[0], rfl, g0 _ (by decide) (by decide) (by decide), p, d, _, rfl, hdT, .inr (.inr (.inr ⟨_, rfl, makes_e S vwq V0.bw.2 ht V0.bw.1 (E 0 BW rfl)⟩))⟩
    · exact ⟨[5], rfl, .inr (.inr ⟨_, _, _, .str fr, .int 1, .inr rfl, rfl, rfl, .str fr, gf.2, .int 1, hbf 1⟩), p, d, _, rfl, hdT, .inr (.inr (.inl ⟨_, _, rfl, needs_e S (.str fr) gf.2 (.int 1) ht (hbf 1) (E 5 NM rfl)⟩))⟩
    · exact ⟨[0], rfl, g0 _ (by decide) (by decide) (by decide), p, d, _, rfl, hdT, .inl ⟨_, _, _, rfl, put_e0 S vwq V0.bw.2 (.int 1) V0.n V0.bn.2 ht h100 V0.bw.1 (E 0 BW rfl)⟩⟩
    · exact ⟨[1], rfl, g0 _ (by decide) (by decide) (by decide), p, d, _, rfl, hdT, .inl ⟨_, _, _, rfl, put_e1 S (.str fr) gf.2 vmq V0.o V0.bo.2 ht h100 gf.1 V0.bm (E 1 BM rfl)⟩⟩
    · exact ⟨[2], rfl, g0 _ (by decide) (by decide) (by decide), p, d, _, rfl, hdT, .inl ⟨_, _, _, rfl, put_e2 S gf (.int 2) V0.o V0.bo.2 ht h100 m2 V0.bo.1 (E 2 BN rfl)⟩⟩
/-- the heap and the shop behind a deed with the refusal ks -/
structure Aft (K : PySem.W.Frag) (C T : Addr) (H7 : Hp) (p D : Addr) (st : List Shelf) (xs : List V) (ks : List Int) (H : Hp) : Prop where
  kx : Kx T (foot D st) H7 H
  kp : ks ≠ [] → Kp T H7 H
  sh : ks = [] → ∃ st' y e, xs = [.str "put", .str y, .int 2, .ref e] ∧ GoodN y ∧ ShopAt K C [] H p D st' ∧ 2 ∉ (dataOf st y).map (·.1) ∧ dataOf st' y = dataOf st y ++ [(2, [])] ∧ ∀ f ∈ foot D st', f ∈ foot D st ∨ H7 f = none
theorem Aft.kept {H7 H' : Hp} {xs : List V} {ks : List Int} (h : Aft K C T H7 p D st xs ks H) (k : Kp T H H') : Aft K C T H7 p D st xs ks H' :=
  ⟨h.kx.trans (.of k), fun z => (h.kp z).trans k, fun z => by
    obtain ⟨st', y, e, a, b, c, d⟩ := h.sh z
    exact ⟨st', y, e, a, b, c.keptP k, d⟩⟩
end
end Pk

set_option Elab.async false
set_option linter.all false
set_option maxRecDepth 100000
set_option maxHeartbeats 4000000
namespace Pk
open PySem PySem.Spec PyProof.Rows L2
abbrev sLaw : Stmt := topS 36
def lawN : List Str := ["_law_script", "_law_names_here", "_law_many", "_law_makes", "_law_shop", "_law_k", "_law_number", "_law_deed", "_law_due_here", "_law_before"]
theorem scLaw : FnScope lawN ["_law_script"] (defScope sLaw) := ⟨rfl, rfl, rfl, by decide +kernel, rfl, by decide +kernel, by decide +kernel⟩
def spLaw (K : PySem.W.Frag) (T : Addr) : Sp := fun vs H Q _ => ∃ (a : Addr) (ns : List Int), vs = [.ref a] ∧ SqL K H a (ns.map V.int) ∧ ns.length ≤ 63 ∧ GxR.TabG H T ∧ ∀ H', Q (.bl true) H'
section
variable {P : Program} {w : World} {K : PySem.W.Frag} {mg : Str → Option Value} {base : Heap}
theorem ok_law {f C T fX fA fF fD fO fR fG fN BW BM BN TW FU NM PE : Addr} {Cs : List Addr} {fd fdX fdA fdF fdD fdO fdR fdG fdN : FuncData} (F : Fun K "law" "law" sLaw f fd) (X : ShopT K mg C)
    (GX : FnOk P w K mg base CX0 1 fX fdX ["_law_script", "_law_k"] (spMixed K)) (kX : PySem.W.keepIn K (.ref fX) = true) (bX : Binds K fdX ["_law_script", "_law_k"] []) (gX : mg "_law_mixed" = some (.ref fX))
    (GA : FnOk P w K mg base CX0 2 fA fdA ["_law_script", "_law_many"] (spNames K T)) (kA : PySem.W.keepIn K (.ref fA) = true) (bA : Binds K fdA ["_law_script", "_law_many"] []) (gA : mg "_law_names" = some (.ref fA))
    (GF : FnOk P w K mg base CX0 6 fF fdF ["_law_names_here", "_law_many", "_law_makes"] (spFill K C T)) (kF : PySem.W.keepIn K (.ref fF) = true) (bF : Binds K fdF ["_law_names_here", "_law_many", "_law_makes"] []) (gF : mg "_law_filled" = some (.ref fF))
    (GD : FnOk P w K mg base CX0 3 fD fdD ["_law_names_here", "_law_number", "_law_many", "_law_makes"] (spDue K T)) (kD : PySem.W.keepIn K (.ref fD) = true) (bD : Binds K fdD ["_law_names_here", "_law_number", "_law_many", "_law_makes"] []) (gD : mg "_law_due" = some (.ref fD))
    (GO : FnOk P w K mg base CX0 5 fO fdO ["_law_shop", "_law_wares"] (spTold K C T)) (kO : PySem.W.keepIn K (.ref fO) = true) (bO : Binds K fdO ["_law_shop", "_law_wares"] []) (gO : mg "_law_told" = some (.ref fO))
    (GR : FnOk P w K mg base CX0 7 fR fdR ["_law_shop", "_law_deed"] (spRef K C T BW BM BN TW FU NM PE Cs)) (kR : PySem.W.keepIn K (.ref fR) = true) (bR : Binds K fdR ["_law_shop", "_law_deed"] []) (gR : mg "_law_refused" = some (.ref fR))
    (GG : FnOk P w K mg base CX0 8 fG fdG ["_law_shop", "_law_deed", "_law_due_here"] (spGd K C T)) (kG : PySem.W.keepIn K (.ref fG) = true) (bG : Binds K fdG ["_law_shop", "_law_deed", "_law_due_here"] []) (gG : mg "_law_made_good" = some (.ref fG))
    (GN : FnOk P w K mg base (L2N.CX P w) 4 fN fdN ["self", "ware", "make"] (spNeeds K C T NM)) (bN : Binds K fdN ["self", "ware", "make"] []) (mN : Meth K C "needs" fN) (mR : mg "range" = none) (hE : ∀ (k : Nat) (D : Addr), [BW, BM, BN, TW, FU, NM][k]? = some D → ErrT K PE Cs D k) :
    FnOk P w K mg base CX0 9 f fd ["_law_script"] (spLaw K T) := by
  refine F.ok scLaw (fun vs H Q E h => ?_) (fun cdv A0 outer s H vs Q E hr h => ?_)
  · obtain ⟨a, ns, rfl, _⟩ := h
    rfl
  · obtain ⟨a, ns, rfl, hS, hlen, ht, q⟩ := h
    have r1 : Room 1 _ := hr.mono (by decide)
    have r2 : Room 2 _ := hr.mono (by decide)
    have r3 : Room 3 _ := hr.mono (by decide)
    have r4 : Room 4 _ := hr.mono (by decide)
    have r5 : Room 5 _ := hr.mono (by decide)
    have r6 : Room 6 _ := hr.mono (by decide)
    have r7 : Room 7 _ := hr.mono (by decide)
    refine ⟨_, pss_cons (ps_set (i := 1) scLaw.nd rfl (.inl rfl) (pe_call GA r2 (by rfl) gA kA bA .nil pass0 (pa_cons (pv 0) (pa_cons pe_int pa_nil))))
      (pss_cons (ps_set (i := 2) scLaw.nd rfl (.inl rfl) (pe_ix ix_list (pe_lst (pa_cons pe_int (pa_cons pe_int (pa_cons (pe_op op_add pe_int (pe_op op_mod (pe_op op_fdiv (pe_call GX r1 (by rfl) gX kX bX .nil pass0 (pa_cons (pv 0) (pa_cons pe_int pa_nil))) pe_int) pe_int)) pa_nil)))) (pe_op op_mod (pe_call GX r1 (by rfl) gX kX bX .nil pass0 (pa_cons (pv 0) (pa_cons pe_int pa_nil))) pe_int) (fun _ _ => rfl)))
      (pss_cons (ps_set (i := 3) scLaw.nd rfl (.inl rfl) (pe_ix ix_list (pe_lst (pa_cons pe_int (pa_cons (pe_op op_add pe_int (pe_op op_mod (pe_op op_fdiv (pe_call GX r1 (by rfl) gX kX bX .nil pass0 (pa_cons (pv 0) (pa_cons pe_int pa_nil))) pe_int) pe_int)) pa_nil))) (pe_op op_mod (pe_call GX r1 (by rfl) gX kX bX .nil pass0 (pa_cons (pv 0) (pa_cons pe_int pa_nil))) pe_int) (fun _ _ => rfl)))
      (pss_cons (ps_set (i := 4) scLaw.nd rfl (.inl rfl) (pe_call GF r6 (by rfl) gF kF bF .nil pass0 (pa_cons (pv 1) (pa_cons (pv 2) (pa_cons (pv 3) pa_nil)))))
      (pss_cons (ps_for PassesOwn.never rfl (pi_range2 (by rfl) mR (pa_cons pe_int (pa_cons pe_int pa_nil))) (pg_name (i := 5) scLaw.nd rfl (.inl rfl))
        (pss_cons (ps_set (i := 6) scLaw.nd rfl (.inl rfl) (pe_call GX r1 (by rfl) gX kX bX .nil pass0 (pa_cons (pv 0) (pa_cons (pv 5) pa_nil))))
        (pss_cons (ps_asg (pe_call GD r3 (by rfl) gD kD bD .nil pass0 (pa_cons (pv 1) (pa_cons (pv 6) (pa_cons (pv 2) (pa_cons (pv 3) pa_nil))))) (pg_tup (by rfl) (pgs_cons (pg_name (i := 7) scLaw.nd rfl (.inl rfl)) (pgs_cons (pg_name (i := 8) scLaw.nd rfl (.inl rfl)) pgs_nil))))
        (pss_cons (ps_set (i := 9) scLaw.nd rfl (.inl rfl) (pe_call GO r5 (by rfl) gO kO bO .nil pass0 (pa_cons (pv 4) (pa_cons (pv 1) pa_nil))))
        (C8.pss_cut (ps_if (pt_cmpR (op_neD hr.units) (pe_call GR r7 (by rfl) gR kR bR .nil pass0 (pa_cons (pv 4) (pa_cons (pv 7) pa_nil))) (pv 8) (nomark _)) (pss_one (ps_ret pe_bl)) pss_nil)
        (C8.pss_cut (ps_if (PW.pt (pw_and (pt_cmpR (op_neD hr.units) (pv 8) (pe_lst pa_nil) (nomark _)) (pw_and1 (pt_cmpR (op_neD hr.units) (pe_call GO r5 (by rfl) gO kO bO .nil pass0 (pa_cons (pv 4) (pa_cons (pv 1) pa_nil))) (pv 9) (nomark _))))) (pss_one (ps_ret pe_bl)) pss_nil)
        (C8.pss_cut (ps_if (pt_not (pt_val (pe_call GG hr (by rfl) gG kG bG .nil pass0 (pa_cons (pv 4) (pa_cons (pv 7) (pa_cons (pv 8) pa_nil)))))) (pss_one (ps_ret pe_bl)) pss_nil)
        (C8.pss_cut (ps_if (PW.pt (pw_and (pt_cmpR (op_eqD hr.units) (pv 8) (pe_lst pa_nil) (nomark _)) (pw_and1 (pt_cmpR (op_neD hr.units) (pe_meth (E := E0) (pv 4) X.cl mN GN r4 bN .nil passN (pa_cons (pe_ix ix_tup (pv 7) pe_int (fun _ _ => rfl)) (pa_cons pe_int pa_nil))) (pe_lst pa_nil) (nomark _))))) (pss_one (ps_ret pe_bl)) pss_nil)
        (pss_one (ps_set (i := 4) scLaw.nd rfl (.inl rfl) (pe_call GF r6 (by rfl) gF kF bF .nil pass0 (pa_cons (pv 1) (pa_cons (pv 2) (pa_cons (pv 3) pa_nil))))))))))))))
      (pss_one (ps_ret pe_bl)))))), ?_⟩
    refine ⟨_, rfl, a, ns, 14, rfl, hS, ⟨by decide, by decide⟩, ht, fun names pn H1 hl14 hgd nn k1 _ hpn => ?_⟩
    have hS1 := k1.seq hS
    -- many
    refine ⟨_, rfl, a, ns, 2, rfl, hS1, by decide, fun n0 _ _ => ⟨n0, 3, rfl, rfl, ⟨by decide, by decide⟩, n0 / 3, 12, rfl, rfl, (by show (0 : Int) < 12; decide), 1, n0 / 3 % 12, rfl, rfl, (by show 3 ≤ sizeLine; decide), fun l1 nl1 => ?_⟩⟩
    have k2 := Kp.new (o := HO.lst [.int 12, .int 12, .int (1 + n0 / 3 % 12)]) k1.tab nl1
    have e2 : upd H1 l1 (.lst [.int 12, .int 12, .int (1 + n0 / 3 % 12)]) l1 = some (.lst [.int 12, .int 12, .int (1 + n0 / 3 % 12)]) := upd_same
    have k12 := k1.trans k2
    have hS2 := k12.seq hS
    have hpn2 := k2.lst hpn
    have t2 := k2.tab
    generalize upd H1 l1 (.lst [.int 12, .int 12, .int (1 + n0 / 3 % 12)]) = H2 at k2 e2 k12 hS2 hpn2 t2 ⊢
    refine ⟨_, rfl, a, ns, 2, rfl, hS2, by decide, fun n1 _ _ => ⟨n1, 3, rfl, rfl, (by show (0 : Int) < 3; decide), ?_⟩⟩
    obtain ⟨vm, evm, mn, rfl, hmn1, hmn⟩ := at_pick (xs := [V.int 12, .int 12, .int (1 + n0 / 3 % 12)]) (i := n1 % 3) (p := fun v => ∃ m : Nat, v = .int (m : Int) ∧ 1 ≤ m ∧ m ≤ 12) (by omega) (by show n1 % 3 < ((3 : Nat) : Int); omega) (fun v hv => by
      simp only [List.mem_cons, List.not_mem_nil, or_false] at hv
      rcases hv with rfl | rfl | rfl
      · exact ⟨12, rfl, by decide, by decide⟩
      · exact ⟨12, rfl, by decide, by decide⟩
      · exact ⟨(1 + n0 / 3 % 12).toNat, by congr 1; omega, by omega, by omega⟩)
    refine ⟨l1, _, _, _, rfl, rfl, .inl (.inl e2), evm, ?_⟩
    -- makes
    refine ⟨_, rfl, a, ns, 3, rfl, hS2, by decide, fun n2 _ _ => ⟨n2, 2, rfl, rfl, ⟨by decide, by decide⟩, n2 / 2, 8, rfl, rfl, (by show (0 : Int) < 8; decide), 1, n2 / 2 % 8, rfl, rfl, (by show 2 ≤ sizeLine; decide), fun l2 nl2 => ?_⟩⟩
    have k3 := Kp.new (o := HO.lst [.int 8, .int (1 + n2 / 2 % 8)]) k2.tab nl2
    have e3 : upd H2 l2 (.lst [.int 8, .int (1 + n2 / 2 % 8)]) l2 = some (.lst [.int 8, .int (1 + n2 / 2 % 8)]) := upd_same
    have k13 := k12.trans k3
    have hS3 := k13.seq hS
    have hpn3 := k3.lst hpn2
    have t3 := k3.tab
    generalize upd H2 l2 (.lst [.int 8, .int (1 + n2 / 2 % 8)]) = H3 at k3 e3 k13 hS3 hpn3 t3 ⊢
    refine ⟨_, rfl, a, ns, 3, rfl, hS3, by decide, fun n3 _ _ => ⟨n3, 2, rfl, rfl, (by show (0 : Int) < 2; decide), ?_⟩⟩
    obtain ⟨vm, evm, mk, rfl, hmk1, hmk⟩ := at_pick (xs := [V.int 8, .int (1 + n2 / 2 % 8)]) (i := n3 % 2) (p := fun v => ∃ m : Nat, v = .int (m : Int) ∧ 1 ≤ m ∧ m ≤ 8) (by omega) (by show n3 % 2 < ((2 : Nat) : Int); omega) (fun v hv => by
      simp only [List.mem_cons, List.not_mem_nil, or_false] at hv
      rcases hv with rfl | rfl
      · exact ⟨8, rfl, by decide, by decide⟩
      · exact ⟨(1 + n2 / 2 % 8).toNat, by congr 1; omega, by omega, by omega⟩)
    refine ⟨l2, _, _, _, rfl, rfl, .inl (.inl e3), evm, ?_⟩
    -- the shop
    have hN3 : SqL K H3 pn (names.map V.str) := .inl (.inl hpn3)
    refine ⟨_, rfl, _, rfl, _, rfl, pn, names, mn, mk, rfl, hN3, nn, by omega, by omega, hgd, hmn, hmk, t3, fun p D st H4 k4 F4 => ?_⟩
    refine ⟨4, 14, rfl, by decide, for_range (lo := 4) (n := 10) (fun i σ' H' => ∃ (x5 x6 x7 x8 x9 : Option V) (p D : Addr) (st : List Shelf), σ' = [some (.ref a), some (.ref pn), some (.int mn), some (.int mk), some (.ref p), x5, x6, x7, x8, x9] ∧
        SqL K H' a (ns.map V.int) ∧ GxR.TabG H' T ∧ SqL K H' pn (names.map V.str) ∧ Filled K C H' p D st names mk mn 0)
      ⟨none, none, none, none, none, p, D, st, rfl, k4.seq hS3, k4.tab, k4.seq hN3, F4⟩ ?_ ?_⟩
    · rintro i σ' H5 hi ⟨x5, x6, x7, x8, x9, p, D, st, rfl, hS5, t5, hN5, F5⟩
      have e4 : (4 : Int) + (i : Int) = ((4 + i : Nat) : Int) := by omega
      refine ⟨_, rfl, _, rfl, a, ns, 4 + i, by rw [← e4] <;> rfl, hS5, by omega, fun n _ _ => ?_⟩
      refine ⟨_, rfl, _, rfl, _, rfl, _, rfl, pn, names, n, mn, mk, rfl, hN5, nn, by omega, by omega, hgd, hmn1, hmn, hmk1, hmk, t5, fun j vw vm vn vo dw dm dn dq xs due R d u H6 hj k6 V6 c6 eR ed eu => ?_⟩
      refine ⟨R, [.ref d, .ref u], rfl, .inl (.inl eR), rfl, .ref d, [.ref u], rfl, .ref u, [], rfl, rfl, ?_⟩
      have F6 : Filled K C H6 p D st names mk mn 0 := ⟨F5.S.keptP k6, F5.dt⟩
      have FF := F6.facts nn (by omega) hgd hmn hmk1 hmk
      have h12 := FF.l12
      refine ⟨_, rfl, _, rfl, p, D, st, pn, names, rfl, F6.S, FF.G, by omega, FF.gw, k6.seq hN5, by omega, hgd, k6.tab, fun vb db H7 k7 dpb isb shb => ?_⟩
      have F7 : Filled K C H7 p D st names mk mn 0 := ⟨F6.S.keptP k7, F6.dt⟩
      have ed7 : H7 d = some (.tup xs) := k7.keep _ _ (tab_ne k6.tab ed fun _ z => by cases z) ed
      have k57 := k6.trans k7
      have t7 := k7.tab
      obtain ⟨ks, rfl, gd7, ask⟩ := due_ask (NM := NM) (BW := BW) (BM := BM) (BN := BN) (TW := TW) (FU := FU) F7 nn (by omega) hgd hmn1 hmn hmk1 hmk hj t7 (V6.kept k7) (c6.kept k7) ed7
      have eu7 := k7.lst eu
      have hS7 := k57.seq hS5
      have hN7 := k57.seq hN5
      have fd7 : ∀ f ∈ foot D st, ∃ kvs, H7 f = some (.dK kvs) := F7.S.bx.foot_dict
      have hd7 : SqT K H7 d xs := .inl (.inl ed7)
      clear V6 c6 eR ed eu F6 F5 k6
      obtain ⟨σ8, es8⟩ : ∃ s : L2.St, s = [some (.ref a), some (.ref pn), some (.int mn), some (.int mk), some (.ref p), some (.int (4 + (i : Int))), some (.int n), some (.ref d), some (.ref u), some vb] := ⟨_, rfl⟩
      -- the deed
      refine ⟨fun σ' H' => σ' = σ8 ∧ Aft K C T H7 p D st xs ks H', ?_, ?_⟩
      · refine ⟨_, rfl, _, rfl, p, d, rfl, spAsk_mono (fun v H8 h l nl => ?_) (fun cls dd H8 h => ?_) ask⟩
        · obtain ⟨rfl, st', y, e, ex, gy, S8, n2, dt, k8, f8⟩ := h
          have k9 := Kp.new (o := HO.lst []) k8.tab nl
          refine ⟨_, rfl, .list [], .list [], dp_lst upd_same .nil, dp_lst (k9.lst (k8.lst0 fd7 eu7)) .nil, rfl, rfl, _, rfl, iteF ⟨es8.symm, k8.trans (.of k9), fun z => absurd rfl z, fun _ => ⟨st', y, e, ex, gy, S8.keptP k9, n2, dt, f8⟩⟩⟩
        · obtain ⟨k, D', rfl, rfl, eD, rfl, k8⟩ := h
          refine ⟨D', k, rfl, rfl, ?_, hE k D' eD, k8.tab, fun l H9 k9 nl hl => ?_⟩
          · have := (List.getElem?_eq_some_iff.mp eD).1
            simp at this
            omega
          · have k89 := k8.trans k9
            refine ⟨_, rfl, .list ([(k : Int)].map .int), .list ([(k : Int)].map .int), dp_lst hl (dp_ints [(k : Int)]), dp_lst (k89.lst eu7) (dp_ints _), shaped_ints _, shaped_ints _, _, rfl, ?_⟩
            rw [eqv_ints, decide_eq_true rfl]
            exact iteF ⟨es8.symm, .of k89, fun _ => k89, fun z => by cases z⟩
      · rintro σ' H8 ⟨e8, A8⟩
        rw [e8, es8]
        -- it tells the same
        refine ⟨fun σ' H' => σ' = σ8 ∧ Aft K C T H7 p D st xs ks H', ?_, ?_⟩
        · refine ne_litT (ls := []) rfl (A8.kx.lst0 fd7 eu7) A8.kx.tab (by decide) (fun _ _ z => z) (fun H9 k9 => ?_)
          have A9 := A8.kept k9
          refine iteN (fun hk => ?_) (fun hk => ⟨es8.symm, A9⟩)
          have kk := A9.kp hk
          refine ⟨_, rfl, _, rfl, p, D, st, pn, names, rfl, F7.S.keptP kk, FF.G, by omega, FF.gw, kk.seq hN7, by omega, hgd, kk.tab, fun v2 d2 H10 k10 dp2 is2 sh2 => ?_⟩
          rw [told_same is2 isb] at dp2
          refine ⟨_, rfl, db, db, dp2, (kk.trans k10).dp _ _ dpb, shb, shb, _, rfl, ?_⟩
          rw [eqv_self shb]
          exact iteF ⟨es8.symm, A9.kept k10⟩
        · rintro σ' H9 ⟨e8, A9⟩
          rw [e8, es8]
          -- made good
          refine ⟨fun σ' H' => σ' = σ8 ∧ Kx T (foot D st) H7 H' ∧ (ks = [] → Aft K C T H7 p D st xs ks H'), ?_, ?_⟩
          · by_cases hk : ks = []
            · obtain ⟨st', y, e, ex, gy, S9, n2, dt, f9⟩ := A9.sh hk
              exact ⟨_, rfl, _, rfl, _, rfl, p, D, d, u, st', xs, ks, rfl, S9, fun z => absurd hk z, A9.kx.sqt0 fd7 hd7, A9.kx.lst0 fd7 eu7, A9.kx.tab, .inl (by rw [hk]; exact ⟨by decide, by decide, by decide⟩), fun H10 kp _ => ⟨_, rfl, iteF ⟨es8.symm, A9.kx.trans (.of (kp hk)), fun _ => A9.kept (kp hk)⟩⟩⟩
            · have kk := A9.kp hk
              exact ⟨_, rfl, _, rfl, _, rfl, p, D, d, u, st, xs, ks, rfl, F7.S.keptP kk, fun _ => ⟨FF.G, FF.l12, FF.gw⟩, kk.sqt hd7, kk.lst eu7, kk.tab, gd7.kept kk, fun H10 _ kx => ⟨_, rfl, iteF ⟨es8.symm, (Kx.of kk).trans kx, fun z => absurd z hk⟩⟩⟩
          · rintro σ' H10 ⟨e8, k10, A10⟩
            rw [e8, es8]
            refine ⟨fun σ' H' => σ' = σ8 ∧ Kx T (foot D st) H7 H', ?_, ?_⟩
            · refine eq_litT (ls := []) rfl (k10.lst0 fd7 eu7) k10.tab (by decide) (fun _ _ z => z) (fun H11 k11 => ?_)
              refine iteD (fun hk => ?_) (fun hk => ⟨es8.symm, k10.trans (.of k11)⟩)
              have A11 := (A10 hk).kept k11
              obtain ⟨st', y, e, rfl, gy, S11, n2, dt, f11⟩ := A11.sh hk
              have hin : hasB st' (.str y) (.int 2) = true := by
                rw [hasB_keys, gy.1, dt, List.map_append]
                exact decide_eq_true (List.mem_append_right _ (List.mem_singleton.mpr rfl))
              refine needs_read (tb := tC (.int 2)) S11 gy hin k11.tab rfl (fun Q z => ixt_read (j := 1) (A11.kx.sqt0 fd7 hd7) rfl rfl rfl z) (fun Q z => z) fun zs ds l12 H12 hf k12 nl12 hl12 hzs => ?_
              rw [dt] at hf
              have eds := findD_last n2 hf
              subst eds
              cases hzs
              refine ⟨(by show (0 : Nat) ≤ sizeLine; decide), fun l13 n13 => ?_⟩
              have k13 := Kp.new (o := HO.lst []) k12.tab n13
              exact ⟨.list [], .list [], dp_lst (k13.lst hl12) .nil, dp_lst upd_same .nil, rfl, rfl, _, rfl, iteF ⟨es8.symm, A11.kx.trans (.of (k12.trans k13))⟩⟩
            · rintro σ' H11 ⟨e8, k11⟩
              rw [e8, es8]
              have hN11 := k11.seq0 fd7 hN7
              have hS11 := k11.seq0 fd7 hS7
              exact ⟨_, rfl, _, rfl, _, rfl, pn, names, mn, mk, rfl, hN11, nn, by omega, by omega, hgd, hmn, hmk, k11.tab, fun p2 D2 st2 H12 k12 F12 => ⟨_, _, _, _, _, p2, D2, st2, rfl, k12.seq hS11, k12.tab, k12.seq hN11, F12⟩⟩
    · rintro σ' H5 _
      exact q H5
end
end Pk

set_option Elab.async false
set_option linter.all false
set_option maxRecDepth 100000
set_option maxHeartbeats 4000000
namespace Pk
open PySem PySem.Spec PyProof.Rows L2
theorem kit_refS {K : PySem.W.Frag} {D : Addr} : PySem.W.kitOne K (.ref D) (.ref D) = some true := by
  show (if (Value.ref D == Value.ref D) = true then some true else _) = some true
  rw [if_pos (beq_self_eq_true _)]
theorem kit_refN {K : PySem.W.Frag} {C D : Addr} {b : Bool} (n : (Value.ref D == Value.ref C) = false) (hdct : PySem.W.hasDictIn K C = true) (ht : PySem.W.typeIn K (.ref C) = some (.type "type")) (h : PySem.W.subIn K (.ref D) (.ref C) = some b) : PySem.W.kitOne K (.ref D) (.ref C) = some b := by
  obtain ⟨cd, hc, _⟩ := PySem.W.any_some hdct
  have e2 : ((PySem.W.clsIn K C).isSome && PySem.W.typeIn K (.ref C) == some (.type "type")) = true := by rw [hc, ht] <;> rfl
  show (if (Value.ref D == Value.ref C) = true then some true else if ((PySem.W.clsIn K C).isSome && PySem.W.typeIn K (.ref C) == some (.type "type")) = true then PySem.W.subIn K (.ref D) (.ref C) else none) = some b
  rw [n, if_neg Bool.false_ne_true, if_pos e2]
  exact h
theorem kit_refT {K : PySem.W.Frag} {T : String} {D : Addr} {b : Bool} (m : PySem.W.kitMeta T = true) (h : PySem.W.subIn K (.ref D) (.type T) = some b) : PySem.W.kitOne K (.ref D) (.type T) = some b := by
  show (if (Value.ref D == Value.type T) = true then some true else if PySem.W.kitMeta T = true then PySem.W.subIn K (.ref D) (.type T) else none) = some b
  rw [if_neg (by intro z; cases (eq_of_beq z)), if_pos m]
  exact h
theorem all_mk {l : PySem.W.OpenLaw} {w : World} {K : PySem.W.Frag} {h : Heap} {mg : Str → Option Value} {fa T c : Addr} (X : K.In h) (G : h.Ns mainGlobals mg) (hfa : mg "law" = some (.ref fa)) {q : Program}
    (hT0 : ∀ (y : Str) (c T : Addr), ((recsOf q).any fun e => e.name == y) = true → PySem.W.tabIn K y = some (c, T) → PySem.W.CodeHd h c T ∧ h.get? T = some (PySem.W.tabObj #[])) (hrec : ((recsOf q).any fun e => e.name == ("is_ware" : Str)) = true)
    {ec : Value} {dcc : Option Addr} {vsc : Array Value} {slc : Array (Option Value)} (lc : K.lookup c = some ⟨ec, dcc, .fields vsc, slc⟩) (v11 : vsc[11]? = some (.ref T)) (nT : K.lookup T = none)
    {f1 f2 f3 f4 f5 f6 f7 f8 f9 f10 f11 f12 f13 f14 f15 f16 f17 f18 f19 f20 f21 f22 f23 f24 f25 CShop EBadWare EBadMake EBadNeed ETwice EFull ENoMake EBadWish EBadPick EPickError : Addr} {od1 an1 od2 an2 od3 an3 od4 an4 od5 an5 od6 an6 od7 an7 od8 an8 od9 an9 od10 an10 od11 an11 od12 an12 od13 an13 od14 an14 od15 an15 od16 an16 od17 an17 od18 an18 od19 an19 od20 an20 od21 an21 od22 an22 od23 an23 od24 an24 od25 an25 : Option Addr} {sl1 sl2 sl3 sl4 sl5 sl6 sl7 sl8 sl9 sl10 sl11 sl12 sl13 sl14 sl15 sl16 sl17 sl18 sl19 sl20 sl21 sl22 sl23 sl24 sl25 : Array (Option Value)}
    {oc1 kV1 dc1 pm1 ct1 oc2 kV2 dc2 pm2 ct2 cd2 oc3 kV3 dc3 pm3 ct3 cd3 oc4 kV4 dc4 pm4 ct4 cd4 oc5 kV5 dc5 pm5 ct5 cd5 oc6 kV6 dc6 pm6 ct6 cd6 oc7 kV7 dc7 pm7 ct7 cd7 oc8 kV8 dc8 pm8 ct8 cd8 oc9 kV9 dc9 pm9 ct9 cd9 oc10 kV10 dc10 pm10 ct10 cd10 oc11 kV11 dc11 pm11 ct11 cd11 oc12 kV12 dc12 pm12 ct12 cd12 oc13 kV13 dc13 pm13 ct13 cd13 oc14 kV14 dc14 pm14 ct14 cd14 oc15 kV15 dc15 pm15 ct15 cd15 oc16 kV16 dc16 pm16 ct16 cd16 oc17 kV17 dc17 pm17 ct17 cd17 oc18 kV18 dc18 pm18 ct18 cd18 oc19 kV19 dc19 pm19 ct19 cd19 oc20 kV20 dc20 pm20 ct20 cd20 oc21 kV21 dc21 pm21 ct21 cd21 oc22 kV22 dc22 pm22 ct22 cd22 oc23 kV23 dc23 pm23 ct23 cd23 oc24 kV24 dc24 pm24 ct24 cd24 oc25 kV25 dc25 pm25 ct25 cd25 : Value} {t8 t1 t9 t12 t88 t6 : Tok}
    (aCShop : PySem.W.nsIn K mainGlobals "Shop" = some (some (.ref CShop)))
    (a1 : PySem.W.nsIn K mainGlobals "is_ware" = some (some (.ref f1)))    (l1 : K.lookup f1 = some ⟨oc1, od1, .func (PySem.W.fnOf "is_ware" "is_ware" (defArgs sWare) (defBody sWare) (defScope sWare) .none kV1 dc1 pm1 an1 (.ref c) ct1), sl1⟩)    (c1 : PySem.W.codeIn K (.ref c) "is_ware" = true)    (k1 : PySem.W.keepIn K (.ref f1) = true)
    (a2 : PySem.W.nsIn K mainGlobals "is_make" = some (some (.ref f2)))    (l2 : K.lookup f2 = some ⟨oc2, od2, .func (PySem.W.fnOf "is_make" "is_make" (defArgs sMake) (defBody sMake) (defScope sMake) .none kV2 dc2 pm2 an2 cd2 ct2), sl2⟩)    (c2 : PySem.W.codeIn K cd2 "is_make" = true)    (k2 : PySem.W.keepIn K (.ref f2) = true)
    (a3 : PySem.W.nsIn K mainGlobals "is_need" = some (some (.ref f3)))    (l3 : K.lookup f3 = some ⟨oc3, od3, .func (PySem.W.fnOf "is_need" "is_need" (defArgs sNeed) (defBody sNeed) (defScope sNeed) .none kV3 dc3 pm3 an3 cd3 ct3), sl3⟩)    (c3 : PySem.W.codeIn K cd3 "is_need" = true)    (k3 : PySem.W.keepIn K (.ref f3) = true)
    (a4 : PySem.W.nsIn K mainGlobals "within" = some (some (.ref f4)))    (l4 : K.lookup f4 = some ⟨oc4, od4, .func (PySem.W.fnOf "within" "within" (defArgs sWithin) (defBody sWithin) (defScope sWithin) .none kV4 dc4 pm4 an4 cd4 ct4), sl4⟩)    (c4 : PySem.W.codeIn K cd4 "within" = true)    (k4 : PySem.W.keepIn K (.ref f4) = true)
    (a5 : PySem.W.nsIn K mainGlobals "_may_need" = some (some (.ref f5)))    (l5 : K.lookup f5 = some ⟨oc5, od5, .func (PySem.W.fnOf "_may_need" "_may_need" (defArgs sMay) (defBody sMay) (defScope sMay) .none kV5 dc5 pm5 an5 cd5 ct5), sl5⟩)    (c5 : PySem.W.codeIn K cd5 "_may_need" = true)    (k5 : PySem.W.keepIn K (.ref f5) = true)
    (a6 : PySem.W.findIn K (.ref CShop) "__init__" = some (some (.ref f6)))    (i6 : PySem.W.isFn K (.ref f6) = true)    (l6 : K.lookup f6 = some ⟨oc6, od6, .func (PySem.W.fnOf "__init__" "Shop.__init__" (defArgs sInit) (defBody sInit) (defScope sInit) .none kV6 dc6 pm6 an6 cd6 ct6), sl6⟩)    (c6 : PySem.W.codeIn K cd6 "Shop.__init__" = true)    (k6 : PySem.W.keepIn K (.ref f6) = true)
    (a7 : PySem.W.findIn K (.ref CShop) "put" = some (some (.ref f7)))    (i7 : PySem.W.isFn K (.ref f7) = true)    (l7 : K.lookup f7 = some ⟨oc7, od7, .func (PySem.W.fnOf "put" "Shop.put" (defArgs sPut) (defBody sPut) (defScope sPut) .none kV7 dc7 pm7 an7 cd7 ct7), sl7⟩)    (c7 : PySem.W.codeIn K cd7 "Shop.put" = true)    (k7 : PySem.W.keepIn K (.ref f7) = true)
    (a8 : PySem.W.findIn K (.ref CShop) "take" = some (some (.ref f8)))    (i8 : PySem.W.isFn K (.ref f8) = true)    (l8 : K.lookup f8 = some ⟨oc8, od8, .func (PySem.W.fnOf "take" "Shop.take" (defArgs sTake) (defBody sTake) (defScope sTake) .none kV8 dc8 pm8 an8 cd8 ct8), sl8⟩)    (c8 : PySem.W.codeIn K cd8 "Shop.take" = true)    (k8 : PySem.W.keepIn K (.ref f8) = true)
    (a9 : PySem.W.findIn K (.ref CShop) "makes" = some (some (.ref f9)))    (i9 : PySem.W.isFn K (.ref f9) = true)    (l9 : K.lookup f9 = some ⟨oc9, od9, .func (PySem.W.fnOf "makes" "Shop.makes" (defArgs sMakes) (defBody sMakes) (defScope sMakes) .none kV9 dc9 pm9 an9 cd9 ct9), sl9⟩)    (c9 : PySem.W.codeIn K cd9 "Shop.makes" = true)    (k9 : PySem.W.keepIn K (.ref f9) = true)
    (a10 : PySem.W.findIn K (.ref CShop) "needs" = some (some (.ref f10)))    (i10 : PySem.W.isFn K (.ref f10) = true)    (l10 : K.lookup f10 = some ⟨oc10, od10, .func (PySem.W.fnOf "needs" "Shop.needs" (defArgs sNeeds) (defBody sNeeds) (defScope sNeeds) .none kV10 dc10 pm10 an10 cd10 ct10), sl10⟩)    (c10 : PySem.W.codeIn K cd10 "Shop.needs" = true)    (k10 : PySem.W.keepIn K (.ref f10) = true)
    (a11 : PySem.W.findIn K (.ref CShop) "wares" = some (some (.ref f11)))    (i11 : PySem.W.isFn K (.ref f11) = true)    (l11 : K.lookup f11 = some ⟨oc11, od11, .func (PySem.W.fnOf "wares" "Shop.wares" (defArgs sWares) (defBody sWares) (defScope sWares) .none kV11 dc11 pm11 an11 cd11 ct11), sl11⟩)    (c11 : PySem.W.codeIn K cd11 "Shop.wares" = true)    (k11 : PySem.W.keepIn K (.ref f11) = true)
    (a12 : PySem.W.findIn K (.ref CShop) "_has" = some (some (.ref f12)))    (i12 : PySem.W.isFn K (.ref f12) = true)    (l12 : K.lookup f12 = some ⟨oc12, od12, .func (PySem.W.fnOf "_has" "Shop._has" (defArgs sHas) (defBody sHas) (defScope sHas) .none kV12 dc12 pm12 an12 cd12 ct12), sl12⟩)    (c12 : PySem.W.codeIn K cd12 "Shop._has" = true)    (k12 : PySem.W.keepIn K (.ref f12) = true)
    (a13 : PySem.W.findIn K (.ref CShop) "_has_place" = some (some (.ref f13)))    (i13 : PySem.W.isFn K (.ref f13) = true)    (l13 : K.lookup f13 = some ⟨oc13, od13, .func (PySem.W.fnOf "_has_place" "Shop._has_place" (defArgs sPlace) (defBody sPlace) (defScope sPlace) .none kV13 dc13 pm13 an13 cd13 ct13), sl13⟩)    (c13 : PySem.W.codeIn K cd13 "Shop._has_place" = true)    (k13 : PySem.W.keepIn K (.ref f13) = true)
    (a14 : PySem.W.nsIn K mainGlobals "_law_mixed" = some (some (.ref f14)))    (l14 : K.lookup f14 = some ⟨oc14, od14, .func (PySem.W.fnOf "_law_mixed" "_law_mixed" (defArgs sMixed) (defBody sMixed) (defScope sMixed) .none kV14 dc14 pm14 an14 cd14 ct14), sl14⟩)    (c14 : PySem.W.codeIn K cd14 "_law_mixed" = true)    (k14 : PySem.W.keepIn K (.ref f14) = true)
    (a15 : PySem.W.nsIn K mainGlobals "_law_names" = some (some (.ref f15)))    (l15 : K.lookup f15 = some ⟨oc15, od15, .func (PySem.W.fnOf "_law_names" "_law_names" (defArgs sNames) (defBody sNames) (defScope sNames) .none kV15 dc15 pm15 an15 cd15 ct15), sl15⟩)    (c15 : PySem.W.codeIn K cd15 "_law_names" = true)    (k15 : PySem.W.keepIn K (.ref f15) = true)
    (a16 : PySem.W.nsIn K mainGlobals "_law_asked" = some (some (.ref f16)))    (l16 : K.lookup f16 = some ⟨oc16, od16, .func (PySem.W.fnOf "_law_asked" "_law_asked" (defArgs sAsk) (defBody sAsk) (defScope sAsk) .none kV16 dc16 pm16 an16 cd16 ct16), sl16⟩)    (c16 : PySem.W.codeIn K cd16 "_law_asked" = true)    (k16 : PySem.W.keepIn K (.ref f16) = true)
    (a17 : PySem.W.nsIn K mainGlobals "_law_refused" = some (some (.ref f17)))    (l17 : K.lookup f17 = some ⟨oc17, od17, .func (PySem.W.fnOf "_law_refused" "_law_refused" (defArgs sRef) (defBody sRef) (defScope sRef) .none kV17 dc17 pm17 an17 cd17 ct17), sl17⟩)    (c17 : PySem.W.codeIn K cd17 "_law_refused" = true)    (k17 : PySem.W.keepIn K (.ref f17) = true)
    (a18 : PySem.W.nsIn K mainGlobals "_law_bad_ware" = some (some (.ref f18)))    (l18 : K.lookup f18 = some ⟨oc18, od18, .func (PySem.W.fnOf "_law_bad_ware" "_law_bad_ware" (defArgs sBadW) (defBody sBadW) (defScope sBadW) .none kV18 dc18 pm18 an18 cd18 ct18), sl18⟩)    (c18 : PySem.W.codeIn K cd18 "_law_bad_ware" = true)    (k18 : PySem.W.keepIn K (.ref f18) = true)
    (a19 : PySem.W.nsIn K mainGlobals "_law_bad_need" = some (some (.ref f19)))    (l19 : K.lookup f19 = some ⟨oc19, od19, .func (PySem.W.fnOf "_law_bad_need" "_law_bad_need" (defArgs sBadN) (defBody sBadN) (defScope sBadN) .none kV19 dc19 pm19 an19 cd19 ct19), sl19⟩)    (c19 : PySem.W.codeIn K cd19 "_law_bad_need" = true)    (k19 : PySem.W.keepIn K (.ref f19) = true)
    (a20 : PySem.W.nsIn K mainGlobals "_law_bad_needs" = some (some (.ref f20)))    (l20 : K.lookup f20 = some ⟨oc20, od20, .func (PySem.W.fnOf "_law_bad_needs" "_law_bad_needs" (defArgs sBadNs) (defBody sBadNs) (defScope sBadNs) .none kV20 dc20 pm20 an20 cd20 ct20), sl20⟩)    (c20 : PySem.W.codeIn K cd20 "_law_bad_needs" = true)    (k20 : PySem.W.keepIn K (.ref f20) = true)
    (a21 : PySem.W.nsIn K mainGlobals "_law_told" = some (some (.ref f21)))    (l21 : K.lookup f21 = some ⟨oc21, od21, .func (PySem.W.fnOf "_law_told" "_law_told" (defArgs sTold) (defBody sTold) (defScope sTold) .none kV21 dc21 pm21 an21 cd21 ct21), sl21⟩)    (c21 : PySem.W.codeIn K cd21 "_law_told" = true)    (k21 : PySem.W.keepIn K (.ref f21) = true)
    (a22 : PySem.W.nsIn K mainGlobals "_law_filled" = some (some (.ref f22)))    (l22 : K.lookup f22 = some ⟨oc22, od22, .func (PySem.W.fnOf "_law_filled" "_law_filled" (defArgs sFill) (defBody sFill) (defScope sFill) .none kV22 dc22 pm22 an22 cd22 ct22), sl22⟩)    (c22 : PySem.W.codeIn K cd22 "_law_filled" = true)    (k22 : PySem.W.keepIn K (.ref f22) = true)
    (a23 : PySem.W.nsIn K mainGlobals "_law_due" = some (some (.ref f23)))    (l23 : K.lookup f23 = some ⟨oc23, od23, .func (PySem.W.fnOf "_law_due" "_law_due" (defArgs sDue) (defBody sDue) (defScope sDue) .none kV23 dc23 pm23 an23 cd23 ct23), sl23⟩)    (c23 : PySem.W.codeIn K cd23 "_law_due" = true)    (k23 : PySem.W.keepIn K (.ref f23) = true)
    (a24 : PySem.W.nsIn K mainGlobals "_law_made_good" = some (some (.ref f24)))    (l24 : K.lookup f24 = some ⟨oc24, od24, .func (PySem.W.fnOf "_law_made_good" "_law_made_good" (defArgs sGood) (defBody sGood) (defScope sGood) .none kV24 dc24 pm24 an24 cd24 ct24), sl24⟩)    (c24 : PySem.W.codeIn K cd24 "_law_made_good" = true)    (k24 : PySem.W.keepIn K (.ref f24) = true)
    (a25 : PySem.W.nsIn K mainGlobals "law" = some (some (.ref f25)))    (l25 : K.lookup f25 = some ⟨oc25, od25, .func (PySem.W.fnOf "law" "law" (defArgs sLaw) (defBody sLaw) (defScope sLaw) .none kV25 dc25 pm25 an25 cd25 ct25), sl25⟩)    (c25 : PySem.W.codeIn K cd25 "law" = true)    (k25 : PySem.W.keepIn K (.ref f25) = true)
    (gt8 : PySem.W.nsIn K mainGlobals "MOST_SIGNS" = some (some (.int 8 t8)))    (gt1 : PySem.W.nsIn K mainGlobals "LEAST_MAKE" = some (some (.int 1 t1)))    (gt9 : PySem.W.nsIn K mainGlobals "MOST_MAKE" = some (some (.int 999 t9)))    (gt12 : PySem.W.nsIn K mainGlobals "MOST_WARES" = some (some (.int 12 t12)))    (gt88 : PySem.W.nsIn K mainGlobals "MOST_MAKES" = some (some (.int 8 t88)))    (gt6 : PySem.W.nsIn K mainGlobals "MOST_NEEDS" = some (some (.int 6 t6)))
    (pgShop : PySem.W.plainGet K CShop Str.empty = true)    (hdShop : PySem.W.hasDictIn K CShop = true)    (poShop : PySem.W.plainOver K CShop = true)    (saShop : PySem.W.findIn K (.ref CShop) "__setattr__" = some (some (.builtin "object.__setattr__")))    (mkShop : PySem.W.makesIn K CShop = true)    (kcShop : PySem.W.keepIn K (.ref CShop) = true)    (nSShop_shelves : PySem.W.findIn K (.ref CShop) "_shelves" = some none)
    (eaBadWare : PySem.W.nsIn K mainGlobals "BadWare" = some (some (.ref EBadWare)))    (exBadWare : PySem.W.excIn K EBadWare [.type "ValueError", .type "Exception", .type "BaseException", .type "object"] "ValueError.__new__" = true)    (ekBadWare : PySem.W.keepIn K (.ref EBadWare) = true)    (ebBadWare : PySem.W.subIn K (.ref EBadWare) (.type "BaseException") = some true)    (etBadWare : PySem.W.typeIn K (.ref EBadWare) = some (.type "type"))
    (eaBadMake : PySem.W.nsIn K mainGlobals "BadMake" = some (some (.ref EBadMake)))    (exBadMake : PySem.W.excIn K EBadMake [.type "ValueError", .type "Exception", .type "BaseException", .type "object"] "ValueError.__new__" = true)    (ekBadMake : PySem.W.keepIn K (.ref EBadMake) = true)    (ebBadMake : PySem.W.subIn K (.ref EBadMake) (.type "BaseException") = some true)    (etBadMake : PySem.W.typeIn K (.ref EBadMake) = some (.type "type"))
    (eaBadNeed : PySem.W.nsIn K mainGlobals "BadNeed" = some (some (.ref EBadNeed)))    (exBadNeed : PySem.W.excIn K EBadNeed [.type "ValueError", .type "Exception", .type "BaseException", .type "object"] "ValueError.__new__" = true)    (ekBadNeed : PySem.W.keepIn K (.ref EBadNeed) = true)    (ebBadNeed : PySem.W.subIn K (.ref EBadNeed) (.type "BaseException") = some true)    (etBadNeed : PySem.W.typeIn K (.ref EBadNeed) = some (.type "type"))
    (eaTwice : PySem.W.nsIn K mainGlobals "Twice" = some (some (.ref ETwice)))    (exTwice : PySem.W.excIn K ETwice [.type "ValueError", .type "Exception", .type "BaseException", .type "object"] "ValueError.__new__" = true)    (ekTwice : PySem.W.keepIn K (.ref ETwice) = true)    (ebTwice : PySem.W.subIn K (.ref ETwice) (.type "BaseException") = some true)    (etTwice : PySem.W.typeIn K (.ref ETwice) = some (.type "type"))
    (eaFull : PySem.W.nsIn K mainGlobals "Full" = some (some (.ref EFull)))    (exFull : PySem.W.excIn K EFull [.type "ValueError", .type "Exception", .type "BaseException", .type "object"] "ValueError.__new__" = true)    (ekFull : PySem.W.keepIn K (.ref EFull) = true)    (ebFull : PySem.W.subIn K (.ref EFull) (.type "BaseException") = some true)    (etFull : PySem.W.typeIn K (.ref EFull) = some (.type "type"))
    (eaNoMake : PySem.W.nsIn K mainGlobals "NoMake" = some (some (.ref ENoMake)))    (exNoMake : PySem.W.excIn K ENoMake [.type "ValueError", .type "Exception", .type "BaseException", .type "object"] "ValueError.__new__" = true)    (ekNoMake : PySem.W.keepIn K (.ref ENoMake) = true)    (ebNoMake : PySem.W.subIn K (.ref ENoMake) (.type "BaseException") = some true)    (etNoMake : PySem.W.typeIn K (.ref ENoMake) = some (.type "type"))
    (eaBadWish : PySem.W.nsIn K mainGlobals "BadWish" = some (some (.ref EBadWish)))    (exBadWish : PySem.W.excIn K EBadWish [.type "ValueError", .type "Exception", .type "BaseException", .type "object"] "ValueError.__new__" = true)    (ekBadWish : PySem.W.keepIn K (.ref EBadWish) = true)    (ebBadWish : PySem.W.subIn K (.ref EBadWish) (.type "BaseException") = some true)    (etBadWish : PySem.W.typeIn K (.ref EBadWish) = some (.type "type"))
    (eaBadPick : PySem.W.nsIn K mainGlobals "BadPick" = some (some (.ref EBadPick)))    (exBadPick : PySem.W.excIn K EBadPick [.type "ValueError", .type "Exception", .type "BaseException", .type "object"] "ValueError.__new__" = true)    (ekBadPick : PySem.W.keepIn K (.ref EBadPick) = true)    (ebBadPick : PySem.W.subIn K (.ref EBadPick) (.type "BaseException") = some true)    (etBadPick : PySem.W.typeIn K (.ref EBadPick) = some (.type "type"))
    (eaPickError : PySem.W.nsIn K mainGlobals "PickError" = some (some (.ref EPickError)))    (exPickError : PySem.W.excIn K EPickError [.type "ValueError", .type "Exception", .type "BaseException", .type "object"] "ValueError.__new__" = true)    (ekPickError : PySem.W.keepIn K (.ref EPickError) = true)    (ebPickError : PySem.W.subIn K (.ref EPickError) (.type "BaseException") = some true)    (etPickError : PySem.W.typeIn K (.ref EPickError) = some (.type "type"))
    (r1BadWare : PySem.W.findIn K (.ref EBadWare) "__getattribute__" = some (some (.builtin "BaseException.__getattribute__")))    (r2BadWare : PySem.W.findIn K (.ref EBadWare) "__getattr__" = some none)    (r3BadWare : PySem.W.hasDictIn K EBadWare = true)    (r4BadWare : PySem.W.findIn K (.ref EBadWare) "__class__" = some (some (.builtin "object.__class__")))    (rmBadWare : PySem.W.mroIn K EBadWare (.type "object") = some true)    (rvBadWare : PySem.W.subIn K (.ref EBadWare) (.type "ValueError") = some true)    (rxBadWare : PySem.W.subIn K (.ref EBadWare) (.ref EPickError) = some true)    (rnBadWare1 : (Value.ref EBadWare == Value.ref EBadMake) = false)    (riBadWare1 : PySem.W.subIn K (.ref EBadWare) (.ref EBadMake) = some false)    (rnBadWare2 : (Value.ref EBadWare == Value.ref EBadNeed) = false)    (riBadWare2 : PySem.W.subIn K (.ref EBadWare) (.ref EBadNeed) = some false)    (rnBadWare3 : (Value.ref EBadWare == Value.ref ETwice) = false)    (riBadWare3 : PySem.W.subIn K (.ref EBadWare) (.ref ETwice) = some false)    (rnBadWare4 : (Value.ref EBadWare == Value.ref EFull) = false)    (riBadWare4 : PySem.W.subIn K (.ref EBadWare) (.ref EFull) = some false)    (rnBadWare5 : (Value.ref EBadWare == Value.ref ENoMake) = false)    (riBadWare5 : PySem.W.subIn K (.ref EBadWare) (.ref ENoMake) = some false)    (rnBadWare6 : (Value.ref EBadWare == Value.ref EBadWish) = false)    (riBadWare6 : PySem.W.subIn K (.ref EBadWare) (.ref EBadWish) = some false)    (rnBadWare7 : (Value.ref EBadWare == Value.ref EBadPick) = false)    (riBadWare7 : PySem.W.subIn K (.ref EBadWare) (.ref EBadPick) = some false)
    (r1BadMake : PySem.W.findIn K (.ref EBadMake) "__getattribute__" = some (some (.builtin "BaseException.__getattribute__")))    (r2BadMake : PySem.W.findIn K (.ref EBadMake) "__getattr__" = some none)    (r3BadMake : PySem.W.hasDictIn K EBadMake = true)    (r4BadMake : PySem.W.findIn K (.ref EBadMake) "__class__" = some (some (.builtin "object.__class__")))    (rmBadMake : PySem.W.mroIn K EBadMake (.type "object") = some true)    (rvBadMake : PySem.W.subIn K (.ref EBadMake) (.type "ValueError") = some true)    (rxBadMake : PySem.W.subIn K (.ref EBadMake) (.ref EPickError) = some true)    (rnBadMake0 : (Value.ref EBadMake == Value.ref EBadWare) = false)    (riBadMake0 : PySem.W.subIn K (.ref EBadMake) (.ref EBadWare) = some false)    (rnBadMake2 : (Value.ref EBadMake == Value.ref EBadNeed) = false)    (riBadMake2 : PySem.W.subIn K (.ref EBadMake) (.ref EBadNeed) = some false)    (rnBadMake3 : (Value.ref EBadMake == Value.ref ETwice) = false)    (riBadMake3 : PySem.W.subIn K (.ref EBadMake) (.ref ETwice) = some false)    (rnBadMake4 : (Value.ref EBadMake == Value.ref EFull) = false)    (riBadMake4 : PySem.W.subIn K (.ref EBadMake) (.ref EFull) = some false)    (rnBadMake5 : (Value.ref EBadMake == Value.ref ENoMake) = false)    (riBadMake5 : PySem.W.subIn K (.ref EBadMake) (.ref ENoMake) = some false)    (rnBadMake6 : (Value.ref EBadMake == Value.ref EBadWish) = false)    (riBadMake6 : PySem.W.subIn K (.ref EBadMake) (.ref EBadWish) = some false)    (rnBadMake7 : (Value.ref EBadMake == Value.ref EBadPick) = false)    (riBadMake7 : PySem.W.subIn K (.ref EBadMake) (.ref EBadPick) = some false)
    (r1BadNeed : PySem.W.findIn K (.ref EBadNeed) "__getattribute__" = some (some (.builtin "BaseException.__getattribute__")))    (r2BadNeed : PySem.W.findIn K (.ref EBadNeed) "__getattr__" = some none)    (r3BadNeed : PySem.W.hasDictIn K EBadNeed = true)    (r4BadNeed : PySem.W.findIn K (.ref EBadNeed) "__class__" = some (some (.builtin "object.__class__")))    (rmBadNeed : PySem.W.mroIn K EBadNeed (.type "object") = some true)    (rvBadNeed : PySem.W.subIn K (.ref EBadNeed) (.type "ValueError") = some true)    (rxBadNeed : PySem.W.subIn K (.ref EBadNeed) (.ref EPickError) = some true)    (rnBadNeed0 : (Value.ref EBadNeed == Value.ref EBadWare) = false)    (riBadNeed0 : PySem.W.subIn K (.ref EBadNeed) (.ref EBadWare) = some false)    (rnBadNeed1 : (Value.ref EBadNeed == Value.ref EBadMake) = false)    (riBadNeed1 : PySem.W.subIn K (.ref EBadNeed) (.ref EBadMake) = some false)    (rnBadNeed3 : (Value.ref EBadNeed == Value.ref ETwice) = false)    (riBadNeed3 : PySem.W.subIn K (.ref EBadNeed) (.ref ETwice) = some false)    (rnBadNeed4 : (Value.ref EBadNeed == Value.ref EFull) = false)    (riBadNeed4 : PySem.W.subIn K (.ref EBadNeed) (.ref EFull) = some false)    (rnBadNeed5 : (Value.ref EBadNeed == Value.ref ENoMake) = false)    (riBadNeed5 : PySem.W.subIn K (.ref EBadNeed) (.ref ENoMake) = some false)    (rnBadNeed6 : (Value.ref EBadNeed == Value.ref EBadWish) = false)    (riBadNeed6 : PySem.W.subIn K (.ref EBadNeed) (.ref EBadWish) = some false)    (rnBadNeed7 : (Value.ref EBadNeed == Value.ref EBadPick) = false)    (riBadNeed7 : PySem.W.subIn K (.ref EBadNeed) (.ref EBadPick) = some false)
    (r1Twice : PySem.W.findIn K (.ref ETwice) "__getattribute__" = some (some (.builtin "BaseException.__getattribute__")))    (r2Twice : PySem.W.findIn K (.ref ETwice) "__getattr__" = some none)    (r3Twice : PySem.W.hasDictIn K ETwice = true)    (r4Twice : PySem.W.findIn K (.ref ETwice) "__class__" = some (some (.builtin "object.__class__")))    (rmTwice : PySem.W.mroIn K ETwice (.type "object") = some true)    (rvTwice : PySem.W.subIn K (.ref ETwice) (.type "ValueError") = some true)    (rxTwice : PySem.W.subIn K (.ref ETwice) (.ref EPickError) = some true)    (rnTwice0 : (Value.ref ETwice == Value.ref EBadWare) = false)    (riTwice0 : PySem.W.subIn K (.ref ETwice) (.ref EBadWare) = some false)    (rnTwice1 : (Value.ref ETwice == Value.ref EBadMake) = false)    (riTwice1 : PySem.W.subIn K (.ref ETwice) (.ref EBadMake) = some false)    (rnTwice2 : (Value.ref ETwice == Value.ref EBadNeed) = false)    (riTwice2 : PySem.W.subIn K (.ref ETwice) (.ref EBadNeed) = some false)    (rnTwice4 : (Value.ref ETwice == Value.ref EFull) = false)    (riTwice4 : PySem.W.subIn K (.ref ETwice) (.ref EFull) = some false)    (rnTwice5 : (Value.ref ETwice == Value.ref ENoMake) = false)    (riTwice5 : PySem.W.subIn K (.ref ETwice) (.ref ENoMake) = some false)    (rnTwice6 : (Value.ref ETwice == Value.ref EBadWish) = false)    (riTwice6 : PySem.W.subIn K (.ref ETwice) (.ref EBadWish) = some false)    (rnTwice7 : (Value.ref ETwice == Value.ref EBadPick) = false)    (riTwice7 : PySem.W.subIn K (.ref ETwice) (.ref EBadPick) = some false)
    (r1Full : PySem.W.findIn K (.ref EFull) "__getattribute__" = some (some (.builtin "BaseException.__getattribute__")))    (r2Full : PySem.W.findIn K (.ref EFull) "__getattr__" = some none)    (r3Full : PySem.W.hasDictIn K EFull = true)    (r4Full : PySem.W.findIn K (.ref EFull) "__class__" = some (some (.builtin "object.__class__")))    (rmFull : PySem.W.mroIn K EFull (.type "object") = some true)    (rvFull : PySem.W.subIn K (.ref EFull) (.type "ValueError") = some true)    (rxFull : PySem.W.subIn K (.ref EFull) (.ref EPickError) = some true)    (rnFull0 : (Value.ref EFull == Value.ref EBadWare) = false)    (riFull0 : PySem.W.subIn K (.ref EFull) (.ref EBadWare) = some false)    (rnFull1 : (Value.ref EFull == Value.ref EBadMake) = false)    (riFull1 : PySem.W.subIn K (.ref EFull) (.ref EBadMake) = some false)    (rnFull2 : (Value.ref EFull == Value.ref EBadNeed) = false)    (riFull2 : PySem.W.subIn K (.ref EFull) (.ref EBadNeed) = some false)    (rnFull3 : (Value.ref EFull == Value.ref ETwice) = false)    (riFull3 : PySem.W.subIn K (.ref EFull) (.ref ETwice) = some false)    (rnFull5 : (Value.ref EFull == Value.ref ENoMake) = false)    (riFull5 : PySem.W.subIn K (.ref EFull) (.ref ENoMake) = some false)    (rnFull6 : (Value.ref EFull == Value.ref EBadWish) = false)    (riFull6 : PySem.W.subIn K (.ref EFull) (.ref EBadWish) = some false)    (rnFull7 : (Value.ref EFull == Value.ref EBadPick) = false)    (riFull7 : PySem.W.subIn K (.ref EFull) (.ref EBadPick) = some false)
    (r1NoMake : PySem.W.findIn K (.ref ENoMake) "__getattribute__" = some (some (.builtin "BaseException.__getattribute__")))    (r2NoMake : PySem.W.findIn K (.ref ENoMake) "__getattr__" = some none)    (r3NoMake : PySem.W.hasDictIn K ENoMake = true)    (r4NoMake : PySem.W.findIn K (.ref ENoMake) "__class__" = some (some (.builtin "object.__class__")))    (rmNoMake : PySem.W.mroIn K ENoMake (.type "object") = some true)    (rvNoMake : PySem.W.subIn K (.ref ENoMake) (.type "ValueError") = some true)    (rxNoMake : PySem.W.subIn K (.ref ENoMake) (.ref EPickError) = some true)    (rnNoMake0 : (Value.ref ENoMake == Value.ref EBadWare) = false)    (riNoMake0 : PySem.W.subIn K (.ref ENoMake) (.ref EBadWare) = some false)    (rnNoMake1 : (Value.ref ENoMake == Value.ref EBadMake) = false)    (riNoMake1 : PySem.W.subIn K (.ref ENoMake) (.ref EBadMake) = some false)    (rnNoMake2 : (Value.ref ENoMake == Value.ref EBadNeed) = false)    (riNoMake2 : PySem.W.subIn K (.ref ENoMake) (.ref EBadNeed) = some false)    (rnNoMake3 : (Value.ref ENoMake == Value.ref ETwice) = false)    (riNoMake3 : PySem.W.subIn K (.ref ENoMake) (.ref ETwice) = some false)    (rnNoMake4 : (Value.ref ENoMake == Value.ref EFull) = false)    (riNoMake4 : PySem.W.subIn K (.ref ENoMake) (.ref EFull) = some false)    (rnNoMake6 : (Value.ref ENoMake == Value.ref EBadWish) = false)    (riNoMake6 : PySem.W.subIn K (.ref ENoMake) (.ref EBadWish) = some false)    (rnNoMake7 : (Value.ref ENoMake == Value.ref EBadPick) = false)    (riNoMake7 : PySem.W.subIn K (.ref ENoMake) (.ref EBadPick) = some false)
    (r3PickError : PySem.W.hasDictIn K EPickError = true)    (r3BadWish : PySem.W.hasDictIn K EBadWish = true)    (r3BadPick : PySem.W.hasDictIn K EBadPick = true)    (r6 : PySem.W.takesIn K (.builtin "object.__class__") = some true)    (r5 : PySem.W.specialIn K (.builtin "object.__class__") "__get__" = some (some (.builtin "getset_descriptor.__get__")))
       (z1 : PySem.W.nsIn K mainGlobals "isinstance" = some none)    (z2 : PySem.W.nsIn K mainGlobals "type" = some none)    (z3 : PySem.W.nsIn K mainGlobals "str" = some none)    (z4 : PySem.W.nsIn K mainGlobals "int" = some none)    (z5 : PySem.W.nsIn K mainGlobals "bool" = some none)    (z6 : PySem.W.nsIn K mainGlobals "tuple" = some none)    (z7 : PySem.W.nsIn K mainGlobals "list" = some none)    (z8 : PySem.W.nsIn K mainGlobals "len" = some none)    (z9 : PySem.W.nsIn K mainGlobals "all" = some none)    (z10 : PySem.W.nsIn K mainGlobals "range" = some none)    (z11 : PySem.W.nsIn K mainGlobals "sorted" = some none)    (z12 : PySem.W.nsIn K mainGlobals "ValueError" = some none) :
    LamX.LawAtS l w K (L2.CX0) 9 63 "_law_script" mg fa h := by
  have hTab := hT0 "is_ware" c T hrec (tabIn_of a1 l1 rfl lc v11)
  have e := hfa.symm.trans (PySem.W.mg_of X G a25)
  cases e
  have mCShop := PySem.W.mg_of X G aCShop
  have F1 := fun_mk (st := sWare) l1 c1 k1
  have b1 := F1.binds (ps := ["thing"]) fun _ _ _ _ _ _ us hl => match us, hl with | [_], _ => rfl
  have m1 := PySem.W.mg_of X G a1
  have F2 := fun_mk (st := sMake) l2 c2 k2
  have b2 := F2.binds (ps := ["thing"]) fun _ _ _ _ _ _ us hl => match us, hl with | [_], _ => rfl
  have m2 := PySem.W.mg_of X G a2
  have F3 := fun_mk (st := sNeed) l3 c3 k3
  have b3 := F3.binds (ps := ["thing"]) fun _ _ _ _ _ _ us hl => match us, hl with | [_], _ => rfl
  have m3 := PySem.W.mg_of X G a3
  have F4 := fun_mk (st := sWithin) l4 c4 k4
  have b4 := F4.binds (ps := ["make", "low", "high"]) fun _ _ _ _ _ _ us hl => match us, hl with | [_, _, _], _ => rfl
  have m4 := PySem.W.mg_of X G a4
  have F5 := fun_mk (st := sMay) l5 c5 k5
  have b5 := F5.binds (ps := ["ware", "thing"]) fun _ _ _ _ _ _ us hl => match us, hl with | [_, _], _ => rfl
  have m5 := PySem.W.mg_of X G a5
  have F6 := fun_mk (st := sInit) l6 c6 k6
  have b6 := F6.binds (ps := ["self"]) fun _ _ _ _ _ _ us hl => match us, hl with | [_], _ => rfl
  have m6 : Meth K CShop "__init__" f6 := ⟨a6, i6, k6⟩
  have F7 := fun_mk (st := sPut) l7 c7 k7
  have b7 := F7.binds (ps := ["self", "ware", "make", "needs"]) fun _ _ _ _ _ _ us hl => match us, hl with | [_, _, _, _], _ => rfl
  have m7 : Meth K CShop "put" f7 := ⟨a7, i7, k7⟩
  have F8 := fun_mk (st := sTake) l8 c8 k8
  have b8 := F8.binds (ps := ["self", "ware", "make"]) fun _ _ _ _ _ _ us hl => match us, hl with | [_, _, _], _ => rfl
  have m8 : Meth K CShop "take" f8 := ⟨a8, i8, k8⟩
  have F9 := fun_mk (st := sMakes) l9 c9 k9
  have b9 := F9.binds (ps := ["self", "ware"]) fun _ _ _ _ _ _ us hl => match us, hl with | [_, _], _ => rfl
  have m9 : Meth K CShop "makes" f9 := ⟨a9, i9, k9⟩
  have F10 := fun_mk (st := sNeeds) l10 c10 k10
  have b10 := F10.binds (ps := ["self", "ware", "make"]) fun _ _ _ _ _ _ us hl => match us, hl with | [_, _, _], _ => rfl
  have m10 : Meth K CShop "needs" f10 := ⟨a10, i10, k10⟩
  have F11 := fun_mk (st := sWares) l11 c11 k11
  have b11 := F11.binds (ps := ["self"]) fun _ _ _ _ _ _ us hl => match us, hl with | [_], _ => rfl
  have m11 : Meth K CShop "wares" f11 := ⟨a11, i11, k11⟩
  have F12 := fun_mk (st := sHas) l12 c12 k12
  have b12 := F12.binds (ps := ["self", "ware", "make"]) fun _ _ _ _ _ _ us hl => match us, hl with | [_, _, _], _ => rfl
  have m12 : Meth K CShop "_has" f12 := ⟨a12, i12, k12⟩
  have F13 := fun_mk (st := sPlace) l13 c13 k13
  have b13 := F13.binds (ps := ["self", "ware"]) fun _ _ _ _ _ _ us hl => match us, hl with | [_, _], _ => rfl
  have m13 : Meth K CShop "_has_place" f13 := ⟨a13, i13, k13⟩
  have F14 := fun_mk (st := sMixed) l14 c14 k14
  have b14 := F14.binds (ps := ["_law_script", "_law_k"]) fun _ _ _ _ _ _ us hl => match us, hl with | [_, _], _ => rfl
  have m14 := PySem.W.mg_of X G a14
  have F15 := fun_mk (st := sNames) l15 c15 k15
  have b15 := F15.binds (ps := ["_law_script", "_law_many"]) fun _ _ _ _ _ _ us hl => match us, hl with | [_, _], _ => rfl
  have m15 := PySem.W.mg_of X G a15
  have F16 := fun_mk (st := sAsk) l16 c16 k16
  have b16 := F16.binds (ps := ["_law_shop", "_law_deed"]) fun _ _ _ _ _ _ us hl => match us, hl with | [_, _], _ => rfl
  have m16 := PySem.W.mg_of X G a16
  have F17 := fun_mk (st := sRef) l17 c17 k17
  have b17 := F17.binds (ps := ["_law_shop", "_law_deed"]) fun _ _ _ _ _ _ us hl => match us, hl with | [_, _], _ => rfl
  have m17 := PySem.W.mg_of X G a17
  have F18 := fun_mk (st := sBadW) l18 c18 k18
  have b18 := F18.binds (ps := ["_law_names_here", "_law_number"]) fun _ _ _ _ _ _ us hl => match us, hl with | [_, _], _ => rfl
  have m18 := PySem.W.mg_of X G a18
  have F19 := fun_mk (st := sBadN) l19 c19 k19
  have b19 := F19.binds (ps := ["_law_names_here", "_law_ware", "_law_number"]) fun _ _ _ _ _ _ us hl => match us, hl with | [_, _, _], _ => rfl
  have m19 := PySem.W.mg_of X G a19
  have F20 := fun_mk (st := sBadNs) l20 c20 k20
  have b20 := F20.binds (ps := ["_law_names_here", "_law_ware", "_law_number"]) fun _ _ _ _ _ _ us hl => match us, hl with | [_, _, _], _ => rfl
  have m20 := PySem.W.mg_of X G a20
  have F21 := fun_mk (st := sTold) l21 c21 k21
  have b21 := F21.binds (ps := ["_law_shop", "_law_wares"]) fun _ _ _ _ _ _ us hl => match us, hl with | [_, _], _ => rfl
  have m21 := PySem.W.mg_of X G a21
  have F22 := fun_mk (st := sFill) l22 c22 k22
  have b22 := F22.binds (ps := ["_law_names_here", "_law_many", "_law_makes"]) fun _ _ _ _ _ _ us hl => match us, hl with | [_, _, _], _ => rfl
  have m22 := PySem.W.mg_of X G a22
  have F23 := fun_mk (st := sDue) l23 c23 k23
  have b23 := F23.binds (ps := ["_law_names_here", "_law_number", "_law_many", "_law_makes"]) fun _ _ _ _ _ _ us hl => match us, hl with | [_, _, _, _], _ => rfl
  have m23 := PySem.W.mg_of X G a23
  have F24 := fun_mk (st := sGood) l24 c24 k24
  have b24 := F24.binds (ps := ["_law_shop", "_law_deed", "_law_due_here"]) fun _ _ _ _ _ _ us hl => match us, hl with | [_, _, _], _ => rfl
  have m24 := PySem.W.mg_of X G a24
  have F25 := fun_mk (st := sLaw) l25 c25 k25
  have m25 := PySem.W.mg_of X G a25
  have qt8 := PySem.W.mg_of X G gt8
  have qt1 := PySem.W.mg_of X G gt1
  have qt9 := PySem.W.mg_of X G gt9
  have qt12 := PySem.W.mg_of X G gt12
  have qt88 := PySem.W.mg_of X G gt88
  have qt6 := PySem.W.mg_of X G gt6
  have y1 := PySem.W.mg_none_of X G z1
  have y2 := PySem.W.mg_none_of X G z2
  have y3 := PySem.W.mg_none_of X G z3
  have y4 := PySem.W.mg_none_of X G z4
  have y5 := PySem.W.mg_none_of X G z5
  have y6 := PySem.W.mg_none_of X G z6
  have y7 := PySem.W.mg_none_of X G z7
  have y8 := PySem.W.mg_none_of X G z8
  have y9 := PySem.W.mg_none_of X G z9
  have y10 := PySem.W.mg_none_of X G z10
  have y11 := PySem.W.mg_none_of X G z11
  have y12 := PySem.W.mg_none_of X G z12
  have XBadWare : ExT K mg "BadWare" EBadWare := ⟨PySem.W.mg_of X G eaBadWare, exBadWare, ekBadWare, ebBadWare, etBadWare⟩
  have XBadMake : ExT K mg "BadMake" EBadMake := ⟨PySem.W.mg_of X G eaBadMake, exBadMake, ekBadMake, ebBadMake, etBadMake⟩
  have XBadNeed : ExT K mg "BadNeed" EBadNeed := ⟨PySem.W.mg_of X G eaBadNeed, exBadNeed, ekBadNeed, ebBadNeed, etBadNeed⟩
  have XTwice : ExT K mg "Twice" ETwice := ⟨PySem.W.mg_of X G eaTwice, exTwice, ekTwice, ebTwice, etTwice⟩
  have XFull : ExT K mg "Full" EFull := ⟨PySem.W.mg_of X G eaFull, exFull, ekFull, ebFull, etFull⟩
  have XNoMake : ExT K mg "NoMake" ENoMake := ⟨PySem.W.mg_of X G eaNoMake, exNoMake, ekNoMake, ebNoMake, etNoMake⟩
  have XBadWish : ExT K mg "BadWish" EBadWish := ⟨PySem.W.mg_of X G eaBadWish, exBadWish, ekBadWish, ebBadWish, etBadWish⟩
  have XBadPick : ExT K mg "BadPick" EBadPick := ⟨PySem.W.mg_of X G eaBadPick, exBadPick, ekBadPick, ebBadPick, etBadPick⟩
  have XPickError : ExT K mg "PickError" EPickError := ⟨PySem.W.mg_of X G eaPickError, exPickError, ekPickError, ebPickError, etPickError⟩
  have RBadWare : ErrT K EPickError [EBadWare, EBadMake, EBadNeed, ETwice, EFull, ENoMake, EBadWish, EBadPick] EBadWare 0 := ⟨⟨r1BadWare, r2BadWare, ebBadWare, r3BadWare, r4BadWare, r5, r6, rmBadWare⟩, fun j C hj => by
    match j, hj with
    | 0, hj => (cases hj; exact kit_refS)
    | 1, hj => (cases hj; exact kit_refN rnBadWare1 r3BadMake etBadMake riBadWare1)
    | 2, hj => (cases hj; exact kit_refN rnBadWare2 r3BadNeed etBadNeed riBadWare2)
    | 3, hj => (cases hj; exact kit_refN rnBadWare3 r3Twice etTwice riBadWare3)
    | 4, hj => (cases hj; exact kit_refN rnBadWare4 r3Full etFull riBadWare4)
    | 5, hj => (cases hj; exact kit_refN rnBadWare5 r3NoMake etNoMake riBadWare5)
    | 6, hj => (cases hj; exact kit_refN rnBadWare6 r3BadWish etBadWish riBadWare6)
    | 7, hj => (cases hj; exact kit_refN rnBadWare7 r3BadPick etBadPick riBadWare7)
    | n + 8, hj => exact absurd hj (by simp), kit_refT (by decide +kernel) rvBadWare, PySem.W.exm_ref ebPickError r3PickError etPickError rxBadWare⟩
  have RBadMake : ErrT K EPickError [EBadWare, EBadMake, EBadNeed, ETwice, EFull, ENoMake, EBadWish, EBadPick] EBadMake 1 := ⟨⟨r1BadMake, r2BadMake, ebBadMake, r3BadMake, r4BadMake, r5, r6, rmBadMake⟩, fun j C hj => by
    match j, hj with
    | 0, hj => (cases hj; exact kit_refN rnBadMake0 r3BadWare etBadWare riBadMake0)
    | 1, hj => (cases hj; exact kit_refS)
    | 2, hj => (cases hj; exact kit_refN rnBadMake2 r3BadNeed etBadNeed riBadMake2)
    | 3, hj => (cases hj; exact kit_refN rnBadMake3 r3Twice etTwice riBadMake3)
    | 4, hj => (cases hj; exact kit_refN rnBadMake4 r3Full etFull riBadMake4)
    | 5, hj => (cases hj; exact kit_refN rnBadMake5 r3NoMake etNoMake riBadMake5)
    | 6, hj => (cases hj; exact kit_refN rnBadMake6 r3BadWish etBadWish riBadMake6)
    | 7, hj => (cases hj; exact kit_refN rnBadMake7 r3BadPick etBadPick riBadMake7)
    | n + 8, hj => exact absurd hj (by simp), kit_refT (by decide +kernel) rvBadMake, PySem.W.exm_ref ebPickError r3PickError etPickError rxBadMake⟩
  have RBadNeed : ErrT K EPickError [EBadWare, EBadMake, EBadNeed, ETwice, EFull, ENoMake, EBadWish, EBadPick] EBadNeed 2 := ⟨⟨r1BadNeed, r2BadNeed, ebBadNeed, r3BadNeed, r4BadNeed, r5, r6, rmBadNeed⟩, fun j C hj => by
    match j, hj with
    | 0, hj => (cases hj; exact kit_refN rnBadNeed0 r3BadWare etBadWare riBadNeed0)
    | 1, hj => (cases hj; exact kit_refN rnBadNeed1 r3BadMake etBadMake riBadNeed1)
    | 2, hj => (cases hj; exact kit_refS)
    | 3, hj => (cases hj; exact kit_refN rnBadNeed3 r3Twice etTwice riBadNeed3)
    | 4, hj => (cases hj; exact kit_refN rnBadNeed4 r3Full etFull riBadNeed4)
    | 5, hj => (cases hj; exact kit_refN rnBadNeed5 r3NoMake etNoMake riBadNeed5)
    | 6, hj => (cases hj; exact kit_refN rnBadNeed6 r3BadWish etBadWish riBadNeed6)
    | 7, hj => (cases hj; exact kit_refN rnBadNeed7 r3BadPick etBadPick riBadNeed7)
    | n + 8, hj => exact absurd hj (by simp), kit_refT (by decide +kernel) rvBadNeed, PySem.W.exm_ref ebPickError r3PickError etPickError rxBadNeed⟩
  have RTwice : ErrT K EPickError [EBadWare, EBadMake, EBadNeed, ETwice, EFull, ENoMake, EBadWish, EBadPick] ETwice 3 := ⟨⟨r1Twice, r2Twice, ebTwice, r3Twice, r4Twice, r5, r6, rmTwice⟩, fun j C hj => by
    match j, hj with
    | 0, hj => (cases hj; exact kit_refN rnTwice0 r3BadWare etBadWare riTwice0)
    | 1, hj => (cases hj; exact kit_refN rnTwice1 r3BadMake etBadMake riTwice1)
    | 2, hj => (cases hj; exact kit_refN rnTwice2 r3BadNeed etBadNeed riTwice2)
    | 3, hj => (cases hj; exact kit_refS)
    | 4, hj => (cases hj; exact kit_refN rnTwice4 r3Full etFull riTwice4)
    | 5, hj => (cases hj; exact kit_refN rnTwice5 r3NoMake etNoMake riTwice5)
    | 6, hj => (cases hj; exact kit_refN rnTwice6 r3BadWish etBadWish riTwice6)
    | 7, hj => (cases hj; exact kit_refN rnTwice7 r3BadPick etBadPick riTwice7)
    | n + 8, hj => exact absurd hj (by simp), kit_refT (by decide +kernel) rvTwice, PySem.W.exm_ref ebPickError r3PickError etPickError rxTwice⟩
  have RFull : ErrT K EPickError [EBadWare, EBadMake, EBadNeed, ETwice, EFull, ENoMake, EBadWish, EBadPick] EFull 4 := ⟨⟨r1Full, r2Full, ebFull, r3Full, r4Full, r5, r6, rmFull⟩, fun j C hj => by
    match j, hj with
    | 0, hj => (cases hj; exact kit_refN rnFull0 r3BadWare etBadWare riFull0)
    | 1, hj => (cases hj; exact kit_refN rnFull1 r3BadMake etBadMake riFull1)
    | 2, hj => (cases hj; exact kit_refN rnFull2 r3BadNeed etBadNeed riFull2)
    | 3, hj => (cases hj; exact kit_refN rnFull3 r3Twice etTwice riFull3)
    | 4, hj => (cases hj; exact kit_refS)
    | 5, hj => (cases hj; exact kit_refN rnFull5 r3NoMake etNoMake riFull5)
    | 6, hj => (cases hj; exact kit_refN rnFull6 r3BadWish etBadWish riFull6)
    | 7, hj => (cases hj; exact kit_refN rnFull7 r3BadPick etBadPick riFull7)
    | n + 8, hj => exact absurd hj (by simp), kit_refT (by decide +kernel) rvFull, PySem.W.exm_ref ebPickError r3PickError etPickError rxFull⟩
  have RNoMake : ErrT K EPickError [EBadWare, EBadMake, EBadNeed, ETwice, EFull, ENoMake, EBadWish, EBadPick] ENoMake 5 := ⟨⟨r1NoMake, r2NoMake, ebNoMake, r3NoMake, r4NoMake, r5, r6, rmNoMake⟩, fun j C hj => by
    match j, hj with
    | 0, hj => (cases hj; exact kit_refN rnNoMake0 r3BadWare etBadWare riNoMake0)
    | 1, hj => (cases hj; exact kit_refN rnNoMake1 r3BadMake etBadMake riNoMake1)
    | 2, hj => (cases hj; exact kit_refN rnNoMake2 r3BadNeed etBadNeed riNoMake2)
    | 3, hj => (cases hj; exact kit_refN rnNoMake3 r3Twice etTwice riNoMake3)
    | 4, hj => (cases hj; exact kit_refN rnNoMake4 r3Full etFull riNoMake4)
    | 5, hj => (cases hj; exact kit_refS)
    | 6, hj => (cases hj; exact kit_refN rnNoMake6 r3BadWish etBadWish riNoMake6)
    | 7, hj => (cases hj; exact kit_refN rnNoMake7 r3BadPick etBadPick riNoMake7)
    | n + 8, hj => exact absurd hj (by simp), kit_refT (by decide +kernel) rvNoMake, PySem.W.exm_ref ebPickError r3PickError etPickError rxNoMake⟩
  have hErr : ∀ (k : Nat) (D : Addr), [EBadWare, EBadMake, EBadNeed, ETwice, EFull, ENoMake][k]? = some D → ErrT K EPickError [EBadWare, EBadMake, EBadNeed, ETwice, EFull, ENoMake, EBadWish, EBadPick] D k := fun k D hk => by
    match k, hk with
    | 0, hk => (cases hk; exact RBadWare)
    | 1, hk => (cases hk; exact RBadMake)
    | 2, hk => (cases hk; exact RBadNeed)
    | 3, hk => (cases hk; exact RTwice)
    | 4, hk => (cases hk; exact RFull)
    | 5, hk => (cases hk; exact RNoMake)
    | n + 6, hk => exact absurd hk (by simp)
  have S : ShopT K mg CShop := ⟨⟨pgShop, hdShop, poShop, saShop⟩, nSShop_shelves, y8, y7, y11⟩
  refine ⟨PySem.W.fnOf "law" "law" (defArgs sLaw) (defBody sLaw) (defScope sLaw) .none kV25 dc25 pm25 an25 cd25 ct25, [(c, T)], spLaw K T, ?_, ?_, ?_, fun s v => .of_eq rfl, ?_, fun base hK hN hB => ?_⟩
  · intro p hp
    rw [List.mem_singleton.mp hp]
    exact hTab.2
  · intro p hp
    rw [List.mem_singleton.mp hp]
    exact nT
  · intro p hp
    rw [List.mem_singleton.mp hp]
    exact hTab.1
  · intro H a ns hl _ hH hS
    exact ⟨a, ns, rfl, hS, hl, ⟨#[], hH _ (List.mem_singleton.mpr rfl), True.intro⟩, fun _ => rfl⟩
  · have TB := hB _ (List.mem_singleton.mpr rfl)
    have G1 := ok_ware (P := l.prog) (w := w) l1 c1 ⟨TB.code, TB.bm, TB.gP⟩ y2 y3 y8 y9 qt8
    have G2 := ok_make (P := l.prog) (w := w) (base := base) F2 F4 b4 m4 y2 y4 qt1 qt9
    have G3 := ok_need (P := l.prog) (w := w) (base := base) F3 G1 F1.kp b1 m1 G2 F2.kp b2 m2 y2 y6 y8
    have G5 := ok_may (P := l.prog) (w := w) (base := base) F5 G3 F3.kp b3 m3 y2 y7 y8 qt6
    have G6 := ok_init (P := l.prog) (w := w) (base := base) F6 S
    have G12 := ok_has (P := l.prog) (w := w) (base := base) F12 S G1 F1.kp b1 m1 G2 F2.kp b2 m2
    have G13 := ok_place (P := l.prog) (w := w) (base := base) F13 S qt88 qt12
    have G8 := ok_take (P := l.prog) (w := w) (base := base) F8 S XNoMake G12 b12 m12
    have G7 := ok_put (P := l.prog) (w := w) (base := base) F7 S XBadWare XBadMake XBadNeed XTwice XFull G1 F1.kp b1 m1 G2 F2.kp b2 m2 G5 F5.kp b5 m5 G12 b12 m12 G13 b13 m13
    have G9 := ok_makes (P := l.prog) (w := w) (base := base) F9 S XBadWare G1 F1.kp b1 m1
    have G10 := ok_needs (P := l.prog) (w := w) (base := base) F10 S XNoMake G12 b12 m12
    have G11 := ok_wares (P := l.prog) (w := w) (base := base) (Tb := T) F11 S
    have G14 := ok_mixed (P := l.prog) (w := w) (base := base) F14 y8
    have G15 := ok_names (P := l.prog) (w := w) (base := base) (T := T) F15 F14 b14 m14 y8 y10
    have G16 := ok_ask (P := l.prog) (w := w) (base := base) F16 S G7 b7 m7 G8 b8 m8 G10 b10 m10 G9 b9 m9
    have G17 := ok_ref (P := l.prog) (w := w) (base := base) F17 G16 F16.kp b16 m16 XPickError.gC XBadWare.gC XBadMake.gC XBadNeed.gC XTwice.gC XFull.gC XNoMake.gC XBadWish.gC XBadPick.gC y1 y10 y12
    have G18 := ok_badw (P := l.prog) (w := w) (base := base) (T := T) F18 y8
    have G19 := ok_badn (P := l.prog) (w := w) (base := base) (T := T) F19 y8
    have G20 := ok_badns (P := l.prog) (w := w) (base := base) F20 G19 F19.kp b19 m19 y8 y10 y6
    have G21 := ok_told (P := l.prog) (w := w) (base := base) F21 S G11 b11 m11 G9 b9 m9 G10 b10 m10
    have G22 := ok_fill (P := l.prog) (w := w) (base := base) F22 S mCShop ⟨mkShop, a6, i6, kcShop⟩ G6 b6 G7 b7 m7 y8 y10
    have G23 := ok_due (P := l.prog) (w := w) (base := base) F23 G18 F18.kp b18 m18 G20 F20.kp b20 m20 y4
    have G24 := ok_good (P := l.prog) (w := w) (base := base) F24 S G7 b7 m7 G8 b8 m8 G10 b10 m10 G9 b9 m9 G11 b11 m11 G17 F17.kp b17 m17 y1 y3 y4 y5
    exact ok_law F25 S G14 F14.kp b14 m14 G15 F15.kp b15 m15 G22 F22.kp b22 m22 G23 F23.kp b23 m23 G21 F21.kp b21 m21 G17 F17.kp b17 m17 G24 F24.kp b24 m24 G10 b10 m10 y10 hErr
end Pk
open PySem PySem.W PyProof.Rows
set_option maxRecDepth 100000 in
set_option maxHeartbeats 0 in
theorem PySem.Challenge.cw_pickfloor_k03_shops_refuse_holds : PySem.Challenge.rw_pickfloor_k03_shops_refuse.Holds := by
  w_on; o_law; k_head; (case hw => w_witness2)
  k_fill
  refine Pk.walk_ofD (l := PySem.Challenge.rw_pickfloor_k03_shops_refuse) (n := 63) (k := 9) (x := "_law_script") (CX := fun _ => L2.CX0) rfl (by decide) rfl ⟨rfl, by decide, by decide⟩ (fun w h Y => PySem.W.kIn_of Y) ?F (fun _ _ _ _ _ h => h)
  case F =>
    intro w mg fa h KX G hmg hTab
    refine' Pk.all_mk KX G hmg hTab (by decide +kernel) ?lc ?v11 ?nT ?aCShop ?a1 ?l1 ?c1 ?k1 ?a2 ?l2 ?c2 ?k2 ?a3 ?l3 ?c3 ?k3 ?a4 ?l4 ?c4 ?k4 ?a5 ?l5 ?c5 ?k5 ?a6 ?i6 ?l6 ?c6 ?k6 ?a7 ?i7 ?l7 ?c7 ?k7 ?a8 ?i8 ?l8 ?c8 ?k8 ?a9 ?i9 ?l9 ?c9 ?k9 ?a10 ?i10 ?l10 ?c10 ?k10 ?a11 ?i11 ?l11 ?c11 ?k11 ?a12 ?i12 ?l12 ?c12 ?k12 ?a13 ?i13 ?l13 ?c13 ?k13 ?a14 ?l14 ?c14 ?k14 ?a15 ?l15 ?c15 ?k15 ?a16 ?l16 ?c16 ?k16 ?a17 ?l17 ?c17 ?k17 ?a18 ?l18 ?c18 ?k18 ?a19 ?l19 ?c19 ?k19 ?a20 ?l20 ?c20 ?k20 ?a21 ?l21 ?c21 ?k21 ?a22 ?l22 ?c22 ?k22 ?a23 ?l23 ?c23 ?k23 ?a24 ?l24 ?c24 ?k24 ?a25 ?l25 ?c25 ?k25 ?gt8 ?gt1 ?gt9 ?gt12 ?gt88 ?gt6 ?pgShop ?hdShop ?poShop ?saShop ?mkShop ?kcShop ?nSShop_shelves ?eaBadWare ?exBadWare ?ekBadWare ?ebBadWare ?etBadWare ?eaBadMake ?exBadMake ?ekBadMake ?ebBadMake ?etBadMake ?eaBadNeed ?exBadNeed ?ekBadNeed ?ebBadNeed ?etBadNeed ?eaTwice ?exTwice ?ekTwice ?ebTwice ?etTwice ?eaFull ?exFull ?ekFull ?ebFull ?etFull ?eaNoMake ?exNoMake ?ekNoMake ?ebNoMake ?etNoMake ?eaBadWish ?exBadWish ?ekBadWish ?ebBadWish ?etBadWish ?eaBadPick ?exBadPick ?ekBadPick ?ebBadPick ?etBadPick ?eaPickError ?exPickError ?ekPickError ?ebPickError ?etPickError ?r1BadWare ?r2BadWare ?r3BadWare ?r4BadWare ?rmBadWare ?rvBadWare ?rxBadWare ?rnBadWare1 ?riBadWare1 ?rnBadWare2 ?riBadWare2 ?rnBadWare3 ?riBadWare3 ?rnBadWare4 ?riBadWare4 ?rnBadWare5 ?riBadWare5 ?rnBadWare6 ?riBadWare6 ?rnBadWare7 ?riBadWare7 ?r1BadMake ?r2BadMake ?r3BadMake ?r4BadMake ?rmBadMake ?rvBadMake ?rxBadMake ?rnBadMake0 ?riBadMake0 ?rnBadMake2 ?riBadMake2 ?rnBadMake3 ?riBadMake3 ?rnBadMake4 ?riBadMake4 ?rnBadMake5 ?riBadMake5 ?rnBadMake6 ?riBadMake6 ?rnBadMake7 ?riBadMake7 ?r1BadNeed ?r2BadNeed ?r3BadNeed ?r4BadNeed ?rmBadNeed ?rvBadNeed ?rxBadNeed ?rnBadNeed0 ?riBadNeed0 ?rnBadNeed1 ?riBadNeed1 ?rnBadNeed3 ?riBadNeed3 ?rnBadNeed4 ?riBadNeed4 ?rnBadNeed5 ?riBadNeed5 ?rnBadNeed6 ?riBadNeed6 ?rnBadNeed7 ?riBadNeed7 ?r1Twice ?r2Twice ?r3Twice ?r4Twice ?rmTwice ?rvTwice ?rxTwice ?rnTwice0 ?riTwice0 ?rnTwice1 ?riTwice1 ?rnTwice2 ?riTwice2 ?rnTwice4 ?riTwice4 ?rnTwice5 ?riTwice5 ?rnTwice6 ?riTwice6 ?rnTwice7 ?riTwice7 ?r1Full ?r2Full ?r3Full ?r4Full ?rmFull ?rvFull ?rxFull ?rnFull0 ?riFull0 ?rnFull1 ?riFull1 ?rnFull2 ?riFull2 ?rnFull3 ?riFull3 ?rnFull5 ?riFull5 ?rnFull6 ?riFull6 ?rnFull7 ?riFull7 ?r1NoMake ?r2NoMake ?r3NoMake ?r4NoMake ?rmNoMake ?rvNoMake ?rxNoMake ?rnNoMake0 ?riNoMake0 ?rnNoMake1 ?riNoMake1 ?rnNoMake2 ?riNoMake2 ?rnNoMake3 ?riNoMake3 ?rnNoMake4 ?riNoMake4 ?rnNoMake6 ?riNoMake6 ?rnNoMake7 ?riNoMake7 ?r3PickError ?r3BadWish ?r3BadPick ?r6 ?r5 ?z1 ?z2 ?z3 ?z4 ?z5 ?z6 ?z7 ?z8 ?z9 ?z10 ?z11 ?z12
    (case aCShop => k_is)
    (case a1 => k_is)
    (case l1 => k_is)
    (case c1 => k_is)
    (case k1 => k_is)
    (case a2 => k_is)
    (case l2 => k_is)
    (case c2 => k_is)
    (case k2 => k_is)
    (case a3 => k_is)
    (case l3 => k_is)
    (case c3 => k_is)
    (case k3 => k_is)
    (case a4 => k_is)
    (case l4 => k_is)
    (case c4 => k_is)
    (case k4 => k_is)
    (case a5 => k_is)
    (case l5 => k_is)
    (case c5 => k_is)
    (case k5 => k_is)
    (case a6 => k_is)
    (case i6 => k_is)
    (case l6 => k_is)
    (case c6 => k_is)
    (case k6 => k_is)
    (case a7 => k_is)
    (case i7 => k_is)
    (case l7 => k_is)
    (case c7 => k_is)
    (case k7 => k_is)
    (case a8 => k_is)
    (case i8 => k_is)
    (case l8 => k_is)
    (case c8 => k_is)
    (case k8 => k_is)
    (case a9 => k_is)
    (case i9 => k_is)
    (case l9 => k_is)
    (case c9 => k_is)
    (case k9 => k_is)
    (case a10 => k_is)
    (case i10 => k_is)
    (case l10 => k_is)
    (case c10 => k_is)
    (case k10 => k_is)
    (case a11 => k_is)
    (case i11 => k_is)
    (case l11 => k_is)
    (case c11 => k_is)
    (case k11 => k_is)
    (case a12 => k_is)
    (case i12 => k_is)
    (case l12 => k_is)
    (case c12 => k_is)
    (case k12 => k_is)
    (case a13 => k_is)
    (case i13 => k_is)
    (case l13 => k_is)
    (case c13 => k_is)
    (case k13 => k_is)
    (case a14 => k_is)
    (case l14 => k_is)
    (case c14 => k_is)
    (case k14 => k_is)
    (case a15 => k_is)
    (case l15 => k_is)
    (case c15 => k_is)
    (case k15 => k_is)
    (case a16 => k_is)
    (case l16 => k_is)
    (case c16 => k_is)
    (case k16 => k_is)
    (case a17 => k_is)
    (case l17 => k_is)
    (case c17 => k_is)
    (case k17 => k_is)
    (case a18 => k_is)
    (case l18 => k_is)
    (case c18 => k_is)
    (case k18 => k_is)
    (case a19 => k_is)
    (case l19 => k_is)
    (case c19 => k_is)
    (case k19 => k_is)
    (case a20 => k_is)
    (case l20 => k_is)
    (case c20 => k_is)
    (case k20 => k_is)
    (case a21 => k_is)
    (case l21 => k_is)
    (case c21 => k_is)
    (case k21 => k_is)
    (case a22 => k_is)
    (case l22 => k_is)
    (case c22 => k_is)
    (case k22 => k_is)
    (case a23 => k_is)
    (case l23 => k_is)
    (case c23 => k_is)
    (case k23 => k_is)
    (case a24 => k_is)
    (case l24 => k_is)
    (case c24 => k_is)
    (case k24 => k_is)
    (case a25 => k_is)
    (case l25 => k_is)
    (case c25 => k_is)
    (case k25 => k_is)
    (case gt8 => k_is)
    (case gt1 => k_is)
    (case gt9 => k_is)
    (case gt12 => k_is)
    (case gt88 => k_is)
    (case gt6 => k_is)
    (case pgShop => k_is)
    (case hdShop => k_is)
    (case poShop => k_is)
    (case saShop => k_is)
    (case mkShop => k_is)
    (case kcShop => k_is)
    (case nSShop_shelves => k_is)
    (case eaBadWare => k_is)
    (case exBadWare => k_exc)
    (case ekBadWare => k_is)
    (case ebBadWare => k_is)
    (case etBadWare => k_is)
    (case eaBadMake => k_is)
    (case exBadMake => k_exc)
    (case ekBadMake => k_is)
    (case ebBadMake => k_is)
    (case etBadMake => k_is)
    (case eaBadNeed => k_is)
    (case exBadNeed => k_exc)
    (case ekBadNeed => k_is)
    (case ebBadNeed => k_is)
    (case etBadNeed => k_is)
    (case eaTwice => k_is)
    (case exTwice => k_exc)
    (case ekTwice => k_is)
    (case ebTwice => k_is)
    (case etTwice => k_is)
    (case eaFull => k_is)
    (case exFull => k_exc)
    (case ekFull => k_is)
    (case ebFull => k_is)
    (case etFull => k_is)
    (case eaNoMake => k_is)
    (case exNoMake => k_exc)
    (case ekNoMake => k_is)
    (case ebNoMake => k_is)
    (case etNoMake => k_is)
    (case eaBadWish => k_is)
    (case exBadWish => k_exc)
    (case ekBadWish => k_is)
    (case ebBadWish => k_is)
    (case etBadWish => k_is)
    (case eaBadPick => k_is)
    (case exBadPick => k_exc)
    (case ekBadPick => k_is)
    (case ebBadPick => k_is)
    (case etBadPick => k_is)
    (case eaPickError => k_is)
    (case exPickError => k_exc)
    (case ekPickError => k_is)
    (case ebPickError => k_is)
    (case etPickError => k_is)
    (case r1BadWare => k_is)
    (case r2BadWare => k_is)
    (case r3BadWare => k_is)
    (case r4BadWare => k_is)
    (case rmBadWare => k_is)
    (case rvBadWare => k_is)
    (case rxBadWare => k_is)
    (case rnBadWare1 => decide +kernel)
    (case riBadWare1 => k_is)
    (case rnBadWare2 => decide +kernel)
    (case riBadWare2 => k_is)
    (case rnBadWare3 => decide +kernel)
    (case riBadWare3 => k_is)
    (case rnBadWare4 => decide +kernel)
    (case riBadWare4 => k_is)
    (case rnBadWare5 => decide +kernel)
    (case riBadWare5 => k_is)
    (case rnBadWare6 => decide +kernel)
    (case riBadWare6 => k_is)
    (case rnBadWare7 => decide +kernel)
    (case riBadWare7 => k_is)
    (case r1BadMake => k_is)
    (case r2BadMake => k_is)
    (case r3BadMake => k_is)
    (case r4BadMake => k_is)
    (case rmBadMake => k_is)
    (case rvBadMake => k_is)
    (case rxBadMake => k_is)
    (case rnBadMake0 => decide +kernel)
    (case riBadMake0 => k_is)
    (case rnBadMake2 => decide +kernel)
    (case riBadMake2 => k_is)
    (case rnBadMake3 => decide +kernel)
    (case riBadMake3 => k_is)
    (case rnBadMake4 => decide +kernel)
    (case riBadMake4 => k_is)
    (case rnBadMake5 => decide +kernel)
    (case riBadMake5 => k_is)
    (case rnBadMake6 => decide +kernel)
    (case riBadMake6 => k_is)
    (case rnBadMake7 => decide +kernel)
    (case riBadMake7 => k_is)
    (case r1BadNeed => k_is)
    (case r2BadNeed => k_is)
    (case r3BadNeed => k_is)
    (case r4BadNeed => k_is)
    (case rmBadNeed => k_is)
    (case rvBadNeed => k_is)
    (case rxBadNeed => k_is)
    (case rnBadNeed0 => decide +kernel)
    (case riBadNeed0 => k_is)
    (case rnBadNeed1 => decide +kernel)
    (case riBadNeed1 => k_is)
    (case rnBadNeed3 => decide +kernel)
    (case riBadNeed3 => k_is)
    (case rnBadNeed4 => decide +kernel)
    (case riBadNeed4 => k_is)
    (case rnBadNeed5 => decide +kernel)
    (case riBadNeed5 => k_is)
    (case rnBadNeed6 => decide +kernel)
    (case riBadNeed6 => k_is)
    (case rnBadNeed7 => decide +kernel)
    (case riBadNeed7 => k_is)
    (case r1Twice => k_is)
    (case r2Twice => k_is)
    (case r3Twice => k_is)
    (case r4Twice => k_is)
    (case rmTwice => k_is)
    (case rvTwice => k_is)
    (case rxTwice => k_is)
    (case rnTwice0 => decide +kernel)
    (case riTwice0 => k_is)
    (case rnTwice1 => decide +kernel)
    (case riTwice1 => k_is)
    (case rnTwice2 => decide +kernel)
    (case riTwice2 => k_is)
    (case rnTwice4 => decide +kernel)
    (case riTwice4 => k_is)
    (case rnTwice5 => decide +kernel)
    (case riTwice5 => k_is)
    (case rnTwice6 => decide +kernel)
    (case riTwice6 => k_is)
    (case rnTwice7 => decide +kernel)
    (case riTwice7 => k_is)
    (case r1Full => k_is)
    (case r2Full => k_is)
    (case r3Full => k_is)
    (case r4Full => k_is)
    (case rmFull => k_is)
    (case rvFull => k_is)
    (case rxFull => k_is)
    (case rnFull0 => decide +kernel)
    (case riFull0 => k_is)
    (case rnFull1 => decide +kernel)
    (case riFull1 => k_is)
    (case rnFull2 => decide +kernel)
    (case riFull2 => k_is)
    (case rnFull3 => decide +kernel)
    (case riFull3 => k_is)
    (case rnFull5 => decide +kernel)
    (case riFull5 => k_is)
    (case rnFull6 => decide +kernel)
    (case riFull6 => k_is)
    (case rnFull7 => decide +kernel)
    (case riFull7 => k_is)
    (case r1NoMake => k_is)
    (case r2NoMake => k_is)
    (case r3NoMake => k_is)
    (case r4NoMake => k_is)
    (case rmNoMake => k_is)
    (case rvNoMake => k_is)
    (case rxNoMake => k_is)
    (case rnNoMake0 => decide +kernel)
    (case riNoMake0 => k_is)
    (case rnNoMake1 => decide +kernel)
    (case riNoMake1 => k_is)
    (case rnNoMake2 => decide +kernel)
    (case riNoMake2 => k_is)
    (case rnNoMake3 => decide +kernel)
    (case riNoMake3 => k_is)
    (case rnNoMake4 => decide +kernel)
    (case riNoMake4 => k_is)
    (case rnNoMake6 => decide +kernel)
    (case riNoMake6 => k_is)
    (case rnNoMake7 => decide +kernel)
    (case riNoMake7 => k_is)
    (case r3PickError => k_is)
    (case r3BadWish => k_is)
    (case r3BadPick => k_is)
    (case r6 => k_is)
    (case r5 => k_is)
    (case z1 => k_is)
    (case z2 => k_is)
    (case z3 => k_is)
    (case z4 => k_is)
    (case z5 => k_is)
    (case z6 => k_is)
    (case z7 => k_is)
    (case z8 => k_is)
    (case z9 => k_is)
    (case z10 => k_is)
    (case z11 => k_is)
    (case z12 => k_is)
    (case lc => k_is); (case v11 => rfl); (case nT => with_unfolding_all rfl)

