import PyProof.Rows.All
import Wide.All
import OpenK.AllK
import Wide.FinOn
import HandS.ForMost
import HandS.IsInst
import HandS.Style
import HandS.AnyAll
import HandS.EndTab
import HandS.Codes
import HandS.More
import PySem.Challenge.RW_pickfloor_k01_stretches
set_option Elab.async false
set_option linter.all false
set_option maxRecDepth 100000
set_option maxHeartbeats 4000000
namespace Pk
open PySem PySem.Spec PyProof.Rows L2

/-! ### heaps: all that was tracked is kept, the table at P may have grown -/
structure Kp (P : Addr) (H H' : Hp) : Prop where
  t0 : GxR.TabG H P
  tab : GxR.TabG H' P
  keep : ∀ b o, b ≠ P → H b = some o → H' b = some o
theorem Kp.refl {P : Addr} {H : Hp} (t : GxR.TabG H P) : Kp P H H := ⟨t, t, fun _ _ _ e => e⟩
theorem Kp.trans {P : Addr} {H H1 H2 : Hp} (a : Kp P H H1) (b : Kp P H1 H2) : Kp P H H2 := ⟨a.t0, b.tab, fun c o n e => b.keep c o n (a.keep c o n e)⟩
theorem tab_ne {P b : Addr} {H : Hp} (t : GxR.TabG H P) {o : HO} (e : H b = some o) (n : ∀ ps, o ≠ .tbl ps) : b ≠ P := fun z => by
  obtain ⟨ps, h, _⟩ := t
  rw [z, h] at e
  exact n ps (Option.some.inj e).symm
theorem tab_nn {P b : Addr} {H : Hp} (t : GxR.TabG H P) (e : H b = none) : b ≠ P := fun z => by
  obtain ⟨ps, h, _⟩ := t
  rw [z, h] at e
  cases e
theorem Kp.of_tabbed {P : Addr} {H H' : Hp} (t : GxR.TabG H P) (h : GxR.Tabbed P H H') : Kp P H H' := ⟨t, h.1, fun b o n e => (h.2 b n).trans e⟩
theorem Kp.new {P p : Addr} {H : Hp} {o : HO} (t : GxR.TabG H P) (np : H p = none) : Kp P H (upd H p o) := by
  have n := tab_nn t np
  refine ⟨t, ?_, fun b u _ e => by rw [upd_ne (ne_of_none e np)]; exact e⟩
  obtain ⟨ps, h, q⟩ := t
  exact ⟨ps, by rw [upd_ne n.symm]; exact h, q⟩
/-- a store at an object that is new since H -/
theorem Kp.set {P p : Addr} {H H1 : Hp} {o : HO} (k : Kp P H H1) (np : H p = none) (hp : p ≠ P) : Kp P H (upd H1 p o) := by
  refine ⟨k.t0, ?_, fun b u n e => by rw [upd_ne (ne_of_none e np)]; exact k.keep b u n e⟩
  obtain ⟨ps, h, q⟩ := k.tab
  exact ⟨ps, by rw [upd_ne hp.symm]; exact h, q⟩
theorem Kp.free {P p : Addr} {H H1 : Hp} (k : Kp P H H1) (np : H1 p = none) : H p = none := by
  cases q : H p with
  | none => rfl
  | some o =>
    have z := k.keep p o (tab_nn k.tab np) q
    rw [np] at z
    cases z
theorem Kp.seq {P : Addr} {K : PySem.W.Frag} {H H' : Hp} {a : Addr} {xs : List V} (k : Kp P H H') (h : SqL K H a xs) : SqL K H' a xs := by
  rcases h with (h | ⟨o, h⟩) | h
  · exact .inl (.inl (k.keep _ _ (tab_ne k.t0 h fun _ z => by cases z) h))
  · exact .inl (.inr ⟨o, k.keep _ _ (tab_ne k.t0 h fun _ z => by cases z) h⟩)
  · exact .inr h
theorem Kp.sqt {P : Addr} {K : PySem.W.Frag} {H H' : Hp} {a : Addr} {xs : List V} (k : Kp P H H') (h : SqT K H a xs) : SqT K H' a xs := by
  rcases h with (h | ⟨o, h⟩) | h
  · exact .inl (.inl (k.keep _ _ (tab_ne k.t0 h fun _ z => by cases z) h))
  · exact .inl (.inr ⟨o, k.keep _ _ (tab_ne k.t0 h fun _ z => by cases z) h⟩)
  · exact .inr h
mutual
theorem Kp.dp {P : Addr} {K : PySem.W.Frag} {H H' : Hp} (k : Kp P H H') : ∀ (d : PyData) (v : V), Dp K H v d → Dp K H' v d
  | .none, _, h => by cases h; exact .non
  | .bool b, _, h => by cases h; exact .bl b
  | .int i, _, h => by cases h; exact .int i
  | .str x, _, h => by cases h; exact .str x
  | .list ds, _, h => by
    cases h with
    | lst a b => exact .lst (k.seq a) (Kp.dpAll k ds _ b)
  | .tuple ds, _, h => by
    cases h with
    | tup a b => exact .tup (k.sqt a) (Kp.dpAll k ds _ b)
  | .dict _, _, h => by cases h
theorem Kp.dpAll {P : Addr} {K : PySem.W.Frag} {H H' : Hp} (k : Kp P H H') : ∀ (ds : List PyData) (vs : List V), DpAll K H vs ds → DpAll K H' vs ds
  | [], _, h => by cases h; exact .nil
  | d :: ds, _, h => by
    cases h with
    | cons a b => exact .cons (Kp.dp k d _ a) (Kp.dpAll k ds _ b)
end
theorem dpAll_get {K : PySem.W.Frag} {H : Hp} : ∀ {ds : List PyData} {vs : List V}, DpAll K H vs ds → ∀ {i : Nat} {d : PyData}, ds[i]? = some d → ∃ v, vs[i]? = some v ∧ Dp K H v d
  | [], _, _, i, d, e => by simp at e
  | x :: r, _, h, i, d, e => by
    cases h with
    | cons a b =>
      cases i with
      | zero => exact ⟨_, rfl, by have e' : x = d := Option.some.inj e; subst e'; exact a⟩
      | succ i => exact dpAll_get b (i := i) (d := d) (by simpa using e)
theorem dpAll_len {K : PySem.W.Frag} {H : Hp} : ∀ {ds : List PyData} {vs : List V}, DpAll K H vs ds → vs.length = ds.length
  | [], _, h => by cases h; rfl
  | x :: r, _, h => by
    cases h with
    | cons a b => simp [dpAll_len b]

/-! ### kinds -/
def tyN : PyData → String
  | .none => "NoneType" | .bool _ => "bool" | .int _ => "int" | .str _ => "str" | .list _ => "list" | .tuple _ => "tuple" | .dict _ => "dict"
theorem tyx_of {K : PySem.W.Frag} {H : Hp} {v : V} {d : PyData} (h : Dp K H v d) : TyX K H v (.type (tyN d)) := by
  cases h with
  | non => exact .base .non
  | bl b => exact .base (.bl b)
  | int i => exact .base (.int i)
  | str x => exact .base (.str x)
  | lst a _ =>
    rcases a with (a | ⟨o, a⟩) | ⟨o, its, n, l, c, _⟩
    · exact .base (.lst a)
    · exact .base (.frz a)
    · exact .kList l c
  | tup a _ =>
    rcases a with (a | ⟨o, a⟩) | ⟨o, its, n, l, c, _⟩
    · exact .base (.tup a)
    · exact .fTuple a
    · exact .kTuple l c
def isStrD : PyData → Bool | .str _ => true | _ => false
def isIntD : PyData → Bool | .int _ => true | .bool _ => true | _ => false
def isBoolD : PyData → Bool | .bool _ => true | _ => false
def isTupD : PyData → Bool | .tuple _ => true | _ => false
def isLstD : PyData → Bool | .list _ => true | _ => false
theorem kit_str (K : PySem.W.Frag) (d : PyData) : PySem.W.kitOne K (.type (tyN d)) (.type "str") = some (isStrD d) := by
  cases d
  · exact kit_ty (a := "NoneType") (b := "str") (r := false) (by decide +kernel)
  · exact kit_ty (a := "bool") (b := "str") (r := false) (by decide +kernel)
  · exact kit_ty (a := "int") (b := "str") (r := false) (by decide +kernel)
  · exact kit_ty (a := "str") (b := "str") (r := true) (by decide +kernel)
  · exact kit_ty (a := "list") (b := "str") (r := false) (by decide +kernel)
  · exact kit_ty (a := "tuple") (b := "str") (r := false) (by decide +kernel)
  · exact kit_ty (a := "dict") (b := "str") (r := false) (by decide +kernel)
theorem kit_int (K : PySem.W.Frag) (d : PyData) : PySem.W.kitOne K (.type (tyN d)) (.type "int") = some (isIntD d) := by
  cases d
  · exact kit_ty (a := "NoneType") (b := "int") (r := false) (by decide +kernel)
  · exact kit_ty (a := "bool") (b := "int") (r := true) (by decide +kernel)
  · exact kit_ty (a := "int") (b := "int") (r := true) (by decide +kernel)
  · exact kit_ty (a := "str") (b := "int") (r := false) (by decide +kernel)
  · exact kit_ty (a := "list") (b := "int") (r := false) (by decide +kernel)
  · exact kit_ty (a := "tuple") (b := "int") (r := false) (by decide +kernel)
  · exact kit_ty (a := "dict") (b := "int") (r := false) (by decide +kernel)
theorem kit_bool (K : PySem.W.Frag) (d : PyData) : PySem.W.kitOne K (.type (tyN d)) (.type "bool") = some (isBoolD d) := by
  cases d
  · exact kit_ty (a := "NoneType") (b := "bool") (r := false) (by decide +kernel)
  · exact kit_ty (a := "bool") (b := "bool") (r := true) (by decide +kernel)
  · exact kit_ty (a := "int") (b := "bool") (r := false) (by decide +kernel)
  · exact kit_ty (a := "str") (b := "bool") (r := false) (by decide +kernel)
  · exact kit_ty (a := "list") (b := "bool") (r := false) (by decide +kernel)
  · exact kit_ty (a := "tuple") (b := "bool") (r := false) (by decide +kernel)
  · exact kit_ty (a := "dict") (b := "bool") (r := false) (by decide +kernel)
theorem kit_tup (K : PySem.W.Frag) (d : PyData) : PySem.W.kitOne K (.type (tyN d)) (.type "tuple") = some (isTupD d) := by
  cases d
  · exact kit_ty (a := "NoneType") (b := "tuple") (r := false) (by decide +kernel)
  · exact kit_ty (a := "bool") (b := "tuple") (r := false) (by decide +kernel)
  · exact kit_ty (a := "int") (b := "tuple") (r := false) (by decide +kernel)
  · exact kit_ty (a := "str") (b := "tuple") (r := false) (by decide +kernel)
  · exact kit_ty (a := "list") (b := "tuple") (r := false) (by decide +kernel)
  · exact kit_ty (a := "tuple") (b := "tuple") (r := true) (by decide +kernel)
  · exact kit_ty (a := "dict") (b := "tuple") (r := false) (by decide +kernel)
theorem kit_lst (K : PySem.W.Frag) (d : PyData) : PySem.W.kitOne K (.type (tyN d)) (.type "list") = some (isLstD d) := by
  cases d
  · exact kit_ty (a := "NoneType") (b := "list") (r := false) (by decide +kernel)
  · exact kit_ty (a := "bool") (b := "list") (r := false) (by decide +kernel)
  · exact kit_ty (a := "int") (b := "list") (r := false) (by decide +kernel)
  · exact kit_ty (a := "str") (b := "list") (r := false) (by decide +kernel)
  · exact kit_ty (a := "list") (b := "list") (r := true) (by decide +kernel)
  · exact kit_ty (a := "tuple") (b := "list") (r := false) (by decide +kernel)
  · exact kit_ty (a := "dict") (b := "list") (r := false) (by decide +kernel)
/-! ### the mirror: wares, makes, needs -/
def azB (c : Nat) : Bool := if (!decide ((⟨#[c]⟩ : Str).cps.toList < ("a" : Str).cps.toList)) = true then !decide (("z" : Str).cps.toList < (⟨#[c]⟩ : Str).cps.toList) else false
def wareB : PyData → Bool
  | .str x => decide (1 ≤ x.length) && decide (x.length ≤ 8) && x.cps.toList.all azB
  | _ => false
def makeB : PyData → Bool
  | .int i => decide (1 ≤ i) && decide (i ≤ 999)
  | _ => false
def leD : PyData → PyData → Bool
  | .int i, .int j => decide (i ≤ j)
  | _, _ => false
def needB : PyData → Bool
  | .tuple [a, b, c] => wareB a && makeB b && makeB c && leD b c
  | _ => false
theorem needB_len {ds : List PyData} (h : ds.length ≠ 3) : needB (.tuple ds) = false := by
  match ds, h with
  | [], _ => rfl
  | [_], _ => rfl
  | [_, _], _ => rfl
  | [_, _, _], h => exact absurd rfl h
  | _ :: _ :: _ :: _ :: _, _ => rfl
theorem makeB_ex {d : PyData} (h : makeB d = true) : ∃ i, d = .int i := by
  cases d <;> first | exact ⟨_, rfl⟩ | cases h
/-- all texts in it are short -/
def okS : PyData → Bool
  | .str x => decide (x.length ≤ 1000) && PyData.strOk x
  | _ => true
/-- and those of a tuple's items -/
def okT : PyData → Bool
  | .str x => decide (x.length ≤ 1000) && PyData.strOk x
  | .tuple ds => ds.all okS && decide (ds.length ≤ 1000)
  | _ => true
theorem okT_s {d : PyData} (h : okT d = true) : okS d = true := by
  cases d <;> first | exact h | rfl
theorem okS_len {x : Str} (h : okS (.str x) = true) : x.length ≤ 1000 := of_decide_eq_true (Bool.and_eq_true_iff.mp h).1
theorem okS_ok {x : Str} (h : okS (.str x) = true) : PyData.strOk x = true := (Bool.and_eq_true_iff.mp h).2
theorem line1000 {n : Nat} (h : n ≤ 1000) : n ≤ sizeLine := Nat.le_of_lt (small1000 h)

/-! ### the element 'a' <= sign <= 'z' of a generator expression -/
theorem elt_az {prog : Program} {w : World} {scope : Scope} {x : Str} {j1 j2 : Nat} {p1 p2 p3 p4 : Pos} (hk : scope.kind = .function) (hl : scope.names.lookup x = some .local) (hd : (x == ("__debug__" : Str)) = false := by decide) :
    GxR.EltP prog w scope x (.Compare (.Constant (.str "a") j1 p1) [.LtE, .LtE] [.Name x p2, .Constant (.str "z") j2 p3] p4) azB := by
  intro cenv A' E' c t s₂ m₂ hs hn hm
  have hk' : cenv.scope.kind = .function := by rw [hs]; exact hk
  have hl' : cenv.scope.names.lookup x = some .local := by rw [hs]; exact hl
  refine Compare_chain (Calls.Constant_str ?_) (by with_unfolding_all rfl)
  refine chain_link (wpAny_Name (wpAny_loadName_local hk' hl' hn hm ?_) hd)
  refine PySem.P.le_str ?_
  refine wpAny_truthy_bool ?_
  cases e : (!decide ((⟨#[c]⟩ : Str).cps.toList < ("a" : Str).cps.toList)) with
  | false => exact ite_ff ⟨by unfold azB; rw [if_neg (by rw [e]; exact Bool.false_ne_true)], GxR.keeps_tok _ _⟩
  | true =>
    refine ite_tt (chain_last (Calls.Constant_str (PySem.P.le_str ⟨?_, GxR.keeps_tok _ _⟩)))
    unfold azB
    rw [if_pos e]

/-! ### lists of booleans and such, as data -/
theorem iteD {p A B : Prop} [Decidable p] (h1 : p → A) (h2 : ¬ p → B) : if decide p = true then A else B := by
  by_cases h : p
  · rw [if_pos (decide_eq_true h)]
    exact h1 h
  · rw [if_neg (by rw [decide_eq_false h]; exact Bool.false_ne_true)]
    exact h2 h
theorem iteN {p A B : Prop} [Decidable p] (h1 : ¬ p → A) (h2 : p → B) : if (!decide p) = true then A else B := by
  by_cases h : p
  · rw [decide_eq_true h]
    exact iteF (h2 h)
  · rw [decide_eq_false h]
    exact iteT (h1 h)
/-! ### type(thing) is not .. -/
def isI (d : PyData) : Bool := match d with | .int _ => true | _ => false
def isDctD (d : PyData) : Bool := match d with | .dict _ => true | _ => false
theorem tyN_str (d : PyData) : decide (tyN d = "str") = isStrD d := by
  cases d
  · exact (by decide +kernel : decide ("NoneType" = "str") = false)
  · exact (by decide +kernel : decide ("bool" = "str") = false)
  · exact (by decide +kernel : decide ("int" = "str") = false)
  · exact (by decide +kernel : decide ("str" = "str") = true)
  · exact (by decide +kernel : decide ("list" = "str") = false)
  · exact (by decide +kernel : decide ("tuple" = "str") = false)
  · exact (by decide +kernel : decide ("dict" = "str") = false)
theorem tyN_int (d : PyData) : decide (tyN d = "int") = isI d := by
  cases d
  · exact (by decide +kernel : decide ("NoneType" = "int") = false)
  · exact (by decide +kernel : decide ("bool" = "int") = false)
  · exact (by decide +kernel : decide ("int" = "int") = true)
  · exact (by decide +kernel : decide ("str" = "int") = false)
  · exact (by decide +kernel : decide ("list" = "int") = false)
  · exact (by decide +kernel : decide ("tuple" = "int") = false)
  · exact (by decide +kernel : decide ("dict" = "int") = false)
theorem tyN_tup (d : PyData) : decide (tyN d = "tuple") = isTupD d := by
  cases d
  · exact (by decide +kernel : decide ("NoneType" = "tuple") = false)
  · exact (by decide +kernel : decide ("bool" = "tuple") = false)
  · exact (by decide +kernel : decide ("int" = "tuple") = false)
  · exact (by decide +kernel : decide ("str" = "tuple") = false)
  · exact (by decide +kernel : decide ("list" = "tuple") = false)
  · exact (by decide +kernel : decide ("tuple" = "tuple") = true)
  · exact (by decide +kernel : decide ("dict" = "tuple") = false)
theorem tyN_lst (d : PyData) : decide (tyN d = "list") = isLstD d := by
  cases d
  · exact (by decide +kernel : decide ("NoneType" = "list") = false)
  · exact (by decide +kernel : decide ("bool" = "list") = false)
  · exact (by decide +kernel : decide ("int" = "list") = false)
  · exact (by decide +kernel : decide ("str" = "list") = false)
  · exact (by decide +kernel : decide ("list" = "list") = true)
  · exact (by decide +kernel : decide ("tuple" = "list") = false)
  · exact (by decide +kernel : decide ("dict" = "list") = false)
theorem tyN_dct (d : PyData) : decide (tyN d = "dict") = isDctD d := by
  cases d
  · exact (by decide +kernel : decide ("NoneType" = "dict") = false)
  · exact (by decide +kernel : decide ("bool" = "dict") = false)
  · exact (by decide +kernel : decide ("int" = "dict") = false)
  · exact (by decide +kernel : decide ("str" = "dict") = false)
  · exact (by decide +kernel : decide ("list" = "dict") = false)
  · exact (by decide +kernel : decide ("tuple" = "dict") = false)
  · exact (by decide +kernel : decide ("dict" = "dict") = true)
theorem tyN_no {a b : String} {c : Bool} {A B : Prop} (h : decide (a = b) = c) (e : c = false) (p : A) : if (!decide (a = b)) = true then A else B := by
  rw [h, e]
  exact iteT p
theorem tyN_yes {a b : String} {c : Bool} {A B : Prop} (h : decide (a = b) = c) (e : c = true) (p : B) : if (!decide (a = b)) = true then A else B := by
  rw [h, e]
  exact iteF p
theorem tyI_no {a b : String} {c : Bool} {A B : Prop} (h : decide (a = b) = c) (e : c = false) (p : B) : if (decide (a = b)) = true then A else B := by
  rw [h, e]
  exact iteF p
theorem tyI_yes {a b : String} {c : Bool} {A B : Prop} (h : decide (a = b) = c) (e : c = true) (p : A) : if (decide (a = b)) = true then A else B := by
  rw [h, e]
  exact iteT p
theorem tyb_of {K : PySem.W.Frag} {H : Hp} {v : V} {d : PyData} (h : Dp K H v d) : TyB K H v (tyN d) := by
  cases h with
  | non => exact .non
  | bl b => exact .bl b
  | int i => exact .int i
  | str x => exact .str x
  | lst a _ => exact .lst a
  | tup a _ => exact .tup a
theorem isI_no {d : PyData} (h : isI d = false) : makeB d = false := by
  cases d <;> first | rfl | cases h
theorem isI_ex {d : PyData} (h : isI d = true) : ∃ i, d = .int i := by
  cases d <;> first | exact ⟨_, rfl⟩ | cases h
/-! ### signs a to z -/
theorem azB_iff (c : Nat) : azB c = (decide (97 ≤ c) && decide (c ≤ 122)) := by
  have e1 : (⟨#[c]⟩ : Str).cps.toList = [c] := rfl
  have e2 : ("a" : Str).cps.toList = [97] := by decide +kernel
  have e3 : ("z" : Str).cps.toList = [122] := by decide +kernel
  unfold azB
  rw [e1, e2, e3]
  by_cases h1 : 97 ≤ c
  · have f1 : ¬ ([c] < [97]) := by
      intro h
      cases h with
      | rel h => omega
      | cons h => cases h
    rw [decide_eq_false f1, decide_eq_true h1, Bool.true_and]
    show (if true = true then _ else _) = _
    rw [if_pos rfl]
    by_cases h2 : c ≤ 122
    · have f2 : ¬ ([122] < [c]) := by
        intro h
        cases h with
        | rel h => omega
        | cons h => cases h
      rw [decide_eq_false f2, decide_eq_true h2] <;> rfl
    · have f2 : [122] < [c] := List.Lex.rel (by omega)
      rw [decide_eq_true f2, decide_eq_false h2] <;> rfl
  · have f1 : [c] < [97] := List.Lex.rel (by omega)
    rw [decide_eq_true f1, decide_eq_false h1]
    rfl
def Az (l : List Nat) : Prop := ∀ c ∈ l, 97 ≤ c ∧ c ≤ 122
def Ok8 (l : List Nat) : Prop := ∀ c ∈ l, c < 0x110000
theorem Az.ok {l : List Nat} (h : Az l) : Ok8 l := fun c hc => by have := h c hc; omega
theorem strOk_S {l : List Nat} (h : Ok8 l) : PyData.strOk (SX.S l) = true := by
  unfold PyData.strOk
  rw [← Array.all_toList, List.all_eq_true]
  intro c hc
  exact decide_eq_true (h c hc)
theorem ok8_of {x : Str} (h : PyData.strOk x = true) : Ok8 x.cps.toList := by
  unfold PyData.strOk at h
  rw [← Array.all_toList, List.all_eq_true] at h
  intro c hc
  exact of_decide_eq_true (h c hc)
theorem okS_S {l : List Nat} (h : Ok8 l) (hl : l.length ≤ 1000) : okS (.str (SX.S l)) = true := by
  show (decide _ && _) = true
  rw [strOk_S h, SX.S_len, decide_eq_true hl] <;> rfl
theorem at_gen {α : Type} {xs : List α} {z : Int} {j : Nat} {v : α} (e : z = (j : Int)) (h : xs[j]? = some v) : atI xs z = some v := by
  rw [e]
  exact atI_nat h
def letters : List Nat := (List.range 26).map (97 + ·)
theorem letters_eq : ("abcdefghijklmnopqrstuvwxyz" : Str) = SX.S letters := by decide +kernel
theorem letters_at {i : Int} (h0 : 0 ≤ i) (h : i < 26) : atI letters i = some (97 + i.toNat) := by
  refine at_gen (j := i.toNat) (by omega) ?_
  unfold letters
  rw [List.getElem?_map, List.getElem?_range (by omega)]
  rfl
/-- an item of a list at a place in it -/
theorem at_pick {α : Type} {xs : List α} {i : Int} {p : α → Prop} (h0 : 0 ≤ i) (h1 : i < (xs.length : Int)) (hp : ∀ x ∈ xs, p x) : ∃ v, atI xs i = some v ∧ p v := by
  have hl : i.toNat < xs.length := by omega
  exact ⟨xs[i.toNat], at_gen (j := i.toNat) (by omega) (List.getElem?_eq_getElem hl), hp _ (List.getElem_mem hl)⟩
theorem cutV_mem {xs : List V} {lo hi : Option Int} {v : V} (h : v ∈ cutV xs lo hi) : v ∈ xs := List.mem_of_mem_drop (List.mem_of_mem_take h)
theorem cutS_S {l : List Nat} {lo hi : Option Int} : ∃ m, cutS (SX.S l) lo hi = SX.S m ∧ m.length ≤ l.length ∧ ∀ c ∈ m, c ∈ l := by
  refine ⟨_, rfl, ?_, fun c hc => List.mem_of_mem_drop (List.mem_of_mem_take hc)⟩
  have e : (SX.S l).cps.toList.length = l.length := by simp
  rw [List.length_take, List.length_drop]
  omega
/-- a comprehension over a text's signs -/
theorem lc_str {x : Str} {g : TG} {tt : TT} {te : TE} {vs : List Nat} {σ : L2.St} {H1 : Hp} {D : Addr} {Qd : Hp → Prop} (Pv : Nat → Hp → Prop) (h0 : Pv 0 (upd H1 D (.lst [])))
    (hs : ∀ i c H, x.cps.toList[i]? = some c → Pv i H → g (.str ⟨#[c]⟩) (wipe σ vs) H fun σ2 H2 => wipe σ2 vs = wipe σ vs ∧ tt σ2 H2 fun b H3 =>
      if b = true then te σ2 H3 fun y H4 => ∃ acc, H4 D = some (.lst acc) ∧ acc.length < sizeLine ∧ Pv (i + 1) (upd H4 D (.lst (acc ++ [y]))) else Pv (i + 1) H3) (hd : ∀ H, Pv x.cps.toList.length H → Qd H) :
    ∃ W : Nat → Nat → Hp → Prop, (∃ m, W 0 m (upd H1 D (.lst []))) ∧ ∀ i m H, W i m H →
      ((Its x).stop i H ∧ Qd H) ∨ ((Its x).go i H ∧ ∃ Nx : Hp → Prop, (∀ H', Nx H' → ∃ m', m' < m ∧ W (i + 1) m' H') ∧ ∀ v H', (Its x).yld i H v H' → g v (wipe σ vs) H' fun σ2 H2 => wipe σ2 vs = wipe σ vs ∧ tt σ2 H2 fun b H3 =>
        if b = true then te σ2 H3 fun y H4 => ∃ acc, H4 D = some (.lst acc) ∧ acc.length < sizeLine ∧ Nx (upd H4 D (.lst (acc ++ [y]))) else Nx H3) := by
  have hsz : x.cps.toList.length = x.cps.size := by simp
  refine ⟨fun i m H => m = x.cps.size - i ∧ i ≤ x.cps.size ∧ Pv i H, ⟨x.cps.size, by simp, Nat.zero_le _, h0⟩, ?_⟩
  rintro i m H ⟨rfl, hi, p⟩
  by_cases hlt : i < x.cps.size
  · refine .inr ⟨hlt, Pv (i + 1), fun H' p' => ⟨x.cps.size - (i + 1), by omega, rfl, hlt, p'⟩, fun v H' y => ?_⟩
    obtain ⟨rfl, c, hc, rfl⟩ := y
    exact hs i c _ (by rw [Array.getElem?_toList]; exact hc) p
  · have e : i = x.cps.size := by omega
    subst e
    exact .inl ⟨Nat.le_refl _, hd H (by rw [hsz]; exact p)⟩
/-! ### lists of flat things as data -/
theorem shaped_flat {ds : List PyData} (h : ∀ d ∈ ds, d.canLay0 = true ∧ d.depth = 0) : SeqAt.shaped (.list ds) = true ∧ SeqAt.shaped (.tuple ds) = true := by
  have h1 : PyData.canLayAll0 ds = true ∧ PyData.depthAll ds = 0 := by
    induction ds with
    | nil => exact ⟨rfl, rfl⟩
    | cons d r ih =>
      obtain ⟨i1, i2⟩ := ih fun x hx => h x (List.mem_cons_of_mem _ hx)
      obtain ⟨j1, j2⟩ := h d (List.mem_cons_self ..)
      constructor
      · show (d.canLay0 && PyData.canLayAll0 r) = true
        rw [i1, j1] <;> rfl
      · show max d.depth (PyData.depthAll r) = 0
        rw [i2, j2] <;> rfl
  constructor
  · show (PyData.canLayAll0 ds && decide (PyData.depthAll ds + 1 ≤ 64)) = true
    rw [h1.1, h1.2] <;> rfl
  · show (PyData.canLayAll0 ds && decide (PyData.depthAll ds + 1 ≤ 64)) = true
    rw [h1.1, h1.2] <;> rfl
theorem canLay_of {d : PyData} (h : SeqAt.shaped d = true) : d.canLay0 = true := SeqAt.canLay_of_shaped h
theorem eqv_self {d : PyData} (h : SeqAt.shaped d = true) : PyData.eqv d d = true := SeqAt.eqv_refl d (canLay_of h)
theorem eqv_nil (ds : List PyData) : PyData.eqv (.list ds) (.list []) = ds.isEmpty := by
  cases ds <;> rfl
theorem okT_tup {ds : List PyData} (h : ∀ d ∈ ds, okS d = true) (hl : ds.length ≤ 1000) : okT (.tuple ds) = true := by
  show (ds.all okS && decide (ds.length ≤ 1000)) = true
  rw [decide_eq_true hl, Bool.and_true, List.all_eq_true]
  exact h
theorem pick_thing {T : Addr} {K : PySem.W.Frag} {H HF : Hp} {xs : List V} {i : Int} (_ks : Kp T H HF) (hall : ∀ x ∈ xs, ∃ d, Dp K HF x d ∧ okT d = true) (h0 : 0 ≤ i) (h1 : i < (xs.length : Int)) :
    ∃ v d, atI xs i = some v ∧ Dp K HF v d ∧ okT d = true := by
  obtain ⟨v, hv, d, h⟩ := at_pick h0 h1 hall
  exact ⟨v, d, hv, h⟩
theorem Kp.lst {P a : Addr} {H H' : Hp} {xs : List V} (k : Kp P H H') (h : H a = some (.lst xs)) : H' a = some (.lst xs) := k.keep _ _ (tab_ne k.t0 h fun _ z => by cases z) h
theorem gens {env : Env} {scope : Scope} {x : Str} (k : scope.kind = .function) (co : scope.isCoroutine = false) (cell : ∀ y ∈ scope.names, y.2 ≠ .cell) (dot : scope.names.lookup (".0" : Str) = some NameKind.local)
    (loc : scope.names.lookup x = some .local) (nf : ∀ y ∈ scope.names, y.2 ≠ .free) : GxR.GenS env scope x := ⟨k, co, cell, dot, loc, fun y hy e => absurd e (nf y hy)⟩
theorem isStrD_ex {d : PyData} (h : isStrD d = true) : ∃ x, d = .str x := by
  cases d <;> first | exact ⟨_, rfl⟩ | cases h
theorem wareB_no {d : PyData} (h : isStrD d = false) : wareB d = false := by
  cases d <;> first | rfl | cases h
theorem tabIn_of {K : PySem.W.Frag} {x : Str} {f c T : Addr} {oc : Value} {od : Option Addr} {osl : Array (Option Value)} {fd : FuncData} {ec : Value} {dc : Option Addr} {vs : Array Value} {sl : Array (Option Value)}
    (a : PySem.W.nsIn K mainGlobals x = some (some (.ref f))) (l : K.lookup f = some ⟨oc, od, .func fd, osl⟩) (hc : fd.code = .ref c) (lc : K.lookup c = some ⟨ec, dc, .fields vs, sl⟩) (v : vs[11]? = some (.ref T)) : PySem.W.tabIn K x = some (c, T) := by
  unfold PySem.W.tabIn
  rw [a]
  simp only [l, hc, lc, v]
/-! ### the end, with the tables of the defs that the view holds -/
theorem walk_ofD {l : PySem.W.OpenLaw} {n k : Nat} {q : Program} {loose : List Str} {XP : (Str → Option Value) → Heap → Prop} {YP : World → Heap → Prop} {d : DefRec} {K : Params → PySem.W.Frag} {CX : World → CXT} {x : Str}
    (hn : l.most = some n) (hn2 : n ≤ sizeLine) (hdf : d.params.defaults = []) (hr : Room k callerA) (hY : ∀ (w : World) (h : Heap), YP w h → (K w.params).In h)
    (F : ∀ (w : World) (mg : Str → Option Value) (fa : Addr) (h : Heap), (K w.params).In h → h.Ns mainGlobals mg → mg d.name = some (.ref fa) →
      (∀ (y : Str) (c T : Addr), ((recsOf q).any fun e => e.name == y) = true → PySem.W.tabIn (K w.params) y = some (c, T) → PySem.W.CodeHd h c T ∧ h.get? T = some (PySem.W.tabObj #[])) → LamX.LawAtS l w (K w.params) (CX w) k n x mg fa h)
    (hCX : ∀ (w : World) (H : Hp) (s : Shared) (e : Value) (s' : Shared), CX w [] H s (fun _ _ _ => False) e s' → False) :
    PySem.W.WalkO q loose XP YP l.row.toRowW d [] (fun f vs => PySem.call f vs) := by
  refine Att.attach_callB hn hdf fun w s0 s1 mg mb fa o pm cd doc a vs ns G Y ho hd hcd hmg hobj hints hlen hbits hg => ?_
  have KX := hY w _ Y
  obtain ⟨fd, cs, sp, hT, nT, C, hb, hsp, hF⟩ := F w mg fa _ KX G.T.g hmg fun y c T hy ht => by
    cases hf : (recsOf q).find? (fun e => e.name == y) with
    | none =>
      rw [List.find?_eq_none] at hf
      obtain ⟨e, he, hz⟩ := List.any_eq_true.mp hy
      exact absurd hz (hf e he)
    | some e => exact PySem.W.tab_of G.T KX hf ht
  exact LamX.law_callTs KX G.T.g G.T.b G.T.builtins G.T.nolimit hg hT nT C G.T.bmain hobj hints (Nat.le_trans hlen hn2) hr hF hb (fun H hH hS => hsp H a ns hlen hbits hH hS) fun H e s' => hCX w H s1 e s'
end Pk

set_option Elab.async false
set_option linter.all false
set_option maxRecDepth 100000
set_option maxHeartbeats 4000000
namespace Pk
open PySem PySem.Spec PyProof.Rows L2
/-! ### the text -/
def topS (i : Nat) : Stmt := PySem.Challenge.pw_pickfloor_k01_stretches.main.body.getD i (.Pass ⟨0, 0, 0, 0⟩)
abbrev sWare : Stmt := topS 4
abbrev sMake : Stmt := topS 5
abbrev sNeed : Stmt := topS 6
abbrev sJoined : Stmt := topS 7
abbrev sWithin : Stmt := topS 8
section
variable {P : Program} {w : World} {K : PySem.W.Frag} {mg : Str → Option Value} {base : Heap}
/-! ### is_ware -/
theorem scWare : FnScope ["thing"] ["thing"] (defScope sWare) := ⟨rfl, rfl, rfl, by decide +kernel, rfl, by decide +kernel, by decide +kernel⟩
def spWare (K : PySem.W.Frag) (T : Addr) : Sp := fun vs H Q _ => ∃ (v : V) (d : PyData), vs = [v] ∧ Dp K H v d ∧ okS d = true ∧ GxR.TabG H T ∧ ∀ H', Kp T H H' → Q (.bl (wareB d)) H'
theorem ok_ware {f c T : Addr} {oc kV doc pm ct : Value} {od an : Option Addr} {osl : Array (Option Value)} {t8 : Tok}
    (lk : K.lookup f = some ⟨oc, od, .func (PySem.W.fnOf "is_ware" "is_ware" (defArgs sWare) (defBody sWare) (defScope sWare) .none kV doc pm an (.ref c) ct), osl⟩) (hcd : PySem.W.codeIn K (.ref c) "is_ware" = true)
    (TB : GxR.TabB base mg c T) (mI : mg "type" = none) (mS : mg "str" = none) (mL : mg "len" = none) (mA : mg "all" = none) (m8 : mg "MOST_SIGNS" = some (.int 8 t8)) :
    FnOk P w K mg base CX0 1 f (PySem.W.fnOf "is_ware" "is_ware" (defArgs sWare) (defBody sWare) (defScope sWare) .none kV doc pm an (.ref c) ct) ["thing"] (spWare K T) := by
  refine fn_of lk hcd scWare (fun vs H Q E h => ?_) fun A outer s H vs Q E hr h => ?_
  · obtain ⟨v, d, rfl, _⟩ := h
    rfl
  · obtain ⟨v, d, rfl, hd, ho, ht, q⟩ := h
    suffices z : ∃ t, PSs (cxOf CX0 P w K mg base ["thing"] "is_ware" (defScope sWare) f (.ref c) A outer s H E).nox (defBody sWare) t ∧ t { nx := fun _ H' => Q .non H', rt := Q } (start ["thing"] [v]) H by
      obtain ⟨t, z1, z2⟩ := z
      exact ⟨t, z1.nox, z2⟩
    refine ⟨_, pss_cons (ps_if (PW.pt (pw_or (pt_cmpR op_notTyB (pe_callTy call_type1 (by rfl) mI boot_type (pa_cons (pv 0) pa_nil)) (pe_bltn (v := .ty "str") (by rfl) mS boot_str rfl) (nomark _))
        (pw_or1 (pt_not (pt_chain op_le op_le pe_int (pe_callB call_len_str (by rfl) mL PySem.boot_len (pa_cons (pv 0) pa_nil)) (pe_glob (v := .int 8) rfl m8 ⟨_, rfl⟩))))))
        (pss_one (ps_ret pe_bl)) pss_nil)
      (pss_one (ps_ret (GxR.pe_allS hr (by rfl) mA (by decide +kernel) TB rfl (x := "sign") (gens rfl rfl (by decide +kernel) (by decide +kernel) (by decide +kernel) (by decide +kernel)) (pv 0) (elt_az rfl (by decide +kernel)) (fun _ => rfl)))), ?_⟩
    cases e : isStrD d with
    | false =>
      refine ⟨v, rfl, v, _, rfl, tyb_of hd, _, "str", rfl, rfl, _, rfl, tyN_no (tyN_str d) e ?_⟩
      have z := q H (Kp.refl ht)
      rw [wareB_no e] at z
      exact z
    | true =>
      obtain ⟨x, rfl⟩ := isStrD_ex e
      cases hd
      have hx : x.length ≤ 1000 := okS_len ho
      refine ⟨_, rfl, _, _, rfl, tyb_of (.str x), _, "str", rfl, rfl, _, rfl, tyN_yes (tyN_str (.str x)) rfl ?_⟩
      -- not 1 <= len(thing) <= 8
      refine ⟨.str x, rfl, x, rfl, line1000 hx, _, _, rfl, rfl, ?_⟩
      refine ⟨_, rfl, iteD (fun h1 => ?_) (fun h1 => ?_)⟩
      · refine ⟨_, _, rfl, rfl, _, rfl, iteN (fun h8 => ?_) (fun h8 => ?_)⟩
        · have z := q H (Kp.refl ht)
          rw [show wareB (.str x) = false by
            show (decide (1 ≤ x.length) && decide (x.length ≤ 8) && x.cps.toList.all azB) = false
            rw [decide_eq_false (show ¬ x.length ≤ 8 by omega), Bool.and_false, Bool.false_and]] at z
          exact z
        · refine ⟨_, rfl, x, rfl, ht, fun H2 h2 => ?_⟩
          have z := q H2 (Kp.of_tabbed ht h2)
          rw [show wareB (.str x) = x.cps.toList.all azB by
            show (decide (1 ≤ x.length) && decide (x.length ≤ 8) && x.cps.toList.all azB) = _
            rw [decide_eq_true (show x.length ≤ 8 by omega), decide_eq_true (show 1 ≤ x.length by omega), Bool.true_and, Bool.true_and]] at z
          exact z
      · refine ⟨_, rfl, iteT ?_⟩
        have z := q H (Kp.refl ht)
        rw [show wareB (.str x) = false by
          show (decide (1 ≤ x.length) && decide (x.length ≤ 8) && x.cps.toList.all azB) = false
          rw [decide_eq_false (show ¬ 1 ≤ x.length by omega), Bool.false_and, Bool.false_and]] at z
        exact z

/-! ### within -/
theorem scWithin : FnScope ["make", "low", "high"] ["make", "low", "high"] (defScope sWithin) := ⟨rfl, rfl, rfl, by decide +kernel, rfl, by decide +kernel, by decide +kernel⟩
def spWithin : Sp := fun vs H Q _ => ∃ (m a b : Int), vs = [.int m, .int a, .int b] ∧ Q (.bl (decide (a ≤ m) && decide (m ≤ b))) H
theorem ok_within {f : Addr} {fd : FuncData} (F : Fun K "within" "within" sWithin f fd) : FnOk P w K mg base CX0 1 f fd ["make", "low", "high"] spWithin := by
  refine F.ok scWithin (fun vs H Q E h => ?_) (fun cdv A outer s H vs Q E hr h => ?_)
  · obtain ⟨m, a, b, rfl, _⟩ := h
    rfl
  · obtain ⟨m, a, b, rfl, q⟩ := h
    refine ⟨_, pss_one (ps_ret (pe_chain op_le op_le (pv 1) (pv 0) (pv 2))), ?_⟩
    refine ⟨_, rfl, _, rfl, _, _, rfl, rfl, _, rfl, iteD (fun h1 => ?_) (fun h1 => ?_)⟩
    · refine ⟨_, rfl, _, _, rfl, rfl, ?_⟩
      rw [decide_eq_true h1, Bool.true_and] at q
      exact q
    · rw [decide_eq_false h1, Bool.false_and] at q
      exact q
/-! ### is_make -/
theorem scMake : FnScope ["thing"] ["thing"] (defScope sMake) := ⟨rfl, rfl, rfl, by decide +kernel, rfl, by decide +kernel, by decide +kernel⟩
def spMake (K : PySem.W.Frag) : Sp := fun vs H Q _ => ∃ (v : V) (d : PyData), vs = [v] ∧ Dp K H v d ∧ Q (.bl (makeB d)) H
theorem ok_make {f fW : Addr} {fd fdW : FuncData} {t1 t9 : Tok} (F : Fun K "is_make" "is_make" sMake f fd) (FW : Fun K "within" "within" sWithin fW fdW) (bW : Binds K fdW ["make", "low", "high"] []) (gW : mg "within" = some (.ref fW))
    (mI : mg "type" = none) (mN : mg "int" = none) (m1 : mg "LEAST_MAKE" = some (.int 1 t1)) (m9 : mg "MOST_MAKE" = some (.int 999 t9)) : FnOk P w K mg base CX0 2 f fd ["thing"] (spMake K) := by
  have GW : FnOk P w K mg base CX0 1 fW fdW ["make", "low", "high"] spWithin := ok_within FW
  refine F.ok scMake (fun vs H Q E h => ?_) (fun cdv A outer s H vs Q E hr h => ?_)
  · obtain ⟨v, d, rfl, _⟩ := h
    rfl
  · obtain ⟨v, d, rfl, hd, q⟩ := h
    refine ⟨_, pss_one (ps_ret (pe_and (pe_cmpR op_isTyB (pe_callTy call_type1 (by rfl) mI boot_type (pa_cons (pv 0) pa_nil)) (pe_bltn (v := .ty "int") (by rfl) mN boot_int rfl) (nomark _))
      (pe_one (pe_call GW hr (by rfl) gW FW.kp bW .nil pass0 (pa_cons (pv 0) (pa_cons (pe_glob (v := .int 1) rfl m1 ⟨_, rfl⟩) (pa_cons (pe_glob (v := .int 999) rfl m9 ⟨_, rfl⟩) pa_nil))))))), ?_⟩
    refine ⟨v, rfl, v, _, rfl, tyb_of hd, _, "int", rfl, rfl, _, rfl, ?_⟩
    cases e : isI d with
    | false =>
      rw [isI_no e] at q
      exact tyI_no (tyN_int d) e q
    | true =>
      obtain ⟨i, rfl⟩ := isI_ex e
      cases hd
      exact tyI_yes (tyN_int (.int i)) rfl ⟨_, rfl, i, 1, 999, rfl, q⟩
/-! ### is_need -/
theorem scNeed : FnScope ["thing", "ware", "low", "high"] ["thing"] (defScope sNeed) := ⟨rfl, rfl, rfl, by decide +kernel, rfl, by decide +kernel, by decide +kernel⟩
def spNeed (K : PySem.W.Frag) (T : Addr) : Sp := fun vs H Q _ => ∃ (v : V) (d : PyData), vs = [v] ∧ Dp K H v d ∧ okT d = true ∧ GxR.TabG H T ∧ ∀ H', Kp T H H' → Q (.bl (needB d)) H'
theorem ok_need {f fW fM T : Addr} {fd fdW fdM : FuncData} (F : Fun K "is_need" "is_need" sNeed f fd)
    (GW : FnOk P w K mg base CX0 1 fW fdW ["thing"] (spWare K T)) (kW : PySem.W.keepIn K (.ref fW) = true) (bW : Binds K fdW ["thing"] []) (gW : mg "is_ware" = some (.ref fW))
    (GM : FnOk P w K mg base CX0 2 fM fdM ["thing"] (spMake K)) (kM : PySem.W.keepIn K (.ref fM) = true) (bM : Binds K fdM ["thing"] []) (gM : mg "is_make" = some (.ref fM))
    (mI : mg "type" = none) (mT : mg "tuple" = none) (mL : mg "len" = none) : FnOk P w K mg base CX0 3 f fd ["thing"] (spNeed K T) := by
  refine F.ok scNeed (fun vs H Q E h => ?_) (fun cdv A outer s H vs Q E hr h => ?_)
  · obtain ⟨v, d, rfl, _⟩ := h
    rfl
  · obtain ⟨v, d, rfl, hd, ho, ht, q⟩ := h
    have hr1 : Room 1 _ := hr.mono (by decide)
    refine ⟨_, pss_cons (ps_if (PW.pt (pw_or (pt_cmpR op_notTyB (pe_callTy call_type1 (by rfl) mI boot_type (pa_cons (pv 0) pa_nil)) (pe_bltn (v := .ty "tuple") (by rfl) mT boot_tuple rfl) (nomark _))
        (pw_or1 (pt_cmpR op_ne (pe_callB call_len_seq (by rfl) mL PySem.boot_len (pa_cons (pv 0) pa_nil)) pe_int (nomark _)))))
        (pss_one (ps_ret pe_bl)) pss_nil)
      (pss_cons (ps_asg (pv 0) (pg_tup (by rfl) (pgs_cons (pg_name (i := 1) scNeed.nd rfl (.inl rfl)) (pgs_cons (pg_name (i := 2) scNeed.nd rfl (.inl rfl)) (pgs_cons (pg_name (i := 3) scNeed.nd rfl (.inl rfl)) pgs_nil)))))
      (pss_one (ps_ret (pe_and (pe_call GW hr1 (by rfl) gW kW bW .nil pass0 (pa_cons (pv 1) pa_nil))
        (pe_and (pe_call GM hr (by rfl) gM kM bM .nil pass0 (pa_cons (pv 2) pa_nil))
        (pe_and (pe_call GM hr (by rfl) gM kM bM .nil pass0 (pa_cons (pv 3) pa_nil))
        (pe_one (pe_cmpR op_le (pv 2) (pv 3) (nomark _))))))))), ?_⟩
    have no : needB d = false → Q (.bl false) H := fun e => by
      have z := q H (Kp.refl ht)
      rw [e] at z
      exact z
    cases e : isTupD d with
    | false =>
      refine ⟨v, rfl, v, _, rfl, tyb_of hd, _, "tuple", rfl, rfl, _, rfl, tyN_no (tyN_tup d) e ?_⟩
      exact no (by cases d <;> first | rfl | cases e)
    | true =>
      refine ⟨v, rfl, v, _, rfl, tyb_of hd, _, "tuple", rfl, rfl, _, rfl, tyN_yes (tyN_tup d) e ?_⟩
      obtain ⟨ds, rfl⟩ : ∃ ds, d = .tuple ds := by cases d <;> first | exact ⟨_, rfl⟩ | cases e
      cases hd with
      | @tup a xs _ hT hA =>
        have hl := dpAll_len hA
        refine ⟨.ref a, rfl, a, xs, rfl, .inr hT, ?_⟩
        refine ⟨rfl, _, rfl, iteN (fun h3 => ?_) (fun h3 => ?_)⟩
        · refine no (needB_len fun z => h3 ?_)
          show V.int _ = V.int 3
          rw [show xs.length = 3 by omega] <;> rfl
        · have h3' : xs.length = 3 := by
            have z : ((xs.length : Nat) : Int) = 3 := V.int.inj h3
            omega
          obtain ⟨da, db, dc, rfl⟩ : ∃ a b c, ds = [a, b, c] := by
            match ds, hl.symm.trans h3' with
            | [a, b, c], _ => exact ⟨a, b, c, rfl⟩
          have od : okS da = true := by
            have z : (([da, db, dc].all okS) && _) = true := ho
            simp only [List.all_cons, Bool.and_eq_true] at z
            exact z.1.1
          cases hA with
          | @cons x _ _ _ hx hA =>
          cases hA with
          | @cons y _ _ _ hy hA =>
          cases hA with
          | @cons z _ _ _ hz hA =>
          cases hA
          refine ⟨_, rfl, a, [x, y, z], rfl, hT, rfl, x, [y, z], rfl, y, [z], rfl, z, [], rfl, rfl, ?_⟩
          refine ⟨x, rfl, x, da, rfl, hx, od, ht, fun H1 k1 => ⟨_, rfl, ?_⟩⟩
          have fin : ∀ b, needB (.tuple [da, db, dc]) = b → Q (.bl b) H1 := fun b e => by
            have z := q H1 k1
            rw [e] at z
            exact z
          cases ea : wareB da with
          | false => exact iteF (fin false (by show (wareB da && _ && _ && _) = false; rw [ea] <;> rfl))
          | true =>
            refine iteT ⟨y, rfl, y, db, rfl, k1.dp _ _ hy, _, rfl, ?_⟩
            cases eb : makeB db with
            | false => exact iteF (fin false (by show (wareB da && makeB db && _ && _) = false; rw [ea, eb] <;> rfl))
            | true =>
              refine iteT ⟨z, rfl, z, dc, rfl, k1.dp _ _ hz, _, rfl, ?_⟩
              cases ec : makeB dc with
              | false => exact iteF (fin false (by show (wareB da && makeB db && makeB dc && _) = false; rw [ea, eb, ec] <;> rfl))
              | true =>
                obtain ⟨i, rfl⟩ := makeB_ex eb
                obtain ⟨j, rfl⟩ := makeB_ex ec
                cases hy
                cases hz
                exact iteT ⟨_, rfl, _, rfl, _, _, rfl, rfl, fin _ (by show (wareB da && makeB (.int i) && makeB (.int j) && _) = _; rw [ea, eb, ec] <;> rfl)⟩
end
end Pk

set_option Elab.async false
set_option linter.all false
set_option maxRecDepth 100000
set_option maxHeartbeats 4000000
namespace Pk
open PySem PySem.Spec PyProof.Rows L2
abbrev sCell : Stmt := topS 10
abbrev sPair : Stmt := topS 11
abbrev sSame : Stmt := topS 12
abbrev sWord : Stmt := topS 13
def mxI (i j : Int) : Int := if j > i then j else i
def mnI (i j : Int) : Int := if j < i then j else i
theorem mxI_comm (i j : Int) : mxI i j = mxI j i := by
  unfold mxI
  by_cases h1 : j > i
  · rw [if_pos h1, if_neg (by omega)]
  · by_cases h2 : i > j
    · rw [if_neg h1, if_pos h2]
    · rw [if_neg h1, if_neg h2]; omega
theorem mnI_comm (i j : Int) : mnI i j = mnI j i := by
  unfold mnI
  by_cases h1 : j < i
  · rw [if_pos h1, if_neg (by omega)]
  · by_cases h2 : i < j
    · rw [if_neg h1, if_pos h2]
    · rw [if_neg h1, if_neg h2]; omega
section
variable {P : Program} {w : World} {K : PySem.W.Frag} {mg : Str → Option Value} {base : Heap}
/-! ### joined -/
theorem scJoined : FnScope ["one", "other", "low", "high"] ["one", "other"] (defScope sJoined) := ⟨rfl, rfl, rfl, by decide +kernel, rfl, by decide +kernel, by decide +kernel⟩
def spJoined (K : PySem.W.Frag) : Sp := fun vs H Q _ => ∃ (p q : Addr) (a b c d : Int), vs = [.ref p, .ref q] ∧ SqT K H p [.int a, .int b] ∧ SqT K H q [.int c, .int d] ∧
  (mxI a c > mnI b d → Q .non H) ∧ (¬ mxI a c > mnI b d → ∀ r, H r = none → Q (.ref r) (upd H r (.tup [.int (mxI a c), .int (mnI b d)])))
theorem ok_joined {f : Addr} {fd : FuncData} (F : Fun K "joined" "joined" sJoined f fd) (mX : mg "max" = none) (mN : mg "min" = none) : FnOk P w K mg base CX0 1 f fd ["one", "other"] (spJoined K) := by
  refine F.ok scJoined (fun vs H Q E h => ?_) (fun cdv A outer s H vs Q E hr h => ?_)
  · obtain ⟨p, q, a, b, c, d, rfl, _⟩ := h
    rfl
  · obtain ⟨p, q, a, b, c, d, rfl, h1, h2, g1, g2⟩ := h
    refine ⟨_, pss_cons (ps_set (i := 2) scJoined.nd rfl (.inl rfl) (pe_callB (call_max2 rfl) (by rfl) mX boot_max (pa_cons (pe_ix ix_tup (pv 0) pe_int (fun _ _ => rfl)) (pa_cons (pe_ix ix_tup (pv 1) pe_int (fun _ _ => rfl)) pa_nil))))
      (pss_cons (ps_set (i := 3) scJoined.nd rfl (.inl rfl) (pe_callB (call_min2 rfl) (by rfl) mN (by decide +kernel) (pa_cons (pe_ix ix_tup (pv 0) pe_int (fun _ _ => rfl)) (pa_cons (pe_ix ix_tup (pv 1) pe_int (fun _ _ => rfl)) pa_nil))))
      (pss_cons (ps_if (pt_cmpR op_gt (pv 2) (pv 3) (nomark _)) (pss_one (ps_ret pe_non)) pss_nil)
      (pss_one (ps_ret (pe_tup (pa_cons (pv 2) (pa_cons (pv 3) pa_nil))))))), ?_⟩
    refine ⟨_, rfl, p, _, 0, _, rfl, rfl, h1, atI_nat (j := 0) rfl, _, rfl, q, _, 0, _, rfl, rfl, h2, atI_nat (j := 0) rfl, a, c, rfl, ?_⟩
    refine ⟨_, rfl, p, _, 1, _, rfl, rfl, h1, atI_nat (j := 1) rfl, _, rfl, q, _, 1, _, rfl, rfl, h2, atI_nat (j := 1) rfl, b, d, rfl, ?_⟩
    refine ⟨_, rfl, _, rfl, mxI a c, mnI b d, rfl, rfl, _, rfl, iteD (fun h => ?_) (fun h => ?_)⟩
    · exact g1 h
    · refine ⟨_, rfl, _, rfl, by show 2 ≤ sizeLine; decide, fun r hr => ?_⟩
      exact g2 h r hr
/-! ### the law's cell_at -/
theorem scCell : FnScope ["_law_script", "_law_k"] ["_law_script", "_law_k"] (defScope sCell) := ⟨rfl, rfl, rfl, by decide +kernel, rfl, by decide +kernel, by decide +kernel⟩
def spCell (K : PySem.W.Frag) : Sp := fun vs H Q _ => ∃ (a : Addr) (ns : List Int) (k : Nat), vs = [.ref a, .int k] ∧ SqL K H a (ns.map V.int) ∧ ∀ c, Q (.int c) H
theorem ok_cell {f : Addr} {fd : FuncData} (F : Fun K "_law_cell_at" "_law_cell_at" sCell f fd) (mL : mg "len" = none) : FnOk P w K mg base CX0 1 f fd ["_law_script", "_law_k"] (spCell K) := by
  refine F.ok scCell (fun vs H Q E h => ?_) (fun cdv A outer s H vs Q E hr h => ?_)
  · obtain ⟨a, ns, k, rfl, _⟩ := h
    rfl
  · obtain ⟨a, ns, k, rfl, hS, q⟩ := h
    refine ⟨_, pss_cons (ps_if (pt_cmpR op_lt (pv 1) (pe_callB call_len_seq (by rfl) mL PySem.boot_len (pa_cons (pv 0) pa_nil)) (nomark _)) (pss_one (ps_ret (pe_ix ix_list (pv 0) (pv 1) (fun _ _ => rfl)))) pss_nil)
      (pss_one (ps_ret pe_int)), ?_⟩
    refine ⟨_, rfl, _, rfl, a, _, rfl, .inl hS, _, _, rfl, rfl, _, rfl, iteD (fun h => ?_) (fun h => ?_)⟩
    · have hk : k < ns.length := by
        rw [List.length_map] at h
        omega
      refine ⟨_, rfl, _, rfl, a, _, (k : Int), .int ns[k], rfl, rfl, hS, atI_nat ?_, q _⟩
      rw [List.getElem?_map, List.getElem?_eq_getElem hk]
      rfl
    · exact q 0
/-! ### the law's pair -/
theorem scPair : FnScope ["_law_cell", "_law_other", "_law_low"] ["_law_cell", "_law_other"] (defScope sPair) := ⟨rfl, rfl, rfl, by decide +kernel, rfl, by decide +kernel, by decide +kernel⟩
def spPair : Sp := fun vs H Q _ => ∃ (c o : Int), vs = [.int c, .int o] ∧ ∀ lo hi p, H p = none → Q (.ref p) (upd H p (.tup [.int lo, .int hi]))
theorem ok_pair {f : Addr} {fd : FuncData} (F : Fun K "_law_pair" "_law_pair" sPair f fd) (mX : mg "max" = none) (mN : mg "min" = none) : FnOk P w K mg base CX0 1 f fd ["_law_cell", "_law_other"] spPair := by
  refine F.ok scPair (fun vs H Q E h => ?_) (fun cdv A outer s H vs Q E hr h => ?_)
  · obtain ⟨c, o, rfl, _⟩ := h
    rfl
  · obtain ⟨c, o, rfl, q⟩ := h
    refine ⟨_, pss_cons (ps_set (i := 2) scPair.nd rfl (.inl rfl) (pe_op op_add pe_int (pe_op op_mod (pv 0) pe_int)))
      (pss_cons (ps_if (pt_cmpR op_eq (pe_op op_mod (pe_op op_fdiv (pv 0) pe_int) pe_int) pe_int (nomark _))
        (pss_one (ps_set (i := 2) scPair.nd rfl (.inl rfl) (pe_callB (call_max2 rfl) (by rfl) mX boot_max (pa_cons pe_int (pa_cons (pe_callB (call_min2 rfl) (by rfl) mN (by decide +kernel) (pa_cons pe_int (pa_cons (pe_op op_sub (pe_op op_add (pv 1) (pe_op op_mod (pv 0) pe_int)) pe_int) pa_nil))) pa_nil))))) pss_nil)
      (pss_one (ps_ret (pe_tup (pa_cons (pv 2) (pa_cons (pe_op op_add (pv 2) (pe_op op_mod (pe_op op_fdiv (pv 0) pe_int) (pe_op op_sub pe_int (pv 2)))) pa_nil)))))), ?_⟩
    refine ⟨_, rfl, c, 999, rfl, rfl, (by show (0 : Int) < 999; decide), 1, c % 999, rfl, rfl, ?_⟩
    refine ⟨_, rfl, c, 999, rfl, rfl, ⟨by decide, by decide⟩, c / 999, 2, rfl, rfl, (by show (0 : Int) < 2; decide), rfl, _, rfl, iteD (fun h => ?_) (fun h => ?_)⟩
    · refine ⟨_, rfl, _, rfl, c, 5, rfl, rfl, (by show (0 : Int) < 5; decide), o, c % 5, rfl, rfl, o + c % 5, 2, rfl, rfl, 999, _, rfl, 1, _, rfl, ?_⟩
      refine ⟨_, rfl, _, rfl, _, rfl, c, 2000, rfl, rfl, ⟨by decide, by decide⟩, ?_⟩
      refine ⟨_, rfl, 1000, _, rfl, rfl, c / 2000, _, rfl, rfl, ?_, _, _, rfl, rfl, by show 2 ≤ sizeLine; decide, fun p hp => q _ _ p hp⟩
      show (0 : Int) < 1000 - mxI 1 (mnI 999 (o + c % 5 - 2))
      unfold mxI mnI
      split <;> split <;> omega
    · refine ⟨_, rfl, _, rfl, _, rfl, c, 2000, rfl, rfl, ⟨by decide, by decide⟩, ?_⟩
      refine ⟨_, rfl, 1000, _, rfl, rfl, c / 2000, _, rfl, rfl, ?_, _, _, rfl, rfl, by show 2 ≤ sizeLine; decide, fun p hp => q _ _ p hp⟩
      show (0 : Int) < 1000 - (1 + c % 999)
      omega
/-! ### the law's same -/
theorem scSame : FnScope ["_law_found", "_law_due"] ["_law_found", "_law_due"] (defScope sSame) := ⟨rfl, rfl, rfl, by decide +kernel, rfl, by decide +kernel, by decide +kernel⟩
def spSame (K : PySem.W.Frag) : Sp := fun vs H Q _ => (vs = [.non, .non] ∧ Q (.bl true) H) ∨ ∃ (p q : Addr) (i j : Int), vs = [.ref p, .ref q] ∧ SqT K H p [.int i, .int j] ∧ SqT K H q [.int i, .int j] ∧ Q (.bl true) H
theorem shaped_ij (i j : Int) : SeqAt.shaped (.tuple [.int i, .int j]) = true := (shaped_flat (fun d hd => by
  rcases List.mem_cons.mp hd with z | z
  · rw [z]; exact ⟨rfl, rfl⟩
  · rcases List.mem_cons.mp z with z | z
    · rw [z]; exact ⟨rfl, rfl⟩
    · cases z)).2
theorem ok_same {f : Addr} {fd : FuncData} (F : Fun K "_law_same" "_law_same" sSame f fd) (mI : mg "isinstance" = none) (mT : mg "tuple" = none) (mL : mg "len" = none) (mB : mg "bool" = none) : FnOk P w K mg base CX0 1 f fd ["_law_found", "_law_due"] (spSame K) := by
  refine F.ok scSame (fun vs H Q E h => ?_) (fun cdv A outer s H vs Q E hr h => ?_)
  · rcases h with ⟨rfl, _⟩ | ⟨p, q, i, j, rfl, _⟩ <;> rfl
  · refine ⟨_, pss_cons (ps_if (pt_cmp (pc_isN (pv 1))) (pss_one (ps_ret (pe_cmp (pc_isN (pv 0))))) pss_nil)
      (pss_cons (ps_if (PW.pt (pw_or (pt_not (pt_val (pe_callB call_isi (by rfl) mI boot_isinstance (pa_cons (pv 0) (pa_cons (pe_bltn (v := .ty "tuple") (by rfl) mT boot_tuple rfl) pa_nil)))))
        (pw_or (pt_cmpR op_ne (pe_callB call_len_seq (by rfl) mL PySem.boot_len (pa_cons (pv 0) pa_nil)) pe_int (nomark _))
        (pw_or1 (pt_cmpR (op_neD hr.units) (pv 0) (pv 1) (nomark _)))))) (pss_one (ps_ret pe_bl)) pss_nil)
      (pss_one (ps_ret (pe_and (pe_not (pe_callB call_isi (by rfl) mI boot_isinstance (pa_cons (pe_ix ix_tup (pv 0) pe_int (fun _ _ => rfl)) (pa_cons (pe_bltn (v := .ty "bool") (by rfl) mB boot_bool rfl) pa_nil))))
        (pe_one (pe_not (pe_callB call_isi (by rfl) mI boot_isinstance (pa_cons (pe_ix ix_tup (pv 0) pe_int (fun _ _ => rfl)) (pa_cons (pe_bltn (v := .ty "bool") (by rfl) mB boot_bool rfl) pa_nil))))))))), ?_⟩
    rcases h with ⟨rfl, z⟩ | ⟨p, q, i, j, rfl, h1, h2, z⟩
    · exact ⟨_, rfl, true, rfl, iteT ⟨_, rfl, z⟩⟩
    · have d1 : Dp K H (.ref p) (.tuple [.int i, .int j]) := .tup h1 (.cons (.int i) (.cons (.int j) .nil))
      have d2 : Dp K H (.ref q) (.tuple [.int i, .int j]) := .tup h2 (.cons (.int i) (.cons (.int j) .nil))
      refine ⟨_, rfl, false, rfl, iteF ?_⟩
      refine ⟨_, rfl, _, .ty "tuple", _, _, true, rfl, .ty "tuple", tyx_of d1, by rw [kit_tup] <;> rfl, true, rfl, iteF ?_⟩
      refine ⟨_, rfl, p, _, rfl, .inr h1, rfl, _, rfl, iteNS rfl ?_⟩
      refine ⟨_, rfl, _, rfl, _, _, d1, d2, shaped_ij i j, shaped_ij i j, _, rfl, ?_⟩
      rw [eqv_self (shaped_ij i j)]
      refine iteF ?_
      refine ⟨_, rfl, p, _, 0, _, rfl, rfl, h1, atI_nat (j := 0) rfl, _, .ty "bool", _, _, false, rfl, .ty "bool", tyx_of (.int i), by rw [kit_bool] <;> rfl, _, rfl, _, rfl, iteT ?_⟩
      exact ⟨_, rfl, p, _, 1, _, rfl, rfl, h1, atI_nat (j := 1) rfl, _, .ty "bool", _, _, false, rfl, .ty "bool", tyx_of (.int j), by rw [kit_bool] <;> rfl, _, rfl, z⟩
end
end Pk

set_option Elab.async false
set_option linter.all false
set_option maxRecDepth 100000
set_option maxHeartbeats 4000000
namespace Pk
open PySem PySem.Spec PyProof.Rows L2
abbrev sThing : Stmt := topS 14
abbrev sIsWord : Stmt := topS 15
abbrev sIsNum : Stmt := topS 16
abbrev sIsNeed : Stmt := topS 17
section
variable {P : Program} {w : World} {K : PySem.W.Frag} {mg : Str → Option Value} {base : Heap}
/-! ### the law's word -/
theorem joinL_nil : ∀ ls : List (List Nat), TL.joinL [] ls = ls.flatten
  | [] => rfl
  | [p] => by simp [TL.joinL]
  | p :: q :: r => by
    show p ++ ([] ++ TL.joinL [] (q :: r)) = _
    rw [joinL_nil (q :: r), List.nil_append]
    rfl
theorem join_ones (l : List Nat) : Txt.join ("" : Str) (l.map fun c => (⟨#[c]⟩ : Str)) = SX.S l := by
  have e1 : ("" : Str) = SX.S [] := by decide +kernel
  have e2 : (l.map fun c => (⟨#[c]⟩ : Str)) = (l.map fun c => [c]).map SX.S := by
    rw [List.map_map]
    rfl
  rw [e1, e2, SX.join_S, joinL_nil]
  congr 1
  induction l with
  | nil => rfl
  | cons x r ih =>
    rw [List.map_cons, List.flatten_cons, ih]
    · rfl
    · rw [List.map_map]
      rfl
def wordL (c : Int) : List Nat := (List.range (c % 10).toNat).map fun (j : Nat) => 97 + ((c / 10 + 7 * (j : Int)) % 26).toNat
theorem wordL_len (c : Int) : (wordL c).length ≤ 9 := by
  unfold wordL
  rw [List.length_map, List.length_range]
  omega
theorem wordL_az (c : Int) : Az (wordL c) := fun x hx => by
  obtain ⟨j, _, rfl⟩ := List.mem_map.mp hx
  omega
theorem scWord : FnScope ["_law_cell", "_law_letters", "_law_j"] ["_law_cell"] (defScope sWord) := ⟨rfl, rfl, rfl, by decide +kernel, rfl, by decide +kernel, by decide +kernel⟩
def spWord (T : Addr) : Sp := fun vs H Q _ => ∃ (c : Int), vs = [.int c] ∧ GxR.TabG H T ∧ ∀ H', Kp T H H' → Q (.str (SX.S (wordL c))) H'
theorem ok_word {f T : Addr} {fd : FuncData} (F : Fun K "_law_word" "_law_word" sWord f fd) (mR : mg "range" = none) : FnOk P w K mg base CX0 1 f fd ["_law_cell"] (spWord T) := by
  refine F.ok scWord (fun vs H Q E h => ?_) (fun cdv A outer s H vs Q E hr h => ?_)
  · obtain ⟨c, rfl, _⟩ := h
    rfl
  · obtain ⟨c, rfl, ht, q⟩ := h
    refine ⟨_, pss_cons (ps_set (i := 1) scWord.nd rfl (.inr rfl) pe_str)
      (pss_one (ps_ret (pe_join pe_str (pe_lc (own := [("_law_j", 2)]) (g := gName 2) (tt := tYes) rfl scWord.nd (pi_range1 (by rfl) mR (pa_cons (pe_op op_mod (pv 0) pe_int) pa_nil))
        (blkOk_by (own := [("_law_j", 2)]) (N := ["_law_cell", "_law_letters", "_law_j"]) (sc := defScope sWord) (by decide +kernel)) (fun _ _ _ _ _ => pg_name (i := 2) scWord.nd rfl (Or.inl rfl)) (fun _ _ _ _ _ => pts_nil)
        (fun _ _ _ _ _ => pe_ix ix_str (pv 1) (pe_op op_mod (pe_op op_add (pe_op op_fdiv (pv 0) pe_int) (pe_op op_mul pe_int (pv 2))) pe_int) (fun _ _ => rfl)))))), ?_⟩
    refine ⟨⟨_, rfl⟩, _, rfl, c, 10, rfl, rfl, (by show (0 : Int) < 10; decide), c % 10, rfl, (by omega), (by omega), fun D nD => ?_⟩
    have hn : (0 : Int) + 1 = 1 := rfl
    refine lc_range (lo := 0) (n := (c % 10).toNat) (fun i H' => H' = upd H D (.lst (((wordL c).take i).map fun x => V.str ⟨#[x]⟩))) rfl (fun i H' hi e => ?_) (fun H' e => ?_)
    · subst e
      refine ⟨rfl, ?_⟩
      have ej : wordL c = (List.range (c % 10).toNat).map fun (j : Nat) => 97 + ((c / 10 + 7 * (j : Int)) % 26).toNat := rfl
      refine ⟨_, rfl, _, rfl, c, 10, rfl, rfl, ⟨by decide, by decide⟩, _, rfl, 7, 0 + (i : Int), rfl, rfl, .inl ⟨by decide, by decide⟩, _, _, rfl, rfl, _, _, rfl, rfl, (by show (0 : Int) < 26; decide), ?_⟩
      refine ⟨_, _, 97 + ((c / 10 + 7 * (0 + (i : Int))) % 26).toNat, rfl, rfl, (by rw [letters_eq, SX.S_len]; exact line1000 (by decide)), ?_, _, upd_same, ?_, ?_⟩
      · rw [letters_eq]
        exact letters_at (by omega) (by omega)
      · rw [List.length_map, List.length_take]
        exact small1000 (by have := wordL_len c; omega)
      · rw [upd_upd]
        have e1 : (wordL c)[i]? = some (97 + ((c / 10 + 7 * (0 + (i : Int))) % 26).toNat) := by
          rw [ej, List.getElem?_map, List.getElem?_range hi, Int.zero_add]
          rfl
        rw [List.take_add_one, e1, List.map_append]
        rfl
    · subst e
      have el : (wordL c).length = (c % 10).toNat := by
        unfold wordL
        rw [List.length_map, List.length_range]
      have e2 : (List.take (c % 10).toNat (wordL c)).map (fun x => V.str ⟨#[x]⟩) = ((wordL c).map fun x => (⟨#[x]⟩ : Str)).map V.str := by
        rw [List.take_of_length_le (by omega), List.map_map]
        rfl
      refine ⟨_, D, (wordL c).map fun x => ⟨#[x]⟩, rfl, rfl, .inl (.of (by rw [upd_same, e2])), ?_, ?_⟩
      · have e3 : ((wordL c).map fun x => (⟨#[x]⟩ : Str)).map (·.length) = (wordL c).map fun _ => 1 := by
          rw [List.map_map]
          rfl
        rw [e3, List.length_map]
        have e4 : ((wordL c).map fun _ => 1).sum = (wordL c).length := by
          generalize wordL c = l
          induction l with
          | nil => rfl
          | cons x r ih => rw [List.map_cons, List.sum_cons, ih, List.length_cons]; omega
        rw [e4]
        have := wordL_len c
        have e5 : (("" : Str)).length = 0 := by decide +kernel
        rw [e5]
        omega
      · rw [join_ones]
        exact q _ (Kp.new ht nD)

/-! ### the law's thing -/
theorem scThing : FnScope ["_law_cell", "_law_word_here", "_law_number", "_law_at", "_law_sign", "_law_some"] ["_law_cell"] (defScope sThing) := ⟨rfl, rfl, rfl, by decide +kernel, rfl, by decide +kernel, by decide +kernel⟩
theorem tos_ok0 : ∀ k : _root_.Fin 1004, okS (.str (Str.ofString (toString ((k.val : Int) - 1)))) = true := by decide +kernel
theorem tos_ok {n : Int} (h0 : -1 ≤ n) (h1 : n ≤ 1002) : okS (.str (Str.ofString (toString n))) = true := by
  have z := tos_ok0 ⟨(n + 1).toNat, by omega⟩
  rw [show (((n + 1).toNat : Nat) : Int) - 1 = n by omega] at z
  exact z
theorem log_small {n : Int} (h0 : -1 ≤ n) (h1 : n ≤ 1002) : n.natAbs.log2 < 1920 := by
  have h : n.natAbs ≤ 1002 := by omega
  refine Nat.lt_of_le_of_lt (Nat.log2_le_self _) ?_
  omega
def spThing (K : PySem.W.Frag) (T : Addr) : Sp := fun vs H Q _ => ∃ (c : Int), vs = [.int c] ∧ GxR.TabG H T ∧ ∀ (v : V) (d : PyData) H', Kp T H H' → Dp K H' v d → okT d = true → Q v H'
theorem ok_thing {f fW T : Addr} {fd fdW : FuncData} (F : Fun K "_law_thing" "_law_thing" sThing f fd) (FW : Fun K "_law_word" "_law_word" sWord fW fdW) (bW : Binds K fdW ["_law_cell"] []) (gW : mg "_law_word" = some (.ref fW))
    (mR : mg "range" = none) (mL : mg "len" = none) (mS : mg "str" = none) : FnOk P w K mg base CX0 2 f fd ["_law_cell"] (spThing K T) := by
  have GW : FnOk P w K mg base CX0 1 fW fdW ["_law_cell"] (spWord T) := ok_word FW mR
  refine F.ok scThing (fun vs H Q E h => ?_) (fun cdv A outer s H vs Q E hr h => ?_)
  · obtain ⟨c, rfl, _⟩ := h
    rfl
  · obtain ⟨c, rfl, ht, q⟩ := h
    refine ⟨_, pss_cons (ps_set (i := 1) scThing.nd rfl (.inl rfl) (pe_call GW hr (by rfl) gW FW.kp bW .nil pass0 (pa_cons (pe_op op_fdiv (pv 0) pe_int) pa_nil)))
      (pss_cons (ps_set (i := 2) scThing.nd rfl (.inl rfl) (pe_ix ix_list (pe_lst (pa_cons pe_int (pa_cons pe_int (pa_cons pe_int (pa_cons pe_int (pa_cons (pe_un un_neg pe_int) (pa_cons (pe_op op_sub (pe_op op_mod (pe_op op_fdiv (pv 0) pe_int) pe_int) pe_int) pa_nil))))))) (pe_op op_mod (pe_op op_fdiv (pv 0) pe_int) pe_int) (fun _ _ => rfl)))
      (pss_cons (ps_set (i := 3) scThing.nd rfl (.inl rfl) (pe_op op_mod (pe_op op_fdiv (pv 0) pe_int) (pe_op op_add (pe_callB call_len_str (by rfl) mL PySem.boot_len (pa_cons (pv 1) pa_nil)) pe_int)))
      (pss_cons (ps_set (i := 4) scThing.nd rfl (.inl rfl) (pe_ix ix_str pe_str (pe_op op_mod (pe_op op_fdiv (pv 0) pe_int) pe_int) (fun _ _ => rfl)))
      (pss_cons (ps_set (i := 5) scThing.nd rfl (.inl rfl) (pe_lst (pa_cons (pv 1) (pa_cons (pe_op op_add_str (pe_op op_add_str (pe_slice sl_str (pv 1) po_none (po_some (pv 3))) (pv 4)) (pe_slice sl_str (pv 1) (po_some (pv 3)) po_none)) (pa_cons (pv 2) (pa_cons pe_bl (pa_cons (pe_callTy call_str_int (by rfl) mS boot_str (pa_cons (pv 2) pa_nil)) (pa_cons (pe_lst (pa_cons (pv 1) pa_nil)) (pa_cons pe_non (pa_cons (pe_tup (pa_cons (pv 1) (pa_cons (pv 2) (pa_cons (pv 2) pa_nil)))) pa_nil))))))))))
      (pss_cons (ps_set (i := 5) scThing.nd rfl (.inl rfl) (pe_op op_cat (pv 5) (pe_lst (pa_cons (pe_tup (pa_cons (pv 1) (pa_cons pe_int (pa_cons (pv 2) pa_nil)))) (pa_cons (pe_tup (pa_cons (pv 1) (pa_cons (pv 2) (pa_cons pe_int pa_nil)))) (pa_cons (pe_tup (pa_cons (pv 1) (pa_cons pe_int pa_nil))) (pa_cons (pe_lst (pa_cons (pv 1) (pa_cons pe_int (pa_cons pe_int pa_nil)))) (pa_cons (pe_tup (pa_cons (pv 1) (pa_cons pe_int (pa_cons pe_bl pa_nil)))) (pa_cons (pe_tup (pa_cons pe_int (pa_cons pe_int (pa_cons pe_int pa_nil)))) pa_nil)))))))))
      (pss_cons (ps_set (i := 5) scThing.nd rfl (.inl rfl) (pe_op op_cat (pv 5) (pe_lst (pa_cons (pe_tup (pa_cons (pe_lst (pa_cons (pv 1) pa_nil)) (pa_cons pe_int (pa_cons (pv 2) pa_nil)))) (pa_cons (pe_tup (pa_cons (pe_tup (pa_cons (pv 1) pa_nil)) (pa_cons pe_int (pa_cons pe_int pa_nil)))) (pa_cons (pe_tup (pa_cons (pv 1) (pa_cons (pe_lst (pa_cons pe_int pa_nil)) (pa_cons pe_int pa_nil)))) (pa_cons (pe_tup (pa_cons (pv 1) (pa_cons pe_int (pa_cons (pe_tup (pa_cons pe_int pa_nil)) pa_nil)))) pa_nil)))))))
      (pss_one (ps_ret (pe_ix ix_list (pv 5) (pe_op op_mod (pv 0) pe_int) (fun _ _ => rfl)))))))))), ?_⟩
    have hp12 : ∀ k : Int, 0 < k → k < 1073741824 → 0 < k ∧ k < 1073741824 := fun _ a b => ⟨a, b⟩
    refine ⟨_, rfl, c, 12, rfl, rfl, ⟨by decide, by decide⟩, c / 12, rfl, ht, fun H1 k1 => ?_⟩
    have t1 := k1.tab
    -- the number
    refine ⟨1, rfl, _, rfl, c, 12, rfl, rfl, ⟨by decide, by decide⟩, c / 12, 1003, rfl, rfl, (by show (0 : Int) < 1003; decide), _, 1, rfl, rfl, (by show 6 ≤ sizeLine; decide), fun m nm => ?_⟩
    obtain ⟨v, hv, n, rfl, hn0, hn1⟩ := at_pick (xs := [V.int 0, .int 1, .int 999, .int 1000, .int (-1), .int (c / 12 % 1003 - 1)]) (i := c / 144 % 6) (p := fun v => ∃ n : Int, v = .int n ∧ -1 ≤ n ∧ n ≤ 1002) (by omega) (by show c / 144 % 6 < ((6 : Nat) : Int); omega) (fun x hx => by
      simp only [List.mem_cons, List.not_mem_nil, or_false] at hx
      rcases hx with rfl | rfl | rfl | rfl | rfl | rfl
      · exact ⟨_, rfl, by decide, by decide⟩
      · exact ⟨_, rfl, by decide, by decide⟩
      · exact ⟨_, rfl, by decide, by decide⟩
      · exact ⟨_, rfl, by decide, by decide⟩
      · exact ⟨_, rfl, by decide, by decide⟩
      · exact ⟨_, rfl, by omega, by omega⟩)
    refine ⟨_, rfl, c, 144, rfl, rfl, ⟨by decide, by decide⟩, c / 144, 6, rfl, rfl, (by show (0 : Int) < 6; decide), m, _, c / 144 % 6, .int n, rfl, rfl, .inl (.of upd_same), hv, ?_⟩
    have k2 := Kp.new (o := HO.lst [V.int 0, .int 1, .int 999, .int 1000, .int (-1), .int (c / 12 % 1003 - 1)]) t1 nm
    have t2 := k2.tab
    have hwl := wordL_len (c / 12)
    have hwa := wordL_az (c / 12)
    have hsl : (SX.S (wordL (c / 12))).length = (wordL (c / 12)).length := SX.S_len _
    -- the place, the sign
    refine ⟨_, rfl, c, 12, rfl, rfl, ⟨by decide, by decide⟩, _, rfl, _, rfl, line1000 (by omega), _, 1, rfl, rfl, c / 12, _, rfl, rfl, (by show (0 : Int) < ((SX.S (wordL (c / 12))).length : Int) + 1; omega), ?_⟩
    have e10 : ("AZ09 _-.~\n" : Str) = SX.S [65, 90, 48, 57, 32, 95, 45, 46, 126, 10] := by decide +kernel
    obtain ⟨g, hg, hg1⟩ := at_pick (xs := [65, 90, 48, 57, 32, 95, 45, 46, 126, 10]) (i := c / 120 % 10) (p := fun g : Nat => g < 200) (by omega) (by show c / 120 % 10 < ((10 : Nat) : Int); omega) (by decide)
    refine ⟨_, rfl, c, 120, rfl, rfl, ⟨by decide, by decide⟩, c / 120, 10, rfl, rfl, (by show (0 : Int) < 10; decide), _, c / 120 % 10, g, rfl, rfl, (by rw [e10]; show (10 : Nat) ≤ sizeLine; decide), (by rw [e10]; exact hg), ?_⟩
    -- the first eight
    obtain ⟨m1, em1, lm1, mm1⟩ := cutS_S (l := wordL (c / 12)) (lo := none) (hi := some (c / 12 % (((SX.S (wordL (c / 12))).length : Int) + 1)))
    obtain ⟨m2, em2, lm2, mm2⟩ := cutS_S (l := wordL (c / 12)) (lo := some (c / 12 % (((SX.S (wordL (c / 12))).length : Int) + 1))) (hi := none)
    have okW : okS (.str (SX.S (wordL (c / 12)))) = true := okS_S hwa.ok (by omega)
    have okN : okS (.str (Str.ofString (toString n))) = true := tos_ok hn0 hn1
    have hg8 : g < 0x110000 := by omega
    have etx : cutS (SX.S (wordL (c / 12))) none (some (c / 12 % (((SX.S (wordL (c / 12))).length : Int) + 1))) ++ (⟨#[g]⟩ : Str) ++ cutS (SX.S (wordL (c / 12))) (some (c / 12 % (((SX.S (wordL (c / 12))).length : Int) + 1))) none = SX.S (m1 ++ [g] ++ m2) := by
      rw [em1, em2, show (⟨#[g]⟩ : Str) = SX.S [g] from rfl, SX.S_cat, SX.S_cat]
    have okX : okS (.str (SX.S (m1 ++ [g] ++ m2))) = true := okS_S (fun x hx => by
      rcases List.mem_append.mp hx with hx | hx
      · rcases List.mem_append.mp hx with hx | hx
        · exact hwa.ok x (mm1 x hx)
        · rw [List.mem_singleton.mp hx]; exact hg8
      · exact hwa.ok x (mm2 x hx)) (by rw [List.length_append, List.length_append, List.length_singleton]; omega)
    have ln1 : (cutS (SX.S (wordL (c / 12))) none (some (c / 12 % (((SX.S (wordL (c / 12))).length : Int) + 1)))).length ≤ 9 := by rw [em1, SX.S_len]; omega
    have ln2 : (cutS (SX.S (wordL (c / 12))) (some (c / 12 % (((SX.S (wordL (c / 12))).length : Int) + 1))) none).length ≤ 9 := by rw [em2, SX.S_len]; omega
    have ln3 : (cutS (SX.S (wordL (c / 12))) none (some (c / 12 % (((SX.S (wordL (c / 12))).length : Int) + 1))) ++ (⟨#[g]⟩ : Str)).length ≤ 10 := by rw [em1, show (⟨#[g]⟩ : Str) = SX.S [g] from rfl, SX.S_cat, SX.S_len, List.length_append, List.length_singleton]; omega
    have ln4 : ((⟨#[g]⟩ : Str)).length = 1 := rfl
    have lW : (SX.S (wordL (c / 12))).length ≤ sizeLine := line1000 (by omega)
    refine ⟨_, rfl, _, rfl, _, rfl, _, rfl, _, rfl, lW, _, rfl, _, _, rfl, rfl, line1000 (by omega), _, rfl, _, rfl, _, rfl, _, rfl, lW, _, _, rfl, rfl, line1000 (by omega), _, rfl, _, rfl, n, rfl, log_small hn0 hn1, _, rfl, (by show (1 : Nat) ≤ sizeLine; decide), fun a6 n_a6 => ?_⟩
    have k_a6 := Kp.new (o := HO.lst [V.str (SX.S (wordL (c / 12)))]) t2 n_a6
    have t_a6 := k_a6.tab
    refine ⟨_, rfl, _, rfl, _, rfl, (by show (3 : Nat) ≤ sizeLine; decide), fun a8 n_a8 => ?_⟩
    have k_a8 := Kp.new (o := HO.tup [V.str (SX.S (wordL (c / 12))), V.int n, V.int n]) t_a6 n_a8
    have t_a8 := k_a8.tab
    refine ⟨(by show (8 : Nat) ≤ sizeLine; decide), fun l5 n_l5 => ?_⟩
    have k_l5 := Kp.new (o := HO.lst [V.str (SX.S (wordL (c / 12))), V.str (cutS (SX.S (wordL (c / 12))) none (some (c / 12 % (((SX.S (wordL (c / 12))).length : Int) + 1))) ++ (⟨#[g]⟩ : Str) ++ cutS (SX.S (wordL (c / 12))) (some (c / 12 % (((SX.S (wordL (c / 12))).length : Int) + 1))) none), V.int n, V.bl true, V.str (Str.ofString (toString n)), V.ref a6, V.non, V.ref a8]) t_a8 n_l5
    have t_l5 := k_l5.tab
    refine ⟨_, rfl, _, rfl, _, rfl, (by show (3 : Nat) ≤ sizeLine; decide), fun b1 n_b1 => ?_⟩
    have k_b1 := Kp.new (o := HO.tup [V.str (SX.S (wordL (c / 12))), V.int 3, V.int n]) t_l5 n_b1
    have t_b1 := k_b1.tab
    refine ⟨_, rfl, _, rfl, (by show (3 : Nat) ≤ sizeLine; decide), fun b2 n_b2 => ?_⟩
    have k_b2 := Kp.new (o := HO.tup [V.str (SX.S (wordL (c / 12))), V.int n, V.int 3]) t_b1 n_b2
    have t_b2 := k_b2.tab
    refine ⟨_, rfl, (by show (2 : Nat) ≤ sizeLine; decide), fun b3 n_b3 => ?_⟩
    have k_b3 := Kp.new (o := HO.tup [V.str (SX.S (wordL (c / 12))), V.int 2]) t_b2 n_b3
    have t_b3 := k_b3.tab
    refine ⟨_, rfl, (by show (3 : Nat) ≤ sizeLine; decide), fun b4 n_b4 => ?_⟩
    have k_b4 := Kp.new (o := HO.lst [V.str (SX.S (wordL (c / 12))), V.int 2, V.int 3]) t_b3 n_b4
    have t_b4 := k_b4.tab
    refine ⟨_, rfl, (by show (3 : Nat) ≤ sizeLine; decide), fun b5 n_b5 => ?_⟩
    have k_b5 := Kp.new (o := HO.tup [V.str (SX.S (wordL (c / 12))), V.int 1, V.bl true]) t_b4 n_b5
    have t_b5 := k_b5.tab
    refine ⟨(by show (3 : Nat) ≤ sizeLine; decide), fun b6 n_b6 => ?_⟩
    have k_b6 := Kp.new (o := HO.tup [V.int 5, V.int 1, V.int 2]) t_b5 n_b6
    have t_b6 := k_b6.tab
    refine ⟨(by show (6 : Nat) ≤ sizeLine; decide), fun l6a n_l6a => ?_⟩
    have k_l6a := Kp.new (o := HO.lst [V.ref b1, V.ref b2, V.ref b3, V.ref b4, V.ref b5, V.ref b6]) t_b6 n_l6a
    have t_l6a := k_l6a.tab
    have h5 := (((((((k_b1).trans k_b2).trans k_b3).trans k_b4).trans k_b5).trans k_b6).trans k_l6a).lst (upd_same (a := l5))
    refine ⟨l5, l6a, _, _, rfl, rfl, h5, upd_same, (by show (14 : Nat) ≤ sizeLine; decide), fun l6 n_l6 => ?_⟩
    have k_l6 := Kp.new (o := HO.lst [V.str (SX.S (wordL (c / 12))), V.str (cutS (SX.S (wordL (c / 12))) none (some (c / 12 % (((SX.S (wordL (c / 12))).length : Int) + 1))) ++ (⟨#[g]⟩ : Str) ++ cutS (SX.S (wordL (c / 12))) (some (c / 12 % (((SX.S (wordL (c / 12))).length : Int) + 1))) none), V.int n, V.bl true, V.str (Str.ofString (toString n)), V.ref a6, V.non, V.ref a8, V.ref b1, V.ref b2, V.ref b3, V.ref b4, V.ref b5, V.ref b6]) t_l6a n_l6
    have t_l6 := k_l6.tab
    refine ⟨_, rfl, _, rfl, (by show (1 : Nat) ≤ sizeLine; decide), fun c1i n_c1i => ?_⟩
    have k_c1i := Kp.new (o := HO.lst [V.str (SX.S (wordL (c / 12)))]) t_l6 n_c1i
    have t_c1i := k_c1i.tab
    refine ⟨_, rfl, (by show (3 : Nat) ≤ sizeLine; decide), fun c1 n_c1 => ?_⟩
    have k_c1 := Kp.new (o := HO.tup [V.ref c1i, V.int 1, V.int n]) t_c1i n_c1
    have t_c1 := k_c1.tab
    refine ⟨_, rfl, (by show (1 : Nat) ≤ sizeLine; decide), fun c2i n_c2i => ?_⟩
    have k_c2i := Kp.new (o := HO.tup [V.str (SX.S (wordL (c / 12)))]) t_c1 n_c2i
    have t_c2i := k_c2i.tab
    refine ⟨(by show (3 : Nat) ≤ sizeLine; decide), fun c2 n_c2 => ?_⟩
    have k_c2 := Kp.new (o := HO.tup [V.ref c2i, V.int 1, V.int 2]) t_c2i n_c2
    have t_c2 := k_c2.tab
    refine ⟨_, rfl, (by show (1 : Nat) ≤ sizeLine; decide), fun c3i n_c3i => ?_⟩
    have k_c3i := Kp.new (o := HO.lst [V.int 1]) t_c2 n_c3i
    have t_c3i := k_c3i.tab
    refine ⟨(by show (3 : Nat) ≤ sizeLine; decide), fun c3 n_c3 => ?_⟩
    have k_c3 := Kp.new (o := HO.tup [V.str (SX.S (wordL (c / 12))), V.ref c3i, V.int 2]) t_c3i n_c3
    have t_c3 := k_c3.tab
    refine ⟨_, rfl, (by show (1 : Nat) ≤ sizeLine; decide), fun c4i n_c4i => ?_⟩
    have k_c4i := Kp.new (o := HO.tup [V.int 2]) t_c3 n_c4i
    have t_c4i := k_c4i.tab
    refine ⟨(by show (3 : Nat) ≤ sizeLine; decide), fun c4 n_c4 => ?_⟩
    have k_c4 := Kp.new (o := HO.tup [V.str (SX.S (wordL (c / 12))), V.int 1, V.ref c4i]) t_c4i n_c4
    have t_c4 := k_c4.tab
    refine ⟨(by show (4 : Nat) ≤ sizeLine; decide), fun l7a n_l7a => ?_⟩
    have k_l7a := Kp.new (o := HO.lst [V.ref c1, V.ref c2, V.ref c3, V.ref c4]) t_c4 n_l7a
    have t_l7a := k_l7a.tab
    have h6 := (((((((((k_c1i).trans k_c1).trans k_c2i).trans k_c2).trans k_c3i).trans k_c3).trans k_c4i).trans k_c4).trans k_l7a).lst (upd_same (a := l6))
    refine ⟨l6, l7a, _, _, rfl, rfl, h6, upd_same, (by show (18 : Nat) ≤ sizeLine; decide), fun l7 n_l7 => ?_⟩
    have k_l7 := Kp.new (o := HO.lst [V.str (SX.S (wordL (c / 12))), V.str (cutS (SX.S (wordL (c / 12))) none (some (c / 12 % (((SX.S (wordL (c / 12))).length : Int) + 1))) ++ (⟨#[g]⟩ : Str) ++ cutS (SX.S (wordL (c / 12))) (some (c / 12 % (((SX.S (wordL (c / 12))).length : Int) + 1))) none), V.int n, V.bl true, V.str (Str.ofString (toString n)), V.ref a6, V.non, V.ref a8, V.ref b1, V.ref b2, V.ref b3, V.ref b4, V.ref b5, V.ref b6, V.ref c1, V.ref c2, V.ref c3, V.ref c4]) t_l7a n_l7
    have t_l7 := k_l7.tab
    have kk_a6 := (((((((((((((((((((k_a8).trans k_l5).trans k_b1).trans k_b2).trans k_b3).trans k_b4).trans k_b5).trans k_b6).trans k_l6a).trans k_l6).trans k_c1i).trans k_c1).trans k_c2i).trans k_c2).trans k_c3i).trans k_c3).trans k_c4i).trans k_c4).trans k_l7a).trans k_l7
    have kk_a8 := ((((((((((((((((((k_l5).trans k_b1).trans k_b2).trans k_b3).trans k_b4).trans k_b5).trans k_b6).trans k_l6a).trans k_l6).trans k_c1i).trans k_c1).trans k_c2i).trans k_c2).trans k_c3i).trans k_c3).trans k_c4i).trans k_c4).trans k_l7a).trans k_l7
    have kk_b1 := ((((((((((((((((k_b2).trans k_b3).trans k_b4).trans k_b5).trans k_b6).trans k_l6a).trans k_l6).trans k_c1i).trans k_c1).trans k_c2i).trans k_c2).trans k_c3i).trans k_c3).trans k_c4i).trans k_c4).trans k_l7a).trans k_l7
    have kk_b2 := (((((((((((((((k_b3).trans k_b4).trans k_b5).trans k_b6).trans k_l6a).trans k_l6).trans k_c1i).trans k_c1).trans k_c2i).trans k_c2).trans k_c3i).trans k_c3).trans k_c4i).trans k_c4).trans k_l7a).trans k_l7
    have kk_b3 := ((((((((((((((k_b4).trans k_b5).trans k_b6).trans k_l6a).trans k_l6).trans k_c1i).trans k_c1).trans k_c2i).trans k_c2).trans k_c3i).trans k_c3).trans k_c4i).trans k_c4).trans k_l7a).trans k_l7
    have kk_b4 := (((((((((((((k_b5).trans k_b6).trans k_l6a).trans k_l6).trans k_c1i).trans k_c1).trans k_c2i).trans k_c2).trans k_c3i).trans k_c3).trans k_c4i).trans k_c4).trans k_l7a).trans k_l7
    have kk_b5 := ((((((((((((k_b6).trans k_l6a).trans k_l6).trans k_c1i).trans k_c1).trans k_c2i).trans k_c2).trans k_c3i).trans k_c3).trans k_c4i).trans k_c4).trans k_l7a).trans k_l7
    have kk_b6 := (((((((((((k_l6a).trans k_l6).trans k_c1i).trans k_c1).trans k_c2i).trans k_c2).trans k_c3i).trans k_c3).trans k_c4i).trans k_c4).trans k_l7a).trans k_l7
    have kk_c1i := ((((((((k_c1).trans k_c2i).trans k_c2).trans k_c3i).trans k_c3).trans k_c4i).trans k_c4).trans k_l7a).trans k_l7
    have kk_c1 := (((((((k_c2i).trans k_c2).trans k_c3i).trans k_c3).trans k_c4i).trans k_c4).trans k_l7a).trans k_l7
    have kk_c2i := ((((((k_c2).trans k_c3i).trans k_c3).trans k_c4i).trans k_c4).trans k_l7a).trans k_l7
    have kk_c2 := (((((k_c3i).trans k_c3).trans k_c4i).trans k_c4).trans k_l7a).trans k_l7
    have kk_c3i := ((((k_c3).trans k_c4i).trans k_c4).trans k_l7a).trans k_l7
    have kk_c3 := (((k_c4i).trans k_c4).trans k_l7a).trans k_l7
    have kk_c4i := ((k_c4).trans k_l7a).trans k_l7
    have kk_c4 := (k_l7a).trans k_l7
    have d_a6 := Dp.lst (kk_a6.seq (K := K) (.inl (.inl (upd_same (a := a6))))) (.cons (.str _) .nil)
    have d_a8 := Dp.tup (kk_a8.sqt (K := K) (.inl (.inl (upd_same (a := a8))))) (.cons (.str _) (.cons (.int _) (.cons (.int _) .nil)))
    have d_b1 := Dp.tup (kk_b1.sqt (K := K) (.inl (.inl (upd_same (a := b1))))) (.cons (.str _) (.cons (.int _) (.cons (.int _) .nil)))
    have d_b2 := Dp.tup (kk_b2.sqt (K := K) (.inl (.inl (upd_same (a := b2))))) (.cons (.str _) (.cons (.int _) (.cons (.int _) .nil)))
    have d_b3 := Dp.tup (kk_b3.sqt (K := K) (.inl (.inl (upd_same (a := b3))))) (.cons (.str _) (.cons (.int _) .nil))
    have d_b4 := Dp.lst (kk_b4.seq (K := K) (.inl (.inl (upd_same (a := b4))))) (.cons (.str _) (.cons (.int _) (.cons (.int _) .nil)))
    have d_b5 := Dp.tup (kk_b5.sqt (K := K) (.inl (.inl (upd_same (a := b5))))) (.cons (.str _) (.cons (.int _) (.cons (.bl _) .nil)))
    have d_b6 := Dp.tup (kk_b6.sqt (K := K) (.inl (.inl (upd_same (a := b6))))) (.cons (.int _) (.cons (.int _) (.cons (.int _) .nil)))
    have d_c1i := Dp.lst (kk_c1i.seq (K := K) (.inl (.inl (upd_same (a := c1i))))) (.cons (.str _) .nil)
    have d_c1 := Dp.tup (kk_c1.sqt (K := K) (.inl (.inl (upd_same (a := c1))))) (.cons (d_c1i) (.cons (.int _) (.cons (.int _) .nil)))
    have d_c2i := Dp.tup (kk_c2i.sqt (K := K) (.inl (.inl (upd_same (a := c2i))))) (.cons (.str _) .nil)
    have d_c2 := Dp.tup (kk_c2.sqt (K := K) (.inl (.inl (upd_same (a := c2))))) (.cons (d_c2i) (.cons (.int _) (.cons (.int _) .nil)))
    have d_c3i := Dp.lst (kk_c3i.seq (K := K) (.inl (.inl (upd_same (a := c3i))))) (.cons (.int _) .nil)
    have d_c3 := Dp.tup (kk_c3.sqt (K := K) (.inl (.inl (upd_same (a := c3))))) (.cons (.str _) (.cons (d_c3i) (.cons (.int _) .nil)))
    have d_c4i := Dp.tup (kk_c4i.sqt (K := K) (.inl (.inl (upd_same (a := c4i))))) (.cons (.int _) .nil)
    have d_c4 := Dp.tup (kk_c4.sqt (K := K) (.inl (.inl (upd_same (a := c4))))) (.cons (.str _) (.cons (.int _) (.cons (d_c4i) .nil)))
    obtain ⟨v, d, hv7, hd7, ho7⟩ := pick_thing (K := K) k_l7 (i := c % 18) (xs := [V.str (SX.S (wordL (c / 12))), V.str (cutS (SX.S (wordL (c / 12))) none (some (c / 12 % (((SX.S (wordL (c / 12))).length : Int) + 1))) ++ (⟨#[g]⟩ : Str) ++ cutS (SX.S (wordL (c / 12))) (some (c / 12 % (((SX.S (wordL (c / 12))).length : Int) + 1))) none), V.int n, V.bl true, V.str (Str.ofString (toString n)), V.ref a6, V.non, V.ref a8, V.ref b1, V.ref b2, V.ref b3, V.ref b4, V.ref b5, V.ref b6, V.ref c1, V.ref c2, V.ref c3, V.ref c4]) (fun x hx => by
      simp only [List.mem_cons, List.not_mem_nil, or_false] at hx
      rcases hx with rfl | rfl | rfl | rfl | rfl | rfl | rfl | rfl | rfl | rfl | rfl | rfl | rfl | rfl | rfl | rfl | rfl | rfl
      · exact ⟨(.str (SX.S (wordL (c / 12)))), .str _, okW⟩
      · exact ⟨(.str (SX.S (m1 ++ [g] ++ m2))), (by rw [etx]; exact .str _), okX⟩
      · exact ⟨(.int n), .int _, rfl⟩
      · exact ⟨(.bool true), .bl _, rfl⟩
      · exact ⟨(.str (Str.ofString (toString n))), .str _, okN⟩
      · exact ⟨_, d_a6, rfl⟩
      · exact ⟨(.none), .non, rfl⟩
      · exact ⟨_, d_a8, okT_tup (fun d hd => by simp only [List.mem_cons, List.not_mem_nil, or_false] at hd; first | (rcases hd with rfl | rfl | rfl <;> first | exact okW | rfl) | (rcases hd with rfl | rfl <;> first | exact okW | rfl)) (by simp)⟩
      · exact ⟨_, d_b1, okT_tup (fun d hd => by simp only [List.mem_cons, List.not_mem_nil, or_false] at hd; first | (rcases hd with rfl | rfl | rfl <;> first | exact okW | rfl) | (rcases hd with rfl | rfl <;> first | exact okW | rfl)) (by simp)⟩
      · exact ⟨_, d_b2, okT_tup (fun d hd => by simp only [List.mem_cons, List.not_mem_nil, or_false] at hd; first | (rcases hd with rfl | rfl | rfl <;> first | exact okW | rfl) | (rcases hd with rfl | rfl <;> first | exact okW | rfl)) (by simp)⟩
      · exact ⟨_, d_b3, okT_tup (fun d hd => by simp only [List.mem_cons, List.not_mem_nil, or_false] at hd; first | (rcases hd with rfl | rfl | rfl <;> first | exact okW | rfl) | (rcases hd with rfl | rfl <;> first | exact okW | rfl)) (by simp)⟩
      · exact ⟨_, d_b4, rfl⟩
      · exact ⟨_, d_b5, okT_tup (fun d hd => by simp only [List.mem_cons, List.not_mem_nil, or_false] at hd; first | (rcases hd with rfl | rfl | rfl <;> first | exact okW | rfl) | (rcases hd with rfl | rfl <;> first | exact okW | rfl)) (by simp)⟩
      · exact ⟨_, d_b6, okT_tup (fun d hd => by simp only [List.mem_cons, List.not_mem_nil, or_false] at hd; first | (rcases hd with rfl | rfl | rfl <;> first | exact okW | rfl) | (rcases hd with rfl | rfl <;> first | exact okW | rfl)) (by simp)⟩
      · exact ⟨_, d_c1, okT_tup (fun d hd => by simp only [List.mem_cons, List.not_mem_nil, or_false] at hd; first | (rcases hd with rfl | rfl | rfl <;> first | exact okW | rfl) | (rcases hd with rfl | rfl <;> first | exact okW | rfl)) (by simp)⟩
      · exact ⟨_, d_c2, okT_tup (fun d hd => by simp only [List.mem_cons, List.not_mem_nil, or_false] at hd; first | (rcases hd with rfl | rfl | rfl <;> first | exact okW | rfl) | (rcases hd with rfl | rfl <;> first | exact okW | rfl)) (by simp)⟩
      · exact ⟨_, d_c3, okT_tup (fun d hd => by simp only [List.mem_cons, List.not_mem_nil, or_false] at hd; first | (rcases hd with rfl | rfl | rfl <;> first | exact okW | rfl) | (rcases hd with rfl | rfl <;> first | exact okW | rfl)) (by simp)⟩
      · exact ⟨_, d_c4, okT_tup (fun d hd => by simp only [List.mem_cons, List.not_mem_nil, or_false] at hd; first | (rcases hd with rfl | rfl | rfl <;> first | exact okW | rfl) | (rcases hd with rfl | rfl <;> first | exact okW | rfl)) (by simp)⟩
      ) (by omega) (by show c % 18 < ((18 : Nat) : Int); omega)
    have KF := (((((((((((((((((((((k1.trans k2).trans k_a6).trans k_a8).trans k_l5).trans k_b1).trans k_b2).trans k_b3).trans k_b4).trans k_b5).trans k_b6).trans k_l6a).trans k_l6).trans k_c1i).trans k_c1).trans k_c2i).trans k_c2).trans k_c3i).trans k_c3).trans k_c4i).trans k_c4).trans k_l7a).trans k_l7
    exact ⟨_, rfl, _, rfl, c, 18, rfl, rfl, (by show (0 : Int) < 18; decide), l7, _, c % 18, v, rfl, rfl, .inl (.of upd_same), hv7, q v d _ KF hd7 ho7⟩
end
end Pk

set_option Elab.async false
set_option linter.all false
set_option maxRecDepth 100000
set_option maxHeartbeats 4000000
namespace Pk
open PySem PySem.Spec PyProof.Rows L2
section
variable {P : Program} {w : World} {K : PySem.W.Frag} {mg : Str → Option Value} {base : Heap}
/-! ### the law's is_word -/
theorem scIsWord : FnScope ["_law_thing_here", "_law_sign"] ["_law_thing_here"] (defScope sIsWord) := ⟨rfl, rfl, rfl, by decide +kernel, rfl, by decide +kernel, by decide +kernel⟩
theorem filter_nil_all {l : List Nat} {f : Nat → Bool} : (l.filter fun c => !f c).isEmpty = l.all f := by
  induction l with
  | nil => rfl
  | cons x r ih =>
    rw [List.filter_cons, List.all_cons]
    cases e : f x with
    | true => rw [if_neg (by simp), Bool.true_and]; exact ih
    | false => rw [if_pos (by simp)]; rfl
theorem ok_isword {f T : Addr} {fd : FuncData} (F : Fun K "_law_is_word" "_law_is_word" sIsWord f fd) (mI : mg "isinstance" = none) (mS : mg "str" = none) (mL : mg "len" = none) :
    FnOk P w K mg base CX0 1 f fd ["_law_thing_here"] (spWare K T) := by
  refine F.ok scIsWord (fun vs H Q E h => ?_) (fun cdv A outer s H vs Q E hr h => ?_)
  · obtain ⟨v, d, rfl, _⟩ := h
    rfl
  · obtain ⟨v, d, rfl, hd, ho, ht, q⟩ := h
    refine ⟨_, pss_cons (ps_if (PW.pt (pw_or (pt_not (pt_val (pe_callB call_isi (by rfl) mI boot_isinstance (pa_cons (pv 0) (pa_cons (pe_bltn (v := .ty "str") (by rfl) mS boot_str rfl) pa_nil)))))
        (pw_or (pt_cmpR op_lt (pe_callB call_len_str (by rfl) mL PySem.boot_len (pa_cons (pv 0) pa_nil)) pe_int (nomark _))
        (pw_or1 (pt_cmpR op_gt (pe_callB call_len_str (by rfl) mL PySem.boot_len (pa_cons (pv 0) pa_nil)) pe_int (nomark _)))))) (pss_one (ps_ret pe_bl)) pss_nil)
      (pss_one (ps_ret (pe_cmpR (op_eqD hr.units) (pe_lc (own := [("_law_sign", 1)]) (g := gName 1) rfl scIsWord.nd (pi_str (pv 0))
        (blkOk_by (own := [("_law_sign", 1)]) (N := ["_law_thing_here", "_law_sign"]) (sc := defScope sIsWord) (by decide +kernel)) (fun _ _ _ _ _ => pg_name (i := 1) scIsWord.nd rfl (Or.inl rfl))
        (fun _ _ _ _ _ => pts_one (pt_not (pt_chain op_le_str op_le_str pe_str (pv 1) pe_str))) (fun _ _ _ _ _ => pv 1)) (pe_lst pa_nil) (nomark _)))), ?_⟩
    have no : wareB d = false → Q (.bl false) H := fun e => by
      have z := q H (Kp.refl ht)
      rw [e] at z
      exact z
    cases e : isStrD d with
    | false =>
      exact ⟨v, rfl, v, .ty "str", _, _, false, rfl, .ty "str", tyx_of hd, by rw [kit_str, e], false, rfl, iteT (no (wareB_no e))⟩
    | true =>
      obtain ⟨x, rfl⟩ := isStrD_ex e
      cases hd
      have hx : x.length ≤ 1000 := okS_len ho
      have h8 := ok8_of (okS_ok ho)
      refine ⟨_, rfl, _, .ty "str", _, _, true, rfl, .ty "str", tyx_of (.str x), by rw [kit_str] <;> rfl, true, rfl, iteF ?_⟩
      refine ⟨.str x, rfl, x, rfl, line1000 hx, _, _, rfl, rfl, _, rfl, iteD (fun h1 => no ?_) (fun h1 => ?_)⟩
      · show (decide (1 ≤ x.length) && _ && _) = false
        rw [decide_eq_false (show ¬ 1 ≤ x.length by omega)] <;> rfl
      refine ⟨.str x, rfl, x, rfl, line1000 hx, _, _, rfl, rfl, _, rfl, iteD (fun h2 => no ?_) (fun h2 => ?_)⟩
      · show (decide (1 ≤ x.length) && decide (x.length ≤ 8) && _) = false
        rw [decide_eq_false (show ¬ x.length ≤ 8 by omega), Bool.and_false] <;> rfl
      have ew : wareB (.str x) = x.cps.toList.all azB := by
        show (decide (1 ≤ x.length) && decide (x.length ≤ 8) && x.cps.toList.all azB) = _
        rw [decide_eq_true (show x.length ≤ 8 by omega), decide_eq_true (show 1 ≤ x.length by omega)] <;> rfl
      -- the signs that are none
      refine ⟨_, rfl, x, rfl, fun D nD => ?_⟩
      refine lc_str (x := x) (fun i H' => H' = upd H D (.lst (((x.cps.toList.take i).filter fun c => !azB c).map fun c => V.str ⟨#[c]⟩))) rfl (fun i c H' hc e => ?_) (fun H' e => ?_)
      · subst e
        have ei : (x.cps.toList.take (i + 1)) = x.cps.toList.take i ++ [c] := by rw [List.take_add_one, hc]; rfl
        have stay : azB c = true → upd H D (.lst (((x.cps.toList.take i).filter fun c => !azB c).map fun c => V.str ⟨#[c]⟩)) = upd H D (.lst (((x.cps.toList.take (i + 1)).filter fun c => !azB c).map fun c => V.str ⟨#[c]⟩)) := fun z => by
          rw [ei, List.filter_append, List.filter_cons, if_neg (by rw [z]; simp), List.filter_nil, List.append_nil]
        have grow : azB c = false → ∃ acc, upd H D (.lst (((x.cps.toList.take i).filter fun c => !azB c).map fun c => V.str ⟨#[c]⟩)) D = some (.lst acc) ∧ acc.length < sizeLine ∧
            upd (upd H D (.lst (((x.cps.toList.take i).filter fun c => !azB c).map fun c => V.str ⟨#[c]⟩))) D (.lst (acc ++ [.str ⟨#[c]⟩])) = upd H D (.lst (((x.cps.toList.take (i + 1)).filter fun c => !azB c).map fun c => V.str ⟨#[c]⟩)) := fun z => by
          refine ⟨_, upd_same, ?_, ?_⟩
          · rw [List.length_map]
            have a1 := List.length_filter_le (fun c => !azB c) (x.cps.toList.take i)
            have a2 : (x.cps.toList.take i).length ≤ x.cps.toList.length := by rw [List.length_take]; omega
            have a3 : x.cps.toList.length = x.length := by simp [Str.length]
            exact small1000 (by omega)
          · rw [upd_upd, ei, List.filter_append, List.filter_cons, if_pos (by rw [z]; rfl), List.filter_nil, List.map_append]
            rfl
        refine ⟨rfl, .str ⟨#[c]⟩, rfl, _, _, rfl, rfl, ?_⟩
        cases e1 : (!decide ((⟨#[c]⟩ : Str).cps.toList < ("a" : Str).cps.toList)) with
        | false =>
          have ea : azB c = false := by unfold azB; rw [if_neg (by rw [e1]; exact Bool.false_ne_true)]
          exact ⟨false, rfl, iteF ⟨false, rfl, iteT ⟨_, rfl, grow ea⟩⟩⟩
        | true =>
          have ea : azB c = !decide (("z" : Str).cps.toList < (⟨#[c]⟩ : Str).cps.toList) := by unfold azB; rw [if_pos e1]
          refine ⟨true, rfl, iteT ⟨_, _, rfl, rfl, ?_⟩⟩
          cases e2 : (!decide (("z" : Str).cps.toList < (⟨#[c]⟩ : Str).cps.toList)) with
          | false =>
            rw [e2] at ea
            exact ⟨false, rfl, iteT ⟨_, rfl, grow ea⟩⟩
          | true =>
            rw [e2] at ea
            exact ⟨true, rfl, iteF (stay ea)⟩
      · subst e
        rw [List.take_length]
        refine ⟨by show (0 : Nat) ≤ sizeLine; decide, fun l nl => ?_⟩
        have k1 := Kp.new (o := HO.lst ((x.cps.toList.filter fun c => !azB c).map fun c => V.str ⟨#[c]⟩)) ht nD
        have k2 := Kp.new (o := HO.lst []) k1.tab nl
        have dA : ∀ m : List Nat, DpAll K (upd (upd H D (HO.lst ((x.cps.toList.filter fun c => !azB c).map fun c => V.str ⟨#[c]⟩))) l (HO.lst [])) (m.map fun c => V.str ⟨#[c]⟩) (m.map fun c => PyData.str ⟨#[c]⟩) := fun m => by
          induction m with
          | nil => exact .nil
          | cons a r ih => exact .cons (.str _) ih
        have d1 := Dp.lst (K := K) (k2.seq (.inl (.inl (upd_same (a := D))))) (dA _)
        have d2 := Dp.lst (K := K) (.inl (.inl (upd_same (H := upd H D (HO.lst ((x.cps.toList.filter fun c => !azB c).map fun c => V.str ⟨#[c]⟩))) (a := l) (o := HO.lst [])))) DpAll.nil
        have sh : SeqAt.shaped (.list ((x.cps.toList.filter fun c => !azB c).map fun c => PyData.str ⟨#[c]⟩)) = true := (shaped_flat fun d hd => by
          obtain ⟨c, hc, rfl⟩ := List.mem_map.mp hd
          exact ⟨strOk_S (l := [c]) fun y hy => by rw [List.mem_singleton.mp hy]; exact h8 c (List.mem_filter.mp hc).1, rfl⟩).1
        refine ⟨_, _, d1, d2, sh, rfl, ?_⟩
        rw [eqv_nil, show (((x.cps.toList.filter fun c => !azB c).map fun c => PyData.str ⟨#[c]⟩)).isEmpty = x.cps.toList.all azB by
          rw [← filter_nil_all]
          cases (x.cps.toList.filter fun c => !azB c) <;> rfl]
        have z := q _ (k1.trans k2)
        rw [ew] at z
        exact z
end
end Pk

set_option Elab.async false
set_option linter.all false
set_option maxRecDepth 100000
set_option maxHeartbeats 4000000
namespace Pk
open PySem PySem.Spec PyProof.Rows L2
theorem isIntD_no {d : PyData} (h : isIntD d = false) : makeB d = false := by
  cases d <;> first | rfl | cases h
theorem isIntD_ex {d : PyData} (h : isIntD d = true) : (∃ b, d = .bool b) ∨ ∃ i, d = .int i := by
  cases d <;> first | exact .inl ⟨_, rfl⟩ | exact .inr ⟨_, rfl⟩ | cases h
abbrev sLaw : Stmt := topS 18
section
variable {P : Program} {w : World} {K : PySem.W.Frag} {mg : Str → Option Value} {base : Heap}
/-! ### the law's is_number, is_need -/
theorem scIsNum : FnScope ["_law_thing_here"] ["_law_thing_here"] (defScope sIsNum) := ⟨rfl, rfl, rfl, by decide +kernel, rfl, by decide +kernel, by decide +kernel⟩
theorem ok_isnum {f : Addr} {fd : FuncData} (F : Fun K "_law_is_number" "_law_is_number" sIsNum f fd) (mI : mg "isinstance" = none) (mN : mg "int" = none) (mB : mg "bool" = none) : FnOk P w K mg base CX0 1 f fd ["_law_thing_here"] (spMake K) := by
  refine F.ok scIsNum (fun vs H Q E h => ?_) (fun cdv A outer s H vs Q E hr h => ?_)
  · obtain ⟨v, d, rfl, _⟩ := h
    rfl
  · obtain ⟨v, d, rfl, hd, q⟩ := h
    refine ⟨_, pss_one (ps_ret (pe_and (pe_callB call_isi (by rfl) mI boot_isinstance (pa_cons (pv 0) (pa_cons (pe_bltn (v := .ty "int") (by rfl) mN boot_int rfl) pa_nil)))
      (pe_and (pe_not (pe_callB call_isi (by rfl) mI boot_isinstance (pa_cons (pv 0) (pa_cons (pe_bltn (v := .ty "bool") (by rfl) mB boot_bool rfl) pa_nil))))
      (pe_one (pe_chain op_lt op_lt pe_int (pv 0) pe_int))))), ?_⟩
    cases e : isIntD d with
    | false =>
      refine ⟨v, rfl, v, .ty "int", _, _, false, rfl, .ty "int", tyx_of hd, by rw [kit_int, e], _, rfl, iteF ?_⟩
      rw [isIntD_no e] at q
      exact q
    | true =>
      refine ⟨v, rfl, v, .ty "int", _, _, true, rfl, .ty "int", tyx_of hd, by rw [kit_int, e], _, rfl, iteT ?_⟩
      rcases isIntD_ex e with ⟨b, rfl⟩ | ⟨i, rfl⟩
      · exact ⟨v, rfl, v, .ty "bool", _, _, true, rfl, .ty "bool", tyx_of hd, by rw [kit_bool] <;> rfl, _, rfl, _, rfl, iteF q⟩
      · refine ⟨v, rfl, v, .ty "bool", _, _, false, rfl, .ty "bool", tyx_of hd, by rw [kit_bool] <;> rfl, _, rfl, _, rfl, iteT ?_⟩
        cases hd
        refine ⟨_, rfl, _, _, rfl, rfl, _, rfl, iteD (fun h1 => ?_) (fun h1 => ?_)⟩
        · refine ⟨_, _, rfl, rfl, ?_⟩
          have ez : makeB (.int i) = decide (i < 1000) := by
            show (decide (1 ≤ i) && decide (i ≤ 999)) = _
            rw [decide_eq_true (show 1 ≤ i by omega), Bool.true_and]
            by_cases h2 : i < 1000
            · rw [decide_eq_true h2, decide_eq_true (by omega)]
            · rw [decide_eq_false h2, decide_eq_false (by omega)]
          rw [ez] at q
          exact q
        · have ez : makeB (.int i) = false := by
            show (decide (1 ≤ i) && decide (i ≤ 999)) = _
            rw [decide_eq_false (show ¬ 1 ≤ i by omega), Bool.false_and]
          rw [ez] at q
          exact q
theorem scIsNeed : FnScope ["_law_thing_here", "_law_good"] ["_law_thing_here"] (defScope sIsNeed) := ⟨rfl, rfl, rfl, by decide +kernel, rfl, by decide +kernel, by decide +kernel⟩
theorem ok_isneed {f fW fM T : Addr} {fd fdW fdM : FuncData} (F : Fun K "_law_is_need" "_law_is_need" sIsNeed f fd)
    (GW : FnOk P w K mg base CX0 1 fW fdW ["_law_thing_here"] (spWare K T)) (kW : PySem.W.keepIn K (.ref fW) = true) (bW : Binds K fdW ["_law_thing_here"] []) (gW : mg "_law_is_word" = some (.ref fW))
    (GM : FnOk P w K mg base CX0 1 fM fdM ["_law_thing_here"] (spMake K)) (kM : PySem.W.keepIn K (.ref fM) = true) (bM : Binds K fdM ["_law_thing_here"] []) (gM : mg "_law_is_number" = some (.ref fM))
    (mI : mg "isinstance" = none) (mT : mg "tuple" = none) (mL : mg "len" = none) : FnOk P w K mg base CX0 2 f fd ["_law_thing_here"] (spNeed K T) := by
  refine F.ok scIsNeed (fun vs H Q E h => ?_) (fun cdv A outer s H vs Q E hr h => ?_)
  · obtain ⟨v, d, rfl, _⟩ := h
    rfl
  · obtain ⟨v, d, rfl, hd, ho, ht, q⟩ := h
    refine ⟨_, pss_cons (ps_if (PW.pt (pw_or (pt_not (pt_val (pe_callB call_isi (by rfl) mI boot_isinstance (pa_cons (pv 0) (pa_cons (pe_bltn (v := .ty "tuple") (by rfl) mT boot_tuple rfl) pa_nil)))))
        (pw_or1 (pt_cmpR op_ne (pe_callB call_len_seq (by rfl) mL PySem.boot_len (pa_cons (pv 0) pa_nil)) pe_int (nomark _)))))
        (pss_one (ps_ret pe_bl)) pss_nil)
      (pss_cons (ps_set (i := 1) scIsNeed.nd rfl (.inl rfl) (pe_and (pe_call GW hr (by rfl) gW kW bW .nil pass0 (pa_cons (pe_ix ix_tup (pv 0) pe_int (fun _ _ => rfl)) pa_nil))
        (pe_and (pe_call GM hr (by rfl) gM kM bM .nil pass0 (pa_cons (pe_ix ix_tup (pv 0) pe_int (fun _ _ => rfl)) pa_nil))
        (pe_one (pe_call GM hr (by rfl) gM kM bM .nil pass0 (pa_cons (pe_ix ix_tup (pv 0) pe_int (fun _ _ => rfl)) pa_nil))))))
      (pss_one (ps_ret (pe_and (pv 1) (pe_one (pe_cmpR op_le (pe_ix ix_tup (pv 0) pe_int (fun _ _ => rfl)) (pe_ix ix_tup (pv 0) pe_int (fun _ _ => rfl)) (nomark _))))))), ?_⟩
    have no : needB d = false → Q (.bl false) H := fun e => by
      have z := q H (Kp.refl ht)
      rw [e] at z
      exact z
    cases e : isTupD d with
    | false =>
      refine ⟨v, rfl, v, .ty "tuple", _, _, false, rfl, .ty "tuple", tyx_of hd, by rw [kit_tup, e], false, rfl, iteT ?_⟩
      exact no (by cases d <;> first | rfl | cases e)
    | true =>
      refine ⟨v, rfl, v, .ty "tuple", _, _, true, rfl, .ty "tuple", tyx_of hd, by rw [kit_tup, e], true, rfl, iteF ?_⟩
      obtain ⟨ds, rfl⟩ : ∃ ds, d = .tuple ds := by cases d <;> first | exact ⟨_, rfl⟩ | cases e
      cases hd with
      | @tup a xs _ hT hA =>
        have hl := dpAll_len hA
        refine ⟨.ref a, rfl, a, xs, rfl, .inr hT, ?_⟩
        refine ⟨rfl, _, rfl, iteN (fun h3 => ?_) (fun h3 => ?_)⟩
        · refine no (needB_len fun z => h3 ?_)
          show V.int _ = V.int 3
          rw [show xs.length = 3 by omega] <;> rfl
        · have h3' : xs.length = 3 := by
            have z : ((xs.length : Nat) : Int) = 3 := V.int.inj h3
            omega
          obtain ⟨da, db, dc, rfl⟩ : ∃ a b c, ds = [a, b, c] := by
            match ds, hl.symm.trans h3' with
            | [a, b, c], _ => exact ⟨a, b, c, rfl⟩
          have od : okS da = true := by
            have z : (([da, db, dc].all okS) && _) = true := ho
            simp only [List.all_cons, Bool.and_eq_true] at z
            exact z.1.1
          cases hA with
          | @cons x _ _ _ hx hA =>
          cases hA with
          | @cons y _ _ _ hy hA =>
          cases hA with
          | @cons z _ _ _ hz hA =>
          cases hA
          have i0 : atI [x, y, z] 0 = some x := atI_nat (j := 0) rfl
          have i1 : atI [x, y, z] 1 = some y := atI_nat (j := 1) rfl
          have i2 : atI [x, y, z] 2 = some z := atI_nat (j := 2) rfl
          refine ⟨_, rfl, a, _, 0, x, rfl, rfl, hT, i0, x, da, rfl, hx, od, ht, fun H1 k1 => ⟨_, rfl, ?_⟩⟩
          have fin : ∀ b, needB (.tuple [da, db, dc]) = b → Q (.bl b) H1 := fun b e => by
            have z := q H1 k1
            rw [e] at z
            exact z
          have hT1 := k1.sqt hT
          cases ea : wareB da with
          | false => exact iteF ⟨_, rfl, _, rfl, iteF (fin false (by show (wareB da && _ && _ && _) = false; rw [ea] <;> rfl))⟩
          | true =>
            refine iteT ⟨_, rfl, a, _, 1, y, rfl, rfl, hT1, i1, y, db, rfl, k1.dp _ _ hy, _, rfl, ?_⟩
            cases eb : makeB db with
            | false => exact iteF ⟨_, rfl, _, rfl, iteF (fin false (by show (wareB da && makeB db && _ && _) = false; rw [ea, eb] <;> rfl))⟩
            | true =>
              refine iteT ⟨_, rfl, a, _, 2, z, rfl, rfl, hT1, i2, z, dc, rfl, k1.dp _ _ hz, ?_⟩
              cases ec : makeB dc with
              | false => exact ⟨_, rfl, _, rfl, iteF (fin false (by show (wareB da && makeB db && makeB dc && _) = false; rw [ea, eb, ec] <;> rfl))⟩
              | true =>
                obtain ⟨i, rfl⟩ := makeB_ex eb
                obtain ⟨j, rfl⟩ := makeB_ex ec
                cases hy
                cases hz
                exact ⟨_, rfl, _, rfl, iteT ⟨_, rfl, a, _, 1, _, rfl, rfl, hT1, i1, _, rfl, a, _, 2, _, rfl, rfl, hT1, i2, _, _, rfl, rfl, fin _ (by show (wareB da && makeB (.int i) && makeB (.int j) && _) = _; rw [ea, eb, ec] <;> rfl)⟩⟩
end
end Pk

set_option Elab.async false
set_option linter.all false
set_option maxRecDepth 100000
set_option maxHeartbeats 4000000
namespace Pk
open PySem PySem.Spec PyProof.Rows L2
section
variable {P : Program} {w : World} {K : PySem.W.Frag} {mg : Str → Option Value} {base : Heap}
def lawN : List Str := ["_law_script", "_law_one", "_law_other", "_law_make", "_law_due", "_law_cell", "_law_thing_here", "_law_found", "_law_answer"]
theorem scLaw : FnScope lawN ["_law_script"] (defScope sLaw) := ⟨rfl, rfl, rfl, by decide +kernel, rfl, by decide +kernel, by decide +kernel⟩
def spLaw (K : PySem.W.Frag) (T : Addr) : Sp := fun vs H Q _ => ∃ (a : Addr) (ns : List Int), vs = [.ref a] ∧ SqL K H a (ns.map V.int) ∧ ns.length ≤ 63 ∧ GxR.TabG H T ∧ ∀ H', Q (.bl true) H'
theorem ok_law {f fC fP fS fJ fI fTh fW fM fN fW2 fM2 fN2 T : Addr} {fd fdC fdP fdS fdJ fdI fdTh fdW fdM fdN fdW2 fdM2 fdN2 : FuncData} {t9 : Tok} (F : Fun K "law" "law" sLaw f fd)
    (GC : FnOk P w K mg base CX0 1 fC fdC ["_law_script", "_law_k"] (spCell K)) (kC : PySem.W.keepIn K (.ref fC) = true) (bC : Binds K fdC ["_law_script", "_law_k"] []) (gC : mg "_law_cell_at" = some (.ref fC))
    (GP : FnOk P w K mg base CX0 1 fP fdP ["_law_cell", "_law_other"] spPair) (kP : PySem.W.keepIn K (.ref fP) = true) (bP : Binds K fdP ["_law_cell", "_law_other"] []) (gP : mg "_law_pair" = some (.ref fP))
    (GS : FnOk P w K mg base CX0 1 fS fdS ["_law_found", "_law_due"] (spSame K)) (kS : PySem.W.keepIn K (.ref fS) = true) (bS : Binds K fdS ["_law_found", "_law_due"] []) (gS : mg "_law_same" = some (.ref fS))
    (GJ : FnOk P w K mg base CX0 1 fJ fdJ ["one", "other"] (spJoined K)) (kJ : PySem.W.keepIn K (.ref fJ) = true) (bJ : Binds K fdJ ["one", "other"] []) (gJ : mg "joined" = some (.ref fJ))
    (GI : FnOk P w K mg base CX0 1 fI fdI ["make", "low", "high"] spWithin) (kI : PySem.W.keepIn K (.ref fI) = true) (bI : Binds K fdI ["make", "low", "high"] []) (gI : mg "within" = some (.ref fI))
    (GT : FnOk P w K mg base CX0 2 fTh fdTh ["_law_cell"] (spThing K T)) (kT : PySem.W.keepIn K (.ref fTh) = true) (bT : Binds K fdTh ["_law_cell"] []) (gT : mg "_law_thing" = some (.ref fTh))
    (GW : FnOk P w K mg base CX0 1 fW fdW ["thing"] (spWare K T)) (kW : PySem.W.keepIn K (.ref fW) = true) (bW : Binds K fdW ["thing"] []) (gW : mg "is_ware" = some (.ref fW))
    (GM : FnOk P w K mg base CX0 2 fM fdM ["thing"] (spMake K)) (kM : PySem.W.keepIn K (.ref fM) = true) (bM : Binds K fdM ["thing"] []) (gM : mg "is_make" = some (.ref fM))
    (GN : FnOk P w K mg base CX0 3 fN fdN ["thing"] (spNeed K T)) (kN : PySem.W.keepIn K (.ref fN) = true) (bN : Binds K fdN ["thing"] []) (gN : mg "is_need" = some (.ref fN))
    (GW2 : FnOk P w K mg base CX0 1 fW2 fdW2 ["_law_thing_here"] (spWare K T)) (kW2 : PySem.W.keepIn K (.ref fW2) = true) (bW2 : Binds K fdW2 ["_law_thing_here"] []) (gW2 : mg "_law_is_word" = some (.ref fW2))
    (GM2 : FnOk P w K mg base CX0 1 fM2 fdM2 ["_law_thing_here"] (spMake K)) (kM2 : PySem.W.keepIn K (.ref fM2) = true) (bM2 : Binds K fdM2 ["_law_thing_here"] []) (gM2 : mg "_law_is_number" = some (.ref fM2))
    (GN2 : FnOk P w K mg base CX0 2 fN2 fdN2 ["_law_thing_here"] (spNeed K T)) (kN2 : PySem.W.keepIn K (.ref fN2) = true) (bN2 : Binds K fdN2 ["_law_thing_here"] []) (gN2 : mg "_law_is_need" = some (.ref fN2))
    (mI : mg "isinstance" = none) (mB : mg "bool" = none) (mX : mg "max" = none) (mN : mg "min" = none) (m9 : mg "MOST_MAKE" = some (.int 999 t9)) : FnOk P w K mg base CX0 4 f fd ["_law_script"] (spLaw K T) := by
  refine F.ok scLaw (fun vs H Q E h => ?_) (fun cdv A outer s H vs Q E hr h => ?_)
  · obtain ⟨a, ns, rfl, _⟩ := h
    rfl
  · obtain ⟨a, ns, rfl, hS, hlen, ht, q⟩ := h
    have hr1 : Room 1 _ := hr.mono (by decide)
    have hr2 : Room 2 _ := hr.mono (by decide)
    refine ⟨_, pss_cons (ps_set (i := 1) scLaw.nd rfl (.inl rfl) (pe_call GP hr1 (by rfl) gP kP bP .nil pass0 (pa_cons (pe_call GC hr1 (by rfl) gC kC bC .nil pass0 (pa_cons (pv 0) (pa_cons pe_int pa_nil))) (pa_cons pe_int pa_nil))))
      (pss_cons (ps_set (i := 2) scLaw.nd rfl (.inl rfl) (pe_call GP hr1 (by rfl) gP kP bP .nil pass0 (pa_cons (pe_call GC hr1 (by rfl) gC kC bC .nil pass0 (pa_cons (pv 0) (pa_cons pe_int pa_nil)))
          (pa_cons (pe_ix ix_tup (pv 1) (pe_op op_mod (pe_call GC hr1 (by rfl) gC kC bC .nil pass0 (pa_cons (pv 0) (pa_cons pe_int pa_nil))) pe_int) (fun _ _ => rfl)) pa_nil))))
      (pss_cons (ps_set (i := 3) scLaw.nd rfl (.inl rfl) (pe_ix ix_list (pe_lst (pa_cons pe_int (pa_cons pe_int (pa_cons (pe_ix ix_tup (pv 1) pe_int (fun _ _ => rfl)) (pa_cons (pe_ix ix_tup (pv 1) pe_int (fun _ _ => rfl))
            (pa_cons (pe_op op_sub (pe_ix ix_tup (pv 1) pe_int (fun _ _ => rfl)) pe_int) (pa_cons (pe_op op_add (pe_ix ix_tup (pv 1) pe_int (fun _ _ => rfl)) pe_int) pa_nil)))))))
          (pe_op op_mod (pe_op op_fdiv (pe_call GC hr1 (by rfl) gC kC bC .nil pass0 (pa_cons (pv 0) (pa_cons pe_int pa_nil))) pe_int) pe_int) (fun _ _ => rfl)))
      (pss_cons (ps_set (i := 4) scLaw.nd rfl (.inl rfl) (pe_tup (pa_cons (pe_callB (call_max2 rfl) (by rfl) mX boot_max (pa_cons (pe_ix ix_tup (pv 1) pe_int (fun _ _ => rfl)) (pa_cons (pe_ix ix_tup (pv 2) pe_int (fun _ _ => rfl)) pa_nil)))
          (pa_cons (pe_callB (call_min2 rfl) (by rfl) mN (by decide +kernel) (pa_cons (pe_ix ix_tup (pv 1) pe_int (fun _ _ => rfl)) (pa_cons (pe_ix ix_tup (pv 2) pe_int (fun _ _ => rfl)) pa_nil))) pa_nil))))
      (C8.pss_cut (ps_if (pt_cmpR op_gt (pe_ix ix_tup (pv 4) pe_int (fun _ _ => rfl)) (pe_ix ix_tup (pv 4) pe_int (fun _ _ => rfl)) (nomark _)) (pss_one (ps_set (i := 4) scLaw.nd rfl (.inl rfl) pe_non)) pss_nil)
      (C8.pss_cut (ps_if (PW.pt (pw_or (pt_not (pt_val (pe_call GS hr1 (by rfl) gS kS bS .nil pass0 (pa_cons (pe_call GJ hr1 (by rfl) gJ kJ bJ .nil pass0 (pa_cons (pv 1) (pa_cons (pv 2) pa_nil))) (pa_cons (pv 4) pa_nil)))))
          (pw_or (pt_not (pt_val (pe_call GS hr1 (by rfl) gS kS bS .nil pass0 (pa_cons (pe_call GJ hr1 (by rfl) gJ kJ bJ .nil pass0 (pa_cons (pv 2) (pa_cons (pv 1) pa_nil))) (pa_cons (pv 4) pa_nil)))))
          (pw_or1 (pt_cmpR op_ne (pe_glob (v := .int 999) rfl m9 ⟨_, rfl⟩) pe_int (nomark _)))))) (pss_one (ps_ret pe_bl)) pss_nil)
      (C8.pss_cut (ps_if (PW.pt (pw_and (pt_cmpR op_notBl (pe_call GI hr1 (by rfl) gI kI bI .nil pass0 (pa_cons (pv 3) (pa_cons (pe_ix ix_tup (pv 1) pe_int (fun _ _ => rfl)) (pa_cons (pe_ix ix_tup (pv 1) pe_int (fun _ _ => rfl)) pa_nil)))) pe_bl (nomark _))
          (pw_and1 (pt_chain op_le op_le (pe_ix ix_tup (pv 1) pe_int (fun _ _ => rfl)) (pv 3) (pe_ix ix_tup (pv 1) pe_int (fun _ _ => rfl)))))) (pss_one (ps_ret pe_bl)) pss_nil)
      (C8.pss_cut (ps_if (PW.pt (pw_and (pt_cmpR op_notBl (pe_call GI hr1 (by rfl) gI kI bI .nil pass0 (pa_cons (pv 3) (pa_cons (pe_ix ix_tup (pv 1) pe_int (fun _ _ => rfl)) (pa_cons (pe_ix ix_tup (pv 1) pe_int (fun _ _ => rfl)) pa_nil)))) pe_bl (nomark _))
          (pw_and1 (pt_not (pt_chain op_le op_le (pe_ix ix_tup (pv 1) pe_int (fun _ _ => rfl)) (pv 3) (pe_ix ix_tup (pv 1) pe_int (fun _ _ => rfl))))))) (pss_one (ps_ret pe_bl)) pss_nil)
      (pss_cons (ps_for PassesOwn.never rfl (pi_list (pe_op op_cat (pe_slice sl_list (pv 0) (po_some pe_int) (po_some pe_int)) (pe_lst (pa_cons pe_int pa_nil)))) (pg_name (i := 5) scLaw.nd rfl (.inl rfl))
        (pss_cons (ps_set (i := 6) scLaw.nd rfl (.inl rfl) (pe_call GT hr2 (by rfl) gT kT bT .nil pass0 (pa_cons (pv 5) pa_nil)))
        (pss_cons (ps_set (i := 7) scLaw.nd rfl (.inl rfl) (pe_lst (pa_cons (pe_call GW hr1 (by rfl) gW kW bW .nil pass0 (pa_cons (pv 6) pa_nil)) (pa_cons (pe_call GM hr2 (by rfl) gM kM bM .nil pass0 (pa_cons (pv 6) pa_nil)) (pa_cons (pe_call GN hr (by rfl) gN kN bN .nil pass0 (pa_cons (pv 6) pa_nil)) pa_nil)))))
        (pss_cons (ps_if (pt_cmpR (op_neD hr.units) (pe_lc (own := [("_law_answer", 8)]) (g := gName 8) rfl scLaw.nd (pi_list (pv 7)) (blkOk_by (own := [("_law_answer", 8)]) (N := lawN) (sc := defScope sLaw) (by decide +kernel))
            (fun _ _ _ _ _ => pg_name (i := 8) scLaw.nd rfl (Or.inl rfl)) (fun _ _ _ _ _ => pts_one (pt_not (pt_val (pe_callB (r := rIsi K) call_isi (by rfl) mI boot_isinstance (pa_cons (pv 8) (pa_cons (pe_bltn (v := .ty "bool") (by rfl) mB boot_bool rfl) pa_nil))))))
            (fun _ _ _ _ _ => pv 8)) (pe_lst pa_nil) (nomark _)) (pss_one (ps_ret pe_bl)) pss_nil)
        (pss_one (ps_if (pt_cmpR (op_neD hr.units) (pv 7) (pe_lst (pa_cons (pe_call GW2 hr1 (by rfl) gW2 kW2 bW2 .nil pass0 (pa_cons (pv 6) pa_nil)) (pa_cons (pe_call GM2 hr1 (by rfl) gM2 kM2 bM2 .nil pass0 (pa_cons (pv 6) pa_nil)) (pa_cons (pe_call GN2 hr2 (by rfl) gN2 kN2 bN2 .nil pass0 (pa_cons (pv 6) pa_nil)) pa_nil)))) (nomark _)) (pss_one (ps_ret pe_bl)) pss_nil))))))
      (pss_one (ps_ret pe_bl)))))))))), ?_⟩
    -- one
    refine ⟨_, rfl, a, ns, 0, rfl, hS, fun c0 => ⟨c0, 500, rfl, fun l1 h1 p1 np1 => ?_⟩⟩
    have k1 := Kp.new (o := HO.tup [.int l1, .int h1]) ht np1
    have T1 : SqT K (upd H p1 (.tup [.int l1, .int h1])) p1 [.int l1, .int h1] := .inl (.inl upd_same)
    -- other
    refine ⟨_, rfl, a, ns, 1, rfl, k1.seq hS, fun c1 => ⟨_, rfl, _, rfl, a, ns, 2, rfl, k1.seq hS, fun c2 => ?_⟩⟩
    obtain ⟨v2, e2, o2, rfl⟩ := at_pick (xs := [V.int l1, .int h1]) (i := c2 % 2) (p := fun v => ∃ o : Int, v = .int o) (by omega) (by show c2 % 2 < ((2 : Nat) : Int); omega) (fun x hx => by
      simp only [List.mem_cons, List.not_mem_nil, or_false] at hx
      rcases hx with rfl | rfl <;> exact ⟨_, rfl⟩)
    refine ⟨c2, 2, rfl, rfl, (by show (0 : Int) < 2; decide), p1, _, c2 % 2, _, rfl, rfl, T1, e2, c1, o2, rfl, fun l2 h2 p2 np2 => ?_⟩
    have k2 := Kp.new (o := HO.tup [.int l2, .int h2]) k1.tab np2
    have T2 : SqT K (upd (upd H p1 (.tup [.int l1, .int h1])) p2 (.tup [.int l2, .int h2])) p2 [.int l2, .int h2] := .inl (.inl upd_same)
    have T1b := k2.sqt T1
    have a0 : ∀ x y : V, atI [x, y] 0 = some x := fun _ _ => atI_nat (j := 0) rfl
    have a1 : ∀ x y : V, atI [x, y] 1 = some y := fun _ _ => atI_nat (j := 1) rfl
    -- make
    refine ⟨_, rfl, p1, _, 0, _, rfl, rfl, T1b, a0 _ _, _, rfl, p1, _, 1, _, rfl, rfl, T1b, a1 _ _, _, rfl, p1, _, 0, _, rfl, rfl, T1b, a0 _ _, l1, 1, rfl, rfl, _, rfl, p1, _, 1, _, rfl, rfl, T1b, a1 _ _, h1, 1, rfl, rfl,
      (by show (6 : Nat) ≤ sizeLine; decide), fun m nm => ?_⟩
    have k3 := Kp.new (o := HO.lst [.int 1, .int 999, .int l1, .int h1, .int (l1 - 1), .int (h1 + 1)]) k2.tab nm
    refine ⟨_, rfl, a, ns, 2, rfl, k3.seq (k2.seq (k1.seq hS)), fun c3 => ?_⟩
    obtain ⟨v3, e3, mk, rfl⟩ := at_pick (xs := [V.int 1, .int 999, .int l1, .int h1, .int (l1 - 1), .int (h1 + 1)]) (i := c3 / 2 % 6) (p := fun v => ∃ o : Int, v = .int o) (by omega) (by show c3 / 2 % 6 < ((6 : Nat) : Int); omega) (fun x hx => by
      simp only [List.mem_cons, List.not_mem_nil, or_false] at hx
      rcases hx with rfl | rfl | rfl | rfl | rfl | rfl <;> exact ⟨_, rfl⟩)
    refine ⟨c3, 2, rfl, rfl, ⟨by decide, by decide⟩, c3 / 2, 6, rfl, rfl, (by show (0 : Int) < 6; decide), m, _, c3 / 2 % 6, _, rfl, rfl, .inl (.of upd_same), e3, ?_⟩
    have T1c := k3.sqt T1b
    have T2c := k3.sqt T2
    -- due
    refine ⟨_, rfl, p1, _, 0, _, rfl, rfl, T1c, a0 _ _, _, rfl, p2, _, 0, _, rfl, rfl, T2c, a0 _ _, l1, l2, rfl, _, rfl, p1, _, 1, _, rfl, rfl, T1c, a1 _ _, _, rfl, p2, _, 1, _, rfl, rfl, T2c, a1 _ _, h1, h2, rfl,
      (by show (2 : Nat) ≤ sizeLine; decide), fun dq ndq => ?_⟩
    have k4 := Kp.new (o := HO.tup [.int (mxI l1 l2), .int (mnI h1 h2)]) k3.tab ndq
    have T1d := k4.sqt T1c
    have T2d := k4.sqt T2c
    have TD := SqT.of (K := K) (upd_same (H := (upd (upd (upd H p1 (.tup [.int l1, .int h1])) p2 (.tup [.int l2, .int h2])) m (.lst [.int 1, .int 999, .int l1, .int h1, .int (l1 - 1), .int (h1 + 1)]))) (a := dq) (o := HO.tup [.int (mxI l1 l2), .int (mnI h1 h2)]))
    have hS4 := k4.seq (k3.seq (k2.seq (k1.seq hS)))
    have t4 := k4.tab
    -- if due[0] > due[1]: due = None
    refine ⟨fun σ' H' => ∃ dv, σ' = [some (.ref a), some (.ref p1), some (.ref p2), some (.int mk), some dv, none, none, none, none] ∧ SqT K H' p1 [.int l1, .int h1] ∧ SqT K H' p2 [.int l2, .int h2] ∧ SqL K H' a (ns.map V.int) ∧ GxR.TabG H' T ∧
      ((mxI l1 l2 > mnI h1 h2 ∧ dv = .non) ∨ (¬ mxI l1 l2 > mnI h1 h2 ∧ dv = .ref dq ∧ SqT K H' dq [.int (mxI l1 l2), .int (mnI h1 h2)])), ?_, fun σ' H' hm => ?_⟩
    · refine ⟨_, rfl, dq, _, 0, _, rfl, rfl, TD, a0 _ _, _, rfl, dq, _, 1, _, rfl, rfl, TD, a1 _ _, _, _, rfl, rfl, _, rfl, iteD (fun hgt => ?_) (fun hng => ?_)⟩
      · exact ⟨.non, rfl, T1d, T2d, hS4, t4, .inl ⟨hgt, rfl⟩⟩
      · exact ⟨.ref dq, rfl, T1d, T2d, hS4, t4, .inr ⟨hng, rfl, TD⟩⟩
    obtain ⟨dv, rfl, T1, T2, hS5, t5, hd⟩ := hm
    clear T1d T2d TD hS4 t4 k4 k3 k2 k1 T1b T1c T2c np1 np2 nm ndq
    -- what joined tells
    refine ⟨fun σ' H' => σ' = [some (.ref a), some (.ref p1), some (.ref p2), some (.int mk), some dv, none, none, none, none] ∧ SqT K H' p1 [.int l1, .int h1] ∧ SqL K H' a (ns.map V.int) ∧ GxR.TabG H' T, ?_, fun σ' H2 hm => ?_⟩
    · rcases hd with ⟨hgt, rfl⟩ | ⟨hng, rfl, TD⟩
      · refine ⟨_, rfl, _, rfl, p1, p2, l1, h1, l2, h2, rfl, T1, T2, (fun _ => ⟨_, rfl, .inl ⟨rfl, true, rfl, iteF ?_⟩⟩), fun z => absurd hgt z⟩
        refine ⟨_, rfl, _, rfl, p2, p1, l2, h2, l1, h1, rfl, T2, T1, (fun _ => ⟨_, rfl, .inl ⟨rfl, true, rfl, iteF ?_⟩⟩), fun z => absurd (by rw [mxI_comm, mnI_comm h2]; exact hgt) z⟩
        exact ⟨rfl, _, rfl, iteNS rfl ⟨rfl, T1, hS5, t5⟩⟩
      · refine ⟨_, rfl, _, rfl, p1, p2, l1, h1, l2, h2, rfl, T1, T2, (fun z => absurd z hng), fun _ r nr => ?_⟩
        have k1 := Kp.new (o := HO.tup [.int (mxI l1 l2), .int (mnI h1 h2)]) t5 nr
        refine ⟨_, rfl, .inr ⟨r, dq, _, _, rfl, .inl (.inl upd_same), k1.sqt TD, true, rfl, iteF ?_⟩⟩
        refine ⟨_, rfl, _, rfl, p2, p1, l2, h2, l1, h1, rfl, k1.sqt T2, k1.sqt T1, (fun z => absurd z (by rw [mxI_comm, mnI_comm h2]; exact hng)), fun _ r2 nr2 => ?_⟩
        have k2 := Kp.new (o := HO.tup [.int (mxI l2 l1), .int (mnI h2 h1)]) k1.tab nr2
        have TDx : SqT K H' dq [.int (mxI l2 l1), .int (mnI h2 h1)] := by rw [mxI_comm l2, mnI_comm h2]; exact TD
        have TDb := k2.sqt (k1.sqt TDx)
        refine ⟨_, rfl, .inr ⟨r2, dq, _, _, rfl, .inl (.inl upd_same), TDb, true, rfl, iteF ?_⟩⟩
        exact ⟨rfl, _, rfl, iteNS rfl ⟨rfl, k2.sqt (k1.sqt T1), k2.seq (k1.seq hS5), k2.tab⟩⟩
    obtain ⟨rfl, T3, hS6, t6⟩ := hm
    clear hd T1 T2 hS5 t5
    -- within, where it lies in
    refine ⟨fun σ' H' => σ' = [some (.ref a), some (.ref p1), some (.ref p2), some (.int mk), some dv, none, none, none, none] ∧ SqT K H' p1 [.int l1, .int h1] ∧ SqL K H' a (ns.map V.int) ∧ GxR.TabG H' T, ?_, fun σ' H3 hm => ?_⟩
    · refine ⟨_, rfl, _, rfl, p1, _, 0, _, rfl, rfl, T3, a0 _ _, _, rfl, p1, _, 1, _, rfl, rfl, T3, a1 _ _, mk, l1, h1, rfl, _, _, rfl, rfl, _, rfl, iteN (fun hne => ?_) (fun heq => ?_)⟩
      · refine ⟨_, rfl, p1, _, 0, _, rfl, rfl, T3, a0 _ _, _, rfl, _, _, rfl, rfl, _, rfl, iteD (fun g1 => ?_) (fun g1 => ?_)⟩
        · refine ⟨_, rfl, p1, _, 1, _, rfl, rfl, T3, a1 _ _, _, _, rfl, rfl, _, rfl, iteD (fun g2 => ?_) (fun g2 => ?_)⟩
          · exact absurd (by rw [decide_eq_true g1, decide_eq_true g2] <;> rfl) hne
          · exact ⟨rfl, T3, hS6, t6⟩
        · exact ⟨_, rfl, iteF ⟨rfl, T3, hS6, t6⟩⟩
      · exact iteF ⟨rfl, T3, hS6, t6⟩
    obtain ⟨rfl, T4, hS7, t7⟩ := hm
    clear T3 hS6 t6
    -- within, where it does not
    refine ⟨fun σ' H' => σ' = [some (.ref a), some (.ref p1), some (.ref p2), some (.int mk), some dv, none, none, none, none] ∧ SqT K H' p1 [.int l1, .int h1] ∧ SqL K H' a (ns.map V.int) ∧ GxR.TabG H' T, ?_, fun σ' H4 hm => ?_⟩
    · refine ⟨_, rfl, _, rfl, p1, _, 0, _, rfl, rfl, T4, a0 _ _, _, rfl, p1, _, 1, _, rfl, rfl, T4, a1 _ _, mk, l1, h1, rfl, _, _, rfl, rfl, _, rfl, iteN (fun hne => ?_) (fun heq => ?_)⟩
      · have hw : (decide (l1 ≤ mk) && decide (mk ≤ h1)) = true := by
          cases z : (decide (l1 ≤ mk) && decide (mk ≤ h1)) with
          | true => rfl
          | false => exact absurd z hne
        rw [Bool.and_eq_true] at hw
        refine ⟨_, rfl, p1, _, 0, _, rfl, rfl, T4, a0 _ _, _, rfl, _, _, rfl, rfl, _, rfl, iteD (fun g1 => ?_) (fun g1 => absurd (of_decide_eq_true hw.1) g1)⟩
        refine ⟨_, rfl, p1, _, 1, _, rfl, rfl, T4, a1 _ _, _, _, rfl, rfl, _, rfl, iteN (fun g2 => absurd (of_decide_eq_true hw.2) g2) (fun g2 => ?_)⟩
        exact ⟨rfl, T4, hS7, t7⟩
      · exact iteF ⟨rfl, T4, hS7, t7⟩
    obtain ⟨rfl, T5, hS8, t8⟩ := hm
    clear T4 hS7 t7
    -- for cell in script[2:32] + [0]
    refine ⟨_, rfl, 2, rfl, 32, rfl, a, _, rfl, hS8, fun s1 ns1 => ⟨(by show (1 : Nat) ≤ sizeLine; decide), fun z nz => ?_⟩⟩
    have k1 := Kp.new (o := HO.lst (cutV (ns.map V.int) (some 2) (some 32))) t8 ns1
    have k2 := Kp.new (o := HO.lst [.int 0]) k1.tab nz
    have hcl := cutV_length (ns.map V.int) (some 2) (some 32)
    rw [List.length_map] at hcl
    refine ⟨s1, z, _, _, rfl, rfl, k2.lst upd_same, upd_same, line1000 (by show (cutV (ns.map V.int) (some 2) (some 32)).length + 1 ≤ 1000; omega), fun L nL => ?_⟩
    have k3 := Kp.new (o := HO.lst (cutV (ns.map V.int) (some 2) (some 32) ++ [.int 0])) k2.tab nL
    have tL := k3.tab
    have hL : SqL K (upd (upd (upd H4 s1 (.lst (cutV (ns.map V.int) (some 2) (some 32)))) z (.lst [.int 0])) L (.lst (cutV (ns.map V.int) (some 2) (some 32) ++ [.int 0]))) L (cutV (ns.map V.int) (some 2) (some 32) ++ [.int 0]) := .inl (.of upd_same)
    generalize upd (upd (upd H4 s1 (.lst (cutV (ns.map V.int) (some 2) (some 32)))) z (.lst [.int 0])) L (.lst (cutV (ns.map V.int) (some 2) (some 32) ++ [.int 0])) = HL at hL tL ⊢
    have hint : ∀ x ∈ cutV (ns.map V.int) (some 2) (some 32) ++ [.int 0], ∃ c : Int, x = .int c := fun x hx => by
      rcases List.mem_append.mp hx with hx | hx
      · obtain ⟨c, _, rfl⟩ := List.mem_map.mp (cutV_mem hx)
        exact ⟨c, rfl⟩
      · exact ⟨0, List.mem_singleton.mp hx⟩
    refine ⟨L, rfl, ⟨_, hL⟩, for_list (K := K) (a := L) (xs := cutV (ns.map V.int) (some 2) (some 32) ++ [.int 0]) (fun i σ' H' => ∃ x5 x6 x7, σ' = [some (.ref a), some (.ref p1), some (.ref p2), some (.int mk), some dv, x5, x6, x7, none] ∧ Kp T HL H')
      ⟨none, none, none, rfl, Kp.refl tL⟩ (fun i σ' H' _ ⟨_, _, _, _, kk⟩ => kk.seq hL) ?_ (fun σ' H' hm => q H')⟩
    rintro i x σ' H' hi ⟨x5, x6, x7, rfl, kk⟩
    obtain ⟨c, rfl⟩ := hint x (List.mem_of_getElem? hi)
    refine ⟨_, rfl, c, rfl, kk.tab, fun v d H5 k5 hd hok => ?_⟩
    refine ⟨_, rfl, v, d, rfl, hd, okT_s hok, k5.tab, fun H6 k6 => ⟨_, rfl, v, d, rfl, k6.dp _ _ hd, _, rfl, v, d, rfl, k6.dp _ _ hd, hok, k6.tab, fun H7 k7 => ⟨(by show (3 : Nat) ≤ sizeLine; decide), fun f nf => ?_⟩⟩⟩
    have k8 := Kp.new (o := HO.lst [.bl (wareB d), .bl (makeB d), .bl (needB d)]) k7.tab nf
    have sh3 : ∀ b1 b2 b3 : Bool, SeqAt.shaped (.list [.bool b1, .bool b2, .bool b3]) = true := fun b1 b2 b3 => (shaped_flat fun d hd => by
      simp only [List.mem_cons, List.not_mem_nil, or_false] at hd
      rcases hd with rfl | rfl | rfl <;> exact ⟨rfl, rfl⟩).1
    have kH := ((kk.trans k5).trans k6).trans (k7.trans k8)
    have hdv := k8.dp _ _ (k7.dp _ _ (k6.dp _ _ hd))
    have hf : SqL K (upd H7 f (.lst [.bl (wareB d), .bl (makeB d), .bl (needB d)])) f [.bl (wareB d), .bl (makeB d), .bl (needB d)] := .inl (.of upd_same)
    have t8' := k8.tab
    generalize upd H7 f (.lst [.bl (wareB d), .bl (makeB d), .bl (needB d)]) = H8 at kH hdv hf t8' ⊢
    clear k8 k7 k6 k5 kk hd
    -- none of the answers is no truth
    refine ⟨_, rfl, f, rfl, ⟨_, hf⟩, fun D nD => lc_list (K := K) (a := f) (xs := [.bl (wareB d), .bl (makeB d), .bl (needB d)]) (fun i H' => H' = upd H8 D (.lst [])) rfl (fun i H' _ e => by subst e; exact (Kp.new t8' nD).seq hf) (fun i y H' hi e => ?_) (fun H' e => ?_)⟩
    · subst e
      obtain ⟨b, rfl⟩ : ∃ b, y = .bl b := by
        have hy := List.mem_of_getElem? hi
        simp only [List.mem_cons, List.not_mem_nil, or_false] at hy
        rcases hy with rfl | rfl | rfl <;> exact ⟨_, rfl⟩
      exact ⟨rfl, _, rfl, _, .ty "bool", _, _, true, rfl, .ty "bool", tyx_of (.bl b), by rw [kit_bool] <;> rfl, true, rfl, iteF rfl⟩
    · subst e
      refine ⟨(by show (0 : Nat) ≤ sizeLine; decide), fun g ng => ?_⟩
      have k9 := Kp.new (o := HO.lst []) t8' nD
      have k10 := Kp.new (o := HO.lst []) k9.tab ng
      refine ⟨.list [], .list [], .lst (k10.seq (.inl (.of upd_same))) .nil, .lst (.inl (.of upd_same)) .nil, rfl, rfl, _, rfl, ?_⟩
      refine iteF ?_
      have kH2 := kH.trans (k9.trans k10)
      have hdv2 := k10.dp _ _ (k9.dp _ _ hdv)
      have hf2 := k10.seq (k9.seq hf)
      have t10 := k10.tab
      generalize upd (upd H8 D (.lst [])) g (.lst []) = H10 at kH2 hdv2 hf2 t10 ⊢
      -- the answers are the law's own
      refine ⟨_, rfl, _, rfl, v, d, rfl, hdv2, okT_s hok, t10, fun H11 k11 => ⟨_, rfl, v, d, rfl, k11.dp _ _ hdv2, _, rfl, v, d, rfl, k11.dp _ _ hdv2, hok, k11.tab, fun H12 k12 => ⟨(by show (3 : Nat) ≤ sizeLine; decide), fun e ne => ?_⟩⟩⟩
      have k13 := Kp.new (o := HO.lst [.bl (wareB d), .bl (makeB d), .bl (needB d)]) k12.tab ne
      refine ⟨_, _, .lst (k13.seq (k12.seq (k11.seq hf2))) (.cons (.bl _) (.cons (.bl _) (.cons (.bl _) .nil))), .lst (.inl (.of upd_same)) (.cons (.bl _) (.cons (.bl _) (.cons (.bl _) .nil))), sh3 _ _ _, sh3 _ _ _, _, rfl, ?_⟩
      rw [eqv_self (sh3 _ _ _)]
      exact iteF ⟨_, _, _, rfl, kH2.trans (k11.trans (k12.trans k13))⟩
end
end Pk

set_option Elab.async false
set_option linter.all false
set_option maxRecDepth 100000
set_option maxHeartbeats 4000000
namespace Pk
open PySem PySem.Spec PyProof.Rows L2
theorem all_mk {l : PySem.W.OpenLaw} {w : World} {K : PySem.W.Frag} {h : Heap} {mg : Str → Option Value} {fa T c : Addr} (X : K.In h) (G : h.Ns mainGlobals mg) (hfa : mg "law" = some (.ref fa)) {q : Program}
    (hT0 : ∀ (y : Str) (c T : Addr), ((recsOf q).any fun e => e.name == y) = true → PySem.W.tabIn K y = some (c, T) → PySem.W.CodeHd h c T ∧ h.get? T = some (PySem.W.tabObj #[])) (hrec : ((recsOf q).any fun e => e.name == ("is_ware" : Str)) = true)
    {ec : Value} {dcc : Option Addr} {vsc : Array Value} {slc : Array (Option Value)} (lc : K.lookup c = some ⟨ec, dcc, .fields vsc, slc⟩) (v11 : vsc[11]? = some (.ref T)) (nT : K.lookup T = none)
    {f1 f2 f3 f4 f5 f6 f7 f8 f9 f10 f11 f12 f13 f14 : Addr} {od1 an1 od2 an2 od3 an3 od4 an4 od5 an5 od6 an6 od7 an7 od8 an8 od9 an9 od10 an10 od11 an11 od12 an12 od13 an13 od14 an14 : Option Addr} {sl1 sl2 sl3 sl4 sl5 sl6 sl7 sl8 sl9 sl10 sl11 sl12 sl13 sl14 : Array (Option Value)}
    {oc1 kV1 dc1 pm1 ct1 oc2 kV2 dc2 pm2 ct2 cd2 oc3 kV3 dc3 pm3 ct3 cd3 oc4 kV4 dc4 pm4 ct4 cd4 oc5 kV5 dc5 pm5 ct5 cd5 oc6 kV6 dc6 pm6 ct6 cd6 oc7 kV7 dc7 pm7 ct7 cd7 oc8 kV8 dc8 pm8 ct8 cd8 oc9 kV9 dc9 pm9 ct9 cd9 oc10 kV10 dc10 pm10 ct10 cd10 oc11 kV11 dc11 pm11 ct11 cd11 oc12 kV12 dc12 pm12 ct12 cd12 oc13 kV13 dc13 pm13 ct13 cd13 oc14 kV14 dc14 pm14 ct14 cd14 : Value} {t8 t1 t9 : Tok}
    (a1 : PySem.W.nsIn K mainGlobals "is_ware" = some (some (.ref f1))) (l1 : K.lookup f1 = some ⟨oc1, od1, .func (PySem.W.fnOf "is_ware" "is_ware" (defArgs sWare) (defBody sWare) (defScope sWare) .none kV1 dc1 pm1 an1 (.ref c) ct1), sl1⟩) (c1 : PySem.W.codeIn K (.ref c) "is_ware" = true) (k1 : PySem.W.keepIn K (.ref f1) = true)
    (a2 : PySem.W.nsIn K mainGlobals "is_make" = some (some (.ref f2))) (l2 : K.lookup f2 = some ⟨oc2, od2, .func (PySem.W.fnOf "is_make" "is_make" (defArgs sMake) (defBody sMake) (defScope sMake) .none kV2 dc2 pm2 an2 cd2 ct2), sl2⟩) (c2 : PySem.W.codeIn K cd2 "is_make" = true) (k2 : PySem.W.keepIn K (.ref f2) = true)
    (a3 : PySem.W.nsIn K mainGlobals "is_need" = some (some (.ref f3))) (l3 : K.lookup f3 = some ⟨oc3, od3, .func (PySem.W.fnOf "is_need" "is_need" (defArgs sNeed) (defBody sNeed) (defScope sNeed) .none kV3 dc3 pm3 an3 cd3 ct3), sl3⟩) (c3 : PySem.W.codeIn K cd3 "is_need" = true) (k3 : PySem.W.keepIn K (.ref f3) = true)
    (a4 : PySem.W.nsIn K mainGlobals "joined" = some (some (.ref f4))) (l4 : K.lookup f4 = some ⟨oc4, od4, .func (PySem.W.fnOf "joined" "joined" (defArgs sJoined) (defBody sJoined) (defScope sJoined) .none kV4 dc4 pm4 an4 cd4 ct4), sl4⟩) (c4 : PySem.W.codeIn K cd4 "joined" = true) (k4 : PySem.W.keepIn K (.ref f4) = true)
    (a5 : PySem.W.nsIn K mainGlobals "within" = some (some (.ref f5))) (l5 : K.lookup f5 = some ⟨oc5, od5, .func (PySem.W.fnOf "within" "within" (defArgs sWithin) (defBody sWithin) (defScope sWithin) .none kV5 dc5 pm5 an5 cd5 ct5), sl5⟩) (c5 : PySem.W.codeIn K cd5 "within" = true) (k5 : PySem.W.keepIn K (.ref f5) = true)
    (a6 : PySem.W.nsIn K mainGlobals "_law_cell_at" = some (some (.ref f6))) (l6 : K.lookup f6 = some ⟨oc6, od6, .func (PySem.W.fnOf "_law_cell_at" "_law_cell_at" (defArgs sCell) (defBody sCell) (defScope sCell) .none kV6 dc6 pm6 an6 cd6 ct6), sl6⟩) (c6 : PySem.W.codeIn K cd6 "_law_cell_at" = true) (k6 : PySem.W.keepIn K (.ref f6) = true)
    (a7 : PySem.W.nsIn K mainGlobals "_law_pair" = some (some (.ref f7))) (l7 : K.lookup f7 = some ⟨oc7, od7, .func (PySem.W.fnOf "_law_pair" "_law_pair" (defArgs sPair) (defBody sPair) (defScope sPair) .none kV7 dc7 pm7 an7 cd7 ct7), sl7⟩) (c7 : PySem.W.codeIn K cd7 "_law_pair" = true) (k7 : PySem.W.keepIn K (.ref f7) = true)
    (a8 : PySem.W.nsIn K mainGlobals "_law_same" = some (some (.ref f8))) (l8 : K.lookup f8 = some ⟨oc8, od8, .func (PySem.W.fnOf "_law_same" "_law_same" (defArgs sSame) (defBody sSame) (defScope sSame) .none kV8 dc8 pm8 an8 cd8 ct8), sl8⟩) (c8 : PySem.W.codeIn K cd8 "_law_same" = true) (k8 : PySem.W.keepIn K (.ref f8) = true)
    (a9 : PySem.W.nsIn K mainGlobals "_law_word" = some (some (.ref f9))) (l9 : K.lookup f9 = some ⟨oc9, od9, .func (PySem.W.fnOf "_law_word" "_law_word" (defArgs sWord) (defBody sWord) (defScope sWord) .none kV9 dc9 pm9 an9 cd9 ct9), sl9⟩) (c9 : PySem.W.codeIn K cd9 "_law_word" = true) (k9 : PySem.W.keepIn K (.ref f9) = true)
    (a10 : PySem.W.nsIn K mainGlobals "_law_thing" = some (some (.ref f10))) (l10 : K.lookup f10 = some ⟨oc10, od10, .func (PySem.W.fnOf "_law_thing" "_law_thing" (defArgs sThing) (defBody sThing) (defScope sThing) .none kV10 dc10 pm10 an10 cd10 ct10), sl10⟩) (c10 : PySem.W.codeIn K cd10 "_law_thing" = true) (k10 : PySem.W.keepIn K (.ref f10) = true)
    (a11 : PySem.W.nsIn K mainGlobals "_law_is_word" = some (some (.ref f11))) (l11 : K.lookup f11 = some ⟨oc11, od11, .func (PySem.W.fnOf "_law_is_word" "_law_is_word" (defArgs sIsWord) (defBody sIsWord) (defScope sIsWord) .none kV11 dc11 pm11 an11 cd11 ct11), sl11⟩) (c11 : PySem.W.codeIn K cd11 "_law_is_word" = true) (k11 : PySem.W.keepIn K (.ref f11) = true)
    (a12 : PySem.W.nsIn K mainGlobals "_law_is_number" = some (some (.ref f12))) (l12 : K.lookup f12 = some ⟨oc12, od12, .func (PySem.W.fnOf "_law_is_number" "_law_is_number" (defArgs sIsNum) (defBody sIsNum) (defScope sIsNum) .none kV12 dc12 pm12 an12 cd12 ct12), sl12⟩) (c12 : PySem.W.codeIn K cd12 "_law_is_number" = true) (k12 : PySem.W.keepIn K (.ref f12) = true)
    (a13 : PySem.W.nsIn K mainGlobals "_law_is_need" = some (some (.ref f13))) (l13 : K.lookup f13 = some ⟨oc13, od13, .func (PySem.W.fnOf "_law_is_need" "_law_is_need" (defArgs sIsNeed) (defBody sIsNeed) (defScope sIsNeed) .none kV13 dc13 pm13 an13 cd13 ct13), sl13⟩) (c13 : PySem.W.codeIn K cd13 "_law_is_need" = true) (k13 : PySem.W.keepIn K (.ref f13) = true)
    (a14 : PySem.W.nsIn K mainGlobals "law" = some (some (.ref f14))) (l14 : K.lookup f14 = some ⟨oc14, od14, .func (PySem.W.fnOf "law" "law" (defArgs sLaw) (defBody sLaw) (defScope sLaw) .none kV14 dc14 pm14 an14 cd14 ct14), sl14⟩) (c14 : PySem.W.codeIn K cd14 "law" = true) (k14 : PySem.W.keepIn K (.ref f14) = true)
    (gt8 : PySem.W.nsIn K mainGlobals "MOST_SIGNS" = some (some (.int 8 t8)))    (gt1 : PySem.W.nsIn K mainGlobals "LEAST_MAKE" = some (some (.int 1 t1)))    (gt9 : PySem.W.nsIn K mainGlobals "MOST_MAKE" = some (some (.int 999 t9)))
    (z1 : PySem.W.nsIn K mainGlobals "isinstance" = some none) (z2 : PySem.W.nsIn K mainGlobals "type" = some none) (z3 : PySem.W.nsIn K mainGlobals "str" = some none) (z4 : PySem.W.nsIn K mainGlobals "int" = some none) (z5 : PySem.W.nsIn K mainGlobals "bool" = some none) (z6 : PySem.W.nsIn K mainGlobals "tuple" = some none) (z7 : PySem.W.nsIn K mainGlobals "len" = some none) (z8 : PySem.W.nsIn K mainGlobals "all" = some none) (z9 : PySem.W.nsIn K mainGlobals "max" = some none) (z10 : PySem.W.nsIn K mainGlobals "min" = some none) (z11 : PySem.W.nsIn K mainGlobals "range" = some none) :
    LamX.LawAtS l w K CX0 4 63 "_law_script" mg fa h := by
  have hTab := hT0 "is_ware" c T hrec (tabIn_of a1 l1 rfl lc v11)
  have e := hfa.symm.trans (PySem.W.mg_of X G a14)
  cases e
  have F1 := fun_mk (st := sWare) l1 c1 k1
  have b1 := F1.binds (ps := ["thing"]) fun _ _ _ _ _ _ us hl => match us, hl with | [_], _ => rfl
  have m1 := PySem.W.mg_of X G a1
  have F2 := fun_mk (st := sMake) l2 c2 k2
  have b2 := F2.binds (ps := ["thing"]) fun _ _ _ _ _ _ us hl => match us, hl with | [_], _ => rfl
  have m2 := PySem.W.mg_of X G a2
  have F3 := fun_mk (st := sNeed) l3 c3 k3
  have b3 := F3.binds (ps := ["thing"]) fun _ _ _ _ _ _ us hl => match us, hl with | [_], _ => rfl
  have m3 := PySem.W.mg_of X G a3
  have F4 := fun_mk (st := sJoined) l4 c4 k4
  have b4 := F4.binds (ps := ["one", "other"]) fun _ _ _ _ _ _ us hl => match us, hl with | [_, _], _ => rfl
  have m4 := PySem.W.mg_of X G a4
  have F5 := fun_mk (st := sWithin) l5 c5 k5
  have b5 := F5.binds (ps := ["make", "low", "high"]) fun _ _ _ _ _ _ us hl => match us, hl with | [_, _, _], _ => rfl
  have m5 := PySem.W.mg_of X G a5
  have F6 := fun_mk (st := sCell) l6 c6 k6
  have b6 := F6.binds (ps := ["_law_script", "_law_k"]) fun _ _ _ _ _ _ us hl => match us, hl with | [_, _], _ => rfl
  have m6 := PySem.W.mg_of X G a6
  have F7 := fun_mk (st := sPair) l7 c7 k7
  have b7 := F7.binds (ps := ["_law_cell", "_law_other"]) fun _ _ _ _ _ _ us hl => match us, hl with | [_, _], _ => rfl
  have m7 := PySem.W.mg_of X G a7
  have F8 := fun_mk (st := sSame) l8 c8 k8
  have b8 := F8.binds (ps := ["_law_found", "_law_due"]) fun _ _ _ _ _ _ us hl => match us, hl with | [_, _], _ => rfl
  have m8 := PySem.W.mg_of X G a8
  have F9 := fun_mk (st := sWord) l9 c9 k9
  have b9 := F9.binds (ps := ["_law_cell"]) fun _ _ _ _ _ _ us hl => match us, hl with | [_], _ => rfl
  have m9 := PySem.W.mg_of X G a9
  have F10 := fun_mk (st := sThing) l10 c10 k10
  have b10 := F10.binds (ps := ["_law_cell"]) fun _ _ _ _ _ _ us hl => match us, hl with | [_], _ => rfl
  have m10 := PySem.W.mg_of X G a10
  have F11 := fun_mk (st := sIsWord) l11 c11 k11
  have b11 := F11.binds (ps := ["_law_thing_here"]) fun _ _ _ _ _ _ us hl => match us, hl with | [_], _ => rfl
  have m11 := PySem.W.mg_of X G a11
  have F12 := fun_mk (st := sIsNum) l12 c12 k12
  have b12 := F12.binds (ps := ["_law_thing_here"]) fun _ _ _ _ _ _ us hl => match us, hl with | [_], _ => rfl
  have m12 := PySem.W.mg_of X G a12
  have F13 := fun_mk (st := sIsNeed) l13 c13 k13
  have b13 := F13.binds (ps := ["_law_thing_here"]) fun _ _ _ _ _ _ us hl => match us, hl with | [_], _ => rfl
  have m13 := PySem.W.mg_of X G a13
  have F14 := fun_mk (st := sLaw) l14 c14 k14
  have m14 := PySem.W.mg_of X G a14
  have qt8 := PySem.W.mg_of X G gt8
  have qt1 := PySem.W.mg_of X G gt1
  have qt9 := PySem.W.mg_of X G gt9
  have y1 := PySem.W.mg_none_of X G z1
  have y2 := PySem.W.mg_none_of X G z2
  have y3 := PySem.W.mg_none_of X G z3
  have y4 := PySem.W.mg_none_of X G z4
  have y5 := PySem.W.mg_none_of X G z5
  have y6 := PySem.W.mg_none_of X G z6
  have y7 := PySem.W.mg_none_of X G z7
  have y8 := PySem.W.mg_none_of X G z8
  have y9 := PySem.W.mg_none_of X G z9
  have y10 := PySem.W.mg_none_of X G z10
  have y11 := PySem.W.mg_none_of X G z11
  refine ⟨PySem.W.fnOf "law" "law" (defArgs sLaw) (defBody sLaw) (defScope sLaw) .none kV14 dc14 pm14 an14 cd14 ct14, [(c, T)], spLaw K T, ?_, ?_, ?_, fun s v => .of_eq rfl, ?_, fun base hK hN hB => ?_⟩
  · intro p hp
    rw [List.mem_singleton.mp hp]
    exact hTab.2
  · intro p hp
    rw [List.mem_singleton.mp hp]
    exact nT
  · intro p hp
    rw [List.mem_singleton.mp hp]
    exact hTab.1
  · intro H a ns hl _ hH hS
    exact ⟨a, ns, rfl, hS, hl, ⟨#[], hH _ (List.mem_singleton.mpr rfl), True.intro⟩, fun _ => rfl⟩
  · have TB := hB _ (List.mem_singleton.mpr rfl)
    have G1 := ok_ware (P := l.prog) (w := w) l1 c1 ⟨TB.code, TB.bm, TB.gP⟩ y2 y3 y7 y8 qt8
    have G5 := ok_within (P := l.prog) (w := w) (mg := mg) (base := base) F5
    have G2 := ok_make (P := l.prog) (w := w) (base := base) F2 F5 b5 m5 y2 y4 qt1 qt9
    have G3 := ok_need F3 G1 F1.kp b1 m1 G2 F2.kp b2 m2 y2 y6 y7
    have G4 := ok_joined (P := l.prog) (w := w) (base := base) F4 y9 y10
    have G6 := ok_cell (P := l.prog) (w := w) (base := base) F6 y7
    have G7 := ok_pair (P := l.prog) (w := w) (base := base) F7 y9 y10
    have G8 := ok_same (P := l.prog) (w := w) (base := base) F8 y1 y6 y7 y5
    have G10 := ok_thing (P := l.prog) (w := w) (base := base) (T := T) F10 F9 b9 m9 y11 y7 y3
    have G11 := ok_isword (P := l.prog) (w := w) (base := base) (T := T) F11 y1 y3 y7
    have G12 := ok_isnum (P := l.prog) (w := w) (base := base) F12 y1 y4 y5
    have G13 := ok_isneed F13 G11 F11.kp b11 m11 G12 F12.kp b12 m12 y1 y6 y7
    exact ok_law F14 G6 F6.kp b6 m6 G7 F7.kp b7 m7 G8 F8.kp b8 m8 G4 F4.kp b4 m4 G5 F5.kp b5 m5 G10 F10.kp b10 m10 G1 F1.kp b1 m1 G2 F2.kp b2 m2 G3 F3.kp b3 m3 G11 F11.kp b11 m11 G12 F12.kp b12 m12 G13 F13.kp b13 m13 y1 y5 y9 y10 qt9
end Pk
open PySem PySem.W PyProof.Rows
set_option maxRecDepth 100000 in
set_option maxHeartbeats 0 in
theorem PySem.Challenge.cw_pickfloor_k01_stretches_holds : PySem.Challenge.rw_pickfloor_k01_stretches.Holds := by
  w_on; o_law; k_head; (case hw => w_witness2)
  k_fill
  refine Pk.walk_ofD (l := PySem.Challenge.rw_pickfloor_k01_stretches) (n := 63) (k := 4) (x := "_law_script") (CX := fun _ => L2.CX0) rfl (by decide) rfl ⟨rfl, by decide, by decide⟩ (fun w h Y => PySem.W.kIn_of Y) ?F (fun _ _ _ _ _ h => h)
  case F =>
    intro w mg fa h KX G hmg hTab
    refine' Pk.all_mk KX G hmg hTab (by decide +kernel) ?lc ?v11 ?nT ?a1 ?l1 ?c1 ?k1 ?a2 ?l2 ?c2 ?k2 ?a3 ?l3 ?c3 ?k3 ?a4 ?l4 ?c4 ?k4 ?a5 ?l5 ?c5 ?k5 ?a6 ?l6 ?c6 ?k6 ?a7 ?l7 ?c7 ?k7 ?a8 ?l8 ?c8 ?k8 ?a9 ?l9 ?c9 ?k9 ?a10 ?l10 ?c10 ?k10 ?a11 ?l11 ?c11 ?k11 ?a12 ?l12 ?c12 ?k12 ?a13 ?l13 ?c13 ?k13 ?a14 ?l14 ?c14 ?k14 ?gt8 ?gt1 ?gt9 ?z1 ?z2 ?z3 ?z4 ?z5 ?z6 ?z7 ?z8 ?z9 ?z10 ?z11
    (case a1 => k_is); (case l1 => k_is); (case c1 => k_is); (case k1 => k_is); (case a2 => k_is); (case l2 => k_is); (case c2 => k_is); (case k2 => k_is); (case a3 => k_is); (case l3 => k_is); (case c3 => k_is); (case k3 => k_is); (case a4 => k_is); (case l4 => k_is); (case c4 => k_is); (case k4 => k_is); (case a5 => k_is); (case l5 => k_is); (case c5 => k_is); (case k5 => k_is); (case a6 => k_is); (case l6 => k_is); (case c6 => k_is); (case k6 => k_is); (case a7 => k_is); (case l7 => k_is); (case c7 => k_is); (case k7 => k_is); (case a8 => k_is); (case l8 => k_is); (case c8 => k_is); (case k8 => k_is); (case a9 => k_is); (case l9 => k_is); (case c9 => k_is); (case k9 => k_is); (case a10 => k_is); (case l10 => k_is); (case c10 => k_is); (case k10 => k_is); (case a11 => k_is); (case l11 => k_is); (case c11 => k_is); (case k11 => k_is); (case a12 => k_is); (case l12 => k_is); (case c12 => k_is); (case k12 => k_is); (case a13 => k_is); (case l13 => k_is); (case c13 => k_is); (case k13 => k_is); (case a14 => k_is); (case l14 => k_is); (case c14 => k_is); (case k14 => k_is); (case gt8 => k_is); (case gt1 => k_is); (case gt9 => k_is); (case z1 => k_is); (case z2 => k_is); (case z3 => k_is); (case z4 => k_is); (case z5 => k_is); (case z6 => k_is); (case z7 => k_is); (case z8 => k_is); (case z9 => k_is); (case z10 => k_is); (case z11 => k_is)
    (case lc => k_is); (case v11 => rfl); (case nT => with_unfolding_all rfl)

