import PyProof.Rows.All
import Wide.All
import OpenK.AllK
import Wide.FinOn
import HandS.ForMost
import HandS.ForExc
import HandS.Defaults
import HandS.MakeKwOnly
import HandS.CallSlots
import HandS.IsInst
import HandS.Wide
import HandS.WideMore
import HandS.Gcd
import HandS.Evl
import HandS.ExcIs
import HandS.Lambda
import KE.KMathGC
import HandS.ExcInit
import HandS.ExcField
import KE.KExcIs
import KE.KIsAll
import HandS.EndTab
import KE.KNestM
import HandS.Walk
import KE.KxField
import HandS.FStr
import HandS.WideBits
import KE.GoesEnum
import KE.KMathG
import HandS.SetFor
import HandS.Style
import HandS.TupLe
import HandS.Dict
import PySem.Challenge.RW_tabletsky_k02_what_is_no_worth
set_option Elab.async false
set_option linter.all false
set_option maxRecDepth 100000
set_option maxHeartbeats 4000000
/-! Values as plain data: what an expression, a statement, a def comes to, told by data alone -/
namespace Sky
open PySem L2 Evl

inductive Da where
  | non | bl (b : Bool) | int (i : Int) | str (x : Str) | ty (n : String) | cls (C : Addr)
  | lst (xs : List Da) | tup (xs : List Da) | ins (C : Addr) (fs : List (Str × Da)) | emp

mutual
inductive Dr (K : PySem.W.Frag) (B : Hp) : V → Da → Prop
  | non : Dr K B .non .non
  | bl (b : Bool) : Dr K B (.bl b) (.bl b)
  | int (i : Int) : Dr K B (.int i) (.int i)
  | str (x : Str) : Dr K B (.str x) (.str x)
  | ty (n : String) : Dr K B (.ty n) (.ty n)
  | cls (C : Addr) : Dr K B (.ref C) (.cls C)
  | lst {a : Addr} {vs : List V} {ds : List Da} (h : SqL K B a vs) (t : DrA K B vs ds) : Dr K B (.ref a) (.lst ds)
  | tup {a : Addr} {vs : List V} {ds : List Da} (h : SqT K B a vs) (t : DrA K B vs ds) : Dr K B (.ref a) (.tup ds)
  | ins {a C dx : Addr} {fs : List (Str × V)} {ds : List (Str × Da)} (h : B a = some (.ins C dx fs)) (t : DrF K B fs ds) : Dr K B (.ref a) (.ins C ds)
  | emp {a : Addr} (h : B a = some (.dK [])) : Dr K B (.ref a) .emp
inductive DrA (K : PySem.W.Frag) (B : Hp) : List V → List Da → Prop
  | nil : DrA K B [] []
  | cons {v : V} {vs : List V} {d : Da} {ds : List Da} (h : Dr K B v d) (t : DrA K B vs ds) : DrA K B (v :: vs) (d :: ds)
inductive DrF (K : PySem.W.Frag) (B : Hp) : List (Str × V) → List (Str × Da) → Prop
  | nil : DrF K B [] []
  | cons {f : Str} {v : V} {vs : List (Str × V)} {d : Da} {ds : List (Str × Da)} (h : Dr K B v d) (t : DrF K B vs ds) : DrF K B ((f, v) :: vs) ((f, d) :: ds)
end
section
variable {K : PySem.W.Frag} {B B' H H' H0 B0 : Hp}
mutual
theorem Dr.mono (e : Ex B B') : ∀ {v : V} {d : Da}, Dr K B v d → Dr K B' v d
  | _, _, .non => .non
  | _, _, .bl b => .bl b
  | _, _, .int b => .int b
  | _, _, .str b => .str b
  | _, _, .ty b => .ty b
  | _, _, .cls b => .cls b
  | _, _, .lst h t => .lst (ex_l e h) (DrA.mono e t)
  | _, _, .tup h t => .tup (ex_t e h) (DrA.mono e t)
  | _, _, .ins h t => .ins (e _ _ h) (DrF.mono e t)
  | _, _, .emp h => .emp (e _ _ h)
theorem DrA.mono (e : Ex B B') : ∀ {v : List V} {d : List Da}, DrA K B v d → DrA K B' v d
  | _, _, .nil => .nil
  | _, _, .cons h t => .cons (Dr.mono e h) (DrA.mono e t)
theorem DrF.mono (e : Ex B B') : ∀ {v : List (Str × V)} {d : List (Str × Da)}, DrF K B v d → DrF K B' v d
  | _, _, .nil => .nil
  | _, _, .cons h t => .cons (Dr.mono e h) (DrF.mono e t)
end
theorem DrA.length : ∀ {vs : List V} {ds : List Da}, DrA K B vs ds → vs.length = ds.length
  | _, _, .nil => rfl
  | _, _, .cons _ t => congrArg (· + 1) (DrA.length t)
theorem DrA.append : ∀ {vs ws : List V} {ds es : List Da}, DrA K B vs ds → DrA K B ws es → DrA K B (vs ++ ws) (ds ++ es)
  | _, _, _, _, .nil, s => s
  | _, _, _, _, .cons h t, s => .cons h (DrA.append t s)
theorem DrA.get : ∀ {vs : List V} {ds : List Da} {j : Nat} {d : Da}, DrA K B vs ds → ds[j]? = some d → ∃ v, vs[j]? = some v ∧ Dr K B v d
  | _, _, _, _, .nil, e => by simp at e
  | _, _, 0, _, .cons h _, e => by simp at e; subst e; exact ⟨_, rfl, h⟩
  | _, _, j + 1, d, .cons _ t, e => by
    obtain ⟨v, h1, h2⟩ := DrA.get (j := j) (d := d) t (by simpa using e)
    exact ⟨v, by simpa using h1, h2⟩
theorem DrA.set : ∀ {vs : List V} {ds : List Da} (j : Nat) {v : V} {d : Da}, DrA K B vs ds → Dr K B v d → DrA K B (vs.set j v) (ds.set j d)
  | _, _, _, _, _, .nil, _ => .nil
  | _, _, 0, _, _, .cons _ t, r => .cons r t
  | _, _, j + 1, _, _, .cons h t, r => .cons h (DrA.set j t r)
theorem DrA.take : ∀ {vs : List V} {ds : List Da} (n : Nat), DrA K B vs ds → DrA K B (vs.take n) (ds.take n)
  | _, _, 0, _ => .nil
  | _, _, _ + 1, .nil => .nil
  | _, _, n + 1, .cons h t => .cons h (DrA.take n t)
theorem DrA.drop : ∀ {vs : List V} {ds : List Da} (n : Nat), DrA K B vs ds → DrA K B (vs.drop n) (ds.drop n)
  | _, _, 0, r => r
  | _, _, _ + 1, .nil => .nil
  | _, _, n + 1, .cons _ t => DrA.drop n t
theorem DrA.rev : ∀ {vs : List V} {ds : List Da}, DrA K B vs ds → DrA K B vs.reverse ds.reverse
  | _, _, .nil => .nil
  | _, _, .cons h t => by
    rw [List.reverse_cons, List.reverse_cons]
    exact (DrA.rev t).append (.cons h .nil)
theorem DrF.look {f : Str} : ∀ {vs : List (Str × V)} {ds : List (Str × Da)} {d : Da}, DrF K B vs ds → ds.lookup f = some d → ∃ v, vs.lookup f = some v ∧ Dr K B v d
  | _, _, _, .nil, e => by simp at e
  | _, _, d, .cons (f := g) (v := v) (vs := vs) (ds := ds) h t, e => by
    rw [List.lookup_cons] at e ⊢
    cases q : f == g with
    | true => rw [q] at e; simp at e; subst e; exact ⟨v, by simp, h⟩
    | false => rw [q] at e; simp at e; simpa using DrF.look t e
theorem DrF.lookN {f : Str} : ∀ {vs : List (Str × V)} {ds : List (Str × Da)}, DrF K B vs ds → ds.lookup f = none → vs.lookup f = none
  | _, _, .nil, e => rfl
  | _, _, .cons (f := g) (d := d) (ds := ds) h t, e => by
    rw [List.lookup_cons] at e ⊢
    cases q : f == g with
    | true => rw [q] at e; cases e
    | false =>
      rw [q] at e
      exact DrF.lookN t e
/-- as ints -/
theorem DrA.ints : ∀ {ns : List Int}, DrA K B (ns.map V.int) (ns.map Da.int)
  | [] => .nil
  | n :: r => .cons (.int n) (DrA.ints (ns := r))

/-! ### how both heaps grow: B what is data, H all -/
structure Gr (B H B' H' : Hp) : Prop where
  b : Ex B B'
  h : Ex H H'
  s : Ex B' H'
  n : ∀ p, H p ≠ none → B p = none → B' p = none
  q : ∀ p ps, B' p = some (.tbl ps) → B p = some (.tbl ps)
theorem Gr.refl (e : Ex B H) : Gr B H B H := ⟨Ex.refl _, Ex.refl _, e, fun _ _ h => h, fun _ _ h => h⟩
/-- no table of code objects -/
def NoTb (B : Hp) : Prop := ∀ p ps, B p ≠ some (.tbl ps)
theorem NoTb.grow (n : NoTb B) (g : Gr B H B' H') : NoTb B' := fun p ps e => n p ps (g.q p ps e)
theorem noTb_upd {p : Addr} {o : HO} (n : NoTb B) (ho : ∀ ps, o ≠ .tbl ps) : NoTb (upd B p o) := fun a ps e => by
  by_cases z : a = p
  · subst z; rw [upd_same] at e; exact ho ps (Option.some.inj e)
  · rw [upd_ne z] at e; exact n a ps e
theorem tb_upd {p : Addr} {o : HO} (ho : ∀ ps, o ≠ .tbl ps) : ∀ a ps, upd B p o a = some (.tbl ps) → B a = some (.tbl ps) := fun a ps e => by
  by_cases z : a = p
  · subst z; rw [upd_same] at e; exact absurd (Option.some.inj e) (ho ps)
  · rwa [upd_ne z] at e
theorem Gr.trans {B2 H2 : Hp} (a : Gr B H B' H') (c : Gr B' H' B2 H2) : Gr B H B2 H2 :=
  ⟨a.b.trans c.b, a.h.trans c.h, c.s, fun p hp hb => c.n p (fun z => by
    cases e : H p with
    | none => exact hp e
    | some o => rw [a.h p o e] at z; cases z) (a.n p hp hb), fun p ps e => a.q p ps (c.q p ps e)⟩
theorem Gr.back (a : Gr B H B' H') {p : Addr} (h : H' p = none) : H p = none := fresh_back a.h h
theorem Gr.bnone (e : Ex B H) {p : Addr} (h : H p = none) : B p = none := fresh_back e h
/-- a new object that is data -/
theorem Gr.new (e : Ex B H) {p : Addr} {o : HO} (h : H p = none) (no : ∀ ps, o ≠ .tbl ps := by intro _ z; cases z) : Gr B H (upd B p o) (upd H p o) :=
  ⟨Ex.new (fresh_back e h), Ex.new h, fun a u q => by
    by_cases z : a = p
    · subst z; rw [upd_same] at q ⊢; exact q
    · rw [upd_ne z] at q ⊢; exact e a u q, fun q hq hb => by
    have z : q ≠ p := fun w => hq (by rw [w, h])
    rw [upd_ne z]; exact hb, tb_upd no⟩
/-- a new object that is none (yet) -/
theorem Gr.newO (e : Ex B H) {p : Addr} {o : HO} (h : H p = none) : Gr B H B (upd H p o) :=
  ⟨Ex.refl _, Ex.new h, e.trans (Ex.new h), fun _ _ hb => hb, fun _ _ h => h⟩
/-- what was laid new becomes data -/
theorem Gr.freeze (e0 : Ex B H) (a : Gr B H B' H') {p : Addr} {o : HO} (h0 : H p = none) (h1 : H' p = some o) (no : ∀ ps, o ≠ .tbl ps := by intro _ z; cases z) : Gr B H (upd B' p o) H' :=
  ⟨fun q u e => by
    have z : q ≠ p := ne_of_none (e0 q u e) h0
    rw [upd_ne z]; exact a.b q u e, a.h, fun q u e => by
    by_cases z : q = p
    · subst z; rw [upd_same] at e; rw [h1]; exact e
    · rw [upd_ne z] at e; exact a.s q u e, fun q hq hb => by
    have z : q ≠ p := fun w => hq (by rw [w, h0])
    rw [upd_ne z]; exact a.n q hq hb, fun q ps e => a.q q ps (tb_upd no q ps e)⟩
end

/-! ### slots -/
inductive Sl where
  | no | da (d : Da) | own (ds : List Da) | rf (v : V) | ob (p C dx : Addr) (fs : List (Str × Da)) | wl (p : Addr) (ds : List Da) | tb (P : Addr) (q : Str) (d : Da)
/-- a list that may be changed: the frame's own, or lent to it -/
def Sl.isL : Sl → Bool
  | .own _ => true | .wl _ _ => true | _ => false
inductive SlR (K : PySem.W.Frag) (B H0 H : Hp) : Option V → Sl → Prop
  | no (o : Option V) : SlR K B H0 H o .no
  | da {v : V} {d : Da} (h : Dr K B v d) : SlR K B H0 H (some v) (.da d)
  | rf (v : V) : SlR K B H0 H (some v) (.rf v)
  | ob {p C dx : Addr} {vs : List (Str × V)} {fs : List (Str × Da)} (b : B p = none) (f : H0 p = none) (h : H p = some (.ins C dx vs)) (t : DrF K B vs fs) : SlR K B H0 H (some (.ref p)) (.ob p C dx fs)
  | own {p : Addr} {vs : List V} {ds : List Da} (b : B p = none) (f : H0 p = none) (h : H p = some (.lst vs)) (t : DrA K B vs ds) : SlR K B H0 H (some (.ref p)) (.own ds)
  | wl {p : Addr} {vs : List V} {ds : List Da} (b : B p = none) (f : H0 p = none) (h : H p = some (.lst vs)) (t : DrA K B vs ds) : SlR K B H0 H (some (.ref p)) (.wl p ds)
  | tb {v : V} {P : Addr} {q : Str} {d : Da} (h : Dr K B v d) (z0 : NoTb H0) (z1 : NoTb B) (t : LamX.TabS H P q) : SlR K B H0 H (some v) (.tb P q d)
/-- the frame: (B0, H0) at the def's begin, (B, H) now -/
structure Sd (K : PySem.W.Frag) (B0 H0 B H : Hp) (σ : L2.St) (en : List Sl) : Prop where
  gr : Gr B0 H0 B H
  sl : Paired (SlR K B H0 H) σ en
  sep : ∀ (i j : Nat) (p : Addr) (x y : Sl), en[i]? = some x → en[j]? = some y → x.isL = true → y.isL = true → σ[i]? = some (some (.ref p)) → σ[j]? = some (some (.ref p)) → i = j
inductive XO where
  | ok (d : Da) | err (C : Addr) (f : Option (Str × Da))
def XF (K : PySem.W.Frag) (B H : Hp) (dd : Option Addr) : Option (Str × Da) → Prop
  | none => dd = none
  | some (n, d) => ∃ a v, dd = some a ∧ H a = some (.xd [(n, v)]) ∧ Dr K B v d
def Ko (K : PySem.W.Frag) (E : XK) (B H : Hp) (Q : VK) : XO → Prop
  | .ok d => ∀ v B' H', Gr B H B' H' → Dr K B' v d → Q v H'
  | .err C f => ∀ dd B' H', Gr B H B' H' → XF K B' H' dd f → E (.ref C) dd H'
/-- an expression comes to o -/
def EX (K : PySem.W.Frag) (W : WX) (te : TE) (en : List Sl) (o : XO) : Prop := ∀ B0 H0 B H σ, Sd K B0 H0 B H σ en → ∀ Q : VK, Ko K (fun c d H' => W c d σ H') B H Q o → te σ H Q
def EA (K : PySem.W.Frag) (ta : TA) (en : List Sl) (ds : List Da) : Prop := ∀ B0 H0 B H σ, Sd K B0 H0 B H σ en → ∀ Q : List V → Hp → Prop, (∀ vs B' H', Gr B H B' H' → DrA K B' vs ds → Q vs H') → ta σ H Q
/-- a new list, nobody else's -/
def EL (K : PySem.W.Frag) (te : TE) (en : List Sl) (ds : List Da) : Prop := ∀ B0 H0 B H σ, Sd K B0 H0 B H σ en → ∀ Q : VK, (∀ p vs B' H', Gr B H B' H' → H p = none → B' p = none → H' p = some (.lst vs) → DrA K B' vs ds → Q (.ref p) H') → te σ H Q

section
variable {K : PySem.W.Frag} {W : WX} {B B' H H' H0 B0 : Hp} {σ : L2.St} {en en' : List Sl} {te ta tb : TE} {d d1 d2 : Da} {o : XO}
/-- the table stays where its part of the heap does -/
theorem tabS_upd {P p : Addr} {q : Str} {vs ws : List V} (t : LamX.TabS H P q) (h : H p = some (.lst vs)) : LamX.TabS (upd H p (.lst ws)) P q := by
  obtain ⟨ps, h1, h2, h3⟩ := t
  refine ⟨ps, by rw [upd_ne (ne_of h1 h (fun z => nomatch z))]; exact h1, h2, fun pos cv hc => ?_⟩
  obtain ⟨c, e1, e2⟩ := h3 pos cv hc
  exact ⟨c, e1, by rw [upd_ne (ne_of e2 h (fun z => by unfold LamX.CodeO at z; cases z))]; exact e2⟩
theorem tabS_updI {P p C dx : Addr} {q : Str} {fs gs : List (Str × V)} (t : LamX.TabS H P q) (h : H p = some (.ins C dx fs)) : LamX.TabS (upd H p (.ins C dx gs)) P q := by
  obtain ⟨ps, h1, h2, h3⟩ := t
  refine ⟨ps, by rw [upd_ne (ne_of h1 h (fun z => nomatch z))]; exact h1, h2, fun pos cv hc => ?_⟩
  obtain ⟨c, e1, e2⟩ := h3 pos cv hc
  exact ⟨c, e1, by rw [upd_ne (ne_of e2 h (fun z => by unfold LamX.CodeO at z; cases z))]; exact e2⟩
/-- all but a list stays -/
theorem tabS_but {P p : Addr} {q : Str} {vs : List V} (t : LamX.TabS H P q) (h : H p = some (.lst vs)) (k : ∀ a o, a ≠ p → H a = some o → H' a = some o) : LamX.TabS H' P q := by
  obtain ⟨ps, h1, h2, h3⟩ := t
  refine ⟨ps, k _ _ (ne_of h1 h (fun z => nomatch z)) h1, h2, fun pos cv hc => ?_⟩
  obtain ⟨c, e1, e2⟩ := h3 pos cv hc
  exact ⟨c, e1, k _ _ (ne_of e2 h (fun z => by unfold LamX.CodeO at z; cases z)) e2⟩
theorem SlR.grow (g : Gr B H B' H') {x : Option V} {y : Sl} (h : SlR K B H0 H x y) : SlR K B' H0 H' x y := by
  cases h with
  | no => exact .no _
  | da h => exact .da (h.mono g.b)
  | rf v => exact .rf v
  | ob b f h t => exact .ob (g.n _ (by rw [h]; exact fun z => nomatch z) b) f (g.h _ _ h) (t.mono g.b)
  | own b f h t => exact .own (g.n _ (by rw [h]; exact fun z => nomatch z) b) f (g.h _ _ h) (t.mono g.b)
  | wl b f h t => exact .wl (g.n _ (by rw [h]; exact fun z => nomatch z) b) f (g.h _ _ h) (t.mono g.b)
  | tb h z0 z1 t => exact .tb (h.mono g.b) z0 (z1.grow g) (t.ext g.h)
theorem paired_mp {α β : Type} {F G : α → β → Prop} : ∀ {l₁ : List α} {l₂ : List β}, Paired F l₁ l₂ → (∀ a b, F a b → G a b) → Paired G l₁ l₂
  | _, _, .nil, _ => .nil
  | _, _, .cons r t, f => .cons (f _ _ r) (paired_mp t f)
theorem paired_get {α β : Type} {F : α → β → Prop} : ∀ {l₁ : List α} {l₂ : List β} {i : Nat} {y : β}, Paired F l₁ l₂ → l₂[i]? = some y → ∃ x, l₁[i]? = some x ∧ F x y
  | _, _, _, _, .nil, e => by simp at e
  | _, _, 0, _, .cons r _, e => by simp at e; subst e; exact ⟨_, rfl, r⟩
  | _, _, i + 1, y, .cons _ t, e => by
    obtain ⟨x, h1, h2⟩ := paired_get (i := i) (y := y) t (by simpa using e)
    exact ⟨x, by simpa using h1, h2⟩
theorem paired_set {α β : Type} {F : α → β → Prop} {x : α} {y : β} (r : F x y) : ∀ {xs : List α} {us : List β} (i : Nat), Paired F xs us → Paired F (xs.set i x) (us.set i y)
  | _, _, _, .nil => .nil
  | _, _, 0, .cons _ t => .cons r t
  | _, _, i + 1, .cons q t => .cons q (paired_set r i t)
theorem Sd.grow (S : Sd K B0 H0 B H σ en) (g : Gr B H B' H') : Sd K B0 H0 B' H' σ en :=
  ⟨S.gr.trans g, paired_mp S.sl fun _ _ h => h.grow g, S.sep⟩
theorem Sd.at (S : Sd K B0 H0 B H σ en) {i : Nat} (h : en[i]? = some (.da d)) : ∃ v, σ[i]? = some (some v) ∧ Dr K B v d := by
  obtain ⟨x, h1, h2⟩ := paired_get S.sl h
  cases h2 with
  | da h => exact ⟨_, h1, h⟩
theorem Sd.ownAt (S : Sd K B0 H0 B H σ en) {i : Nat} {ds : List Da} (h : en[i]? = some (.own ds)) : ∃ p vs, σ[i]? = some (some (.ref p)) ∧ B p = none ∧ H0 p = none ∧ H p = some (.lst vs) ∧ DrA K B vs ds := by
  obtain ⟨x, h1, h2⟩ := paired_get S.sl h
  cases h2 with
  | own b f h t => exact ⟨_, _, h1, b, f, h, t⟩
theorem Sd.eb (S : Sd K B0 H0 B H σ en) : Ex B H := S.gr.s
/-- a slot is set to data -/
theorem Sd.set (S : Sd K B0 H0 B H σ en) {v : V} (h : Dr K B v d) (i : Nat) : Sd K B0 H0 B H (σ.set i (some v)) (en.set i (.da d)) :=
  ⟨S.gr, paired_set (.da h) i S.sl, fun a b p ds es h1 h2 hx hy h3 h4 => by
    by_cases ha : a = i
    · subst ha
      by_cases hl : a < en.length
      · rw [List.getElem?_set_self hl] at h1; cases h1; cases hx
      · rw [List.getElem?_eq_none (by rw [List.length_set]; omega)] at h1; cases h1
    · by_cases hb : b = i
      · subst hb
        by_cases hl : b < en.length
        · rw [List.getElem?_set_self hl] at h2; cases h2; cases hy
        · rw [List.getElem?_eq_none (by rw [List.length_set]; omega)] at h2; cases h2
      · rw [List.getElem?_set_ne (Ne.symm ha)] at h1 h3
        rw [List.getElem?_set_ne (Ne.symm hb)] at h2 h4
        exact S.sep a b p ds es h1 h2 hx hy h3 h4⟩
theorem Sd.atRf (S : Sd K B0 H0 B H σ en) {i : Nat} {v : V} (h : en[i]? = some (.rf v)) : σ[i]? = some (some v) := by
  obtain ⟨x, h1, h2⟩ := paired_get S.sl h
  cases h2 with
  | rf => exact h1
/-- a slot holds just this -/
theorem Sd.setRf (S : Sd K B0 H0 B H σ en) (v : V) (i : Nat) : Sd K B0 H0 B H (σ.set i (some v)) (en.set i (.rf v)) :=
  ⟨S.gr, paired_set (.rf v) i S.sl, fun a b p ds es h1 h2 hx hy h3 h4 => by
    by_cases ha : a = i
    · subst ha
      by_cases hl : a < en.length
      · rw [List.getElem?_set_self hl] at h1; cases h1; cases hx
      · rw [List.getElem?_eq_none (by rw [List.length_set]; omega)] at h1; cases h1
    · by_cases hb : b = i
      · subst hb
        by_cases hl : b < en.length
        · rw [List.getElem?_set_self hl] at h2; cases h2; cases hy
        · rw [List.getElem?_eq_none (by rw [List.length_set]; omega)] at h2; cases h2
      · rw [List.getElem?_set_ne (Ne.symm ha)] at h1 h3
        rw [List.getElem?_set_ne (Ne.symm hb)] at h2 h4
        exact S.sep a b p ds es h1 h2 hx hy h3 h4⟩
/-- a slot is forgotten -/
theorem Sd.drop (S : Sd K B0 H0 B H σ en) (i : Nat) (x : Option V) : Sd K B0 H0 B H (σ.set i x) (en.set i .no) :=
  ⟨S.gr, paired_set (.no _) i S.sl, fun a b p ds es h1 h2 hx hy h3 h4 => by
    by_cases ha : a = i
    · subst ha
      by_cases hl : a < en.length
      · rw [List.getElem?_set_self hl] at h1; cases h1; cases hx
      · rw [List.getElem?_eq_none (by rw [List.length_set]; omega)] at h1; cases h1
    · by_cases hb : b = i
      · subst hb
        by_cases hl : b < en.length
        · rw [List.getElem?_set_self hl] at h2; cases h2; cases hy
        · rw [List.getElem?_eq_none (by rw [List.length_set]; omega)] at h2; cases h2
      · rw [List.getElem?_set_ne (Ne.symm ha)] at h1 h3
        rw [List.getElem?_set_ne (Ne.symm hb)] at h2 h4
        exact S.sep a b p ds es h1 h2 hx hy h3 h4⟩
/-- a new own list goes into a slot -/
theorem Sd.setOwn (S : Sd K B0 H0 B H σ en) (g : Gr B H B' H') {p : Addr} {vs : List V} {ds : List Da} (h0 : H p = none) (hb : B' p = none) (h1 : H' p = some (.lst vs)) (t : DrA K B' vs ds) (i : Nat) : Sd K B0 H0 B' H' (σ.set i (some (.ref p))) (en.set i (.own ds)) :=
  have nu : ∀ (a : Nat) (x : Sl), en[a]? = some x → x.isL = true → σ[a]? = some (some (.ref p)) → False := fun a x h2 hx h4 => by
    obtain ⟨y, e1, r⟩ := paired_get S.sl h2
    rw [e1] at h4
    cases h4
    cases r with
    | own b f h t => rw [h0] at h; cases h
    | wl b f h t => rw [h0] at h; cases h
    | no => cases hx
    | da h => cases hx
    | rf => cases hx
    | ob => cases hx
    | tb => cases hx
  ⟨S.gr.trans g, paired_set (.own hb (S.gr.back h0) h1 t) i (paired_mp S.sl fun _ _ h => h.grow g), fun a b q ds es h1 h2 hx hy h3 h4 => by
    by_cases ha : a = i
    · by_cases hb : b = i
      · rw [ha, hb]
      · subst ha
        rw [List.getElem?_set_ne (Ne.symm hb)] at h2 h4
        by_cases hl : a < en.length
        · have hs : a < σ.length := by have := Paired.length S.sl; omega
          rw [List.getElem?_set_self hs] at h3
          cases h3
          exact (nu b es h2 hy h4).elim
        · rw [List.getElem?_eq_none (by rw [List.length_set]; omega)] at h1; cases h1
    · by_cases hb : b = i
      · subst hb
        rw [List.getElem?_set_ne (Ne.symm ha)] at h1 h3
        by_cases hl : b < en.length
        · have hs : b < σ.length := by have := Paired.length S.sl; omega
          rw [List.getElem?_set_self hs] at h4
          cases h4
          exact (nu a ds h1 hx h3).elim
        · rw [List.getElem?_eq_none (by rw [List.length_set]; omega)] at h2; cases h2
      · rw [List.getElem?_set_ne (Ne.symm ha)] at h1 h3
        rw [List.getElem?_set_ne (Ne.symm hb)] at h2 h4
        exact S.sep a b q ds es h1 h2 hx hy h3 h4⟩
theorem paired_ix {α β : Type} {F : α → β → Prop} : ∀ {l₁ : List α} {l₂ : List β}, l₁.length = l₂.length → (∀ (i : Nat) x y, l₁[i]? = some x → l₂[i]? = some y → F x y) → Paired F l₁ l₂
  | [], [], _, _ => .nil
  | [], _ :: _, h, _ => by simp at h
  | _ :: _, [], h, _ => by simp at h
  | x :: xs, y :: ys, h, f => .cons (f 0 x y rfl rfl) (paired_ix (by simpa using h) fun i a b ha hb => f (i + 1) a b (by simpa using ha) (by simpa using hb))
theorem paired_at {α β : Type} {F : α → β → Prop} {l₁ : List α} {l₂ : List β} {i : Nat} {x : α} {y : β} (h : Paired F l₁ l₂) (h1 : l₁[i]? = some x) (h2 : l₂[i]? = some y) : F x y := by
  obtain ⟨x', e1, e2⟩ := paired_get h h2
  rw [h1] at e1
  cases e1
  exact e2
/-- the own list of a slot is changed -/
theorem Sd.mut (S : Sd K B0 H0 B H σ en) {i : Nat} {ds : List Da} {p : Addr} (he : en[i]? = some (.own ds)) (hp : σ[i]? = some (some (.ref p))) {vs : List V} {es : List Da} (t : DrA K B vs es) : Sd K B0 H0 B (upd H p (.lst vs)) σ (en.set i (.own es)) := by
  obtain ⟨q, ws, e1, b, f, e2, t0⟩ := S.ownAt he
  rw [hp] at e1
  cases e1
  have hi : i < en.length := by
    rcases Nat.lt_or_ge i en.length with h | h
    · exact h
    · rw [List.getElem?_eq_none h] at he; cases he
  refine ⟨⟨S.gr.b, S.gr.h.mut f, fun a o h => ?_, S.gr.n, S.gr.q⟩, paired_ix (by rw [List.length_set]; exact Paired.length S.sl) fun j x y hx hy => ?_, fun a c r xs ys h1 h2 hx hy h3 h4 => ?_⟩
  · have z : a ≠ p := ne_of_none h b
    rw [upd_ne z]
    exact S.gr.s a o h
  · by_cases hj : j = i
    · subst hj
      rw [List.getElem?_set_self hi] at hy
      cases hy
      rw [hp] at hx
      cases hx
      exact .own b f upd_same t
    · rw [List.getElem?_set_ne (Ne.symm hj)] at hy
      have r := paired_at S.sl hx hy
      cases r with
      | no => exact .no _
      | da h => exact .da h
      | rf v => exact .rf v
      | ob b' f' h' t' => exact .ob b' f' (by rw [upd_ne (ne_of h' e2 (fun z => nomatch z))]; exact h') t'
      | own b' f' h' t' =>
        have z : _ ≠ p := fun w => hj (S.sep j i p _ _ hy he rfl rfl (by rw [← w]; exact hx) hp)
        exact .own b' f' (by rw [upd_ne z]; exact h') t'
      | wl b' f' h' t' =>
        have z : _ ≠ p := fun w => hj (S.sep j i p _ _ hy he rfl rfl (by rw [← w]; exact hx) hp)
        exact .wl b' f' (by rw [upd_ne z]; exact h') t'
      | tb h' z0 z1 t' => exact .tb h' z0 z1 (tabS_upd t' e2)
  · have back : ∀ (a : Nat) (xs : Sl), (en.set i (.own es))[a]? = some xs → xs.isL = true → ∃ zs : Sl, en[a]? = some zs ∧ zs.isL = true := fun a xs h hq => by
      by_cases ha : a = i
      · subst ha; exact ⟨_, he, rfl⟩
      · rw [List.getElem?_set_ne (Ne.symm ha)] at h; exact ⟨_, h, hq⟩
    obtain ⟨z1, k1, l1⟩ := back a xs h1 hx
    obtain ⟨z2, k2, l2⟩ := back c ys h2 hy
    exact S.sep a c r z1 z2 k1 k2 l1 l2 h3 h4
/-- an own list becomes data -/
theorem Sd.freeze (S : Sd K B0 H0 B H σ en) {i : Nat} {ds : List Da} (he : en[i]? = some (.own ds)) : ∃ B', Sd K B0 H0 B' H σ (en.set i (.da (.lst ds))) ∧ (∀ a o, B a = some o → B' a = some o) := by
  obtain ⟨p, vs, e1, b, f, e2, t0⟩ := S.ownAt he
  have hi : i < en.length := by
    rcases Nat.lt_or_ge i en.length with h | h
    · exact h
    · rw [List.getElem?_eq_none h] at he; cases he
  have eB : Ex B (upd B p (.lst vs)) := Ex.new b
  refine ⟨upd B p (.lst vs), ⟨⟨S.gr.b.trans eB, S.gr.h, fun a o h => ?_, fun q hq hb => ?_, fun a ps e => S.gr.q a ps (tb_upd (o := .lst vs) (fun _ z => nomatch z) a ps e)⟩, paired_ix (by rw [List.length_set]; exact Paired.length S.sl) fun j x y hx hy => ?_, fun a c r xs ys h1 h2 hx hy h3 h4 => ?_⟩, eB⟩
  · by_cases z : a = p
    · subst z; rw [upd_same] at h; rw [e2]; exact h
    · rw [upd_ne z] at h; exact S.gr.s a o h
  · have z : q ≠ p := fun w => hq (by rw [w]; exact f)
    rw [upd_ne z]
    exact S.gr.n q hq hb
  · by_cases hj : j = i
    · subst hj
      rw [List.getElem?_set_self hi] at hy
      cases hy
      rw [e1] at hx
      cases hx
      exact .da (.lst (Or.inl (Or.inl upd_same)) (t0.mono eB))
    · rw [List.getElem?_set_ne (Ne.symm hj)] at hy
      have r := paired_at S.sl hx hy
      cases r with
      | no => exact .no _
      | da h => exact .da (h.mono eB)
      | rf v => exact .rf v
      | ob b' f' h' t' => exact .ob (by rw [upd_ne (ne_of h' e2 (fun z => nomatch z))]; exact b') f' h' (t'.mono eB)
      | own b' f' h' t' =>
        have z : _ ≠ p := fun w => hj (S.sep j i p _ _ hy he rfl rfl (by rw [← w]; exact hx) e1)
        exact .own (by rw [upd_ne z]; exact b') f' h' (t'.mono eB)
      | wl b' f' h' t' =>
        have z : _ ≠ p := fun w => hj (S.sep j i p _ _ hy he rfl rfl (by rw [← w]; exact hx) e1)
        exact .wl (by rw [upd_ne z]; exact b') f' h' (t'.mono eB)
      | tb h' z0 z1 t' => exact .tb (h'.mono eB) z0 (noTb_upd z1 (fun _ z => nomatch z)) t'
  · have back : ∀ (a : Nat) (xs : Sl), (en.set i (.da (.lst ds)))[a]? = some xs → xs.isL = true → en[a]? = some xs := fun a xs h hq => by
      by_cases ha : a = i
      · subst ha; rw [List.getElem?_set_self hi] at h; cases h; cases hq
      · rw [List.getElem?_set_ne (Ne.symm ha)] at h; exact h
    exact S.sep a c r xs ys (back a xs h1 hx) (back c ys h2 hy) hx hy h3 h4
theorem Sd.wlAt {p : Addr} (S : Sd K B0 H0 B H σ en) {i : Nat} {ds : List Da} (h : en[i]? = some (.wl p ds)) : ∃ vs, σ[i]? = some (some (.ref p)) ∧ B p = none ∧ H0 p = none ∧ H p = some (.lst vs) ∧ DrA K B vs ds := by
  obtain ⟨x, h1, h2⟩ := paired_get S.sl h
  cases h2 with
  | wl b f h t => exact ⟨_, h1, b, f, h, t⟩
/-- the lent list of a slot is changed -/
theorem Sd.mutW {p : Addr} (S : Sd K B0 H0 B H σ en) {i : Nat} {ds : List Da} (he : en[i]? = some (.wl p ds)) {vs : List V} {es : List Da} (t : DrA K B vs es) : Sd K B0 H0 B (upd H p (.lst vs)) σ (en.set i (.wl p es)) := by
  obtain ⟨ws, hp, b, f, e2, t0⟩ := S.wlAt he
  have hi : i < en.length := by
    rcases Nat.lt_or_ge i en.length with h | h
    · exact h
    · rw [List.getElem?_eq_none h] at he; cases he
  refine ⟨⟨S.gr.b, S.gr.h.mut f, fun a o h => ?_, S.gr.n, S.gr.q⟩, paired_ix (by rw [List.length_set]; exact Paired.length S.sl) fun j x y hx hy => ?_, fun a c r xs ys h1 h2 hx hy h3 h4 => ?_⟩
  · have z : a ≠ p := ne_of_none h b
    rw [upd_ne z]
    exact S.gr.s a o h
  · by_cases hj : j = i
    · subst hj
      rw [List.getElem?_set_self hi] at hy
      cases hy
      rw [hp] at hx
      cases hx
      exact .wl b f upd_same t
    · rw [List.getElem?_set_ne (Ne.symm hj)] at hy
      have r := paired_at S.sl hx hy
      cases r with
      | no => exact .no _
      | da h => exact .da h
      | rf v => exact .rf v
      | ob b' f' h' t' => exact .ob b' f' (by rw [upd_ne (ne_of h' e2 (fun z => nomatch z))]; exact h') t'
      | own b' f' h' t' =>
        have z : _ ≠ p := fun w => hj (S.sep j i p _ _ hy he rfl rfl (by rw [← w]; exact hx) hp)
        exact .own b' f' (by rw [upd_ne z]; exact h') t'
      | wl b' f' h' t' =>
        have z : _ ≠ p := fun w => hj (S.sep j i p _ _ hy he rfl rfl (by rw [← w]; exact hx) hp)
        exact .wl b' f' (by rw [upd_ne z]; exact h') t'
      | tb h' z0 z1 t' => exact .tb h' z0 z1 (tabS_upd t' e2)
  · have back : ∀ (a : Nat) (xs : Sl), (en.set i (.wl p es))[a]? = some xs → xs.isL = true → ∃ zs : Sl, en[a]? = some zs ∧ zs.isL = true := fun a xs h hq => by
      by_cases ha : a = i
      · subst ha; exact ⟨_, he, rfl⟩
      · rw [List.getElem?_set_ne (Ne.symm ha)] at h; exact ⟨_, h, hq⟩
    obtain ⟨z1, k1, l1⟩ := back a xs h1 hx
    obtain ⟨z2, k2, l2⟩ := back c ys h2 hy
    exact S.sep a c r z1 z2 k1 k2 l1 l2 h3 h4
end
end Sky
namespace Sky
open PySem L2 Evl
section
variable {K : PySem.W.Frag} {W : WX} {E : XK} {B B' H H' H0 B0 : Hp} {σ : L2.St} {en en' : List Sl} {te ta tb : TE} {d d1 d2 : Da} {o : XO} {ds es : List Da}
theorem Ko.grow {Q : VK} (g : Gr B H B' H') (k : Ko K E B H Q o) : Ko K E B' H' Q o := by
  cases o with
  | ok d => exact fun v B2 H2 g2 r => k v B2 H2 (g.trans g2) r
  | err C f => exact fun dd B2 H2 g2 r => k dd B2 H2 (g.trans g2) r
/-! ### expressions -/
def FlatD (v : V) (d : Da) : Prop := ∀ K B, Dr K B v d
theorem ex_var {i : Nat} (h : en[i]? = some (.da d)) : EX K W (tVar i) en (.ok d) := fun _ _ B H σ S Q k => by
  obtain ⟨v, h1, h2⟩ := S.at h
  exact ⟨v, h1, k v B H (Gr.refl S.eb) h2⟩
theorem ex_c {v : V} (h : FlatD v d) : EX K W (tC v) en (.ok d) := fun _ _ B H σ S Q k => k v B H (Gr.refl S.eb) (h K B)
theorem ex_cK {v : V} (h : ∀ B, Dr K B v d) : EX K W (tC v) en (.ok d) := fun _ _ B H σ S Q k => k v B H (Gr.refl S.eb) (h B)
def RV (K : PySem.W.Frag) (r : R2) (d1 d2 d : Da) : Prop := ∀ B H x y, Ex B H → Dr K B x d1 → Dr K B y d2 → ∀ Q : VK, (∀ v B' H', Gr B H B' H' → Dr K B' v d → Q v H') → r x y H Q
def RU (K : PySem.W.Frag) (r : V → Hp → VK → Prop) (d1 d : Da) : Prop := ∀ B H x, Ex B H → Dr K B x d1 → ∀ Q : VK, (∀ v B' H', Gr B H B' H' → Dr K B' v d → Q v H') → r x H Q
def RC (K : PySem.W.Frag) (r : List V → Hp → VK → Prop) (ds : List Da) (d : Da) : Prop := ∀ B H vs, Ex B H → DrA K B vs ds → ∀ Q : VK, (∀ v B' H', Gr B H B' H' → Dr K B' v d → Q v H') → r vs H Q
theorem ex_op {r : R2} (ha : EX K W ta en (.ok d1)) (hb : EX K W tb en (.ok d2)) (hr : RV K r d1 d2 d) : EX K W (tOp r ta tb) en (.ok d) := fun _ _ B H σ S Q k =>
  ha _ _ B H σ S _ fun x B1 H1 g1 r1 => hb _ _ B1 H1 σ (S.grow g1) _ fun y B2 H2 g2 r2 => hr B2 H2 x y g2.s (r1.mono g2.b) r2 Q fun v B3 H3 g3 r3 => k v B3 H3 (g1.trans (g2.trans g3)) r3
theorem ex_un {r : V → Hp → VK → Prop} (ha : EX K W ta en (.ok d1)) (hr : RU K r d1 d) : EX K W (tUn r ta) en (.ok d) := fun _ _ B H σ S Q k =>
  ha _ _ B H σ S _ fun x B1 H1 g1 r1 => hr B1 H1 x g1.s r1 Q fun v B3 H3 g3 r3 => k v B3 H3 (g1.trans g3) r3
theorem ea_nil : EA K tNil en [] := fun _ _ B H σ S Q k => k [] B H (Gr.refl S.eb) .nil
theorem ea_cons {t : TA} (ha : EX K W te en (.ok d)) (ht : EA K t en ds) : EA K (tCons te t) en (d :: ds) := fun _ _ B H σ S Q k =>
  ha _ _ B H σ S _ fun x B1 H1 g1 r1 => ht _ _ B1 H1 σ (S.grow g1) _ fun vs B2 H2 g2 r2 => k _ B2 H2 (g1.trans g2) (.cons (r1.mono g2.b) r2)
theorem ex_tup {t : TA} (ht : EA K t en ds) (hl : ds.length ≤ 100000) : EX K W (tTup t) en (.ok (.tup ds)) := fun _ _ B H σ S Q k =>
  ht _ _ B H σ S _ fun vs B1 H1 g1 r1 => ⟨by rw [r1.length]; exact sz_of hl, fun p hp => k _ _ _ (g1.trans (Gr.new g1.s hp)) (.tup (st_of upd_same) (r1.mono (Ex.new (fresh_back g1.s hp))))⟩
theorem el_lst {t : TA} (ht : EA K t en ds) (hl : ds.length ≤ 100000) : EL K (tLst t) en ds := fun _ _ B H σ S Q k =>
  ht _ _ B H σ S _ fun vs B1 H1 g1 r1 => ⟨by rw [r1.length]; exact sz_of hl, fun p hp => k p vs B1 _ (g1.trans (Gr.newO g1.s hp)) (g1.back hp) (fresh_back g1.s hp) upd_same r1⟩
theorem EL.ex (h : EL K te en ds) : EX K W te en (.ok (.lst ds)) := fun _ _ B H σ S Q k =>
  h _ _ B H σ S _ fun p vs B1 H1 g1 h0 hb h1 r => k _ _ _ (g1.freeze S.eb h0 h1) (.lst (sq_of upd_same) (r.mono (Ex.new hb)))
theorem ex_cb {r : List V → Hp → VK → Prop} {t : TA} (ht : EA K t en ds) (hr : RC K r ds d) : EX K W (tCB r t) en (.ok d) := fun _ _ B H σ S Q k =>
  ht _ _ B H σ S _ fun vs B1 H1 g1 r1 => hr B1 H1 vs g1.s r1 Q fun v B3 H3 g3 r3 => k v B3 H3 (g1.trans g3) r3
/-- and, or, not of truths -/
theorem ex_andT {b : Da} (ha : EX K W ta en (.ok (.bl true))) (hb : EX K W tb en (.ok b)) : EX K W (tAndV ta tb) en (.ok b) := fun _ _ B H σ S Q k =>
  ha _ _ B H σ S _ fun x B1 H1 g1 r1 => by
    cases r1
    refine ⟨true, rfl, ?_⟩
    rw [if_pos rfl]
    exact hb _ _ B1 H1 σ (S.grow g1) _ (Ko.grow (o := .ok b) (E := fun _ _ _ => False) g1 k)
theorem ex_andF (ha : EX K W ta en (.ok (.bl false))) : EX K W (tAndV ta tb) en (.ok (.bl false)) := fun _ _ B H σ S Q k =>
  ha _ _ B H σ S _ fun x B1 H1 g1 r1 => by
    cases r1
    refine ⟨false, rfl, ?_⟩
    rw [if_neg Bool.false_ne_true]
    exact k _ _ _ g1 (.bl _)
theorem ex_orF {b : Da} (ha : EX K W ta en (.ok (.bl false))) (hb : EX K W tb en (.ok b)) : EX K W (tOrV ta tb) en (.ok b) := fun _ _ B H σ S Q k =>
  ha _ _ B H σ S _ fun x B1 H1 g1 r1 => by
    cases r1
    refine ⟨false, rfl, ?_⟩
    rw [if_neg Bool.false_ne_true]
    exact hb _ _ B1 H1 σ (S.grow g1) _ (Ko.grow (o := .ok b) (E := fun _ _ _ => False) g1 k)
theorem ex_orT (ha : EX K W ta en (.ok (.bl true))) : EX K W (tOrV ta tb) en (.ok (.bl true)) := fun _ _ B H σ S Q k =>
  ha _ _ B H σ S _ fun x B1 H1 g1 r1 => by
    cases r1
    refine ⟨true, rfl, ?_⟩
    rw [if_pos rfl]
    exact k _ _ _ g1 (.bl _)
theorem ex_not {b : Bool} (ha : EX K W ta en (.ok (.bl b))) : EX K W (tNotV ta) en (.ok (.bl (!b))) := fun _ _ B H σ S Q k =>
  ha _ _ B H σ S _ fun x B1 H1 g1 r1 => by
    cases r1
    exact ⟨b, rfl, k _ _ _ g1 (.bl _)⟩
/-! ### values -/
theorem rv_I {C : Int → Int → Prop} {g : Int → Int → V} {i j : Int} (hc : C i j) (hf : FlatD (g i j) d) : RV K (rI C g) (.int i) (.int j) d := fun B H x y e h1 h2 Q k => by
  cases h1; cases h2
  exact ⟨i, j, rfl, rfl, hc, k _ B H (Gr.refl e) (hf K B)⟩
theorem rv_I0 {g : Int → Int → V} {i j : Int} (hf : FlatD (g i j) d) : RV K (rI0 g) (.int i) (.int j) d := fun B H x y e h1 h2 Q k => by
  cases h1; cases h2
  exact ⟨i, j, rfl, rfl, k _ B H (Gr.refl e) (hf K B)⟩
theorem ixN_len {α β : Type} {xs : List α} {ys : List β} (h : xs.length = ys.length) (i : Int) : ixN xs.length i = ixN ys.length i := by rw [h]
theorem atI_dr {vs : List V} {i : Int} (h : DrA K B vs ds) (e : atI ds i = some d) : ∃ v, atI vs i = some v ∧ Dr K B v d := by
  unfold atI at e ⊢
  rw [ixN_len h.length i]
  cases q : ixN ds.length i with
  | none => rw [q] at e; cases e
  | some j =>
    rw [q] at e
    exact h.get e
theorem rv_ixT {i : Int} (e : atI ds i = some d) : RV K (rIxT K) (.tup ds) (.int i) d := fun B H x y eb h1 h2 Q k => by
  cases h2
  cases h1 with
  | tup h t =>
    obtain ⟨v, e1, r⟩ := atI_dr t e
    exact ⟨_, _, i, v, rfl, rfl, ex_t eb h, e1, k v B H (Gr.refl eb) r⟩
theorem rv_ixL {i : Int} (e : atI ds i = some d) : RV K (rIxL K) (.lst ds) (.int i) d := fun B H x y eb h1 h2 Q k => by
  cases h2
  cases h1 with
  | lst h t =>
    obtain ⟨v, e1, r⟩ := atI_dr t e
    exact ⟨_, _, i, v, rfl, rfl, ex_l eb h, e1, k v B H (Gr.refl eb) r⟩
/-- an item of an own list -/
theorem ex_ixO {i : Nat} {j : Int} (ho : en[i]? = some (.own ds)) (hb : EX K W tb en (.ok (.int j))) (e : atI ds j = some d) : EX K W (tOp (rIxL K) (tVar i) tb) en (.ok d) := fun _ _ B H σ S Q k => by
  obtain ⟨p, vs, e1, _⟩ := S.ownAt ho
  refine ⟨_, e1, hb _ _ B H σ S _ fun y B2 H2 g2 r2 => ?_⟩
  cases r2
  obtain ⟨p', vs', e1', _, _, e2, t⟩ := (S.grow g2).ownAt ho
  rw [e1] at e1'
  cases e1'
  obtain ⟨v, e3, r⟩ := atI_dr t e
  exact ⟨_, _, j, v, rfl, rfl, sq_of e2, e3, k v B2 H2 g2 r⟩

/-! ### equality -/
mutual
def py : Da → PyData
  | .non => .none | .bl b => .bool b | .int i => .int i | .str x => .str x | .ty _ => .none | .cls _ => .none
  | .lst xs => .list (pyA xs) | .tup xs => .tuple (pyA xs) | .ins _ _ => .none | .emp => .none
def pyA : List Da → List PyData
  | [] => [] | d :: r => py d :: pyA r
end
mutual
def pl : Da → Bool
  | .non => true | .bl _ => true | .int _ => true | .str _ => true | .ty _ => false | .cls _ => false
  | .lst xs => plA xs | .tup xs => plA xs | .ins _ _ => false | .emp => false
def plA : List Da → Bool
  | [] => true | d :: r => pl d && plA r
end
mutual
theorem Dr.dp (e : Ex B H) : ∀ {v : V} {d : Da}, Dr K B v d → pl d = true → Dp K H v (py d)
  | _, _, .non, _ => .non
  | _, _, .bl b, _ => .bl b
  | _, _, .int b, _ => .int b
  | _, _, .str b, _ => .str b
  | _, _, .lst h t, q => .lst (ex_l e h) (DrA.dp e t q)
  | _, _, .tup h t, q => .tup (ex_t e h) (DrA.dp e t q)
theorem DrA.dp (e : Ex B H) : ∀ {v : List V} {d : List Da}, DrA K B v d → plA d = true → DpAll K H v (pyA d)
  | _, _, .nil, _ => .nil
  | _, _, .cons h t, q => .cons (Dr.dp e h (Bool.and_eq_true_iff.mp q).1) (DrA.dp e t (Bool.and_eq_true_iff.mp q).2)
end
/-- what == asks of both -/
def Cmp (d : Da) : Prop := pl d = true ∧ SeqAt.shaped (py d) = true
def deq (d e : Da) : Bool := PyData.eqv (py d) (py e)
theorem rv_eq (h1 : Cmp d1) (h2 : Cmp d2) : RV K (rEqD K) d1 d2 (.bl (deq d1 d2)) := fun B H x y e r1 r2 Q k =>
  ⟨_, _, r1.dp e h1.1, r2.dp e h2.1, h1.2, h2.2, k _ B H (Gr.refl e) (.bl _)⟩
theorem rv_ne (h1 : Cmp d1) (h2 : Cmp d2) : RV K (rNeD K) d1 d2 (.bl (!deq d1 d2)) := fun B H x y e r1 r2 Q k =>
  ⟨_, _, r1.dp e h1.1, r2.dp e h2.1, h1.2, h2.2, k _ B H (Gr.refl e) (.bl _)⟩
def isNon : Da → Bool
  | .non => true | _ => false
theorem rv_isN : RV K (fun x y H Q => y = .non ∧ Q (.bl (decide (x = .non))) H) d .non (.bl (isNon d)) := fun B H x y e r1 r2 Q k => by
  cases r2
  refine ⟨rfl, k _ B H (Gr.refl e) ?_⟩
  cases r1 <;> exact .bl _
theorem rv_notN : RV K (fun x y H Q => y = .non ∧ Q (.bl (!decide (x = .non))) H) d .non (.bl (!isNon d)) := fun B H x y e r1 r2 Q k => by
  cases r2
  refine ⟨rfl, k _ B H (Gr.refl e) ?_⟩
  cases r1 <;> exact .bl _
/-! ### types -/
def tyN : Da → Option String
  | .non => some "NoneType" | .bl _ => some "bool" | .int _ => some "int" | .str _ => some "str" | .lst _ => some "list" | .tup _ => some "tuple" | .emp => some "dict" | _ => none
theorem Dr.tyx (e : Ex B H) {v : V} {T : String} (h : Dr K B v d) (q : tyN d = some T) : TyX K H v (.type T) := by
  cases h with
  | non => cases q; exact .base .non
  | bl b => cases q; exact .base (.bl b)
  | int b => cases q; exact .base (.int b)
  | str b => cases q; exact .base (.str b)
  | ty n => cases q
  | cls n => cases q
  | ins _ _ => cases q
  | emp h => cases q; exact .base (.dK (e _ _ h))
  | lst h t =>
    cases q
    rcases ex_l e h with (h | ⟨o, h⟩) | ⟨o, its, n, h, hc, _⟩
    · exact .base (.lst h)
    · exact .base (.frz h)
    · exact .kList h hc
  | tup h t =>
    cases q
    rcases ex_t e h with (h | ⟨o, h⟩) | ⟨o, its, n, h, hc, _⟩
    · exact .base (.tup h)
    · exact .fTuple h
    · exact .kTuple h hc
theorem rc_isi {T c : String} {b : Bool} (q : tyN d = some T) (h : kitB T c = some b) : RC K (rIsi K) [d, .ty c] (.bl b) := fun B H vs e hA Q k => by
  cases hA with
  | cons h1 t =>
    cases t with
    | cons h2 t =>
      cases t
      cases h2
      exact ⟨_, _, _, _, b, rfl, .ty c, h1.tyx e q, kit_ty h, k _ B H (Gr.refl e) (.bl _)⟩
end
end Sky
namespace Sky
open PySem L2 Evl
inductive Out where
  | nx (en : List Sl) | rt (d : Da) | bk (en : List Sl) | ct (en : List Sl) | rx (en : List Sl) (C : Addr) (f : Option (Str × Da)) | rw (d : Da) (en : List Sl) | ro (ds : List Da)
def Fi (K : PySem.W.Frag) (W : WX) (B0 H0 : Hp) (D : Ends) : Out → Prop
  | .nx en => ∀ B H σ, Sd K B0 H0 B H σ en → D.nx σ H
  | .bk en => ∀ B H σ, Sd K B0 H0 B H σ en → D.bk σ H
  | .ct en => ∀ B H σ, Sd K B0 H0 B H σ en → D.ct σ H
  | .rt d => ∀ v B H, Gr B0 H0 B H → Dr K B v d → D.rt v H
  | .ro ds => ∀ p vs B H, Gr B0 H0 B H → H0 p = none → B p = none → H p = some (.lst vs) → DrA K B vs ds → D.rt (.ref p) H
  | .rw d en => ∀ v B H σ, Sd K B0 H0 B H σ en → Dr K B v d → D.rt v H
  | .rx en C f => ∀ B H σ dd, Sd K B0 H0 B H σ en → XF K B H dd f → W (.ref C) dd σ H
def ST (K : PySem.W.Frag) (W : WX) (t : TS) (en : List Sl) (o : Out) : Prop := ∀ B0 H0 B H σ, Sd K B0 H0 B H σ en → ∀ D : Ends, Fi K W B0 H0 D o → t D σ H
/-- forgotten slots -/
inductive Wk : List Sl → List Sl → Prop
  | nil : Wk [] []
  | no {x : Sl} {xs ys : List Sl} (t : Wk xs ys) : Wk (x :: xs) (.no :: ys)
  | eq {x : Sl} {xs ys : List Sl} (t : Wk xs ys) : Wk (x :: xs) (x :: ys)
section
variable {K : PySem.W.Frag} {W : WX} {E : XK} {B B' H H' H0 B0 B1 H1 : Hp} {σ : L2.St} {en en' e1 e2 : List Sl} {te ta tb tl : TE} {d d1 d2 : Da} {o : Out} {ds es : List Da} {t u tbd : TS} {C : Addr} {f : Option (Str × Da)}
theorem Wk.refl : ∀ e : List Sl, Wk e e
  | [] => .nil
  | _ :: r => .eq (Wk.refl r)
theorem Wk.len : ∀ {e1 e2 : List Sl}, Wk e1 e2 → e1.length = e2.length
  | _, _, .nil => rfl
  | _, _, .no t => congrArg (· + 1) (Wk.len t)
  | _, _, .eq t => congrArg (· + 1) (Wk.len t)
theorem Wk.at : ∀ {e1 e2 : List Sl} {i : Nat} {y : Sl}, Wk e1 e2 → e2[i]? = some y → y = .no ∨ e1[i]? = some y
  | _, _, _, _, .nil, e => by simp at e
  | _, _, 0, _, .no _, e => by simp at e; exact .inl e.symm
  | _, _, 0, _, .eq _, e => by simp at e; exact .inr (by simp [e])
  | _, _, i + 1, _, .no t, e => by simpa using Wk.at (i := i) t (by simpa using e)
  | _, _, i + 1, _, .eq t, e => by simpa using Wk.at (i := i) t (by simpa using e)
theorem Sd.weak (S : Sd K B0 H0 B H σ e1) (w : Wk e1 e2) : Sd K B0 H0 B H σ e2 :=
  ⟨S.gr, paired_ix ((Paired.length S.sl).trans w.len) fun i x y hx hy => by
    rcases w.at hy with h | h
    · rw [h]; exact .no _
    · exact paired_at S.sl hx h, fun i j p ds es h1 h2 hx hy h3 h4 => by
    rcases w.at h1 with h | h
    · rw [h] at hx; cases hx
    · rcases w.at h2 with k | k
      · rw [k] at hy; cases hy
      · exact S.sep i j p ds es h k hx hy h3 h4⟩
/-- another begin: what is data by now -/
theorem Sd.rebase (S : Sd K B0 H0 B H σ en) : Sd K B H0 B H σ en := ⟨⟨Ex.refl _, S.gr.h, S.gr.s, fun _ _ h => h, fun _ _ h => h⟩, S.sl, S.sep⟩
theorem Gr.base (a : Gr B0 H0 B1 H1) (b : Gr B1 H0 B H) : Gr B0 H0 B H := ⟨a.b.trans b.b, b.h, b.s, fun p h1 h2 => b.n p h1 (a.n p h1 h2), fun p ps e => a.q p ps (b.q p ps e)⟩
theorem Sd.base (a : Gr B0 H0 B1 H1) (S : Sd K B1 H0 B H σ en) : Sd K B0 H0 B H σ en := ⟨a.base S.gr, S.sl, S.sep⟩
theorem st_weak (h : ST K W t en (.nx e1)) (w : Wk e1 e2) : ST K W t en (.nx e2) := fun B0 H0 B H σ S D k => h B0 H0 B H σ S D fun B' H' σ' S' => k B' H' σ' (S'.weak w)
theorem st_next : ST K W tNext en (.nx en) := fun _ _ _ _ _ S _ k => k _ _ _ S
theorem st_seq (h : ST K W t en (.nx e1)) (h2 : ST K W u e1 o) : ST K W (tSeq t u) en o := fun B0 H0 B H σ S D k =>
  h B0 H0 B H σ S { D with nx := u D } fun B' H' σ' S' => h2 B0 H0 B' H' σ' S' D k
theorem st_stop (h : ST K W t en o) (ho : ∀ e, o ≠ .nx e) : ST K W (tSeq t u) en o := fun B0 H0 B H σ S D k => h B0 H0 B H σ S { D with nx := u D } (by
  cases o with
  | nx e => exact absurd rfl (ho e)
  | rt d => exact k
  | bk d => exact k
  | ct d => exact k
  | rx e C f => exact k
  | rw d e => exact k
  | ro ds => exact k)
theorem st_asg {i : Nat} (h : EX K W te en (.ok d)) : ST K W (tAsg te (gName i)) en (.nx (en.set i (.da d))) := fun B0 H0 B H σ S D k =>
  h _ _ B H σ S _ fun v B' H' g r => k B' H' _ ((S.grow g).set r i)
theorem st_asgL {i : Nat} (h : EL K te en ds) : ST K W (tAsg te (gName i)) en (.nx (en.set i (.own ds))) := fun B0 H0 B H σ S D k =>
  h _ _ B H σ S _ fun p vs B' H' g h0 hb h1 r => k B' H' _ (S.setOwn g h0 hb h1 r i)
theorem ko_err (S : Sd K B0 H0 B H σ en) {Q : VK} (k : ∀ B H σ dd, Sd K B0 H0 B H σ en → XF K B H dd f → W (.ref C) dd σ H) : Ko K (fun c d H' => W c d σ H') B H Q (.err C f) := fun dd B' H' g x => k B' H' σ dd (S.grow g) x
theorem st_asgX {g : TG} (h : EX K W te en (.err C f)) : ST K W (tAsg te g) en (.rx en C f) := fun B0 H0 B H σ S D k => h _ _ B H σ S _ (ko_err S k)
theorem st_dropX (h : EX K W te en (.err C f)) : ST K W (tDrop te) en (.rx en C f) := fun B0 H0 B H σ S D k => h _ _ B H σ S _ (ko_err S k)
theorem st_retX (h : EX K W te en (.err C f)) : ST K W (tRet te) en (.rx en C f) := fun B0 H0 B H σ S D k => h _ _ B H σ S _ (ko_err S k)
theorem st_drop (h : EX K W te en (.ok d)) : ST K W (tDrop te) en (.nx en) := fun B0 H0 B H σ S D k => h _ _ B H σ S _ fun v B' H' g r => k B' H' σ (S.grow g)
theorem st_ret (h : EX K W te en (.ok d)) : ST K W (tRet te) en (.rt d) := fun B0 H0 B H σ S D k => h _ _ B H σ S _ fun v B' H' g r => k v B' H' (S.gr.trans g) r
theorem st_retN : ST K W tRetN en (.rt .non) := fun B0 H0 B H σ S D k => k .non B H S.gr .non
def ET (K : PySem.W.Frag) (tt : TT) (en : List Sl) (b : Bool) : Prop := ∀ B0 H0 B H σ, Sd K B0 H0 B H σ en → ∀ Q : Bool → Hp → Prop, (∀ B' H', Gr B H B' H' → Q b H') → tt σ H Q
theorem et_val {b : Bool} (h : EX K W te en (.ok (.bl b))) : ET K (tB te) en b := fun _ _ B H σ S Q k => h _ _ B H σ S _ fun v B' H' g r => by
  cases r
  exact ⟨b, rfl, k B' H' g⟩
theorem et_not {tt : TT} {b : Bool} (h : ET K tt en b) : ET K (tNot tt) en (!b) := fun _ _ B H σ S Q k => h _ _ B H σ S _ fun B' H' g => k B' H' g
theorem et_andT {tt tu : TT} {b : Bool} (h : ET K tt en true) (h2 : ET K tu en b) : ET K (tAnd tt tu) en b := fun _ _ B H σ S Q k => h _ _ B H σ S _ fun B' H' g => iteT (h2 _ _ B' H' σ (S.grow g) _ fun B2 H2 g2 => k B2 H2 (g.trans g2))
theorem et_andF {tt tu : TT} (h : ET K tt en false) : ET K (tAnd tt tu) en false := fun _ _ B H σ S Q k => h _ _ B H σ S _ fun B' H' g => iteF (k B' H' g)
theorem et_orF {tt tu : TT} {b : Bool} (h : ET K tt en false) (h2 : ET K tu en b) : ET K (tOr tt tu) en b := fun _ _ B H σ S Q k => h _ _ B H σ S _ fun B' H' g => iteF (h2 _ _ B' H' σ (S.grow g) _ fun B2 H2 g2 => k B2 H2 (g.trans g2))
theorem et_orT {tt tu : TT} (h : ET K tt en true) : ET K (tOr tt tu) en true := fun _ _ B H σ S Q k => h _ _ B H σ S _ fun B' H' g => iteT (k B' H' g)
theorem st_ifT {tt : TT} (h : ET K tt en true) (k : ST K W t en o) : ST K W (tIfS tt t u) en o := fun B0 H0 B H σ S D q =>
  h _ _ B H σ S _ fun B' H' g => iteT (k B0 H0 B' H' σ (S.grow g) D q)
theorem st_ifF {tt : TT} (h : ET K tt en false) (k : ST K W u en o) : ST K W (tIfS tt t u) en o := fun B0 H0 B H σ S D q =>
  h _ _ B H σ S _ fun B' H' g => iteF (k B0 H0 B' H' σ (S.grow g) D q)
theorem st_freeze {i : Nat} (he : en[i]? = some (.own ds)) (k : ST K W t (en.set i (.da (.lst ds))) o) : ST K W t en o := fun B0 H0 B H σ S D q => by
  obtain ⟨B', S', _⟩ := S.freeze he
  exact k B0 H0 B' H σ S' D q
/-- xs.append(e), xs an own list -/
theorem st_app {i : Nat} (he : en[i]? = some (.own ds)) (h : EX K W te en (.ok d)) (hz : ds.length < 100000) : ST K W (tDrop (tBM K "list" rAppend (tVar i) (tCons te tNil))) en (.nx (en.set i (.own (ds ++ [d])))) := fun B0 H0 B H σ S D k => by
  obtain ⟨p, vs, e1, _, _, e2, t⟩ := S.ownAt he
  refine ⟨_, e1, Or.inl ⟨rfl, vs, sq_of e2⟩, h _ _ B H σ S _ fun v B' H' g r => ?_⟩
  obtain ⟨p', vs', e1', _, _, e2', t'⟩ := (S.grow g).ownAt he
  rw [e1] at e1'
  cases e1'
  exact ⟨p, vs', v, rfl, rfl, e2', by rw [t'.length]; exact sz_lt hz, k B' _ σ ((S.grow g).mut he e1 (t'.append (.cons r .nil)))⟩
/-- a, b = x, y -/
theorem st_par {i j : Nat} {tx : TA} (h : EA K tx en [d1, d2]) : ST K W (tPar i j tx) en (.nx ((en.set i (.da d1)).set j (.da d2))) := fun B0 H0 B H σ S D k =>
  h _ _ B H σ S _ fun vs B' H' g r => by
    cases r with
    | cons r1 r2 =>
      cases r2 with
      | cons r2 r3 =>
        cases r3
        exact ⟨_, _, rfl, k B' H' _ (((S.grow g).set r1 i).set r2 j)⟩
/-! unpacking -/
def gNames : List Nat → TGs
  | [] => gNil
  | i :: r => gCons (gName i) (gNames r)
def setAll : List Sl → List Nat → List Da → List Sl
  | en, i :: is, d :: ds => setAll (en.set i (.da d)) is ds
  | en, _, _ => en
theorem gn_set : ∀ {is : List Nat} {vs : List V} {ds : List Da} {σ : L2.St} {en : List Sl} {Q : L2.St → Hp → Prop}, Sd K B0 H0 B H σ en → DrA K B vs ds → ds.length = is.length → (∀ σ', Sd K B0 H0 B H σ' (setAll en is ds) → Q σ' H) → gNames is vs σ H Q
  | [], _, _, σ, en, Q, S, .nil, _, k => ⟨rfl, k σ S⟩
  | i :: is, _, _, σ, en, Q, S, .cons h t, l, k => ⟨_, _, rfl, gn_set (is := is) (S.set h i) t (by simpa using l) k⟩
theorem st_unT {is : List Nat} {n : Nat} (h : EX K W te en (.ok (.tup ds))) (hl : ds.length = n) (hi : ds.length = is.length) : ST K W (tAsg te (gTup K n (gNames is))) en (.nx (setAll en is ds)) := fun B0 H0 B H σ S D k =>
  h _ _ B H σ S _ fun v B' H' g r => by
    cases r with
    | tup h t => exact ⟨_, _, rfl, ex_t g.s h, by rw [t.length, hl], gn_set (S.grow g) t hi fun σ' S' => k B' H' σ' S'⟩
theorem st_unL {is : List Nat} {n : Nat} (h : EX K W te en (.ok (.lst ds))) (hl : ds.length = n) (hi : ds.length = is.length) : ST K W (tAsg te (gLst K n (gNames is))) en (.nx (setAll en is ds)) := fun B0 H0 B H σ S D k =>
  h _ _ B H σ S _ fun v B' H' g r => by
    cases r with
    | lst h t => exact ⟨_, _, rfl, ex_l g.s h, by rw [t.length, hl], gn_set (S.grow g) t hi fun σ' S' => k B' H' σ' S'⟩
/-! loops -/
theorem fi_turn {Pv : L2.St → Hp → Prop} {D : Ends} (hnx : Fi K W B0 H0 D o → True) : True := trivial
/-- over a list: m turns that go on, then the end or a turn that leaves -/
theorem st_forL {j : Nat} (F : Nat → List Sl) (h : EX K W tl en (.ok (.lst ds))) (h0 : F 0 = en) (ht : ∀ i d, ds[i]? = some d → ST K W tbd ((F i).set j (.da d)) (.nx (F (i + 1)))) : ST K W (tFor (iList K tl) (gName j) tbd) en (.nx (F ds.length)) := fun B0 H0 B H σ S D k =>
  h _ _ B H σ S _ fun v B1 H1 g r => by
    cases r with
    | @lst a vs ds hq t =>
      have S1 := S.grow g
      refine ⟨a, rfl, ⟨vs, ex_l g.s hq⟩, for_list (fun i σ' H' => ∃ B', Sd K B1 H0 B' H' σ' (F i)) ⟨B1, by rw [h0]; exact S1.rebase⟩ (fun i σ' H' _ ⟨B', S'⟩ => ex_l (S'.gr.b.trans S'.gr.s) hq) (fun i x σ' H' hx ⟨B', S'⟩ => ?_) (fun σ' H' ⟨B', S'⟩ => ?_)⟩
      · obtain ⟨d, hd⟩ : ∃ d, ds[i]? = some d := by
          have := (List.getElem?_eq_some_iff.mp hx).1
          rw [t.length] at this
          exact ⟨ds[i], List.getElem?_eq_getElem this⟩
        obtain ⟨x', hx', rx⟩ := t.get hd
        rw [hx] at hx'
        cases hx'
        exact ht i d hd B1 H0 B' H' _ (S'.set (rx.mono S'.gr.b) j) _ fun B2 H2 σ2 S2 => ⟨B2, S2⟩
      · rw [t.length] at S'
        exact k B' H' σ' (S'.base S1.gr)
/-- .. a turn m leaves by o -/
theorem st_forLX {j m : Nat} (F : Nat → List Sl) (h : EX K W tl en (.ok (.lst ds))) (h0 : F 0 = en) (ht : ∀ i d, i < m → ds[i]? = some d → ST K W tbd ((F i).set j (.da d)) (.nx (F (i + 1)))) (hm : ds[m]? = some d) (hx : ST K W tbd ((F m).set j (.da d)) o) (ho : ∃ d', o = .rt d' ∨ ∃ e C f, o = .rx e C f) :
    ST K W (tFor (iList K tl) (gName j) tbd) en o := fun B0 H0 B H σ S D k =>
  h _ _ B H σ S _ fun v B1 H1 g r => by
    cases r with
    | @lst a vs ds hq t =>
      have S1 := S.grow g
      refine ⟨a, rfl, ⟨vs, ex_l g.s hq⟩, for_list (fun i σ' H' => i ≤ m ∧ ∃ B', Sd K B1 H0 B' H' σ' (F i)) ⟨Nat.zero_le _, B1, by rw [h0]; exact S1.rebase⟩ (fun i σ' H' _ ⟨_, B', S'⟩ => ex_l (S'.gr.b.trans S'.gr.s) hq) (fun i x σ' H' hx' ⟨hi, B', S'⟩ => ?_) (fun σ' H' ⟨hi, B', S'⟩ => ?_)⟩
      · obtain ⟨d2, hd⟩ : ∃ d, ds[i]? = some d := by
          have := (List.getElem?_eq_some_iff.mp hx').1
          rw [t.length] at this
          exact ⟨ds[i], List.getElem?_eq_getElem this⟩
        obtain ⟨x', hx2, rx⟩ := t.get hd
        rw [hx'] at hx2
        cases hx2
        rcases Nat.lt_or_ge i m with hlt | hge
        · exact ht i d2 hlt hd B1 H0 B' H' _ (S'.set (rx.mono S'.gr.b) j) _ fun B2 H2 σ2 S2 => ⟨hlt, B2, S2⟩
        · have e : i = m := by omega
          subst e
          rw [hm] at hd
          cases hd
          refine hx B1 H0 B' H' _ (S'.set (rx.mono S'.gr.b) j) _ ?_
          obtain ⟨d', rfl | ⟨e, C, f, rfl⟩⟩ := ho
          · exact fun v B2 H2 g2 r2 => k v B2 H2 (S1.gr.base g2) r2
          · exact fun B2 H2 σ2 dd S2 x2 => k B2 H2 σ2 dd (S2.base S1.gr) x2
      · have := (List.getElem?_eq_some_iff.mp hm).1
        rw [t.length] at hi
        omega
/-- over range(n) -/
theorem st_forR {j n : Nat} {tx : TA} (F : Nat → List Sl) (h : EA K tx en [.int (n : Int)]) (hn : n ≤ 100000) (h0 : F 0 = en) (ht : ∀ i : Nat, i < n → ST K W tbd ((F i).set j (.da (.int (i : Int)))) (.nx (F (i + 1)))) : ST K W (tFor (iRng1 tx) (gName j) tbd) en (.nx (F n)) := fun B0 H0 B H σ S D k =>
  h _ _ B H σ S _ fun vs B1 H1 g r => by
    cases r with
    | cons r r2 =>
      cases r2
      cases r
      have S1 := S.grow g
      refine ⟨n, rfl, by omega, by omega, for_range (lo := 0) (n := (n : Int).toNat) (fun i σ' H' => ∃ B', Sd K B1 H0 B' H' σ' (F i)) ⟨B1, by rw [h0]; exact S1.rebase⟩ (fun i σ' H' hi ⟨B', S'⟩ => ?_) (fun σ' H' ⟨B', S'⟩ => ?_)⟩
      · have e0 : (0 : Int) + (i : Int) = (i : Int) := Int.zero_add _
        rw [e0]
        exact ht i (by omega) B1 H0 B' H' _ (S'.set (.int _) j) _ fun B2 H2 σ2 S2 => ⟨B2, S2⟩
      · rw [Int.toNat_natCast] at S'
        exact k B' H' σ' (S'.base S1.gr)
/-- a while of m turns -/
theorem st_while {m : Nat} {tt : TT} (F : Nat → List Sl) (h0 : F 0 = en) (hc : ∀ i, i < m → ET K tt (F i) true) (ht : ∀ i, i < m → ST K W tbd (F i) (.nx (F (i + 1)))) (he : ET K tt (F m) false) : ST K W (tWhile tt tbd) en (.nx (F m)) := fun B0 H0 B H σ S D k => by
  refine ⟨fun q σ' H' => ∃ i, q = m - i ∧ i ≤ m ∧ ∃ B', Sd K B0 H0 B' H' σ' (F i), ⟨m, 0, rfl, Nat.zero_le _, B, by rw [h0]; exact S⟩, fun q σ' H' ⟨i, e, hi, B', S'⟩ => ?_⟩
  rcases Nat.lt_or_ge i m with hlt | hge
  · refine hc i hlt _ _ B' H' σ' S' _ fun B2 H2 g => ?_
    refine ⟨fun σ2 H2 => ∃ B2, Sd K B0 H0 B2 H2 σ2 (F (i + 1)), fun σ2 H2 ⟨B2, S2⟩ => ⟨m - (i + 1), by omega, i + 1, rfl, hlt, B2, S2⟩, ?_⟩
    exact ht i hlt B0 H0 B2 H2 σ' (S'.grow g) _ fun B3 H3 σ3 S3 => ⟨B3, S3⟩
  · have e : i = m := by omega
    subst e
    exact he _ _ B' H' σ' S' _ fun B2 H2 g => k B2 H2 σ' (S'.grow g)
end
end Sky
namespace Sky
open PySem L2 Evl PySem.Spec PyProof.Rows
structure Bd (X : Cx) (W : WX) (k : Nat) : Prop where
  calm : X.calm = true
  tk : Takes X W
  own : PassesOwn (model X.prog X.w) X.A X.env X.xe
  rm : Room k X.A
  nd : X.N.Nodup
structure EV (X : Cx) (W : WX) (en : List Sl) (e : Expr) (o : XO) : Prop where
  ex : ∃ t, PE X e t ∧ EX X.K W t en o
structure EVA (X : Cx) (W : WX) (en : List Sl) (es : List Expr) (ds : List Da) : Prop where
  ex : ∃ t, PA X es t ∧ EA X.K t en ds
structure EVL (X : Cx) (W : WX) (en : List Sl) (e : Expr) (ds : List Da) : Prop where
  ex : ∃ t, PE X e t ∧ EL X.K t en ds
structure SV (X : Cx) (W : WX) (en : List Sl) (s : Stmt) (o : Out) : Prop where
  ex : ∃ t, PS X s t ∧ ST X.K W t en o
structure SVs (X : Cx) (W : WX) (en : List Sl) (ss : List Stmt) (o : Out) : Prop where
  ex : ∃ t, PSs X ss t ∧ ST X.K W t en o
structure EVT (X : Cx) (W : WX) (en : List Sl) (c : Expr) (b : Bool) : Prop where
  ex : ∃ t, PT X c t ∧ ET X.K t en b
structure EVW (X : Cx) (W : WX) (en : List Sl) (c : Expr) (b : Bool) : Prop where
  ex : ∃ t, PW X c t ∧ ET X.K t en b
theorem pw_none {X : Cx} {e : Expr} : PW X e (fun _ _ _ => False) := ⟨fun _ _ _ _ _ _ _ h => h.elim⟩
theorem pe_none {X : Cx} {e : Expr} : PE X e (fun _ _ _ => False) := ⟨fun _ _ _ _ _ _ h => h.elim⟩
section
variable {X : Cx} {W : WX} {k : Nat} {en en' e1 e2 : List Sl} {e a b c : Expr} {es rest : List Expr} {pos p pos' p2 : Pos} {d d1 d2 : Da} {o : XO} {ou : Out} {ds ds1 ds2 : List Da} {i j : Int} {x : Str} {u v : Bool} {ss s1 s2 : List Stmt} {st : Stmt} {C : Addr} {f : Option (Str × Da)}
/-! ### expressions -/
theorem ev_int {q} : EV X W en (.Constant (.int i) q pos) (.ok (.int i)) := ⟨_, pe_int, ex_c fun _ _ => .int i⟩
theorem ev_bl {q} : EV X W en (.Constant (.bool u) q pos) (.ok (.bl u)) := ⟨_, pe_bl, ex_c fun _ _ => .bl u⟩
theorem ev_non {q} : EV X W en (.Constant .none q pos) (.ok .non) := ⟨_, pe_non, ex_c fun _ _ => .non⟩
theorem ev_str {q} : EV X W en (.Constant (.str x) q pos) (.ok (.str x)) := ⟨_, pe_str, ex_c fun _ _ => .str x⟩
theorem ev_name {n : Nat} (hN : X.N.idxOf? x = some n) (hv : Vis X.env.scope x) (h : en[n]? = some (.da d)) (hN2 : X.N[n]? = some x) (hd : (x == ("__debug__" : Str)) = false) (hc : (x == ("__classdict__" : Str)) = false) : EV X W en (.Name x pos) (.ok d) := ⟨_, pe_var hN2 hv hd hc, ex_var h⟩
theorem ev_ty {n : String} (hg : Gl X x) (hm : X.mg x = none) (hv : bootBuiltins x = some (.type n)) (hn : x ≠ "__name__") (hd : (x == ("__debug__" : Str)) = false) : EV X W en (.Name x pos) (.ok (.ty n)) := ⟨_, pe_bltn (v := .ty n) hg hm hv rfl hn hd, ex_c fun _ _ => .ty n⟩
/-- a name of the module that holds data of the written part -/
theorem ev_glob {v : V} {w : Value} (hg : Gl X x) (hm : X.mg x = some w) (r : RelV v w) (hd : (x == ("__debug__" : Str)) = false) (h : ∀ B, Dr X.K B v d) : EV X W en (.Name x pos) (.ok d) := ⟨_, pe_glob hg hm r hd, ex_cK h⟩
theorem eva_nil : EVA X W en [] [] := ⟨_, pa_nil, ea_nil⟩
theorem eva_cons (h : EV X W en e (.ok d)) (t : EVA X W en es ds) (hs : starEach (e :: es) X.env = (false, eval e X.env) :: starEach es X.env) : EVA X W en (e :: es) (d :: ds) := by
  obtain ⟨te, h1, h2⟩ := h
  obtain ⟨tr, h3, h4⟩ := t
  exact ⟨_, pa_cons h1 h3 hs, ea_cons h2 h4⟩
theorem ev_op {op : Operator} {r : R2} (ho : OpR X (binaryOp op) r) (ha : EV X W en a (.ok d1)) (hb : EV X W en b (.ok d2)) (hr : RV X.K r d1 d2 d) : EV X W en (.BinOp a op b pos) (.ok d) := by
  obtain ⟨te, h1, h2⟩ := ha
  obtain ⟨tr, h3, h4⟩ := hb
  exact ⟨_, pe_op ho h1 h3, ex_op h2 h4 hr⟩
theorem ev_add (ha : EV X W en a (.ok (.int i))) (hb : EV X W en b (.ok (.int j))) : EV X W en (.BinOp a .Add b pos) (.ok (.int (i + j))) := ev_op op_add ha hb (rv_I0 fun _ _ => .int _)
theorem ev_sub (ha : EV X W en a (.ok (.int i))) (hb : EV X W en b (.ok (.int j))) : EV X W en (.BinOp a .Sub b pos) (.ok (.int (i - j))) := ev_op op_sub ha hb (rv_I0 fun _ _ => .int _)
theorem ev_mul (ha : EV X W en a (.ok (.int i))) (hb : EV X W en b (.ok (.int j))) (hc : CMulW i j) : EV X W en (.BinOp a .Mult b pos) (.ok (.int (i * j))) := ev_op op_mulW ha hb (rv_I hc fun _ _ => .int _)
theorem ev_fdiv (ha : EV X W en a (.ok (.int i))) (hb : EV X W en b (.ok (.int j))) (hc : CDivW i j) : EV X W en (.BinOp a .FloorDiv b pos) (.ok (.int (i / j))) := ev_op op_fdivW ha hb (rv_I hc fun _ _ => .int _)
def CDivZ (_ j : Int) : Prop := j ≠ 0 ∧ j.natAbs.log2 < 9000
theorem op_fdivZ : OpR X (binaryOp .FloorDiv) (rI CDivZ fun i j => .int (i.fdiv j)) := opI fun i j _ _ _ _ _ hc q => PyProof.Rows.floordiv_int hc.1 q (.inl (PyProof.noPylong_of_log2 hc.2))
theorem ev_fdivZ (ha : EV X W en a (.ok (.int i))) (hb : EV X W en b (.ok (.int j))) (hc : CDivZ i j) : EV X W en (.BinOp a .FloorDiv b pos) (.ok (.int (i.fdiv j))) := ev_op op_fdivZ ha hb (rv_I hc fun _ _ => .int _)
theorem ev_mod (ha : EV X W en a (.ok (.int i))) (hb : EV X W en b (.ok (.int j))) (hc : 0 < j) : EV X W en (.BinOp a .Mod b pos) (.ok (.int (i % j))) := ev_op op_mod ha hb (rv_I hc fun _ _ => .int _)
theorem ev_pow (ha : EV X W en a (.ok (.int i))) (hb : EV X W en b (.ok (.int j))) (hc : CPow i j) : EV X W en (.BinOp a .Pow b pos) (.ok (.int (i ^ j.toNat))) := ev_op op_pow ha hb (rv_I hc fun _ _ => .int _)
theorem ev_neg (ha : EV X W en a (.ok (.int i))) : EV X W en (.UnaryOp .USub a pos) (.ok (.int (-i))) := by
  obtain ⟨te, h1, h2⟩ := ha
  exact ⟨_, pe_un un_neg h1, ex_un h2 fun B H x e r Q k => by cases r; exact ⟨i, rfl, k _ B H (Gr.refl e) (.int _)⟩⟩
theorem ev_cmp {op : CmpOp} {r : R2} (ho : OpR X (compareOp op) r) (ha : EV X W en a (.ok d1)) (hb : EV X W en b (.ok d2)) (hr : RV X.K r d1 d2 d) (hm : behindInMarks op b = false) : EV X W en (.Compare a [op] [b] pos) (.ok d) := by
  obtain ⟨te, h1, h2⟩ := ha
  obtain ⟨tr, h3, h4⟩ := hb
  exact ⟨_, pe_cmpR ho h1 h3 hm, ex_op h2 h4 hr⟩
theorem ev_lt (ha : EV X W en a (.ok (.int i))) (hb : EV X W en b (.ok (.int j))) : EV X W en (.Compare a [.Lt] [b] pos) (.ok (.bl (decide (i < j)))) := ev_cmp op_lt ha hb (rv_I0 fun _ _ => .bl _) (nomark _)
theorem ev_le (ha : EV X W en a (.ok (.int i))) (hb : EV X W en b (.ok (.int j))) : EV X W en (.Compare a [.LtE] [b] pos) (.ok (.bl (decide (i ≤ j)))) := ev_cmp op_le ha hb (rv_I0 fun _ _ => .bl _) (nomark _)
theorem ev_gt (ha : EV X W en a (.ok (.int i))) (hb : EV X W en b (.ok (.int j))) : EV X W en (.Compare a [.Gt] [b] pos) (.ok (.bl (decide (j < i)))) := ev_cmp op_gt ha hb (rv_I0 fun _ _ => .bl _) (nomark _)
theorem ev_ge (ha : EV X W en a (.ok (.int i))) (hb : EV X W en b (.ok (.int j))) : EV X W en (.Compare a [.GtE] [b] pos) (.ok (.bl (decide (j ≤ i)))) := ev_cmp op_ge ha hb (rv_I0 fun _ _ => .bl _) (nomark _)
theorem ev_eq (Bx : Bd X W k) (ha : EV X W en a (.ok d1)) (hb : EV X W en b (.ok d2)) (h1 : Cmp d1) (h2 : Cmp d2) : EV X W en (.Compare a [.Eq] [b] pos) (.ok (.bl (deq d1 d2))) := ev_cmp (op_eqD Bx.rm.units) ha hb (rv_eq h1 h2) (nomark _)
theorem ev_ne (Bx : Bd X W k) (ha : EV X W en a (.ok d1)) (hb : EV X W en b (.ok d2)) (h1 : Cmp d1) (h2 : Cmp d2) : EV X W en (.Compare a [.NotEq] [b] pos) (.ok (.bl (!deq d1 d2))) := ev_cmp (op_neD Bx.rm.units) ha hb (rv_ne h1 h2) (nomark _)
theorem ev_isN (ha : EV X W en a (.ok d1)) (hb : EV X W en b (.ok .non)) : EV X W en (.Compare a [.Is] [b] pos) (.ok (.bl (isNon d1))) := ev_cmp op_isN ha hb rv_isN (nomark _)
theorem ev_notN (ha : EV X W en a (.ok d1)) (hb : EV X W en b (.ok .non)) : EV X W en (.Compare a [.IsNot] [b] pos) (.ok (.bl (!isNon d1))) := ev_cmp op_notN ha hb rv_notN (nomark _)
/-- a truth by its value -/
theorem EV.is (h : EV X W en e (.ok (.bl u))) (q : u = v) : EV X W en e (.ok (.bl v)) := q ▸ h
theorem EV.to (h : EV X W en e (.ok d1)) (q : d1 = d2) : EV X W en e (.ok d2) := q ▸ h
theorem ev_one {op} (h : EV X W en a o) : EV X W en (.BoolOp op [a] pos) o := by
  obtain ⟨t, h1, h2⟩ := h
  exact ⟨t, pe_one h1, h2⟩
theorem ev_andT (ha : EV X W en a (.ok (.bl true))) (hb : EV X W en (.BoolOp .And (b :: rest) pos) (.ok d)) : EV X W en (.BoolOp .And (a :: b :: rest) pos) (.ok d) := by
  obtain ⟨te, h1, h2⟩ := ha
  obtain ⟨tr, h3, h4⟩ := hb
  exact ⟨_, pe_and h1 h3, ex_andT h2 h4⟩
theorem ev_andF (ha : EV X W en a (.ok (.bl false))) : EV X W en (.BoolOp .And (a :: b :: rest) pos) (.ok (.bl false)) := by
  obtain ⟨te, h1, h2⟩ := ha
  exact ⟨_, pe_and h1 pe_none, ex_andF h2⟩
theorem ev_and (ha : EV X W en a (.ok (.bl u))) (hb : u = true → EV X W en (.BoolOp .And (b :: rest) pos) (.ok (.bl v))) : EV X W en (.BoolOp .And (a :: b :: rest) pos) (.ok (.bl (u && v))) := by
  cases u with
  | true => exact ev_andT ha (hb rfl)
  | false => exact ev_andF ha
theorem ev_orF (ha : EV X W en a (.ok (.bl false))) (hb : EV X W en (.BoolOp .Or (b :: rest) pos) (.ok d)) : EV X W en (.BoolOp .Or (a :: b :: rest) pos) (.ok d) := by
  obtain ⟨te, h1, h2⟩ := ha
  obtain ⟨tr, h3, h4⟩ := hb
  exact ⟨_, pe_or h1 h3, ex_orF h2 h4⟩
theorem ev_orT (ha : EV X W en a (.ok (.bl true))) : EV X W en (.BoolOp .Or (a :: b :: rest) pos) (.ok (.bl true)) := by
  obtain ⟨te, h1, h2⟩ := ha
  exact ⟨_, pe_or h1 pe_none, ex_orT h2⟩
theorem ev_or (ha : EV X W en a (.ok (.bl u))) (hb : u = false → EV X W en (.BoolOp .Or (b :: rest) pos) (.ok (.bl v))) : EV X W en (.BoolOp .Or (a :: b :: rest) pos) (.ok (.bl (u || v))) := by
  cases u with
  | true => exact ev_orT ha
  | false => exact ev_orF ha (hb rfl)
theorem ev_not (ha : EV X W en a (.ok (.bl u))) : EV X W en (.UnaryOp .Not a pos) (.ok (.bl (!u))) := by
  obtain ⟨te, h1, h2⟩ := ha
  exact ⟨_, pe_not h1, ex_not h2⟩
theorem ev_tup {q} (h : EVA X W en es ds) (hl : ds.length ≤ 100000) : EV X W en (.Tuple es q pos) (.ok (.tup ds)) := by
  obtain ⟨t, h1, h2⟩ := h
  exact ⟨_, pe_tup h1, ex_tup h2 hl⟩
theorem evl_lst (h : EVA X W en es ds) (hl : ds.length ≤ 100000) : EVL X W en (.List es pos) ds := by
  obtain ⟨t, h1, h2⟩ := h
  exact ⟨_, pe_lst h1, el_lst h2 hl⟩
theorem EVL.ev (h : EVL X W en e ds) : EV X W en e (.ok (.lst ds)) := by
  obtain ⟨t, h1, h2⟩ := h
  exact ⟨t, h1, h2.ex⟩
theorem ev_lst (h : EVA X W en es ds) (hl : ds.length ≤ 100000) : EV X W en (.List es pos) (.ok (.lst ds)) := (evl_lst h hl).ev
theorem ev_ixT (ha : EV X W en a (.ok (.tup ds))) (hb : EV X W en b (.ok (.int i))) (hp : PlainIx b) (h : atI ds i = some d) : EV X W en (.Subscript a b pos) (.ok d) := by
  obtain ⟨te, h1, h2⟩ := ha
  obtain ⟨tr, h3, h4⟩ := hb
  exact ⟨_, pe_ix ix_tup h1 h3 hp, ex_op h2 h4 (rv_ixT h)⟩
theorem ev_ixL (ha : EV X W en a (.ok (.lst ds))) (hb : EV X W en b (.ok (.int i))) (hp : PlainIx b) (h : atI ds i = some d) : EV X W en (.Subscript a b pos) (.ok d) := by
  obtain ⟨te, h1, h2⟩ := ha
  obtain ⟨tr, h3, h4⟩ := hb
  exact ⟨_, pe_ix ix_list h1 h3 hp, ex_op h2 h4 (rv_ixL h)⟩
theorem ev_ixO {n : Nat} (hN : X.N.idxOf? x = some n) (hv : Vis X.env.scope x) (ho : en[n]? = some (.own ds)) (hN2 : X.N[n]? = some x) (hd : (x == ("__debug__" : Str)) = false) (hc : (x == ("__classdict__" : Str)) = false) (hb : EV X W en b (.ok (.int i))) (hp : PlainIx b) (h : atI ds i = some d) : EV X W en (.Subscript (.Name x p) b pos) (.ok d) := by
  obtain ⟨tr, h3, h4⟩ := hb
  exact ⟨_, pe_ix ix_list (pe_var hN2 hv hd hc) h3 hp, ex_ixO ho h4 h⟩
/-! slices of data lists -/
def cutD (xs : List Da) (lo hi : Option Int) : List Da := (xs.drop (HT.sIx xs.length 0 lo)).take (HT.sIx xs.length xs.length hi - HT.sIx xs.length 0 lo)
def EO (K : PySem.W.Frag) (to : TO) (en : List Sl) (q : Option Int) : Prop := ∀ B0 H0 B H σ, Sd K B0 H0 B H σ en → ∀ Q : Option Int → Hp → Prop, (∀ B' H', Gr B H B' H' → Q q H') → to σ H Q
structure EVO (X : Cx) (W : WX) (en : List Sl) (e : Option Expr) (q : Option Int) : Prop where
  ex : ∃ t, PO X e t ∧ EO X.K t en q
theorem evo_none : EVO X W en none none := ⟨_, po_none, fun _ _ B H σ S Q k => k B H (Gr.refl S.eb)⟩
theorem evo_some (h : EV X W en e (.ok (.int i))) : EVO X W en (some e) (some i) := by
  obtain ⟨t, h1, h2⟩ := h
  exact ⟨_, po_some h1, fun _ _ B H σ S Q k => h2 _ _ B H σ S _ fun v B' H' g r => by cases r; exact ⟨i, rfl, k B' H' g⟩⟩
theorem evl_sl {lo hi : Option Expr} {q1 q2 : Option Int} (ha : EV X W en a (.ok (.lst ds))) (h1 : EVO X W en lo q1) (h2 : EVO X W en hi q2) : EVL X W en (.Subscript a (.Slice lo hi none p2) pos) (cutD ds q1 q2) := by
  obtain ⟨te, a1, a2⟩ := ha
  obtain ⟨tl, b1, b2⟩ := h1
  obtain ⟨th, c1, c2⟩ := h2
  refine ⟨_, pe_slice sl_list a1 b1 c1, fun B0 H0 B H σ S Q k => a2 _ _ B H σ S _ fun v B1 H1 g1 r1 => ?_⟩
  refine b2 _ _ B1 H1 σ (S.grow g1) _ fun B2 H2 g2 => c2 _ _ B2 H2 σ (S.grow (g1.trans g2)) _ fun B3 H3 g3 => ?_
  cases r1 with
  | @lst a vs _ h t =>
    have g := g1.trans (g2.trans g3)
    refine ⟨a, vs, rfl, ex_l g3.s (ex_l (g2.b.trans g3.b) h), fun p hp => k p _ B3 _ (g.trans (Gr.newO g3.s hp)) (g.back hp) (fresh_back g3.s hp) upd_same ?_⟩
    have l := t.length
    unfold cutV cutD
    rw [l]
    exact ((t.drop _).take _).mono (g2.b.trans g3.b)
theorem ev_sl {lo hi : Option Expr} {q1 q2 : Option Int} (ha : EV X W en a (.ok (.lst ds))) (h1 : EVO X W en lo q1) (h2 : EVO X W en hi q2) : EV X W en (.Subscript a (.Slice lo hi none p2) pos) (.ok (.lst (cutD ds q1 q2))) := (evl_sl ha h1 h2).ev
/-! built-ins -/
theorem ev_cb {id : String} {r : List V → Hp → VK → Prop} (hc : CallR X (.builtin id) r) (ha : EVA X W en (e :: es) ds) (hr : RC X.K r ds d) (hg : Gl X x) (hm : X.mg x = none) (hv : bootBuiltins x = some (.builtin id)) (hn : x ≠ "__name__") (hd : (x == ("__debug__" : Str)) = false)
    (he : starEach (e :: es) X.env = (false, eval e X.env) :: starEach es X.env) (hpl : (backTo pos (starEach es X.env)).any (·.1) = false) : EV X W en (.Call (.Name x p) (e :: es) [] pos) (.ok d) := by
  obtain ⟨t, h1, h2⟩ := ha
  exact ⟨_, pe_callB hc hg hm hv h1 hn hd he hpl, ex_cb h2 hr⟩
theorem ev_ct {T : String} {r : List V → Hp → VK → Prop} (hc : CallR X (.type T) r) (ha : EVA X W en (e :: es) ds) (hr : RC X.K r ds d) (hg : Gl X x) (hm : X.mg x = none) (hv : bootBuiltins x = some (.type T)) (hn : x ≠ "__name__") (hd : (x == ("__debug__" : Str)) = false)
    (he : starEach (e :: es) X.env = (false, eval e X.env) :: starEach es X.env) (hpl : (backTo pos (starEach es X.env)).any (·.1) = false) : EV X W en (.Call (.Name x p) (e :: es) [] pos) (.ok d) := by
  obtain ⟨t, h1, h2⟩ := ha
  exact ⟨_, pe_callTy hc hg hm hv h1 hn hd he hpl, ex_cb h2 hr⟩
theorem ev_cf {id : String} {r : List V → Hp → VK → Prop} (hc : CallR X (.builtin id) r) (ha : EVA X W en (e :: es) ds) (hr : RC X.K r ds d) (hg : Gl X x) (hm : X.mg x = some (.builtin id)) (hd : (x == ("__debug__" : Str)) = false)
    (he : starEach (e :: es) X.env = (false, eval e X.env) :: starEach es X.env) (hpl : (backTo pos (starEach es X.env)).any (·.1) = false) : EV X W en (.Call (.Name x p) (e :: es) [] pos) (.ok d) := by
  obtain ⟨t, h1, h2⟩ := ha
  exact ⟨_, pe_callBfun hc hg hm h1 hd he hpl, ex_cb h2 hr⟩
theorem rc_gcd {K : PySem.W.Frag} : RC K rGcd [.int i, .int j] (.int ((Nat.gcd i.natAbs j.natAbs : Nat) : Int)) := fun B H vs e hA Q k => by
  cases hA with
  | cons h1 t =>
    cases t with
    | cons h2 t =>
      cases t; cases h1; cases h2
      exact ⟨i, j, rfl, k _ B H (Gr.refl e) (.int _)⟩
theorem rc_abs {K : PySem.W.Frag} : RC K (fun xs H Q => ∃ i, xs = [.int i] ∧ Q (.int (if i < 0 then -i else i)) H) [.int i] (.int ((i.natAbs : Nat) : Int)) := fun B H vs e hA Q k => by
  cases hA with
  | cons h1 t =>
    cases t; cases h1
    have q : (if i < 0 then -i else i) = ((i.natAbs : Nat) : Int) := by split <;> omega
    exact ⟨i, rfl, by rw [q]; exact k _ B H (Gr.refl e) (.int _)⟩
theorem rc_intB {K : PySem.W.Frag} : RC K (fun xs H Q => (∃ i, xs = [.int i] ∧ Q (.int i) H) ∨ ∃ k, xs = [.bl k] ∧ Q (.int (if k then 1 else 0)) H) [.bl u] (.int (if u then 1 else 0)) := fun B H vs e hA Q k => by
  cases hA with
  | cons h1 t => cases t; cases h1; exact .inr ⟨u, rfl, k _ B H (Gr.refl e) (.int _)⟩
theorem rc_intI {K : PySem.W.Frag} : RC K (fun xs H Q => (∃ i, xs = [.int i] ∧ Q (.int i) H) ∨ ∃ k, xs = [.bl k] ∧ Q (.int (if k then 1 else 0)) H) [.int i] (.int i) := fun B H vs e hA Q k => by
  cases hA with
  | cons h1 t => cases t; cases h1; exact .inl ⟨i, rfl, k _ B H (Gr.refl e) (.int _)⟩
def lenD : Da → Option Nat
  | .lst xs => some xs.length | .tup xs => some xs.length | .str x => if x.length ≤ 100000 then some x.length else none | _ => none
theorem rc_len {K : PySem.W.Frag} {n : Nat} (h : lenD d = some n) : RC K (fun xs H Q => ∃ x n, xs = [x] ∧ LenV K x H n ∧ Q (.int n) H) [d] (.int (n : Int)) := fun B H vs e hA Q k => by
  cases hA with
  | cons h1 t =>
    cases t
    cases h1 with
    | lst hq t =>
      cases h
      exact ⟨_, _, rfl, .inl ⟨_, ex_l e hq, t.length.symm⟩, k _ B H (Gr.refl e) (.int _)⟩
    | tup hq t =>
      cases h
      exact ⟨_, _, rfl, .inr ⟨_, ex_t e hq, t.length.symm⟩, k _ B H (Gr.refl e) (.int _)⟩
    | str x =>
      have h : (if x.length ≤ 100000 then some x.length else none) = some n := h
      by_cases q : x.length ≤ 100000
      · rw [if_pos q] at h
        cases h
        exact ⟨_, _, rfl, ⟨sz_of q, rfl⟩, k _ B H (Gr.refl e) (.int _)⟩
      · rw [if_neg q] at h
        cases h
    | _ => cases h
/-! ### statements -/
theorem svs_nil : SVs X W en [] (.nx en) := ⟨_, pss_nil, st_next⟩
theorem svs_one (h : SV X W en st ou) : SVs X W en [st] ou := by
  obtain ⟨t, h1, h2⟩ := h
  exact ⟨t, pss_one h1, h2⟩
theorem svs_cons (h : SV X W en st (.nx e1)) (r : SVs X W e1 ss ou) : SVs X W en (st :: ss) ou := by
  obtain ⟨t, h1, h2⟩ := h
  obtain ⟨t', h3, h4⟩ := r
  exact ⟨_, pss_cons h1 h3, st_seq h2 h4⟩
theorem svs_stop (h : SV X W en st ou) (ho : ∀ e, ou ≠ .nx e) : SVs X W en (st :: ss) ou := by
  obtain ⟨t, h1, h2⟩ := h
  exact ⟨_, pss_cons h1 pss_never, st_stop h2 ho⟩
theorem svs_weak (h : SVs X W en ss (.nx e1)) (w : Wk e1 e2) : SVs X W en ss (.nx e2) := by
  obtain ⟨t, h1, h2⟩ := h
  exact ⟨t, h1, st_weak h2 w⟩
theorem svs_freeze {n : Nat} (he : en[n]? = some (.own ds)) (h : SVs X W (en.set n (.da (.lst ds))) ss ou) : SVs X W en ss ou := by
  obtain ⟨t, h1, h2⟩ := h
  exact ⟨t, h1, st_freeze he h2⟩
theorem sv_freeze {n : Nat} (he : en[n]? = some (.own ds)) (h : SV X W (en.set n (.da (.lst ds))) st ou) : SV X W en st ou := by
  obtain ⟨t, h1, h2⟩ := h
  exact ⟨t, h1, st_freeze he h2⟩
theorem SVs.env (h : SVs X W e1 ss ou) (q : e2 = e1) : SVs X W e2 ss ou := q ▸ h
theorem sv_set {n : Nat} (Bx : Bd X W k) (he : EV X W en e (.ok d)) (hN : X.N.idxOf? x = some n) (hN2 : X.N[n]? = some x) (hx : Loc X.env.scope x) (hf : X.fn x = true ∨ X.env.scope.names.lookup x = some .local) (hs : swapsWith e (some (.Name x pos')) pos.line X.env = pure false) (hq : en.set n (.da d) = e1) :
    SV X W en (.Assign [.Name x pos'] e pos) (.nx e1) := by
  subst hq
  obtain ⟨t, h1, h2⟩ := he
  exact ⟨_, ps_set Bx.nd hN2 hx h1 hs hf, st_asg h2⟩
theorem sv_setL {n : Nat} (Bx : Bd X W k) (he : EVL X W en e ds) (hN : X.N.idxOf? x = some n) (hN2 : X.N[n]? = some x) (hx : Loc X.env.scope x) (hf : X.fn x = true ∨ X.env.scope.names.lookup x = some .local) (hs : swapsWith e (some (.Name x pos')) pos.line X.env = pure false) (hq : en.set n (.own ds) = e1) :
    SV X W en (.Assign [.Name x pos'] e pos) (.nx e1) := by
  subst hq
  obtain ⟨t, h1, h2⟩ := he
  exact ⟨_, ps_set Bx.nd hN2 hx h1 hs hf, st_asgL h2⟩
theorem sv_setX {n : Nat} (Bx : Bd X W k) (he : EV X W en e (.err C f)) (hN : X.N.idxOf? x = some n) (hN2 : X.N[n]? = some x) (hx : Loc X.env.scope x) (hf : X.fn x = true ∨ X.env.scope.names.lookup x = some .local) (hs : swapsWith e (some (.Name x pos')) pos.line X.env = pure false) :
    SV X W en (.Assign [.Name x pos'] e pos) (.rx en C f) := by
  obtain ⟨t, h1, h2⟩ := he
  exact ⟨_, ps_set Bx.nd hN2 hx h1 hs hf, st_asgX h2⟩
theorem sv_ret (he : EV X W en e (.ok d)) : SV X W en (.Return (some e) pos) (.rt d) := by
  obtain ⟨t, h1, h2⟩ := he
  exact ⟨_, ps_ret h1, st_ret h2⟩
theorem sv_retX (he : EV X W en e (.err C f)) : SV X W en (.Return (some e) pos) (.rx en C f) := by
  obtain ⟨t, h1, h2⟩ := he
  exact ⟨_, ps_ret h1, st_retX h2⟩
theorem sv_expr (he : EV X W en e (.ok d)) (hs : swapsWith e none pos.line X.env = pure false) : SV X W en (.Expr e pos) (.nx en) := by
  obtain ⟨t, h1, h2⟩ := he
  exact ⟨_, ps_expr h1 hs, st_drop h2⟩
theorem sv_exprX (he : EV X W en e (.err C f)) (hs : swapsWith e none pos.line X.env = pure false) : SV X W en (.Expr e pos) (.rx en C f) := by
  obtain ⟨t, h1, h2⟩ := he
  exact ⟨_, ps_expr h1 hs, st_dropX h2⟩
/-! tests -/
theorem evt_val (h : EV X W en c (.ok (.bl u))) (he : ∀ whole, isTrue c X.env whole = (do let v ← whole; standAt c.pos; holding [v] (truthy v))) : EVT X W en c u := by
  obtain ⟨t, h1, h2⟩ := h
  exact ⟨_, pt_val h1 he, et_val h2⟩
theorem evt_cmp {op : CmpOp} {r : R2} (ho : OpR X (compareOp op) r) (ha : EV X W en a (.ok d1)) (hb : EV X W en b (.ok d2)) (hr : RV X.K r d1 d2 (.bl u)) (hm : behindInMarks op b = false) : EVT X W en (.Compare a [op] [b] pos) u := by
  obtain ⟨te, h1, h2⟩ := ha
  obtain ⟨tr, h3, h4⟩ := hb
  exact ⟨_, pt_cmpR ho h1 h3 hm, et_val (W := W) (ex_op h2 h4 hr)⟩
theorem evt_lt (ha : EV X W en a (.ok (.int i))) (hb : EV X W en b (.ok (.int j))) : EVT X W en (.Compare a [.Lt] [b] pos) (decide (i < j)) := evt_cmp op_lt ha hb (rv_I0 fun _ _ => .bl _) (nomark _)
theorem evt_le (ha : EV X W en a (.ok (.int i))) (hb : EV X W en b (.ok (.int j))) : EVT X W en (.Compare a [.LtE] [b] pos) (decide (i ≤ j)) := evt_cmp op_le ha hb (rv_I0 fun _ _ => .bl _) (nomark _)
theorem evt_gt (ha : EV X W en a (.ok (.int i))) (hb : EV X W en b (.ok (.int j))) : EVT X W en (.Compare a [.Gt] [b] pos) (decide (j < i)) := evt_cmp op_gt ha hb (rv_I0 fun _ _ => .bl _) (nomark _)
theorem evt_ge (ha : EV X W en a (.ok (.int i))) (hb : EV X W en b (.ok (.int j))) : EVT X W en (.Compare a [.GtE] [b] pos) (decide (j ≤ i)) := evt_cmp op_ge ha hb (rv_I0 fun _ _ => .bl _) (nomark _)
theorem evt_eq (Bx : Bd X W k) (ha : EV X W en a (.ok d1)) (hb : EV X W en b (.ok d2)) (h1 : Cmp d1) (h2 : Cmp d2) : EVT X W en (.Compare a [.Eq] [b] pos) (deq d1 d2) := evt_cmp (op_eqD Bx.rm.units) ha hb (rv_eq h1 h2) (nomark _)
theorem evt_ne (Bx : Bd X W k) (ha : EV X W en a (.ok d1)) (hb : EV X W en b (.ok d2)) (h1 : Cmp d1) (h2 : Cmp d2) : EVT X W en (.Compare a [.NotEq] [b] pos) (!deq d1 d2) := evt_cmp (op_neD Bx.rm.units) ha hb (rv_ne h1 h2) (nomark _)
theorem evt_isN (ha : EV X W en a (.ok d1)) (hb : EV X W en b (.ok .non)) : EVT X W en (.Compare a [.Is] [b] pos) (isNon d1) := evt_cmp op_isN ha hb rv_isN (nomark _)
theorem evt_notN (ha : EV X W en a (.ok d1)) (hb : EV X W en b (.ok .non)) : EVT X W en (.Compare a [.IsNot] [b] pos) (!isNon d1) := evt_cmp op_notN ha hb rv_notN (nomark _)
theorem evt_not (h : EVT X W en c u) : EVT X W en (.UnaryOp .Not c pos) (!u) := by
  obtain ⟨t, h1, h2⟩ := h
  exact ⟨_, pt_not h1, et_not h2⟩
theorem evt_w {op} (h : EVW X W en (.BoolOp op es pos) u) : EVT X W en (.BoolOp op es pos) u := by
  obtain ⟨t, h1, h2⟩ := h
  exact ⟨_, h1.pt, h2⟩
theorem EVT.is (h : EVT X W en c u) (q : u = v) : EVT X W en c v := q ▸ h
theorem EVW.is (h : EVW X W en c u) (q : u = v) : EVW X W en c v := q ▸ h
theorem evw_and1 (h : EVT X W en c u) : EVW X W en (.BoolOp .And [c] pos) u := by
  obtain ⟨t, h1, h2⟩ := h
  exact ⟨_, pw_and1 h1, h2⟩
theorem evw_or1 (h : EVT X W en c u) : EVW X W en (.BoolOp .Or [c] pos) u := by
  obtain ⟨t, h1, h2⟩ := h
  exact ⟨_, pw_or1 h1, h2⟩
theorem evw_andT (ha : EVT X W en a true) (hb : EVW X W en (.BoolOp .And (b :: rest) pos) u) : EVW X W en (.BoolOp .And (a :: b :: rest) pos) u := by
  obtain ⟨t, h1, h2⟩ := ha
  obtain ⟨t', h3, h4⟩ := hb
  exact ⟨_, pw_and h1 h3, et_andT h2 h4⟩
theorem evw_andF (ha : EVT X W en a false) : EVW X W en (.BoolOp .And (a :: b :: rest) pos) false := by
  obtain ⟨t, h1, h2⟩ := ha
  exact ⟨_, pw_and h1 pw_none, et_andF h2⟩
theorem evw_orF (ha : EVT X W en a false) (hb : EVW X W en (.BoolOp .Or (b :: rest) pos) u) : EVW X W en (.BoolOp .Or (a :: b :: rest) pos) u := by
  obtain ⟨t, h1, h2⟩ := ha
  obtain ⟨t', h3, h4⟩ := hb
  exact ⟨_, pw_or h1 h3, et_orF h2 h4⟩
theorem evw_orT (ha : EVT X W en a true) : EVW X W en (.BoolOp .Or (a :: b :: rest) pos) true := by
  obtain ⟨t, h1, h2⟩ := ha
  exact ⟨_, pw_or h1 pw_none, et_orT h2⟩
/-- all of an or's parts walked, whatever they come to (all can be walked) -/
theorem evw_or (ha : EVT X W en a u) (hb : u = false → EVW X W en (.BoolOp .Or (b :: rest) pos) v) : EVW X W en (.BoolOp .Or (a :: b :: rest) pos) (u || v) := by
  cases u with
  | true => exact evw_orT ha
  | false => exact evw_orF ha (hb rfl)
theorem evw_and (ha : EVT X W en a u) (hb : u = true → EVW X W en (.BoolOp .And (b :: rest) pos) v) : EVW X W en (.BoolOp .And (a :: b :: rest) pos) (u && v) := by
  cases u with
  | true => exact evw_andT ha (hb rfl)
  | false => exact evw_andF ha
theorem sv_ifT (hc : EVT X W en c true) (h : SVs X W en s1 ou) : SV X W en (.If c s1 s2 pos) ou := by
  obtain ⟨t, h1, h2⟩ := hc
  obtain ⟨t', h3, h4⟩ := h
  exact ⟨_, ps_if h1 h3 (pss_never), st_ifT h2 h4⟩
theorem sv_ifF (hc : EVT X W en c false) (h : SVs X W en s2 ou) : SV X W en (.If c s1 s2 pos) ou := by
  obtain ⟨t, h1, h2⟩ := hc
  obtain ⟨t', h3, h4⟩ := h
  exact ⟨_, ps_if h1 (pss_never) h3, st_ifF h2 h4⟩
theorem sv_if (hc : EVT X W en c u) (hT : u = true → SVs X W en s1 ou) (hF : u = false → SVs X W en s2 ou) : SV X W en (.If c s1 s2 pos) ou := by
  cases u with
  | true => exact sv_ifT hc (hT rfl)
  | false => exact sv_ifF hc (hF rfl)
theorem sv_par {n m : Nat} {y : Str} {px py pt : Pos} {kt k2 pt2} (Bx : Bd X W k) (ha : EVA X W en [a, b] [d1, d2]) (hn : X.N.idxOf? x = some n) (hm : X.N.idxOf? y = some m) (hi : X.N[n]? = some x) (hj : X.N[m]? = some y) (hij : n ≠ m)
    (hx : X.env.scope.names.lookup x = some .local) (hy : X.env.scope.names.lookup y = some .local) (hw : swappedStores [.Tuple [.Name x px, .Name y py] kt pt] (.Tuple [a, b] k2 pt2) X.env = pure (some [x, y]))
    (hs : swapsWithSole [.Tuple [.Name x px, .Name y py] kt pt] (.Tuple [a, b] k2 pt2) pos.line X.env = pure false) (hq : (en.set n (.da d1)).set m (.da d2) = e1) :
    SV X W en (.Assign [.Tuple [.Name x px, .Name y py] kt pt] (.Tuple [a, b] k2 pt2) pos) (.nx e1) := by
  subst hq
  obtain ⟨t, h1, h2⟩ := ha
  exact ⟨_, ps_par Bx.calm Bx.nd hi hj hij hx hy h1 hw hs, st_par h2⟩
/-- the targets' names -/
def GN (X : Cx) (es : List Expr) (is : List Nat) : Prop := PGs X es (gNames is)
theorem gn_nil : GN X [] [] := pgs_nil
theorem gn_cons {n : Nat} {is : List Nat} (nd : X.N.Nodup) (hN : X.N.idxOf? x = some n) (hi : X.N[n]? = some x) (hx : Loc X.env.scope x) (hf : X.fn x = true ∨ X.env.scope.names.lookup x = some .local) (h : GN X es is)
    (hs : (assignEach (.Name x pos :: es) X.env).map (·.2) = assign (.Name x pos) X.env :: (assignEach es X.env).map (·.2)) : GN X (.Name x pos :: es) (n :: is) := pgs_cons (pg_name nd hi hx hf) h hs
theorem sv_unT {tp : Pos} {q : _} {is : List Nat} (Bx : Bd X W k) (he : EV X W en e (.ok (.tup ds))) (hg : GN X es is) (hl : ds.length = is.length) (hn : (assignEach es X.env).length = is.length) (hst : (assignEach es X.env).findIdx? (·.1) = none)
    (hs : swapsWithSole [.Tuple es q tp] e pos.line X.env = pure false) (hw : swappedStores [.Tuple es q tp] e X.env = pure none) (h1 : (assignEach [.Tuple es q tp] X.env).map (·.2) = [assign (.Tuple es q tp) X.env]) (hq : setAll en is ds = e1) :
    SV X W en (.Assign [.Tuple es q tp] e pos) (.nx e1) := by
  subst hq
  obtain ⟨t, a1, a2⟩ := he
  exact ⟨_, ps_asg a1 (pg_tup Bx.calm hg hn hst) hs hw h1, st_unT a2 hl hl⟩
theorem sv_unL {tp : Pos} {q : _} {is : List Nat} (Bx : Bd X W k) (he : EV X W en e (.ok (.lst ds))) (hg : GN X es is) (hl : ds.length = is.length) (hn : (assignEach es X.env).length = is.length) (hst : (assignEach es X.env).findIdx? (·.1) = none)
    (hs : swapsWithSole [.Tuple es q tp] e pos.line X.env = pure false) (hw : swappedStores [.Tuple es q tp] e X.env = pure none) (h1 : (assignEach [.Tuple es q tp] X.env).map (·.2) = [assign (.Tuple es q tp) X.env]) (hq : setAll en is ds = e1) :
    SV X W en (.Assign [.Tuple es q tp] e pos) (.nx e1) := by
  subst hq
  obtain ⟨t, a1, a2⟩ := he
  exact ⟨_, ps_asg a1 (pg_lst Bx.calm hg hn hst) hs hw h1, st_unL a2 hl hl⟩
/-- xs.append(e) -/
theorem sv_app {n : Nat} {apos : Pos} {l : Str} (hN : X.N.idxOf? l = some n) (hv : Vis X.env.scope l) (ho : en[n]? = some (.own ds)) (hN2 : X.N[n]? = some l) (hd : (l == ("__debug__" : Str)) = false) (hc : (l == ("__classdict__" : Str)) = false) (he : EV X W en e (.ok d)) (hz : ds.length < 100000)
    (q : ∀ {te : TE}, PE X e te → PE X (.Call (.Attribute (.Name l p) "append" apos) [e] [] pos) (tBM X.K "list" rAppend (tVar n) (tCons te tNil)))
    (hs : swapsWith (.Call (.Attribute (.Name l p) "append" apos) [e] [] pos) none pos'.line X.env = pure false) (hq : en.set n (.own (ds ++ [d])) = e1) : SV X W en (.Expr (.Call (.Attribute (.Name l p) "append" apos) [e] [] pos) pos') (.nx e1) := by
  subst hq
  obtain ⟨t, h1, h2⟩ := he
  exact ⟨_, ps_expr (q h1) hs, st_app ho h2 hz⟩
/-- a block's widest reading: one for all data -/
def tU (X : Cx) (ss : List Stmt) : TS := fun D σ H => ∃ t, PSs X ss t ∧ t D σ H
theorem pss_U : PSs X ss (tU X ss) := ⟨fun pins s σ H D I ⟨t, h, q⟩ => h.run pins s σ H D I q⟩
theorem SVs.U (h : SVs X W en ss ou) : ST X.K W (tU X ss) en ou := by
  obtain ⟨t, h1, h2⟩ := h
  exact fun B0 H0 B H σ S D k => ⟨t, h1, h2 B0 H0 B H σ S D k⟩
def tUE (X : Cx) (e : Expr) : TE := fun σ H Q => ∃ t, PE X e t ∧ t σ H Q
theorem pe_U : PE X e (tUE X e) := ⟨fun pins s σ H Q I ⟨t, h, q⟩ => h.run pins s σ H Q I q⟩
theorem EV.U (h : EV X W en e o) : EX X.K W (tUE X e) en o := by
  obtain ⟨t, h1, h2⟩ := h
  exact fun B0 H0 B H σ S D k => ⟨t, h1, h2 B0 H0 B H σ S D k⟩
theorem sv_forL {n : Nat} {it : Expr} (Bx : Bd X W k) (F : Nat → List Sl) (hN : X.N.idxOf? x = some n) (hN2 : X.N[n]? = some x) (hx : Loc X.env.scope x) (hf : X.fn x = true ∨ X.env.scope.names.lookup x = some .local) (hi : EV X W en it (.ok (.lst ds))) (h0 : F 0 = en) (hq : ∀ v, foldedSetIterable it X.env v = pure v)
    (ht : ∀ i d, ds[i]? = some d → SVs X W ((F i).set n (.da d)) ss (.nx (F (i + 1)))) : SV X W en (.For (.Name x p) it ss [] pos) (.nx (F ds.length)) := by
  obtain ⟨t, h1, h2⟩ := hi
  exact ⟨_, ps_for Bx.own Bx.calm (pi_list h1) (pg_name Bx.nd hN2 hx hf) pss_U hq, st_forL F h2 h0 fun i d hd => (ht i d hd).U⟩
theorem sv_forLX {n m : Nat} {it : Expr} (Bx : Bd X W k) (F : Nat → List Sl) (hN : X.N.idxOf? x = some n) (hN2 : X.N[n]? = some x) (hx : Loc X.env.scope x) (hf : X.fn x = true ∨ X.env.scope.names.lookup x = some .local) (hi : EV X W en it (.ok (.lst ds))) (h0 : F 0 = en) (hq : ∀ v, foldedSetIterable it X.env v = pure v)
    (ht : ∀ i d, i < m → ds[i]? = some d → SVs X W ((F i).set n (.da d)) ss (.nx (F (i + 1)))) (hm : ds[m]? = some d) (hl : SVs X W ((F m).set n (.da d)) ss ou) (ho : ∃ d', ou = .rt d' ∨ ∃ e C f, ou = .rx e C f) : SV X W en (.For (.Name x p) it ss [] pos) ou := by
  obtain ⟨t, h1, h2⟩ := hi
  exact ⟨_, ps_for Bx.own Bx.calm (pi_list h1) (pg_name Bx.nd hN2 hx hf) pss_U hq, st_forLX F h2 h0 (fun i d hi hd => (ht i d hi hd).U) hm hl.U ho⟩
theorem sv_forR {n m : Nat} {q1 q2 : Pos} (Bx : Bd X W k) (F : Nat → List Sl) (hN : X.N.idxOf? x = some n) (hN2 : X.N[n]? = some x) (hx : Loc X.env.scope x) (hf : X.fn x = true ∨ X.env.scope.names.lookup x = some .local) (hr : X.mg "range" = none) (hi : EVA X W en [a] [.int (m : Int)]) (hm : m ≤ 100000) (h0 : F 0 = en)
    (hg : Gl X "range") (hst : starEach [a] X.env = [(false, eval a X.env)])
    (ht : ∀ i : Nat, i < m → SVs X W ((F i).set n (.da (.int (i : Int)))) ss (.nx (F (i + 1)))) : SV X W en (.For (.Name x p) (.Call (.Name "range" q1) [a] [] q2) ss [] pos) (.nx (F m)) := by
  obtain ⟨t, h1, h2⟩ := hi
  exact ⟨_, ps_for Bx.own Bx.calm (pi_range1 hg hr h1 hst) (pg_name Bx.nd hN2 hx hf) pss_U, st_forR F h2 hm h0 fun i hi => (ht i hi).U⟩
def tUT (X : Cx) (e : Expr) : TT := fun σ H Q => ∃ t, PT X e t ∧ t σ H Q
theorem pt_U : PT X e (tUT X e) := ⟨fun pins s σ H Q I ⟨t, h, q⟩ => h.run pins s σ H Q I q⟩
theorem EVT.U (h : EVT X W en e u) : ET X.K (tUT X e) en u := by
  obtain ⟨t, h1, h2⟩ := h
  exact fun B0 H0 B H σ S D k => ⟨t, h1, h2 B0 H0 B H σ S D k⟩
theorem sv_while {m : Nat} (Bx : Bd X W k) (F : Nat → List Sl) (h0 : F 0 = en) (hc : ∀ i, i < m → EVT X W (F i) c true) (ht : ∀ i, i < m → SVs X W (F i) ss (.nx (F (i + 1)))) (he : EVT X W (F m) c false) : SV X W en (.While c ss [] pos) (.nx (F m)) :=
  ⟨_, ps_while Bx.own pt_U pss_U, st_while F h0 (fun i hi => (hc i hi).U) (fun i hi => (ht i hi).U) he.U⟩

/-! ### defs -/
def spD (K : PySem.W.Frag) (n : Nat) (fs : List Da → Option XO) : Sp := fun vs H Q E => vs.length = n ∧ ∃ B ds o, Ex B H ∧ DrA K B vs ds ∧ fs ds = some o ∧ Ko K E B H Q o
/-- how a body's end becomes the def's -/
inductive Leads : Out → XO → Prop
  | rt (d : Da) : Leads (.rt d) (.ok d)
  | rx (en : List Sl) (C : Addr) (f : Option (Str × Da)) : Leads (.rx en C f) (.err C f)
  | nx (en : List Sl) : Leads (.nx en) (.ok .non)
end
def slots (N : List Str) (ds : List Da) : List Sl := ds.map .da ++ List.replicate (N.length - ds.length) .no
section
variable {K : PySem.W.Frag} {B H H0 : Hp}
theorem paired_app {α β : Type} {F : α → β → Prop} : ∀ {l₁ l₃ : List α} {l₂ l₄ : List β}, Paired F l₁ l₂ → Paired F l₃ l₄ → Paired F (l₁ ++ l₃) (l₂ ++ l₄)
  | _, _, _, _, .nil, s => s
  | _, _, _, _, .cons r t, s => .cons r (paired_app t s)
theorem paired_rep : ∀ {n : Nat}, Paired (SlR K B H0 H) (List.replicate n none) (List.replicate n .no)
  | 0 => .nil
  | n + 1 => .cons (.no _) (paired_rep (n := n))
theorem slots_sl : ∀ {vs : List V} {ds : List Da}, DrA K B vs ds → Paired (SlR K B H0 H) (vs.map some) (ds.map .da)
  | _, _, .nil => .nil
  | _, _, .cons h t => .cons (.da h) (slots_sl t)
theorem slots_no {N : List Str} {ds : List Da} {i : Nat} {x : Sl} : (slots N ds)[i]? = some x → x.isL = true → False := fun h hx => by
  unfold slots at h
  have m := List.mem_of_getElem? h
  rcases List.mem_append.mp m with m | m
  · obtain ⟨d, _, e⟩ := List.mem_map.mp m
    rw [← e] at hx
    cases hx
  · rw [List.eq_of_mem_replicate m] at hx
    cases hx
end
section
variable {P : Program} {w : World} {K : PySem.W.Frag} {mg : Str → Option Value} {base : Heap} {x qual : Str} {st : Stmt} {f : Addr} {fd : FuncData} {N ps : List Str} {k : Nat}
abbrev XB (P : Program) (w : World) (K : PySem.W.Frag) (mg : Str → Option Value) (base : Heap) (N : List Str) (qual : Str) (st : Stmt) (f : Addr) (cdv : Value) (A : Around) (outer : List Env) (s : Shared) (H : Hp) (E : XK) : Cx :=
  cxOf (L2.CX P w) P w K mg base N qual (defScope st) f cdv A outer s H E
abbrev WD (E : XK) : WX := fun c d _ H => E c d H
theorem bd_of (S : FnScope N ps (defScope st)) {cdv : Value} {A : Around} {outer : List Env} {s : Shared} {H : Hp} {E : XK} (hr : Room k (A.deeper (envOfC qual (defScope st) s.heap.objs.size f cdv))) : Bd (XB P w K mg base N qual st f cdv A outer s H E) (WD E) k :=
  ⟨rfl, takes_of rfl rfl rfl rfl, PassesOwn.leaving, hr, S.nd⟩
/-- a def by its data -/
theorem fn_d (F : Fun K x qual st f fd) (S : FnScope N ps (defScope st)) (fs : List Da → Option XO)
    (hb : ∀ (cdv : Value) (A : Around) (outer : List Env) (s : Shared) (H : Hp) (E : XK) (ds : List Da) (o : XO), Bd (XB P w K mg base N qual st f cdv A outer s H E) (WD E) k → ds.length = ps.length → fs ds = some o →
      ∃ ou, Leads ou o ∧ SVs (XB P w K mg base N qual st f cdv A outer s H E) (WD E) (slots N ds) (defBody st) ou) : FnOk P w K mg base (L2.CX P w) (k + 1) f fd ps (spD K ps.length fs) := by
  refine F.okX S (fun vs H Q E h => h.1) fun cdv A outer s H vs Q E hr h => ?_
  obtain ⟨hl, B, ds, o, eB, hA, hf, ko⟩ := h
  obtain ⟨ou, ld, t, h1, h2⟩ := hb cdv A outer s H E ds o (bd_of S hr) (hA.length.symm.trans hl) hf
  have hN : ps.length ≤ N.length := by have := congrArg List.length S.pre; rw [List.length_take] at this; omega
  refine ⟨t, h1, h2 B H B H _ ⟨Gr.refl eB, ?_, fun i j p es1 es2 q1 _ hx => (slots_no q1 hx).elim⟩ _ ?_⟩
  · unfold L2.start slots
    rw [hA.length]
    exact paired_app (slots_sl hA) paired_rep
  · cases ld with
    | rt d => exact fun v B' H' g r => ko v B' H' g r
    | rx en C f => exact fun B' H' σ' dd S' x' => ko dd B' H' S'.gr x'
    | nx en => exact fun B' H' σ' S' => ko .non B' H' S'.gr .non
end
section
variable {X : Cx} {W : WX} {k j n : Nat} {en : List Sl} {e : Expr} {es : List Expr} {pos p : Pos} {ds dds : List Da} {o : XO} {x : Str} {f : Addr} {fd : FuncData} {ps : List Str} {fs : List Da → Option XO} {dvs : List V} {dus : List Value}
theorem ex_callD {t : TA} (ha : EA X.K t en ds) (hd : ∀ B, DrA X.K B dvs dds) (hf : fs (ds ++ dds) = some o) (hl : (ds ++ dds).length = n) : EX X.K W (tCallSD (spD X.K n fs) dvs (WE W) t) en o := fun _ _ B H σ S Q ko =>
  ha _ _ B H σ S _ fun vs B1 H1 g r => ⟨by rw [← hl, List.length_append, List.length_append, r.length, (hd B1).length], B1, _, o, g.s, r.append (hd B1), hf, ko.grow g⟩
theorem ev_call (Bx : Bd X W k) (F : FnOk X.prog X.w X.K X.mg X.base (L2.CX X.prog X.w) j f fd ps (spD X.K n fs)) (hj : j ≤ k) (hg : Gl X x) (hm : X.mg x = some (.ref f)) (hk : PySem.W.keepIn X.K (.ref f) = true) (hb : Binds X.K fd ps dus) (hd : Vals dvs dus) (hdd : ∀ B, DrA X.K B dvs dds)
    (ha : EVA X W en (e :: es) ds) (hf : fs (ds ++ dds) = some o) (hl : (ds ++ dds).length = n) (hdb : (x == ("__debug__" : Str)) = false) (he : starEach (e :: es) X.env = (false, eval e X.env) :: starEach es X.env) (hpl : (backTo pos (starEach es X.env)).any (·.1) = false) :
    EV X W en (.Call (.Name x p) (e :: es) [] pos) o := by
  obtain ⟨t, h1, h2⟩ := ha
  exact ⟨_, pe_callSD F (Bx.rm.mono hj) hg hm hk hb hd (fun σ => passAt Bx.tk σ) h1 hdb he hpl, ex_callD h2 hdd hf hl⟩
end
end Sky
namespace Sky
open PySem L2 Evl PySem.Spec PyProof.Rows
/-! ### own errors without fields, callable defs, whiles by a word -/
abbrev veB : List Value := [.type "ValueError", .type "Exception", .type "BaseException", .type "object"]
structure ExF (K : PySem.W.Frag) (mg : Str → Option Value) (x : Str) (C : Addr) : Prop where
  g : mg x = some (.ref C)
  x : PySem.W.excIn K C veB "ValueError.__new__" = true
  k : PySem.W.keepIn K (.ref C) = true
  b : PySem.W.subIn K (.ref C) (.type "BaseException") = some true
  t : PySem.W.typeIn K (.ref C) = some (.type "type")
/-- a def that may be called: its name, how deep, its parameters, the defaults behind, what it comes to -/
structure Cal (P : Program) (w : World) (K : PySem.W.Frag) (mg : Str → Option Value) (base : Heap) (x : Str) (j : Nat) (ps : List Str) (dds : List Da) (fs : List Da → Option XO) : Prop where
  ex : ∃ f fd dus dvs, FnOk P w K mg base (L2.CX P w) j f fd ps (spD K ps.length fs) ∧ mg x = some (.ref f) ∧ PySem.W.keepIn K (.ref f) = true ∧ Binds K fd ps dus ∧ Vals dvs dus ∧ ∀ B, DrA K B dvs dds
section
variable {X : Cx} {W : WX} {k j : Nat} {en : List Sl} {e c : Expr} {es : List Expr} {pos p p2 pos2 : Pos} {ds dds : List Da} {o : XO} {x m : Str} {ps : List Str} {fs : List Da → Option XO} {C : Addr} {q : Nat} {ss : List Stmt} {ou : Out}
theorem sv_raise (Bx : Bd X W k) (T : ExF X.K X.mg x C) (hg : Gl X x) (hd : (x == ("__debug__" : Str)) = false) : SV X W en (.Raise (some (.Call (.Name x p) [.Constant (.str m) q p2] [] pos)) none pos2) (.rx en C none) :=
  ⟨_, ps_raise Bx.calm Bx.tk (pmk_own PySem.F.excBase_ValueError T.x T.g T.k (raises_own T.b T.t) hg hd), fun B0 H0 B H σ S D k => k B H σ none S rfl⟩
theorem ev_cal (cl : Cal X.prog X.w X.K X.mg X.base x j ps dds fs) (Bx : Bd X W k) (hj : j ≤ k) (ha : EVA X W en (e :: es) ds) (hf : fs (ds ++ dds) = some o) (hl : (ds ++ dds).length = ps.length) (hg : Gl X x)
    (hdb : (x == ("__debug__" : Str)) = false) (he : starEach (e :: es) X.env = (false, eval e X.env) :: starEach es X.env) (hpl : (backTo pos (starEach es X.env)).any (·.1) = false) : EV X W en (.Call (.Name x p) (e :: es) [] pos) o := by
  obtain ⟨f, fd, dus, dvs, F, hm, hk, hb, hd, hdd⟩ := cl.ex
  exact ev_call Bx F hj hg hm hk hb hd hdd ha hf hl hdb he hpl
def isiB (a b : String) : Bool := (kitB a b).getD false
theorem ev_isi {a t : Expr} {tn T : String} {d : Da} (hm : X.mg "isinstance" = none) (ha : EV X W en a (.ok d)) (ht : EV X W en t (.ok (.ty tn))) (hT : tyN d = some T) (hb : kitB T tn = some (isiB T tn)) (hg : Gl X "isinstance")
    (h1 : starEach [a, t] X.env = (false, eval a X.env) :: starEach [t] X.env) (h2 : starEach [t] X.env = (false, eval t X.env) :: starEach [] X.env) (hpl : (backTo pos (starEach [t] X.env)).any (·.1) = false) :
    EV X W en (.Call (.Name "isinstance" p) [a, t] [] pos) (.ok (.bl (isiB T tn))) :=
  ev_cb call_isi (eva_cons ha (eva_cons ht eva_nil h2) h1) (rc_isi hT hb) hg hm (by decide +kernel) (by decide) (by decide) h1 hpl
theorem sv_whileP {α : Type} (Bx : Bd X W k) (I : α → List Sl) (go : α → Bool) (μ : α → Nat) (P : α → Prop) (a0 : α) (h0 : P a0) (hI : I a0 = en)
    (step : ∀ a, P a → go a = true → EVT X W (I a) c true ∧ ∃ a', P a' ∧ μ a' < μ a ∧ SVs X W (I a) ss (.nx (I a'))) (stop : ∀ a, P a → go a = false → EVT X W (I a) c false) : ∃ a, P a ∧ go a = false ∧ SV X W en (.While c ss [] pos) (.nx (I a)) := by
  have key : ∀ n a, μ a ≤ n → P a → ∃ (m : Nat) (F : Nat → α), F 0 = a ∧ (∀ i, i < m → EVT X W (I (F i)) c true ∧ SVs X W (I (F i)) ss (.nx (I (F (i + 1))))) ∧ P (F m) ∧ go (F m) = false := by
    intro n
    induction n with
    | zero =>
      intro a ha hp
      cases hg : go a with
      | true =>
        obtain ⟨_, a', _, hl, _⟩ := step a hp hg
        omega
      | false => exact ⟨0, fun _ => a, rfl, fun i hi => by omega, hp, hg⟩
    | succ n ih =>
      intro a ha hp
      cases hg : go a with
      | true =>
        obtain ⟨h1, a', hp', hl, h2⟩ := step a hp hg
        obtain ⟨m, F, f0, fs, fp, fg⟩ := ih a' (by omega) hp'
        refine ⟨m + 1, fun i => match i with | 0 => a | i + 1 => F i, rfl, fun i hi => ?_, fp, fg⟩
        cases i with
        | zero => exact ⟨h1, by rw [← f0] at h2; exact h2⟩
        | succ i => exact fs i (by omega)
      | false => exact ⟨0, fun _ => a, rfl, fun i hi => by omega, hp, hg⟩
  obtain ⟨m, F, f0, fs, fp, fg⟩ := key _ a0 (Nat.le_refl _) h0
  refine ⟨F m, fp, fg, sv_while Bx (fun i => I (F i)) (by rw [f0]; exact hI) (fun i hi => (fs i hi).1) (fun i hi => (fs i hi).2) (stop _ fp fg)⟩
end
theorem cal_mk {P : Program} {w : World} {K : PySem.W.Frag} {mg : Str → Option Value} {base : Heap} {x : Str} {j : Nat} {ps : List Str} {fs : List Da → Option XO} {f : Addr} {fd : FuncData} {n : Nat} (G : FnOk P w K mg base (L2.CX P w) j f fd ps (spD K n fs)) (hn : ps.length = n) (hm : mg x = some (.ref f)) (hk : PySem.W.keepIn K (.ref f) = true) (hb : Binds K fd ps []) : Cal P w K mg base x j ps [] fs := by
  subst hn
  exact ⟨f, fd, [], [], G, hm, hk, hb, .nil, fun _ => .nil⟩
/-! ### the numbers -/
def gz (a b : Int) : Int := if b < 0 then -((Nat.gcd a.natAbs b.natAbs : Nat) : Int) else ((Nat.gcd a.natAbs b.natAbs : Nat) : Int)
def lw (a b : Int) : Da := .tup [.int (a.fdiv (gz a b)), .int (b.fdiv (gz a b))]
def isWholeD : Da → Option Bool
  | .int _ => some true | .non => some false | .bl _ => some false | .str _ => some false | .lst _ => some false | .tup _ => some false | .emp => some false | _ => none
def fIsWhole : List Da → Option XO
  | [d] => (isWholeD d).map fun b => .ok (.bl b) | _ => none
def Small (b : Int) : Prop := b.natAbs < 2 ^ 250
instance (b : Int) : Decidable (Small b) := inferInstanceAs (Decidable (_ < _))
def fWorth (C : Addr) : List Da → Option XO
  | [a, b] => match isWholeD a, isWholeD b with
    | some false, some _ => some (.err C none)
    | some true, some false => some (.err C none)
    | some true, some true => match a, b with
      | .int a, .int b => if b = 0 then some (.err C none) else if Small b then some (.ok (lw a b)) else none
      | _, _ => none
    | _, _ => none
  | _ => none
def isWorthD : Da → Option Bool
  | .tup [a, b] => match isWholeD a with
    | some false => if (isWholeD b).isSome then some false else none
    | some true => match isWholeD b with
      | some false => some false
      | some true => match a, b with
        | .int a, .int b => some (decide (0 < b) && decide (Nat.gcd a.natAbs b.natAbs = 1))
        | _, _ => none
      | none => none
    | none => none
  | .tup _ => some false
  | .int _ => some false | .non => some false | .bl _ => some false | .str _ => some false | .lst _ => some false | .emp => some false | _ => none
def fIsWorth : List Da → Option XO
  | [d] => (isWorthD d).map fun b => .ok (.bl b) | _ => none
def isW (a b : Int) : Bool := decide (0 < b) && decide (Nat.gcd a.natAbs b.natAbs = 1)
theorem isWorthD_int (a b : Int) : isWorthD (.tup [.int a, .int b]) = some (isW a b) := rfl
theorem gz_ne {a b : Int} (h : b ≠ 0) : gz a b ≠ 0 := by
  have g : 0 < Nat.gcd a.natAbs b.natAbs := Nat.gcd_pos_of_pos_right _ (by omega)
  unfold gz
  split <;> omega
theorem gz_le {a b : Int} (h : b ≠ 0) : (gz a b).natAbs ≤ b.natAbs := by
  have g : Nat.gcd a.natAbs b.natAbs ≤ b.natAbs := Nat.gcd_le_right _ (by omega)
  unfold gz
  split <;> omega
theorem small_log {b : Int} {z : Int} (h : Small b) (hz : z.natAbs ≤ b.natAbs) : z.natAbs.log2 < 9000 := by
  have h1 : z.natAbs < 2 ^ 250 := Nat.lt_of_le_of_lt hz h
  exact Nat.lt_of_lt_of_le (PySem.Flt.log2_lt_of (by decide) h1) (by decide)
theorem gz_div {a b : Int} (h : b ≠ 0) (hb : Small b) (u : Int) : CDivZ u (gz a b) := ⟨gz_ne h, small_log hb (gz_le h)⟩
end Sky
namespace Sky
open PySem L2 Evl PySem.Spec PyProof.Rows
theorem whole_some {d : Da} {b : Bool} (h : isWholeD d = some b) : fIsWhole ([d] ++ []) = some (.ok (.bl b)) := by
  show (isWholeD d).map _ = _
  rw [h]
  rfl
theorem whole_int {d : Da} (h : isWholeD d = some true) : ∃ i, d = .int i := by
  cases d with
  | int i => exact ⟨i, rfl⟩
  | _ => cases h
theorem worth_some {d : Da} {b : Bool} (h : isWorthD d = some b) : fIsWorth ([d] ++ []) = some (.ok (.bl b)) := by
  show (isWorthD d).map _ = _
  rw [h]
  rfl
theorem worth_int {a b : Int} {u : Bool} (h : isW a b = u) : fIsWorth ([.tup [.int a, .int b]] ++ []) = some (.ok (.bl u)) := by
  subst h
  rfl
theorem deq_int (a b : Int) : deq (.int a) (.int b) = (a == b) := rfl
theorem isWorthD_long {a b c : Da} {r : List Da} : isWorthD (.tup (a :: b :: c :: r)) = some false := rfl
/-- refused unless both are worths -/
def fRefuse (C : Addr) : List Da → Option XO
  | [a, b] => match isWorthD a with
    | some false => some (.err C none)
    | some true => match isWorthD b with
      | some false => some (.err C none)
      | some true => some (.ok .non)
      | none => none
    | none => none
  | _ => none
theorem refuse_ok {C : Addr} {a b c d : Int} (h1 : isW a b = true) (h2 : isW c d = true) : fRefuse C ([.tup [.int a, .int b], .tup [.int c, .int d]] ++ []) = some (.ok .non) := by
  show (match isWorthD (.tup [.int a, .int b]) with | some false => _ | some true => _ | none => _) = _
  rw [isWorthD_int, isWorthD_int, h1, h2]
def Bn (i : Int) : Prop := i.natAbs < 2 ^ 124
instance (i : Int) : Decidable (Bn i) := inferInstanceAs (Decidable (_ < _))
/-- two worths of sensible size -/
def Two (a b c d : Int) : Prop := isW a b = true ∧ isW c d = true ∧ Bn a ∧ Bn b ∧ Bn c ∧ Bn d
instance (a b c d : Int) : Decidable (Two a b c d) := inferInstanceAs (Decidable (_ ∧ _))
theorem isW_pos {a b : Int} (h : isW a b = true) : 0 < b := by
  unfold isW at h
  exact of_decide_eq_true (Bool.and_eq_true_iff.mp h).1
def fTwo (g : Int → Int → Int → Int → Option XO) : List Da → Option XO
  | [.tup [.int a, .int b], .tup [.int c, .int d]] => if Two a b c d then g a b c d else none
  | _ => none
theorem fTwo_inv {g : Int → Int → Int → Int → Option XO} {ds : List Da} {o : XO} (h : fTwo g ds = some o) : ∃ a b c d, ds = [.tup [.int a, .int b], .tup [.int c, .int d]] ∧ Two a b c d ∧ g a b c d = some o := by
  unfold fTwo at h
  split at h
  · split at h
    · exact ⟨_, _, _, _, rfl, ‹_›, h⟩
    · cases h
  · cases h
theorem fTwo_ok {g : Int → Int → Int → Int → Option XO} {a b c d : Int} {o : XO} (t : Two a b c d) (h : g a b c d = some o) : fTwo g ([.tup [.int a, .int b], .tup [.int c, .int d]] ++ []) = some o := by
  show (if Two a b c d then g a b c d else none) = some o
  rw [if_pos t]
  exact h
theorem bn_mul {i j : Int} (h1 : Bn i) (h2 : Bn j) : CMulW i j := wide_mul h1 h2 (by decide) (by decide) (by decide)
theorem bn_prod {i j : Int} (h1 : Bn i) (h2 : Bn j) : (i * j).natAbs < 2 ^ 248 := wide_lt h1 h2
theorem small_prod {i j : Int} (h1 : Bn i) (h2 : Bn j) : Small (i * j) := Nat.lt_of_lt_of_le (bn_prod h1 h2) (Nat.pow_le_pow_right (by decide) (by decide))
theorem fWorth_ok {C : Addr} {a b : Int} (h : b ≠ 0) (s : Small b) : fWorth C ([.int a, .int b] ++ []) = some (.ok (lw a b)) := by
  show (if b = 0 then some (XO.err C none) else if Small b then some (.ok (lw a b)) else none) = _
  rw [if_neg h, if_pos s]
theorem fWorth_no {C : Addr} {a b : Int} (h : b = 0) : fWorth C ([.int a, .int b] ++ []) = some (.err C none) := by
  show (if b = 0 then some (XO.err C none) else if Small b then some (.ok (lw a b)) else none) = _
  rw [if_pos h]
def gPlus (a b c d : Int) : Option XO := some (.ok (lw (a * d + c * b) (b * d)))
def gMinus (a b c d : Int) : Option XO := some (.ok (lw (a * d - c * b) (b * d)))
def gTimes (a b c d : Int) : Option XO := some (.ok (lw (a * c) (b * d)))
def gOver (C : Addr) (a b c d : Int) : Option XO := if b * c = 0 then some (.err C none) else some (.ok (lw (a * d) (b * c)))
def gLess (a b c d : Int) : Option XO := some (.ok (.bl (decide (a * d < c * b))))
theorem mul_ne {b d : Int} (h1 : 0 < b) (h2 : 0 < d) : b * d ≠ 0 := Int.ne_of_gt (Int.mul_pos h1 h2)
end Sky
namespace Sky
open PySem L2 Evl PySem.Spec PyProof.Rows
/-! ### the law's own: low, digits -/
def fLow : List Da → Option XO
  | [.int a, .int b] => if b ≠ 0 ∧ Small b then some (.ok (lw a b)) else none
  | _ => none
theorem fLow_inv {ds : List Da} {o : XO} (h : fLow ds = some o) : ∃ a b, ds = [.int a, .int b] ∧ b ≠ 0 ∧ Small b ∧ o = .ok (lw a b) := by
  unfold fLow at h
  split at h
  · split at h
    · exact ⟨_, _, rfl, (‹_ ∧ _› : _ ∧ _).1, (‹_ ∧ _› : _ ∧ _).2, (Option.some.inj h).symm⟩
    · cases h
  · cases h
theorem fLow_ok {a b : Int} (h : b ≠ 0) (s : Small b) : fLow ([.int a, .int b] ++ []) = some (.ok (lw a b)) := if_pos ⟨h, s⟩
def numD (c : Int) : Nat → Int
  | 0 => c % 2147483647
  | k + 1 => ((numD c k * 48271 + 30103 * (k : Int) + 11) % 2147483647) * (((numD c k * 48271 + 30103 * (k : Int) + 11) % 2147483647) / 1009 + 69621) % 2147483629
def restD (c : Int) : Nat → Int
  | 0 => if 10 ^ 18 ≤ c then c else 0
  | k + 1 => if 0 < restD c k then restD c k / 1009 else restD c k
def digD (c : Int) (k : Nat) : Int := if 0 < restD c k then restD c k % 1009 else numD c (k + 1) / 7 % 1009
def digs (c : Int) (n : Nat) : List Int := (List.range n).map (digD c)
theorem digs_len (c : Int) (n : Nat) : (digs c n).length = n := by simp [digs]
theorem digD_lo (c : Int) (k : Nat) : 0 ≤ digD c k := by
  unfold digD
  split <;> exact Int.emod_nonneg _ (by decide)
theorem digD_hi (c : Int) (k : Nat) : digD c k < 1009 := by
  unfold digD
  split <;> exact Int.emod_lt_of_pos _ (by decide)
theorem digs_succ (c : Int) (n : Nat) : digs c (n + 1) = digs c n ++ [digD c n] := by
  unfold digs
  rw [List.range_succ, List.map_append]
  rfl
theorem digs_get (c : Int) {n k : Nat} (h : k < n) : (digs c n)[k]? = some (digD c k) := by
  unfold digs
  rw [List.getElem?_map, List.getElem?_range h]
  rfl
theorem numD_bd (c : Int) : ∀ k, 0 ≤ numD c k ∧ numD c k < 2147483647
  | 0 => ⟨Int.emod_nonneg _ (by decide), Int.emod_lt_of_pos _ (by decide)⟩
  | k + 1 => ⟨Int.emod_nonneg _ (by decide), Int.lt_trans (Int.emod_lt_of_pos _ (by decide)) (by decide)⟩
theorem cm64 {i j : Int} (h1 : i.natAbs < 2 ^ 64) (h2 : j.natAbs < 2 ^ 64) : CMulW i j := wide_mul h1 h2 (by decide) (by decide) (by decide)
def fDigits : List Da → Option XO
  | [.int c, .int n] => if 0 ≤ n ∧ n ≤ 1000 then some (.ok (.lst ((digs c n.toNat).map .int))) else none
  | _ => none
theorem fDigits_inv {ds : List Da} {o : XO} (h : fDigits ds = some o) : ∃ (c : Int) (n : Nat), ds = [.int c, .int (n : Int)] ∧ n ≤ 1000 ∧ o = .ok (.lst ((digs c n).map .int)) := by
  unfold fDigits at h
  split at h
  · split at h
    · rename_i c n hn
      refine ⟨c, n.toNat, ?_, by omega, (Option.some.inj h).symm⟩
      rw [Int.toNat_of_nonneg hn.1]
    · cases h
  · cases h
theorem fDigits_ok {c : Int} {n : Nat} (h : n ≤ 1000) : fDigits ([.int c, .int (n : Int)] ++ []) = some (.ok (.lst ((digs c n).map .int))) := by
  show (if 0 ≤ (n : Int) ∧ (n : Int) ≤ 1000 then some (XO.ok (.lst ((digs c (n : Int).toNat).map .int))) else none) = _
  rw [if_pos ⟨by omega, by omega⟩, Int.toNat_natCast]
def TwoL (a b c d : Int) : Prop := b ≠ 0 ∧ d ≠ 0 ∧ Bn a ∧ Bn b ∧ Bn c ∧ Bn d
instance (a b c d : Int) : Decidable (TwoL a b c d) := inferInstanceAs (Decidable (_ ∧ _))
def fTwoL (g : Int → Int → Int → Int → Option XO) : List Da → Option XO
  | [.tup [.int a, .int b], .tup [.int c, .int d]] => if TwoL a b c d then g a b c d else none
  | _ => none
theorem fTwoL_inv {g : Int → Int → Int → Int → Option XO} {ds : List Da} {o : XO} (h : fTwoL g ds = some o) : ∃ a b c d, ds = [.tup [.int a, .int b], .tup [.int c, .int d]] ∧ TwoL a b c d ∧ g a b c d = some o := by
  unfold fTwoL at h
  split at h
  · split at h
    · exact ⟨_, _, _, _, rfl, ‹_›, h⟩
    · cases h
  · cases h
theorem fTwoL_ok {g : Int → Int → Int → Int → Option XO} {a b c d : Int} {o : XO} (t : TwoL a b c d) (h : g a b c d = some o) : fTwoL g ([.tup [.int a, .int b], .tup [.int c, .int d]] ++ []) = some o := by
  show (if TwoL a b c d then g a b c d else none) = some o
  rw [if_pos t]
  exact h
end Sky
namespace Sky
open PySem L2 Evl PySem.Spec PyProof.Rows
theorem svs_whileP {X : Cx} {W : WX} {k : Nat} {en : List Sl} {c : Expr} {pos : Pos} {ss rest : List Stmt} {ou : Out} {α : Type} (Bx : Bd X W k) (I : α → List Sl) (go : α → Bool) (μ : α → Nat) (P : α → Prop) (a0 : α) (h0 : P a0) (hI : I a0 = en)
    (step : ∀ a, P a → go a = true → EVT X W (I a) c true ∧ ∃ a', P a' ∧ μ a' < μ a ∧ SVs X W (I a) ss (.nx (I a'))) (stop : ∀ a, P a → go a = false → EVT X W (I a) c false)
    (k : ∀ a, P a → go a = false → SVs X W (I a) rest ou) : SVs X W en (.While c ss [] pos :: rest) ou := by
  obtain ⟨a, ha, hg, h⟩ := sv_whileP (pos := pos) Bx I go μ P a0 h0 hI step stop
  exact svs_cons h (k a ha hg)
end Sky
namespace Sky
open PySem L2 Evl PySem.Spec PyProof.Rows
/-! ### try: .. except X as n: .. -/
section
variable {X : Cx} {W : WX} {k i : Nat} {en e1 e2 : List Sl} {x n : Str} {c : Value} {body suite : List Stmt} {b₀ : Stmt} {np pos pos' : Pos} {o : Out} {C : Addr} {f : Option (Str × Da)}
/-- the wish of the body -/
abbrev WA (X : Cx) (c : Value) (i : Nat) (b₀ : Stmt) (suite : List Stmt) (D : Ends) : WX :=
  wAs X.K c i (fun a cls d => fun D σ H => ∀ (oe : Obj) (pn : List (Addr × Obj)), Zc cls d oe → (∃ vs, oe.data = .fields vs) → ∃ t, PSs (X.suite a ((a, oe) :: pn)) (b₀ :: suite) t ∧ t D σ H) (fun _ _ _ _ => False) D
theorem ps_tryU (hs : X.stack = X.env :: X.outer) (hf : X.env.frame = some X.env.locals) (hN : X.N.Nodup) (hi : X.N[i]? = some n) (hln : X.env.kindOf n = some .local) (hc : Names X x c) :
    PS X (.Try body [.ExceptHandler (some (.Name x np)) (some n) (b₀ :: suite) pos'] [] [] pos) (fun D σ H => ∀ (pn : List (Addr × Obj)) (xe : Value → Shared → Prop), Takes (X.tr pn xe) (WA X c i b₀ suite D) → PassesOwn (model X.prog X.w) X.A X.env xe → ∃ t, PSs (X.tr pn xe) body t ∧ t D σ H) :=
  ps_try_as (tb := fun W D σ H => ∀ (pn : List (Addr × Obj)) (xe : Value → Shared → Prop), Takes (X.tr pn xe) W → PassesOwn (model X.prog X.w) X.A X.env xe → ∃ t, PSs (X.tr pn xe) body t ∧ t D σ H)
    hs hf hN hi hln hc takes0
    (fun W pn xe tk ow => ⟨fun pins s σ H D I h => by
      obtain ⟨t, h1, h2⟩ := h pn xe tk ow
      exact h1.run pins s σ H D I h2⟩)
    (fun a oe cls d pn hz hf => ⟨fun pins s σ H D I h => by
      obtain ⟨t, h1, h2⟩ := h oe pn hz hf
      exact h1.run pins s σ H D I h2⟩)
theorem bd_tr (Bx : Bd X W k) {W' : WX} {pn : List (Addr × Obj)} {xe : Value → Shared → Prop} (tk : Takes (X.tr pn xe) W') (ow : PassesOwn (model X.prog X.w) X.A X.env xe) : Bd (X.tr pn xe) W' k := ⟨Bx.calm, tk, ow, Bx.rm, Bx.nd⟩
/-- nothing is raised -/
theorem sv_tryOk (Bx : Bd X W k) (hs : X.stack = X.env :: X.outer) (hf : X.env.frame = some X.env.locals) (hi : X.N[i]? = some n) (hln : X.env.kindOf n = some .local) (hc : Names X x c) (ho : (∃ d, o = .rt d) ∨ ∃ e, o = .nx e)
    (hb : ∀ (W' : WX) (pn : List (Addr × Obj)) (xe : Value → Shared → Prop), Bd (X.tr pn xe) W' k → SVs (X.tr pn xe) W' en body o) :
    SV X W en (.Try body [.ExceptHandler (some (.Name x np)) (some n) (b₀ :: suite) pos'] [] [] pos) o :=
  ⟨_, ps_tryU hs hf Bx.nd hi hln hc, fun B0 H0 B H σ S D q pn xe tk ow => by
    obtain ⟨t, h1, h2⟩ := hb _ pn xe (bd_tr Bx tk ow)
    refine ⟨t, h1, h2 B0 H0 B H σ S D ?_⟩
    rcases ho with ⟨d, rfl⟩ | ⟨e, rfl⟩
    · exact q
    · exact q⟩
/-- the body raises C, the clause's own class takes it; the suite returns -/
theorem sv_tryRet {d : Da} (Bx : Bd X W k) (hs : X.stack = X.env :: X.outer) (hf : X.env.frame = some X.env.locals) (hN : X.N.idxOf? n = some i) (hi : X.N[i]? = some n) (hln : X.env.kindOf n = some .local) (hc : Names X x c)
    (hb : ∀ (W' : WX) (pn : List (Addr × Obj)) (xe : Value → Shared → Prop), Bd (X.tr pn xe) W' k → SVs (X.tr pn xe) W' en body (.rx e1 C f)) (he : PySem.W.exmOne X.K (.ref C) c = some true)
    (hsu : ∀ (a : Addr) (oe : Obj) (dd : Option Addr) (pn : List (Addr × Obj)), (f = none → dd = none) → Zc (.ref C) dd oe → (∃ vs, oe.data = .fields vs) → SVs (X.suite a ((a, oe) :: pn)) (fun _ _ _ _ => False) (e1.set i (.rf (.ref a))) (b₀ :: suite) (.rt d)) :
    SV X W en (.Try body [.ExceptHandler (some (.Name x np)) (some n) (b₀ :: suite) pos'] [] [] pos) (.rt d) :=
  ⟨_, ps_tryU hs hf Bx.nd hi hln hc, fun B0 H0 B H σ S D q pn xe tk ow => by
    obtain ⟨t, h1, h2⟩ := hb _ pn xe (bd_tr Bx tk ow)
    refine ⟨t, h1, h2 B0 H0 B H σ S D fun B' H' σ' dd S' xf => ⟨true, he, fun _ a ha oe pn2 hz hv => ?_, fun z => by cases z⟩⟩
    have hd : f = none → dd = none := fun z => by subst z; exact xf
    obtain ⟨t', h3, h4⟩ := hsu a oe dd pn2 hd hz hv
    exact ⟨t', h3, h4 B0 H0 B' H' _ (S'.setRf (.ref a) i) _ q⟩⟩
theorem ex_rf {K : PySem.W.Frag} {v : V} (h : en[i]? = some (.rf v)) : ∀ B0 H0 B H σ, Sd K B0 H0 B H σ en → ∀ Q : VK, Q v H → tVar i σ H Q := fun _ _ B H σ S Q k => ⟨v, S.atRf h, k⟩
/-- isinstance(e, c), e the error that the suite holds -/
theorem ev_isE {a : Addr} {oe : Obj} {pn : List (Addr × Obj)} {D : Addr} {y : Str} {cx : Expr} {cv : V} {cu : Value} {b : Bool} {p1 p2 p3 : Pos} {W' : WX} (Ec : ExcC X.K D) (hz : Zc (.ref D) none oe) (hf : ∃ vs, oe.data = .fields vs) (hm : X.mg "isinstance" = none)
    (hN : X.N.idxOf? y = some i) (hv : Vis X.env.scope y) (h : en[i]? = some (.rf (.ref a))) (hN2 : X.N[i]? = some y) (hd : (y == ("__debug__" : Str)) = false) (hcd : (y == ("__classdict__" : Str)) = false)
    (hc : PE (X.suite a ((a, oe) :: pn)) cx (tC cv)) (hcu : ∀ u, RelV cv u → u = cu) (hk : PySem.W.kitOne X.K (.ref D) cu = some b) (hg : Gl (X.suite a ((a, oe) :: pn)) "isinstance")
    (h1 : starEach [.Name y p1, cx] X.env = (false, eval (.Name y p1) X.env) :: starEach [cx] X.env) (h2 : starEach [cx] X.env = (false, eval cx X.env) :: starEach [] X.env) (hpl : (backTo p3 (starEach [cx] X.env)).any (·.1) = false) :
    EV (X.suite a ((a, oe) :: pn)) W' en (.Call (.Name "isinstance" p2) [.Name y p1, cx] [] p3) (.ok (.bl b)) := by
  have hvar : PE (X.suite a ((a, oe) :: pn)) (.Name y p1) (tVar i) := pe_var hN2 hv hd hcd
  refine ⟨_, pe_callB (call_isE Ec hz hf) hg hm (by decide +kernel) (pa_cons hvar (pa_cons hc pa_nil h2) h1) (by decide) (by decide) h1 hpl, fun B0 H0 B H σ S Q ko => ?_⟩
  exact ex_rf h B0 H0 B H σ S _ ⟨cv, cu, b, rfl, hcu, hk, ko _ B H (Gr.refl S.eb) (.bl b)⟩
end
end Sky
namespace Sky
open PySem L2 Evl PySem.Spec PyProof.Rows
/-! ### calls with keywords -/
structure CalK (P : Program) (w : World) (K : PySem.W.Frag) (mg : Str → Option Value) (base : Heap) (x : Str) (j : Nat) (n : Nat) (ks : List Str) (gD : List Da → List Da → List Da) (fs : List Da → Option XO) : Prop where
  ex : ∃ (f : Addr) (fd : FuncData) (ps : List Str) (g : List Value → List Value → List Value) (gV : List V → List V → List V), FnOk P w K mg base (L2.CX P w) j f fd ps (spD K ps.length fs) ∧ mg x = some (.ref f) ∧ PySem.W.keepIn K (.ref f) = true ∧ KBn K fd ps n ks g gV ∧
    ∀ B vs zs ds es, DrA K B vs ds → DrA K B zs es → vs.length = n → zs.length = ks.length → (gV vs zs).length = ps.length ∧ DrA K B (gV vs zs) (gD ds es)
def tKS (n m : Nat) (sp : Sp) (gV : List V → List V → List V) (E : L2.St → XK) (t tk : TA) : TE := fun σ H Q => t σ H fun vs H1 => tk σ H1 fun zs H2 => vs.length = n ∧ zs.length = m ∧ sp (gV vs zs) H2 Q (E σ)
section
variable {X : Cx} {W : WX} {k j n : Nat} {f : Addr} {fd : FuncData} {ps ks : List Str} {sp : Sp} {E : L2.St → XK} {x : Str} {p pos : Pos} {e : Expr} {es : List Expr} {kws : List Keyword} {t tk : TA} {g : List Value → List Value → List Value} {gV : List V → List V → List V} {en : List Sl} {o : XO} {ds zs : List Da} {gD : List Da → List Da → List Da} {fs : List Da → Option XO} {d : Da}
theorem run_fnKS {CX : CXT} {pins : List (Addr × Obj)} {σ : L2.St} {H : Hp} {s : Shared} {Q : VK} {us ws : List Value} {vs zs : List V} (F : FnOk X.prog X.w X.K X.mg X.base CX k f fd ps sp) (hr : Room k X.A) (hb : KBn X.K fd ps n ks g gV) (hx : PassesAt CX X σ (E σ))
    (I : Inv X pins σ H s) (r : Vals vs us) (rz : Vals zs ws) (l1 : vs.length = n) (l2 : zs.length = ks.length) (h : sp (gV vs zs) H Q (E σ)) : wpAny (model X.prog X.w) X.A (call (.ref f) us (ks.zip ws)) (EP X pins σ Q) X.xe s := by
  have r2 := hb.rel r rz
  refine wpAny_call (codeAny_mono (F.run X.A X.stack s H ⟨us, ks.zip ws⟩ (g us ws) (gV vs zs) Q (E σ) hr I.env0 (hb.to s us ws I.kIn (r.length.symm.trans l1) (rz.length.symm.trans l2)) r2 h) fun r s' hq => ?_)
  cases r with
  | error e => exact hx pins H s e s' I hq
  | ok fl =>
    cases fl with
    | ret u => exact I.after hq
    | next => exact False.elim hq
    | brk => exact False.elim hq
    | cont => exact False.elim hq
theorem pe_KS {CX : CXT} (F : FnOk X.prog X.w X.K X.mg X.base CX k f fd ps sp) (hr : Room k X.A) (hg : Gl X x) (hm : X.mg x = some (.ref f)) (hk : PySem.W.keepIn X.K (.ref f) = true) (hb : KBn X.K fd ps n ks g gV) (hx : ∀ σ, PassesAt CX X σ (E σ))
    (ha : PA X (e :: es) t) (hkw : PK X kws tk) (hall : (backToKw pos (keywordEach kws X.env)).all (·.1.isSome) = true) (hks : (backToKw pos (keywordEach kws X.env)).filterMap (·.1) = ks)
    (hdb : (x == ("__debug__" : Str)) = false) (he : starEach (e :: es) X.env = (false, eval e X.env) :: starEach es X.env)
    (hpl : ((backTo pos (starEach (e :: es) X.env)).any (·.1) || (backToKw pos (keywordEach kws X.env)).any (·.1.isNone)) = false) :
    PE X (.Call (.Name x p) (e :: es) kws pos) (tKS n ks.length sp gV E t tk) := by
  refine ⟨fun pins s σ H Q I h => ?_⟩
  refine wpAny_Call_Name_kw (ld_glob I hg hm ?_ hdb)
  refine PySem.W.callWith_KW (h₀ := X.base) I.ok.mod.kin hk hall (thn (ha.run pos pins s σ H _ I h) fun us s1 ⟨vs, H1, I1, r, q⟩ => ?_) hpl he
  refine thn (hkw.run pos pins s1 σ H1 _ I1 q) fun ws s2 ⟨zs, H2, I2, rz, l1, l2, q2⟩ => ⟨I2.kIn, ?_⟩
  rw [hks]
  exact run_fnKS F hr hb (hx σ) I2 r rz l1 l2 q2
theorem pe_KS0 {CX : CXT} (F : FnOk X.prog X.w X.K X.mg X.base CX k f fd ps sp) (hr : Room k X.A) (hg : Gl X x) (hm : X.mg x = some (.ref f)) (hk : PySem.W.keepIn X.K (.ref f) = true) (hb : KBn X.K fd ps 0 ks g gV) (hx : ∀ σ, PassesAt CX X σ (E σ))
    (hkw : PK X kws tk) (hall : (backToKw pos (keywordEach kws X.env)).all (·.1.isSome) = true) (hks : (backToKw pos (keywordEach kws X.env)).filterMap (·.1) = ks)
    (hdb : (x == ("__debug__" : Str)) = false)
    (hpl : ((backTo pos (starEach [] X.env)).any (·.1) || (backToKw pos (keywordEach kws X.env)).any (·.1.isNone)) = false) :
    PE X (.Call (.Name x p) [] kws pos) (tKS 0 ks.length sp gV E tNil tk) := by
  refine ⟨fun pins s σ H Q I h => ?_⟩
  refine wpAny_Call_Name_kw (ld_glob I hg hm ?_ hdb)
  refine PySem.W.callWith_KW0 (h₀ := X.base) I.ok.mod.kin hk hall ?_ hpl
  refine thn (hkw.run pos pins s σ H _ I h) fun ws s2 ⟨zs, H2, I2, rz, l1, l2, q2⟩ => ⟨I2.kIn, ?_⟩
  rw [hks]
  exact run_fnKS (us := []) (vs := []) F hr hb (hx σ) I2 .nil rz l1 l2 q2
structure EVK (X : Cx) (W : WX) (en : List Sl) (kws : List Keyword) (ds : List Da) : Prop where
  ex : ∃ t, PK X kws t ∧ EA X.K t en ds
theorem evk_nil : EVK X W en [] [] := ⟨_, pk_nil, ea_nil⟩
theorem evk_cons {nm : Option Str} {kp : Pos} (h : EV X W en e (.ok d)) (t : EVK X W en kws zs) : EVK X W en (⟨nm, e, kp⟩ :: kws) (d :: zs) := by
  obtain ⟨te, h1, h2⟩ := h
  obtain ⟨tr, h3, h4⟩ := t
  exact ⟨_, pk_cons h1 h3, ea_cons h2 h4⟩
theorem ex_KS (ha : EA X.K t en ds) (hk : EA X.K tk en zs) (hgd : ∀ B vs ws, DrA X.K B vs ds → DrA X.K B ws zs → vs.length = n → ws.length = ks.length → (gV vs ws).length = ps.length ∧ DrA X.K B (gV vs ws) (gD ds zs)) (l1 : ds.length = n) (l2 : zs.length = ks.length) (hf : fs (gD ds zs) = some o) :
    EX X.K W (tKS n ks.length (spD X.K ps.length fs) gV (WE W) t tk) en o := fun _ _ B H σ S Q ko =>
  ha _ _ B H σ S _ fun vs B1 H1 g1 r1 => hk _ _ B1 H1 σ (S.grow g1) _ fun ws B2 H2 g2 r2 => by
    have q1 := (r1.mono g2.b).length.trans l1
    have q2 := r2.length.trans l2
    obtain ⟨h1, h2⟩ := hgd B2 vs ws (r1.mono g2.b) r2 q1 q2
    exact ⟨q1, q2, h1, B2, _, o, g2.s, h2, hf, ko.grow (g1.trans g2)⟩
theorem ev_calK (cl : CalK X.prog X.w X.K X.mg X.base x j n ks gD fs) (Bx : Bd X W k) (hj : j ≤ k) (ha : EVA X W en (e :: es) ds) (hk : EVK X W en kws zs) (hf : fs (gD ds zs) = some o) (l1 : ds.length = n) (l2 : zs.length = ks.length) (hg : Gl X x)
    (hall : (backToKw pos (keywordEach kws X.env)).all (·.1.isSome) = true) (hks : (backToKw pos (keywordEach kws X.env)).filterMap (·.1) = ks)
    (hdb : (x == ("__debug__" : Str)) = false) (he : starEach (e :: es) X.env = (false, eval e X.env) :: starEach es X.env)
    (hpl : ((backTo pos (starEach (e :: es) X.env)).any (·.1) || (backToKw pos (keywordEach kws X.env)).any (·.1.isNone)) = false) : EV X W en (.Call (.Name x p) (e :: es) kws pos) o := by
  obtain ⟨f, fd, ps, g, gV, F, hm, hkp, hb, hgd⟩ := cl.ex
  obtain ⟨t, h1, h2⟩ := ha
  obtain ⟨tk, h3, h4⟩ := hk
  exact ⟨_, pe_KS F (Bx.rm.mono hj) hg hm hkp hb (fun σ => passAt Bx.tk σ) h1 h3 hall hks hdb he hpl, ex_KS h2 h4 (fun B vs ws r1 r2 q1 q2 => hgd B vs ws ds zs r1 r2 q1 q2) l1 l2 hf⟩
theorem ev_calK0 (cl : CalK X.prog X.w X.K X.mg X.base x j 0 ks gD fs) (Bx : Bd X W k) (hj : j ≤ k) (hk : EVK X W en kws zs) (hf : fs (gD [] zs) = some o) (l2 : zs.length = ks.length) (hg : Gl X x)
    (hall : (backToKw pos (keywordEach kws X.env)).all (·.1.isSome) = true) (hks : (backToKw pos (keywordEach kws X.env)).filterMap (·.1) = ks)
    (hdb : (x == ("__debug__" : Str)) = false)
    (hpl : ((backTo pos (starEach [] X.env)).any (·.1) || (backToKw pos (keywordEach kws X.env)).any (·.1.isNone)) = false) : EV X W en (.Call (.Name x p) [] kws pos) o := by
  obtain ⟨f, fd, ps, g, gV, F, hm, hkp, hb, hgd⟩ := cl.ex
  obtain ⟨tk, h3, h4⟩ := hk
  exact ⟨_, pe_KS0 F (Bx.rm.mono hj) hg hm hkp hb (fun σ => passAt Bx.tk σ) h3 hall hks hdb hpl, ex_KS ea_nil h4 (fun B vs ws r1 r2 q1 q2 => hgd B vs ws [] zs r1 r2 q1 q2) rfl l2 hf⟩
end
/-! defaults -/
section
variable {P : Program} {w : World} {K : PySem.W.Frag} {mg : Str → Option Value} {base : Heap} {x qual : Str} {st : Stmt} {f : Addr} {fd : FuncData} {N ps : List Str} {k : Nat} {dvs : List V} {kws : List (Str × V)}
abbrev FunDS (K : PySem.W.Frag) (x qual : Str) (st : Stmt) (dvs : List V) (kws : List (Str × V)) (f : Addr) (fd : FuncData) : Prop := FunD K x qual (defArgs st) (defBody st) (defScope st) dvs kws f fd
/-- a def by its data, whatever its defaults are -/
theorem fn_dD (F : FunDS K x qual st dvs kws f fd) (S : FnScope N ps (defScope st)) (fs : List Da → Option XO)
    (hb : ∀ (cdv : Value) (A : Around) (outer : List Env) (s : Shared) (H : Hp) (E : XK) (ds : List Da) (o : XO), Bd (XB P w K mg base N qual st f cdv A outer s H E) (WD E) k → ds.length = ps.length → fs ds = some o →
      ∃ ou, Leads ou o ∧ SVs (XB P w K mg base N qual st f cdv A outer s H E) (WD E) (slots N ds) (defBody st) ou) : FnOk P w K mg base (L2.CX P w) (k + 1) f fd ps (spD K ps.length fs) := by
  refine F.ok (CX := L2.CX P w) S (fun vs H Q E h => h.1) fun cdv A outer s H vs Q E hr h => ?_
  obtain ⟨hl, B, ds, o, eB, hA, hf, ko⟩ := h
  obtain ⟨ou, ld, t, h1, h2⟩ := hb cdv A outer s H E ds o (bd_of S hr) (hA.length.symm.trans hl) hf
  have hN : ps.length ≤ N.length := by have := congrArg List.length S.pre; rw [List.length_take] at this; omega
  refine ⟨t, h1, h2 B H B H _ ⟨Gr.refl eB, ?_, fun i j p es1 es2 q1 _ hx => (slots_no q1 hx).elim⟩ _ ?_⟩
  · unfold L2.start slots
    rw [hA.length]
    exact paired_app (slots_sl hA) paired_rep
  · cases ld with
    | rt d => exact fun v B' H' g r => ko v B' H' g r
    | rx en C f => exact fun B' H' σ' dd S' x' => ko dd B' H' S'.gr x'
    | nx en => exact fun B' H' σ' S' => ko .non B' H' S'.gr .non
/-- keywords over a def with positional defaults alone -/
theorem FunD.kb1 (F : FunDS K x qual st dvs kws f fd) (n : Nat) (ks : List Str) (g : {α : Type} → List α → List α → List α → List α) (hd : dvs ≠ [])
    (hrel : ∀ {vs ds zs : List V} {us its ws : List Value}, Vals vs us → Vals ds its → Vals zs ws → Vals (g vs ds zs) (g us its ws))
    (h : ∀ (T : Addr) (kV doc pm : Value) (an : Option Addr) (cdv ct : Value) (us its ws : List Value), us.length = n → its.length = dvs.length → ws.length = ks.length →
      ∃ k, bindArgs (PySem.W.fnOf x qual (defArgs st) (defBody st) (defScope st) (.ref T) kV doc pm an cdv ct) ⟨us, ks.zip ws⟩ = seqItems? (.ref T) >>= k ∧ k (some its.toArray) = pure (ps.zip (g us its ws))) :
    ∃ its : List Value, KBn K fd ps n ks (fun us ws => g us its ws) (fun vs zs => g vs dvs zs) := by
  obtain ⟨oc, od, dV, kV, doc, pm, an, cdv, ct, osl, rfl, lk, hcd, hD, hK⟩ := F.ex
  rcases hD with ⟨e, _⟩ | ⟨_, T, o, its, m, rfl, lT, oT, rT⟩
  · exact absurd e hd
  · refine ⟨its, ⟨fun s us ws X l1 l2 => ?_, fun r1 r2 => hrel r1 rT r2⟩⟩
    obtain ⟨k, e1, e2⟩ := h T kV doc pm an cdv ct us its ws l1 rT.length.symm l2
    refine BindsTo.of_looks fun M => ?_
    rw [e1]
    exact looks_items X lT oT (.of_pure e2)
end
/-! ### [e for x in xs] -/
def wipeE (en : List Sl) : List Nat → List Sl
  | [] => en
  | v :: vs => (wipeE en vs).set v .no
section
variable {K : PySem.W.Frag} {W : WX} {B B' H H' H0 B0 : Hp} {σ : L2.St} {en : List Sl} {te tl : TE} {ds : List Da}
theorem Sd.wipe (S : Sd K B0 H0 B H σ en) : ∀ vs : List Nat, Sd K B0 H0 B H (wipe σ vs) (wipeE en vs)
  | [] => S
  | v :: vs => (Sd.wipe S vs).drop v none
theorem el_lc {j : Nat} (gf : Da → Da) (h : EX K W tl en (.ok (.lst ds))) (hz : ds.length ≤ 40000) (he : ∀ d, d ∈ ds → EX K (fun _ _ _ _ => False) te ((wipeE en [j]).set j (.da d)) (.ok (gf d))) : EL K (tLc (iList K tl) (gName j) tYes te [j]) en (ds.map gf) := fun B0 H0 B H σ S Q q =>
  h _ _ B H σ S _ fun v B1 H1 g1 r1 => by
    cases r1 with
    | @lst a vs _ hq t =>
      have S1 := S.grow g1
      refine ⟨a, rfl, ⟨vs, ex_l g1.s hq⟩, fun D hD => lc_list (xs := vs) (fun i H' => ∃ B' acc, Gr B1 H1 B' H' ∧ B' D = none ∧ H' D = some (.lst acc) ∧ DrA K B' acc ((ds.take i).map gf)) ⟨B1, [], Gr.newO g1.s hD, fresh_back g1.s hD, upd_same, .nil⟩ (fun i H' _ ⟨B', acc, g, _⟩ => ex_l g.s (ex_l g.b hq)) (fun i x H' hi ⟨B', acc, g, hB, hH, hA⟩ => ?_) (fun H' ⟨B', acc, g, hB, hH, hA⟩ => ?_)⟩
      · obtain ⟨d, hd⟩ : ∃ d, ds[i]? = some d := by
          have := (List.getElem?_eq_some_iff.mp hi).1
          rw [t.length] at this
          exact ⟨ds[i], List.getElem?_eq_getElem this⟩
        obtain ⟨x', hx', rx⟩ := t.get hd
        rw [hi] at hx'
        cases hx'
        have S2 := ((S1.grow g).wipe [j]).set (rx.mono g.b) j
        refine ⟨by simp only [L2.wipe, List.set_set], ?_⟩
        show te ((wipe σ [j]).set j (some x)) H' _
        refine he d (List.mem_of_getElem? hd) _ _ B' H' _ S2 _ fun y B4 H4 g4 r4 => ?_
        have h4 : H4 D = some (.lst acc) := g4.h _ _ hH
        have b4 : B4 D = none := g4.n D (by rw [hH]; exact fun z => nomatch z) hB
        have hl : i < ds.length := by
          rcases Nat.lt_or_ge i ds.length with q | q
          · exact q
          · rw [List.getElem?_eq_none q] at hd; cases hd
        refine ⟨acc, h4, ?_, B4, acc ++ [y], ⟨g.b.trans g4.b, (g.h.trans g4.h).mut hD, fun a o e => ?_, (g.trans g4).n, (g.trans g4).q⟩, b4, upd_same, ?_⟩
        · rw [hA.length, List.length_map, List.length_take]
          exact sz_lt (by omega)
        · rw [upd_ne (ne_of_none e b4)]
          exact g4.s a o e
        · rw [List.take_add_one, hd, List.map_append]
          exact (hA.mono g4.b).append (.cons r4 .nil)
      · rw [t.length, List.take_length] at hA
        exact q D acc B' H' (g1.trans g) (g1.back hD) hB hH hA
end
section
variable {X : Cx} {W : WX} {k : Nat} {en : List Sl} {it elt : Expr} {x : Str} {p pos : Pos} {scope : Scope} {ds : List Da} {j : Nat}
theorem evl_lc (Bx : Bd X W k) (gf : Da → Da) (hi : EV X W en it (.ok (.lst ds))) (hz : ds.length ≤ 40000) (hN2 : X.N[j]? = some x) (ok : BlkOk X.N X.env.scope scope [(x, j)])
    (hg : ∀ (s : Shared) (H : Hp) (C : Addr) (cl : List (Str × Addr)) (fp : List Addr), PG (X.blk s H scope (compEnvC scope cl C X.env) fp) (.Name x p) (gName j)) (hs : ∀ v, foldedSetIterable it X.env v = pure v)
    (he : ∀ (s : Shared) (H : Hp) (C : Addr) (cl : List (Str × Addr)) (fp : List Addr) d, d ∈ ds → EV (X.blk s H scope (compEnvC scope cl C X.env) fp) (fun _ _ _ _ => False) ((wipeE en [j]).set j (.da d)) elt (.ok (gf d))) :
    EVL X W en (.ListComp elt [⟨.Name x p, it, [], 0⟩] scope pos) (ds.map gf) := by
  obtain ⟨t, h1, h2⟩ := hi
  refine ⟨_, pe_lc (own := [(x, j)]) (g := gName j) (tt := tYes) (te := fun σ H Q => ∀ (s : Shared) (H_ : Hp) (C : Addr) (cl : List (Str × Addr)) (fp : List Addr), ∃ t, PE (X.blk s H_ scope (compEnvC scope cl C X.env) fp) elt t ∧ t σ H Q) Bx.calm Bx.nd (pi_list h1) ok hg (fun _ _ _ _ _ => pts_nil)
    (fun s H C cl fp => ⟨fun pins s' σ H' Q I hh => ?_⟩) hs, ?_⟩
  · obtain ⟨t', h3, h4⟩ := hh s H C cl fp
    exact h3.run pins s' σ H' Q I h4
  · refine el_lc gf h2 hz fun d hd => ?_
    intro B0 H0 B H σ S Q ko s H_ C cl fp
    obtain ⟨t', h3, h4⟩ := he s H_ C cl fp d hd
    exact ⟨t', h3, h4 B0 H0 B H σ S Q ko⟩
theorem bd_blk (Bx : Bd X W k) {s : Shared} {H : Hp} {cenv : Env} {fp : List Addr} (hN : (X.blk s H scope cenv fp).N.Nodup) : Bd (X.blk s H scope cenv fp) (fun _ _ _ _ => False) k := ⟨Bx.calm, takes0, PassesOwn.never, Bx.rm, hN⟩
end
theorem rc_all {K : PySem.W.Frag} {bs : List Bool} : RC K (rAll K) [.lst (bs.map .bl)] (.bl (bs.all id)) := fun B H vs e hA Q k => by
  cases hA with
  | cons h1 t =>
    cases t
    cases h1 with
    | @lst a vs _ h t =>
      have ev : vs = bs.map V.bl := by
        clear h k
        induction bs generalizing vs with
        | nil => cases t; rfl
        | cons b r ih =>
          cases t with
          | cons h t =>
            cases h
            rw [ih t]
            rfl
      subst ev
      exact ⟨a, bs, rfl, ex_l e h, k _ B H (Gr.refl e) (.bl _)⟩
end Sky
namespace Sky
open PySem L2 Evl PySem.Spec PyProof.Rows
/-! ### numbers once more -/
def tp (a b : Int) : Int := a.fdiv (gz a b)
def bt (a b : Int) : Int := b.fdiv (gz a b)
theorem lw_is (a b : Int) : lw a b = .tup [.int (tp a b), .int (bt a b)] := rfl
/-- what lowest terms are: u = z q, l = z r, r above 0, q and r without a common divisor -/
theorem gz_of {u l z q r : Int} (hz : z ≠ 0) (hu : u = z * q) (hl : l = z * r) (hr : 0 < r) (hg : Nat.gcd q.natAbs r.natAbs = 1) : gz u l = z := by
  have g : Nat.gcd u.natAbs l.natAbs = z.natAbs := by
    rw [hu, hl, Int.natAbs_mul, Int.natAbs_mul, Nat.gcd_mul_left, hg, Nat.mul_one]
  unfold gz
  rw [g]
  by_cases h : z < 0
  · have : l < 0 := by rw [hl]; exact Int.mul_neg_of_neg_of_pos h hr
    rw [if_pos this]
    omega
  · have : ¬ l < 0 := by
      have : 0 ≤ l := by rw [hl]; exact Int.mul_nonneg (by omega) (by omega)
      omega
    rw [if_neg this]
    omega
theorem lw_of {u l z q r : Int} (hz : z ≠ 0) (hu : u = z * q) (hl : l = z * r) (hr : 0 < r) (hg : Nat.gcd q.natAbs r.natAbs = 1) : tp u l = q ∧ bt u l = r := by
  have e := gz_of hz hu hl hr hg
  unfold tp bt
  rw [e, hu, hl, Int.mul_fdiv_cancel_left _ hz, Int.mul_fdiv_cancel_left _ hz]
  exact ⟨rfl, rfl⟩
theorem lw_ex (u : Int) {l : Int} (h : l ≠ 0) : ∃ z q r, z ≠ 0 ∧ u = z * q ∧ l = z * r ∧ 0 < r ∧ Nat.gcd q.natAbs r.natAbs = 1 := by
  have gp : 0 < Nat.gcd u.natAbs l.natAbs := Nat.gcd_pos_of_pos_right _ (by omega)
  have d1 : ((Nat.gcd u.natAbs l.natAbs : Nat) : Int) ∣ u := Int.ofNat_dvd_left.mpr (Nat.gcd_dvd_left _ _)
  have d2 : ((Nat.gcd u.natAbs l.natAbs : Nat) : Int) ∣ l := Int.ofNat_dvd_left.mpr (Nat.gcd_dvd_right _ _)
  obtain ⟨q, hq⟩ := d1
  obtain ⟨r, hr⟩ := d2
  have hg : Nat.gcd q.natAbs r.natAbs = 1 := by
    have e : Nat.gcd u.natAbs l.natAbs = Nat.gcd u.natAbs l.natAbs * Nat.gcd q.natAbs r.natAbs := by
      have e1 : u.natAbs = Nat.gcd u.natAbs l.natAbs * q.natAbs := by
        have := congrArg Int.natAbs hq
        rwa [Int.natAbs_mul, Int.natAbs_natCast] at this
      have e2 : l.natAbs = Nat.gcd u.natAbs l.natAbs * r.natAbs := by
        have := congrArg Int.natAbs hr
        rwa [Int.natAbs_mul, Int.natAbs_natCast] at this
      have e3 : Nat.gcd (Nat.gcd u.natAbs l.natAbs * q.natAbs) (Nat.gcd u.natAbs l.natAbs * r.natAbs) = Nat.gcd u.natAbs l.natAbs * Nat.gcd q.natAbs r.natAbs := Nat.gcd_mul_left _ _ _
      rw [← e1, ← e2] at e3
      exact e3
    exact Nat.eq_of_mul_eq_mul_left gp (by rw [Nat.mul_one]; exact e.symm)
  by_cases hs : 0 < r
  · exact ⟨_, q, r, by omega, hq, hr, hs, hg⟩
  · have hr0 : r ≠ 0 := fun z => by rw [z, Int.mul_zero] at hr; exact h hr
    refine ⟨-((Nat.gcd u.natAbs l.natAbs : Nat) : Int), -q, -r, by omega, by rw [Int.neg_mul_neg]; exact hq, by rw [Int.neg_mul_neg]; exact hr, by omega, by rw [Int.natAbs_neg, Int.natAbs_neg]; exact hg⟩
theorem lw_isW (u : Int) {l : Int} (h : l ≠ 0) : isW (tp u l) (bt u l) = true := by
  obtain ⟨z, q, r, h1, h2, h3, h4, h5⟩ := lw_ex u h
  obtain ⟨e1, e2⟩ := lw_of h1 h2 h3 h4 h5
  unfold isW
  rw [e1, e2, decide_eq_true h4, decide_eq_true h5]
  rfl
theorem natAbs_le_mul {z q : Int} (hz : z ≠ 0) : q.natAbs ≤ (z * q).natAbs := by
  rw [Int.natAbs_mul]
  exact Nat.le_mul_of_pos_left _ (by omega)
theorem tp_le (u : Int) {l : Int} (h : l ≠ 0) : (tp u l).natAbs ≤ u.natAbs := by
  obtain ⟨z, q, r, h1, h2, h3, h4, h5⟩ := lw_ex u h
  rw [(lw_of h1 h2 h3 h4 h5).1, h2]
  exact natAbs_le_mul h1
theorem bt_le (u : Int) {l : Int} (h : l ≠ 0) : (bt u l).natAbs ≤ l.natAbs := by
  obtain ⟨z, q, r, h1, h2, h3, h4, h5⟩ := lw_ex u h
  rw [(lw_of h1 h2 h3 h4 h5).2, h3]
  exact natAbs_le_mul h1
theorem lw_neg (u : Int) {l : Int} (h : l ≠ 0) : lw (0 - u) (0 - l) = lw u l := by
  obtain ⟨z, q, r, h1, h2, h3, h4, h5⟩ := lw_ex u h
  obtain ⟨e1, e2⟩ := lw_of h1 h2 h3 h4 h5
  have m1 : 0 - u = -z * q := by rw [h2, Int.neg_mul]; omega
  have m2 : 0 - l = -z * r := by rw [h3, Int.neg_mul]; omega
  obtain ⟨f1, f2⟩ := lw_of (u := 0 - u) (l := 0 - l) (z := -z) (by omega) m1 m2 h4 h5
  rw [lw_is, lw_is, e1, e2, f1, f2]
theorem lw_one (u : Int) : lw u 1 = .tup [.int u, .int 1] := by
  obtain ⟨e1, e2⟩ := lw_of (u := u) (l := 1) (z := 1) (q := u) (r := 1) (by decide) (by omega) (by omega) (by decide) (Nat.gcd_one_right _)
  rw [lw_is, e1, e2]
theorem lw_self {a b : Int} (h : isW a b = true) : lw a b = .tup [.int a, .int b] := by
  have hp := isW_pos h
  have hg : Nat.gcd a.natAbs b.natAbs = 1 := of_decide_eq_true (Bool.and_eq_true_iff.mp h).2
  obtain ⟨e1, e2⟩ := lw_of (u := a) (l := b) (z := 1) (q := a) (r := b) (by decide) (by omega) (by omega) hp hg
  rw [lw_is, e1, e2]
/-! equality of equal data -/
theorem deq_self {d : Da} (h : Cmp d) : deq d d = true := by
  have h1 := h.2
  unfold SeqAt.shaped at h1
  exact SeqAt.eqv_refl _ (Bool.and_eq_true_iff.mp h1).1
theorem eqv_ints : ∀ {xs ys : List Int}, PyData.eqvAll (pyA (xs.map .int)) (pyA (ys.map .int)) = decide (xs = ys)
  | [], [] => rfl
  | [], _ :: _ => rfl
  | _ :: _, [] => rfl
  | x :: xs, y :: ys => by
    show (PyData.eqv (.int x) (.int y) && PyData.eqvAll (pyA (xs.map .int)) (pyA (ys.map .int))) = _
    rw [eqv_ints]
    show ((x == y) && decide (xs = ys)) = decide (x :: xs = y :: ys)
    by_cases h : x = y
    · subst h
      simp
    · simp [h]
end Sky
namespace Sky
open PySem L2 Evl PySem.Spec PyProof.Rows
def fByN : List Da → Option XO
  | [.tup [.int a, .int b]] => if isW a b = true ∧ Bn a ∧ Bn b then some (.ok (.bl true)) else none
  | _ => none
theorem fByN_inv {ds : List Da} {o : XO} (h : fByN ds = some o) : ∃ a b, ds = [.tup [.int a, .int b]] ∧ isW a b = true ∧ Bn a ∧ Bn b ∧ o = .ok (.bl true) := by
  unfold fByN at h
  split at h
  · split at h
    · rename_i hh
      exact ⟨_, _, rfl, hh.1, hh.2.1, hh.2.2, (Option.some.inj h).symm⟩
    · cases h
  · cases h
theorem fByN_ok {a b : Int} (h1 : isW a b = true) (h2 : Bn a) (h3 : Bn b) : fByN ([.tup [.int a, .int b]] ++ []) = some (.ok (.bl true)) := if_pos ⟨h1, h2, h3⟩
/-- an item at an open place of a short list -/
theorem at_ints {ns : List Int} {i : Int} (h0 : 0 ≤ i) (h1 : i < ns.length) : atI (ns.map Da.int) i = some (.int (ns.getD i.toNat 0)) := by
  unfold atI ixN
  rw [if_pos h0, List.length_map, if_pos h1]
  show (ns.map Da.int)[i.toNat]? = _
  rw [List.getElem?_map, List.getD_eq_getElem?_getD, List.getElem?_eq_getElem (by omega)]
  rfl
theorem at_nat {ds : List Da} {k : Nat} {d : Da} (h : ds[k]? = some d) : atI ds (k : Int) = some d := by
  have hk : k < ds.length := by
    rcases Nat.lt_or_ge k ds.length with q | q
    · exact q
    · rw [List.getElem?_eq_none q] at h; cases h
  unfold atI ixN
  rw [if_pos (by omega), if_pos (by omega)]
  simpa using h
theorem at_last {ds : List Da} {d : Da} : atI (ds ++ [d]) (-1) = some d := by
  unfold atI ixN
  rw [if_neg (by decide), if_pos (by rw [List.length_append]; show -((ds.length + 1 : Nat) : Int) ≤ -1; omega)]
  show (ds ++ [d])[(-1 + ((ds ++ [d]).length : Int)).toNat]? = _
  have e : (-1 + ((ds ++ [d]).length : Int)).toNat = ds.length := by
    rw [List.length_append]
    show (-1 + ((ds.length + 1 : Nat) : Int)).toNat = _
    omega
  rw [e]
  simp
end Sky
namespace Sky
open PySem L2 Evl PySem.Spec PyProof.Rows
theorem kit_refT {K : PySem.W.Frag} {C : Addr} {t : Value} (h2 : PySem.W.hasDictIn K C = true) (h3 : PySem.W.typeIn K (.ref C) = some (.type "type")) (h : PySem.W.subIn K t (.ref C) = some true) : PySem.W.kitOne K t (.ref C) = some true := by
  obtain ⟨cd, hc, _⟩ := PySem.W.any_some h2
  have e2 : ((PySem.W.clsIn K C).isSome && PySem.W.typeIn K (.ref C) == some (.type "type")) = true := by rw [hc, h3] <;> rfl
  unfold PySem.W.kitOne
  split
  · rfl
  · show (if _ = true then _ else _) = _
    rw [if_pos e2]
    exact h
theorem kit_tyT {K : PySem.W.Frag} {T : String} {t : Value} (h2 : PySem.W.kitMeta T = true) (h : PySem.W.subIn K t (.type T) = some true) : PySem.W.kitOne K t (.type T) = some true := by
  unfold PySem.W.kitOne
  split
  · rfl
  · show (if _ = true then _ else _) = _
    rw [if_pos h2]
    exact h
end Sky
namespace PySem.W
open PySem PySem.Spec PySem.Calls PyProof.Rows
theorem run_lcm4 (a : Int) (t : Tok) (b : Int) (u : Tok) (c : Int) (v : Tok) (d : Int) (w : Tok) (hc0 : ¬(max 1 a.natAbs).log2 / 30 + 1 > 450) (hc1 : ¬(max a.natAbs b.natAbs).log2 / 30 + 1 > 450) (hc2 : ¬(max (a.natAbs.lcm b.natAbs) c.natAbs).log2 / 30 + 1 > 450) (hc3 : ¬(max ((a.natAbs.lcm b.natAbs).lcm c.natAbs) d.natAbs).log2 / 30 + 1 > 450)
    (hsz : (((((Nat.lcm 1 a.natAbs).lcm b.natAbs).lcm c.natAbs).lcm d.natAbs : Nat) : Int).natAbs.log2 < bitsLine) :
    Gives (Builtin.«math.lcm» ⟨[.int a t, .int b u, .int c v, .int d w], []⟩) (.int (((((Nat.lcm 1 a.natAbs).lcm b.natAbs).lcm c.natAbs).lcm d.natAbs : Nat) : Int)) :=
  .of_wp fun M A E s Q h => by obtain ⟨hp, g, d, tk, os⟩ := s; wp_walk; (try (refine wpAny_ite_false (decide_eq_false (Nat.not_le.mpr hsz)) ?_; wp_walk)); exact ⟨_, rfl, h⟩
theorem args_lcm4 (a b c d : Value) : argsOk "math.lcm" ⟨[a, b, c, d], []⟩ := by unfold argsOk; kernel_rfl
theorem log_small {n : Nat} (h : n < 2 ^ 200) : ¬ n.log2 / 30 + 1 > 450 := by
  have := mg_log (k := 199) h
  omega
theorem wp_lcm4 {prog : Program} {w : World} {A : Around} {E : Value → Shared → Prop} {s : Shared} {Q : Value → Shared → Prop} {a b c d : Int} {t u v x : Tok} (ha : a.natAbs < 2 ^ 60) (hb : b.natAbs < 2 ^ 60) (hc : c.natAbs < 2 ^ 60) (hd : d.natAbs < 2 ^ 60)
    (h : Q (.int (((((Nat.lcm 1 a.natAbs).lcm b.natAbs).lcm c.natAbs).lcm d.natAbs : Nat) : Int) s.toks) { s with toks := s.toks + 1 }) : wpAny (model prog w) A (call (.builtin "math.lcm") [.int a t, .int b u, .int c v, .int d x]) Q E s := by
  have l1 : a.natAbs.lcm b.natAbs < 2 ^ 120 := Nat.lt_of_le_of_lt (mc_lcm_le _ _) (Nat.lt_of_lt_of_le (Nat.mul_lt_mul'' ha hb) (by decide))
  have l2 : (a.natAbs.lcm b.natAbs).lcm c.natAbs < 2 ^ 180 := Nat.lt_of_le_of_lt (mc_lcm_le _ _) (Nat.lt_of_lt_of_le (Nat.mul_lt_mul'' l1 hc) (by decide))
  have l3 : ((a.natAbs.lcm b.natAbs).lcm c.natAbs).lcm d.natAbs < 2 ^ 240 := Nat.lt_of_le_of_lt (mc_lcm_le _ _) (Nat.lt_of_lt_of_le (Nat.mul_lt_mul'' l2 hd) (by decide))
  have lift : ∀ {n k : Nat}, n < 2 ^ k → k ≤ 200 → n < 2 ^ 200 := fun h1 h2 => Nat.lt_of_lt_of_le h1 (Nat.pow_le_pow_right (by decide) h2)
  refine call_function_meets MGF.kind_lcm MGF.plain_lcm MGF.entry_lcm (args_lcm4 _ _ _ _) (run_lcm4 a t b u c v d x (log_small ?_) (log_small ?_) (log_small ?_) (log_small ?_) ?_).meets h
  · exact Nat.max_lt.mpr ⟨by decide, lift ha (by decide)⟩
  · exact Nat.max_lt.mpr ⟨lift ha (by decide), lift hb (by decide)⟩
  · exact Nat.max_lt.mpr ⟨lift l1 (by decide), lift hc (by decide)⟩
  · exact Nat.max_lt.mpr ⟨lift l2 (by decide), lift hd (by decide)⟩
  · rw [Nat.lcm_one_left]
    show ((((a.natAbs.lcm b.natAbs).lcm c.natAbs).lcm d.natAbs : Nat) : Int).natAbs.log2 < bitsLine
    rw [Int.natAbs_natCast]
    have := mg_log (k := 239) l3
    have e : bitsLine = 134217728 := by decide
    omega
end PySem.W
namespace Sky
open PySem L2 Evl PySem.Spec PyProof.Rows
def lcm4 (a b c d : Int) : Int := ((((a.natAbs.lcm b.natAbs).lcm c.natAbs).lcm d.natAbs : Nat) : Int)
def rLcm4 : List V → Hp → VK → Prop := fun vs H Q => ∃ a b c d : Int, vs = [.int a, .int b, .int c, .int d] ∧ (a.natAbs < 2 ^ 60 ∧ b.natAbs < 2 ^ 60 ∧ c.natAbs < 2 ^ 60 ∧ d.natAbs < 2 ^ 60) ∧ Q (.int (lcm4 a b c d)) H
theorem cr_lcm4 {X : Cx} : CallR X (.builtin "math.lcm") rLcm4 := by
  intro pins s σ H vs us Q I r h
  obtain ⟨a, b, c, d, rfl, ⟨h1, h2, h3, h4⟩, q⟩ := h
  cases r with
  | cons r1 r => cases r with
    | cons r2 r => cases r with
      | cons r3 r => cases r with
        | cons r4 r =>
          cases r
          obtain ⟨t1, rfl⟩ := r1
          obtain ⟨t2, rfl⟩ := r2
          obtain ⟨t3, rfl⟩ := r3
          obtain ⟨t4, rfl⟩ := r4
          refine PySem.W.wp_lcm4 h1 h2 h3 h4 ⟨.int (lcm4 a b c d), H, I.tok _, ⟨s.toks, ?_⟩, q⟩
          unfold lcm4
          rw [Nat.lcm_one_left]
theorem rc_lcm4 {K : PySem.W.Frag} {a b c d : Int} (h : a.natAbs < 2 ^ 60 ∧ b.natAbs < 2 ^ 60 ∧ c.natAbs < 2 ^ 60 ∧ d.natAbs < 2 ^ 60) : RC K rLcm4 [.int a, .int b, .int c, .int d] (.int (lcm4 a b c d)) := fun B H vs e hA Q k => by
  cases hA with
  | cons h1 t => cases t with
    | cons h2 t => cases t with
      | cons h3 t => cases t with
        | cons h4 t =>
          cases t; cases h1; cases h2; cases h3; cases h4
          exact ⟨a, b, c, d, rfl, h, k _ B H (Gr.refl e) (.int _)⟩
theorem rc_min2 {K : PySem.W.Frag} {i j : Int} : RC K (fun xs H Q => ∃ i j, xs = [.int i, .int j] ∧ Q (.int (if j < i then j else i)) H) [.int i, .int j] (.int (if j < i then j else i)) := fun B H vs e hA Q k => by
  cases hA with
  | cons h1 t => cases t with
    | cons h2 t =>
      cases t; cases h1; cases h2
      exact ⟨i, j, rfl, k _ B H (Gr.refl e) (.int _)⟩
/-! ### attributes -/
def putD (f : Str) (v : Da) : List (Str × Da) → List (Str × Da)
  | [] => [(f, v)]
  | (g, x) :: r => if g = f then (g, v) :: r else (g, x) :: putD f v r
theorem DrF.put {K : PySem.W.Frag} {B : Hp} {f : Str} {v : V} {d : Da} (r : Dr K B v d) : ∀ {vs : List (Str × V)} {ds : List (Str × Da)}, DrF K B vs ds → DrF K B (putF f v vs) (putD f d ds)
  | _, _, .nil => .cons r .nil
  | _, _, .cons (f := g) h t => by
    unfold putF putD
    by_cases e : g = f
    · rw [if_pos e, if_pos e]; exact .cons r t
    · rw [if_neg e, if_neg e]; exact .cons h (DrF.put r t)
theorem DrF.len {K : PySem.W.Frag} {B : Hp} : ∀ {vs : List (Str × V)} {ds : List (Str × Da)}, DrF K B vs ds → vs.length = ds.length
  | _, _, .nil => rfl
  | _, _, .cons _ t => congrArg (· + 1) (DrF.len t)
def notOb : Sl → Bool
  | .ob _ _ _ _ => false | _ => true
section
variable {K : PySem.W.Frag} {W : WX} {B B' H H' H0 B0 : Hp} {σ : L2.St} {en en' : List Sl} {te ta tb : TE} {d d1 d2 : Da} {o : XO} {C dx : Addr} {fs : List (Str × Da)} {ds : List Da} {f : Str} {i : Nat}
theorem Sd.obAt {p : Addr} (S : Sd K B0 H0 B H σ en) (h : en[i]? = some (.ob p C dx fs)) : ∃ vs, σ[i]? = some (some (.ref p)) ∧ B p = none ∧ H0 p = none ∧ H p = some (.ins C dx vs) ∧ DrF K B vs fs := by
  obtain ⟨x, h1, h2⟩ := paired_get S.sl h
  cases h2 with
  | ob b f h t => exact ⟨_, h1, b, f, h, t⟩
theorem ex_fldO {p : Addr} (ho : en[i]? = some (.ob p C dx fs)) (hc : Cls K C) (hn : NoAttr K C f) (hl : fs.lookup f = some d) : EX K W (tFld K (tVar i) f) en (.ok d) := fun _ _ B H σ S Q k => by
  obtain ⟨vs, e1, _, _, e2, t⟩ := S.obAt ho
  obtain ⟨v, l, r⟩ := t.look hl
  exact ⟨_, e1, p, C, dx, vs, v, rfl, e2, hc, hn, l, k v B H (Gr.refl S.eb) r⟩
theorem ex_fld (ha : EX K W ta en (.ok (.ins C fs))) (hc : Cls K C) (hn : NoAttr K C f) (hl : fs.lookup f = some d) : EX K W (tFld K ta f) en (.ok d) := fun _ _ B H σ S Q k =>
  ha _ _ B H σ S _ fun x B1 H1 g r => by
    cases r with
    | ins h t =>
      obtain ⟨v, l, r⟩ := t.look hl
      exact ⟨_, C, _, _, v, rfl, g.s _ _ h, hc, hn, l, k v B1 H1 g r⟩
theorem st_fldO {p : Addr} (ho : en[i]? = some (.ob p C dx fs)) (h1 : (en.set i .no).all notOb = true) (hc : Cls K C) (hn : NoAttr K C f) (hz : fs.length < 1000) (h : EX K W te en (.ok d)) : ST K W (sFld K (tVar i) te f) en (.nx (en.set i (.ob p C dx (putD f d fs)))) := fun B0 H0 B H σ S D k =>
  h _ _ B H σ S _ fun v B1 H1 g r => by
    have S1 := S.grow g
    obtain ⟨vs, e1, b, f0, e2, t⟩ := S1.obAt ho
    have hi : i < en.length := by
      rcases Nat.lt_or_ge i en.length with h | h
      · exact h
      · rw [List.getElem?_eq_none h] at ho; cases ho
    refine ⟨_, e1, p, C, dx, vs, rfl, e2, hc, hn, by rw [t.len]; exact hz, k B1 _ σ ⟨⟨S1.gr.b, S1.gr.h.mut f0, fun a o e => ?_, S1.gr.n, S1.gr.q⟩, paired_ix (by rw [List.length_set]; exact Paired.length S1.sl) fun j x y hx hy => ?_, fun a c q xs ys q1 q2 hx hy q3 q4 => ?_⟩⟩
    · rw [upd_ne (ne_of_none e b)]
      exact S1.gr.s a o e
    · by_cases hj : j = i
      · subst hj
        rw [List.getElem?_set_self hi] at hy
        cases hy
        rw [e1] at hx
        cases hx
        exact .ob b f0 upd_same (t.put r)
      · rw [List.getElem?_set_ne (Ne.symm hj)] at hy
        have rr := paired_at S1.sl hx hy
        cases rr with
        | no => exact .no _
        | da h => exact .da h
        | rf v => exact .rf v
        | own b' f' h' t' => exact .own b' f' (by rw [upd_ne (ne_of h' e2 (fun z => nomatch z))]; exact h') t'
        | wl b' f' h' t' => exact .wl b' f' (by rw [upd_ne (ne_of h' e2 (fun z => nomatch z))]; exact h') t'
        | tb h' z0 z1 t' => exact .tb h' z0 z1 (tabS_updI t' e2)
        | ob b' f' h' t' =>
          have m := hy
          rw [← List.getElem?_set_ne (Ne.symm hj) (a := Sl.no)] at m
          have := (List.all_eq_true.mp h1) _ (List.mem_of_getElem? m)
          cases this
    · have back : ∀ (a : Nat) (xs : Sl), (en.set i (.ob p C dx (putD f d fs)))[a]? = some xs → xs.isL = true → en[a]? = some xs := fun a xs h hq => by
        by_cases ha : a = i
        · subst ha; rw [List.getElem?_set_self hi] at h; cases h; cases hq
        · rw [List.getElem?_set_ne (Ne.symm ha)] at h; exact h
      exact S1.sep a c q xs ys (back a xs q1 hx) (back c ys q2 hy) hx hy q3 q4
/-- a method of data -/
theorem ex_meth {m : Str} {n : Nat} {fsem : List Da → Option XO} {t : TA} (ha : EX K W ta en (.ok (.ins C fs))) (hm : fs.lookup m = none) (ht : EA K t en ds) (hf : fsem (.ins C fs :: (ds ++ [])) = some (.ok d)) (hl : (Da.ins C fs :: (ds ++ [])).length = n) : EX K W (tMeth C m (spD K n fsem) [] E0 ta t) en (.ok d) := fun _ _ B H σ S Q k =>
  ha _ _ B H σ S _ fun x B1 H1 g r => by
    have r0 := r
    cases r with
    | @ins a _ dx' vs _ h t' =>
      refine ⟨a, dx', vs, rfl, g.s _ _ h, t'.lookN hm, ht _ _ B1 H1 σ (S.grow g) _ fun ws B2 H2 g2 r2 => ?_⟩
      refine ⟨by rw [← hl]; simp [r2.length], B2, _, .ok d, g2.s, .cons (r0.mono g2.b) (r2.append .nil), hf, ?_⟩
      exact fun v B3 H3 g3 r3 => k v B3 H3 ((g.trans g2).trans g3) r3
/-- a method of the object that is being made; what it gives is a number -/
theorem ex_methO {m : Str} {n : Nat} {fsem : List Da → Option XO} {t : TA} {z : Int} {p : Addr} (ho : en[i]? = some (.ob p C dx fs)) (hm : fs.lookup m = none) (ht : EA K t en ds) (hf : fsem (.ins C fs :: (ds ++ [])) = some (.ok (.int z))) (hl : (Da.ins C fs :: (ds ++ [])).length = n) : EX K W (tMeth C m (spD K n fsem) [] E0 (tVar i) t) en (.ok (.int z)) := fun _ _ B H σ S Q k => by
  obtain ⟨vs, e1, b, f0, e2, t'⟩ := S.obAt ho
  refine ⟨_, e1, p, dx, vs, rfl, e2, t'.lookN hm, ht _ _ B H σ S _ fun ws B2 H2 g2 r2 => ?_⟩
  obtain ⟨vs', e1', b', f0', e2', t2⟩ := (S.grow g2).obAt ho
  have eB : Ex B2 (upd B2 p (.ins C dx vs')) := Ex.new b'
  refine ⟨by rw [← hl]; simp [r2.length], upd B2 p (.ins C dx vs'), _, .ok (.int z), fun a o e => ?_, .cons (.ins upd_same (t2.mono eB)) ((r2.mono eB).append .nil), hf, fun v B3 H3 g3 r3 => ?_⟩
  · by_cases q : a = p
    · subst q; rw [upd_same] at e; rw [e2']; exact e
    · rw [upd_ne q] at e; exact g2.s a o e
  · cases r3
    exact k _ B2 H3 (g2.trans ⟨Ex.refl _, g3.h, eB.trans (g3.b.trans g3.s), fun _ _ hb => hb, fun _ _ h => h⟩) (.int z)
end
/-! ### a new object -/
/-- what __init__ makes of the arguments: the attributes, or an error -/
inductive XI where
  | ok (fs : List (Str × Da)) | err (C : Addr) (f : Option (Str × Da))
def del (H : Hp) (p : Addr) : Hp := fun q => if q = p then none else H q
theorem del_ne {H : Hp} {p q : Addr} (h : q ≠ p) : del H p q = H q := by unfold del; rw [if_neg h]
theorem del_same {H : Hp} {p : Addr} : del H p p = none := by unfold del; rw [if_pos rfl]
theorem del_ex {H : Hp} {p : Addr} : Ex (del H p) H := fun a o e => by
  by_cases h : a = p
  · subst h; rw [del_same] at e; cases e
  · rw [del_ne h] at e; exact e
def spI (K : PySem.W.Frag) (C : Addr) (n : Nat) (fi : List Da → Option XI) : Sp := fun vs H Q E => vs.length = n ∧ ∃ p dx ws B ds o, vs = .ref p :: ws ∧ H p = some (.ins C dx []) ∧ B p = none ∧ Ex B H ∧ DrA K B ws ds ∧ fi ds = some o ∧
  match o with
  | .ok fs => ∀ B' H' us, Gr B (del H p) B' H' → B' p = none → H' p = some (.ins C dx us) → DrF K B' us fs → Q .non H'
  | .err D f => ∀ dd B' H', Gr B (del H p) B' H' → XF K B' H' dd f → E (.ref D) dd H'
section
variable {P : Program} {w : World} {K : PySem.W.Frag} {mg : Str → Option Value} {base : Heap} {x qual : Str} {st : Stmt} {f : Addr} {fd : FuncData} {N ps : List Str} {k : Nat} {dvs : List V} {kws : List (Str × V)} {C : Addr}
inductive LeadI (p C dx : Addr) : Out → XI → Prop
  | nx (en : List Sl) (fs : List (Str × Da)) (h : en[0]? = some (.ob p C dx fs)) : LeadI p C dx (.nx en) (.ok fs)
  | rx (en : List Sl) (D : Addr) (f : Option (Str × Da)) : LeadI p C dx (.rx en D f) (.err D f)
theorem fn_i (F : FunDS K x qual st dvs kws f fd) {s0 : Str} {pr : List Str} (hps : ps = s0 :: pr) (S : FnScope N ps (defScope st)) (fi : List Da → Option XI)
    (hb : ∀ (cdv : Value) (A : Around) (outer : List Env) (s : Shared) (H : Hp) (E : XK) (p dx : Addr) (ds : List Da) (o : XI), Bd (XB P w K mg base N qual st f cdv A outer s H E) (WD E) k → ds.length = pr.length → fi ds = some o →
      ∃ ou, LeadI p C dx ou o ∧ SVs (XB P w K mg base N qual st f cdv A outer s H E) (WD E) (.ob p C dx [] :: (ds.map .da ++ List.replicate (N.length - (ds.length + 1)) .no)) (defBody st) ou) : FnOk P w K mg base (L2.CX P w) (k + 1) f fd ps (spI K C ps.length fi) := by
  refine F.ok (CX := L2.CX P w) S (fun vs H Q E h => h.1) fun cdv A outer s H vs Q E hr h => ?_
  obtain ⟨hl, p, dx, ws, B, ds, o, rfl, hp, hBp, eB, hA, hf, ko⟩ := h
  have hlen : ds.length = pr.length := by
    rw [hps] at hl
    have := hA.length
    simp only [List.length_cons] at hl
    omega
  obtain ⟨ou, ld, t, h1, h2⟩ := hb cdv A outer s H E p dx ds o (bd_of S hr) hlen hf
  refine ⟨t, h1, h2 B (del H p) B H _ ⟨⟨Ex.refl _, del_ex, eB, fun _ _ hb => hb, fun _ _ h => h⟩, ?_, fun i j q es1 es2 q1 _ hx => ?_⟩ _ ?_⟩
  · have e : L2.start N (.ref p :: ws) = some (V.ref p) :: (ws.map some ++ List.replicate (N.length - (ws.length + 1)) none) := rfl
    rw [e, hA.length]
    exact .cons (.ob hBp del_same hp .nil) (paired_app (slots_sl hA) paired_rep)
  · cases i with
    | zero => cases q1; cases hx
    | succ i =>
      have m := List.mem_of_getElem? (show (ds.map Sl.da ++ List.replicate (N.length - (ds.length + 1)) .no)[i]? = _ from q1)
      rcases List.mem_append.mp m with m | m
      · obtain ⟨d, _, e⟩ := List.mem_map.mp m
        rw [← e] at hx
        cases hx
      · rw [List.eq_of_mem_replicate m] at hx
        cases hx
  · cases ld with
    | rx en C f => exact fun B' H' σ' dd S' x' => ko dd B' H' S'.gr x'
    | nx en fs h =>
      intro B' H' σ' S'
      obtain ⟨us, e1, b, f0, e2, t2⟩ := S'.obAt h
      exact ko B' H' us S'.gr b e2 t2
end
/-! C(k = v, ..): the new object as data -/
section
variable {X : Cx} {W : WX} {k j n : Nat} {f C : Addr} {fd : FuncData} {ps ks : List Str} {x : Str} {p pos : Pos} {kws : List Keyword} {tk : TA} {g : List Value → List Value → List Value} {gV : List V → List V → List V} {en : List Sl} {zs : List Da} {fs : List (Str × Da)} {fi : List Da → Option XI} {gD : List Da → List Da}
theorem ex_make (hk : EA X.K tk en zs) (hgd : ∀ B r vs, DrA X.K B vs zs → vs.length = ks.length → (gV [r] vs).length = n ∧ ∃ ws, gV [r] vs = r :: ws ∧ DrA X.K B ws (gD zs)) (l2 : zs.length = ks.length) (hf : fi (gD zs) = some (.ok fs)) :
    EX X.K W (tMakeK C 0 ks.length (spI X.K C n fi) gV E0 tNil tk) en (.ok (.ins C fs)) := fun _ _ B H σ S Q ko =>
  hk _ _ B H σ S _ fun vs B1 H1 g1 r1 => ⟨rfl, r1.length.trans l2, fun o dx ho hd hne => by
    obtain ⟨h1, ws, e1, h2⟩ := hgd B1 (.ref o) vs r1 (r1.length.trans l2)
    have eH : Ex H1 (upd (upd H1 dx (.own o)) o (.ins C dx [])) := fun a u e => by
      rw [upd_ne (ne_of_none e ho), upd_ne (ne_of_none e hd)]; exact e
    refine ⟨h1, o, dx, ws, B1, gD zs, .ok fs, e1, upd_same, fresh_back g1.s ho, g1.s.trans eH, h2, hf, fun B' H' us g hb hh t => ⟨rfl, ?_⟩⟩
    have eD : Ex H1 (del (upd (upd H1 dx (.own o)) o (.ins C dx [])) o) := fun a u e => by
      rw [del_ne (ne_of_none e ho)]; exact eH a u e
    have g2 : Gr B1 H1 B' H' := ⟨g.b, eD.trans g.h, g.s, fun q hq hb => g.n q (fun z => by
      cases e : H1 q with
      | none => exact hq e
      | some u => rw [eD q u e] at z; cases z) hb, g.q⟩
    exact ko _ _ _ (g1.trans (g2.freeze g1.s ho hh)) (.ins upd_same (t.mono (Ex.new hb)))⟩
/-- an own class that can be made by keywords -/
structure Mak (P : Program) (w : World) (K : PySem.W.Frag) (mg : Str → Option Value) (base : Heap) (x : Str) (C : Addr) (j : Nat) (ks : List Str) (gD : List Da → List Da) (fi : List Da → Option XI) : Prop where
  ex : ∃ (f : Addr) (fd : FuncData) (ps : List Str) (g : List Value → List Value → List Value) (gV : List V → List V → List V), FnOk P w K mg base (L2.CX P w) j f fd ps (spI K C ps.length fi) ∧ Mk K C f ∧ mg x = some (.ref C) ∧ KBn K fd ps 1 ks g gV ∧
    ∀ B r vs zs, DrA K B vs zs → vs.length = ks.length → (gV [r] vs).length = ps.length ∧ ∃ ws, gV [r] vs = r :: ws ∧ DrA K B ws (gD zs)
theorem ev_make (cl : Mak X.prog X.w X.K X.mg X.base x C j ks gD fi) (Bx : Bd X W k) (hj : j + 1 ≤ k) (hk : EVK X W en kws zs) (hf : fi (gD zs) = some (.ok fs)) (l2 : zs.length = ks.length) (hg : Gl X x)
    (hall : (backToKw pos (keywordEach kws X.env)).all (·.1.isSome) = true) (hks : (backToKw pos (keywordEach kws X.env)).filterMap (·.1) = ks) (hdb : (x == ("__debug__" : Str)) = false)
    (hpl : ((backTo pos (starEach [] X.env)).any (·.1) || (backToKw pos (keywordEach kws X.env)).any (·.1.isNone)) = false) : EV X W en (.Call (.Name x p) [] kws pos) (.ok (.ins C fs)) := by
  obtain ⟨f, fd, ps, g, gV, F, M, hm, hb, hgd⟩ := cl.ex
  obtain ⟨tk, h3, h4⟩ := hk
  exact ⟨_, pe_makeK0 M F (Bx.rm.mono hj) hg hm hb passL h3 hall hks hdb hpl, ex_make h4 (fun B r vs r1 q1 => hgd B r vs zs r1 q1) l2 hf⟩
/-! methods, attributes in a body -/
structure Mth (P : Program) (w : World) (K : PySem.W.Frag) (mg : Str → Option Value) (base : Heap) (C : Addr) (m : Str) (j : Nat) (ps : List Str) (fs : List Da → Option XO) : Prop where
  ex : ∃ f fd, FnOk P w K mg base (L2.CX P w) j f fd ps (spD K ps.length fs) ∧ Meth K C m f ∧ Binds K fd ps []
variable {o e : Expr} {es : List Expr} {m : Str} {apos : Pos} {ds : List Da} {d : Da} {fsem : List Da → Option XO} {i : Nat} {z : Int} {dx pa : Addr} {y : Str} {np : Pos}
theorem ev_meth {pl : Sem Bool} (cl : Mth X.prog X.w X.K X.mg X.base C m j ps fsem) (Bx : Bd X W k) (hj : j ≤ k) (c : Cls X.K C) (ho : EV X W en o (.ok (.ins C fs))) (ha : EVA X W en (e :: es) ds) (hf : fsem (.ins C fs :: (ds ++ [])) = some (.ok d)) (hm : fs.lookup m = none) (hl : (Da.ins C fs :: (ds ++ [])).length = ps.length)
    (hst : starEach (e :: es) X.env = (false, eval e X.env) :: starEach es X.env) (hpl : (backTo pos (starEach es X.env)).any (·.1) = false)
    (ht : eval (.Call (.Attribute o m apos) (e :: es) [] pos) X.env = (do
      let ov ← eval o X.env
      standAt apos.atName
      let (f, first) ← holding [ov] (getMethod ov m pl)
      callWith pos f first (backTo pos (starEach (e :: es) X.env)) (backToKw pos (keywordEach [] X.env)))) : EV X W en (.Call (.Attribute o m apos) (e :: es) [] pos) (.ok d) := by
  obtain ⟨f, fd, F, hM, hb⟩ := cl.ex
  obtain ⟨te, h1, h2⟩ := ho
  obtain ⟨t, h3, h4⟩ := ha
  exact ⟨_, pe_meth h1 c hM F (Bx.rm.mono hj) hb .nil passL h3 hst hpl ht, ex_meth h2 hm h4 hf hl⟩
theorem ev_meth0 {pl : Sem Bool} (cl : Mth X.prog X.w X.K X.mg X.base C m j ps fsem) (Bx : Bd X W k) (hj : j ≤ k) (c : Cls X.K C) (ho : EV X W en o (.ok (.ins C fs))) (hf : fsem [.ins C fs] = some (.ok d)) (hm : fs.lookup m = none) (hl : [Da.ins C fs].length = ps.length)
    (ht : eval (.Call (.Attribute o m apos) [] [] pos) X.env = (do
      let ov ← eval o X.env
      standAt apos.atName
      let (f, first) ← holding [ov] (getMethod ov m pl)
      callWith pos f first (backTo pos (starEach [] X.env)) (backToKw pos (keywordEach [] X.env)))) : EV X W en (.Call (.Attribute o m apos) [] [] pos) (.ok d) := by
  obtain ⟨f, fd, F, hM, hb⟩ := cl.ex
  obtain ⟨te, h1, h2⟩ := ho
  exact ⟨_, pe_meth0 h1 c hM F (Bx.rm.mono hj) hb .nil passL ht, ex_meth h2 hm ea_nil hf hl⟩
theorem ev_methO {pl : Sem Bool} (cl : Mth X.prog X.w X.K X.mg X.base C m j ps fsem) (Bx : Bd X W k) (hj : j ≤ k) (c : Cls X.K C) (hN : X.N.idxOf? y = some i) (hv : Vis X.env.scope y) (ho : en[i]? = some (.ob pa C dx fs)) (hN2 : X.N[i]? = some y) (hd : (y == ("__debug__" : Str)) = false) (hcd : (y == ("__classdict__" : Str)) = false)
    (ha : EVA X W en (e :: es) ds) (hf : fsem (.ins C fs :: (ds ++ [])) = some (.ok (.int z))) (hm : fs.lookup m = none) (hl : (Da.ins C fs :: (ds ++ [])).length = ps.length)
    (hst : starEach (e :: es) X.env = (false, eval e X.env) :: starEach es X.env) (hpl : (backTo pos (starEach es X.env)).any (·.1) = false)
    (ht : eval (.Call (.Attribute (.Name y np) m apos) (e :: es) [] pos) X.env = (do
      let ov ← eval (.Name y np) X.env
      standAt apos.atName
      let (f, first) ← holding [ov] (getMethod ov m pl)
      callWith pos f first (backTo pos (starEach (e :: es) X.env)) (backToKw pos (keywordEach [] X.env)))) : EV X W en (.Call (.Attribute (.Name y np) m apos) (e :: es) [] pos) (.ok (.int z)) := by
  obtain ⟨f, fd, F, hM, hb⟩ := cl.ex
  obtain ⟨t, h3, h4⟩ := ha
  exact ⟨_, pe_meth (pe_var hN2 hv hd hcd) c hM F (Bx.rm.mono hj) hb .nil passL h3 hst hpl ht, ex_methO ho hm h4 hf hl⟩
theorem ev_fld (c : Cls X.K C) (hn : NoAttr X.K C m) (ho : EV X W en o (.ok (.ins C fs))) (hl : fs.lookup m = some d) (hb : attributeBase o m X.env (eval o X.env) = eval o X.env) : EV X W en (.Attribute o m pos) (.ok d) := by
  obtain ⟨te, h1, h2⟩ := ho
  exact ⟨_, pe_fld h1 hb, ex_fld h2 c hn hl⟩
theorem ev_fldO (c : Cls X.K C) (hn : NoAttr X.K C m) (hN : X.N.idxOf? y = some i) (hv : Vis X.env.scope y) (ho : en[i]? = some (.ob pa C dx fs)) (hN2 : X.N[i]? = some y) (hd : (y == ("__debug__" : Str)) = false) (hcd : (y == ("__classdict__" : Str)) = false) (hl : fs.lookup m = some d)
    (hb : attributeBase (.Name y np) m X.env (eval (.Name y np) X.env) = eval (.Name y np) X.env) : EV X W en (.Attribute (.Name y np) m pos) (.ok d) :=
  ⟨_, pe_fld (pe_var hN2 hv hd hcd) hb, ex_fldO ho c hn hl⟩
theorem sv_fldO {e1 : List Sl} {v : Expr} {pos' : Pos} (c : Cls X.K C) (hn : NoAttr X.K C m) (hN : X.N.idxOf? y = some i) (hv : Vis X.env.scope y) (ho : en[i]? = some (.ob pa C dx fs)) (hN2 : X.N[i]? = some y) (hd : (y == ("__debug__" : Str)) = false) (hcd : (y == ("__classdict__" : Str)) = false)
    (h1 : (en.set i .no).all notOb = true) (hz : fs.length < 1000) (he : EV X W en v (.ok d)) (hs : swapsWith v (some (.Attribute (.Name y np) m pos')) pos.line X.env = pure false) (hq : en.set i (.ob pa C dx (putD m d fs)) = e1) : SV X W en (.Assign [.Attribute (.Name y np) m pos'] v pos) (.nx e1) := by
  subst hq
  obtain ⟨te, a1, a2⟩ := he
  exact ⟨_, ps_fld (pe_var hN2 hv hd hcd) a1 hs, st_fldO ho h1 c hn hz a2⟩
theorem ev_if {a b c : Expr} {u : Bool} (hc : EVT X W en c u) (h1 : u = true → EV X W en a (.ok d)) (h2 : u = false → EV X W en b (.ok d)) : EV X W en (.IfExp c a b pos) (.ok d) := by
  obtain ⟨t, c1, c2⟩ := hc
  cases u with
  | true =>
    obtain ⟨te, a1, a2⟩ := h1 rfl
    exact ⟨_, pe_ifExp c1 a1 pe_none, fun B0 H0 B H σ S Q k => c2 _ _ B H σ S _ fun B' H' g => iteT (a2 _ _ B' H' σ (S.grow g) Q (Ko.grow (o := .ok d) (E := fun _ _ _ => False) g k))⟩
  | false =>
    obtain ⟨te, a1, a2⟩ := h2 rfl
    exact ⟨_, pe_ifExp c1 pe_none a1, fun B0 H0 B H σ S Q k => c2 _ _ B H σ S _ fun B' H' g => iteF (a2 _ _ B' H' σ (S.grow g) Q (Ko.grow (o := .ok d) (E := fun _ _ _ => False) g k))⟩
end
end Sky
namespace Sky
open PySem L2 Evl PySem.Spec PyProof.Rows
/-! worths above nought -/
def fAbove : List Da → Option XO
  | [d] => match isWorthD d with
    | some false => some (.ok (.bl false))
    | some true => match d with
      | .tup [.int a, _] => some (.ok (.bl (decide (0 < a))))
      | _ => none
    | none => none
  | _ => none
theorem above_no {d : Da} (h : isWorthD d = some false) : fAbove ([d] ++ []) = some (.ok (.bl false)) := by
  show (match isWorthD d with | some false => _ | some true => _ | none => _) = _
  rw [h]
theorem above_int {a b : Int} (h : isW a b = true) : fAbove ([.tup [.int a, .int b]] ++ []) = some (.ok (.bl (decide (0 < a)))) := by
  show (match isWorthD (.tup [.int a, .int b]) with | some false => _ | some true => _ | none => _) = _
  rw [isWorthD_int, h]
theorem above_lw {x n : Int} (h : 0 < n) : fAbove ([lw x n] ++ []) = some (.ok (.bl (decide (0 < x)))) := by
  have hn : n ≠ 0 := by omega
  rw [lw_is, above_int (lw_isW x hn)]
  obtain ⟨z, q, r, h1, h2, h3, h4, h5⟩ := lw_ex x hn
  obtain ⟨e1, e2⟩ := lw_of h1 h2 h3 h4 h5
  rw [e1, h2]
  have hz : 0 < z := Int.lt_of_mul_lt_mul_right (a := r) (by rw [Int.zero_mul, ← h3]; exact h) (Int.le_of_lt h4)
  have : (0 < q) = (0 < z * q) := propext ⟨fun p => Int.mul_pos hz p, fun p => by
    rcases Int.lt_or_le 0 q with l | l
    · exact l
    · have := Int.mul_nonpos_of_nonneg_of_nonpos (Int.le_of_lt hz) l
      omega⟩
  simp only [this]
theorem fAbove_inv {ds : List Da} {o : XO} (h : fAbove ds = some o) : ∃ d, ds = [d] ∧ ((isWorthD d = some false ∧ o = .ok (.bl false)) ∨ ∃ a b, d = .tup [.int a, .int b] ∧ isW a b = true ∧ o = .ok (.bl (decide (0 < a)))) := by
  unfold fAbove at h
  split at h
  · rename_i d
    refine ⟨d, rfl, ?_⟩
    cases q : isWorthD d with
    | none => rw [q] at h; cases h
    | some u =>
      rw [q] at h
      cases u with
      | false => exact .inl ⟨rfl, (Option.some.inj h).symm⟩
      | true =>
        right
        simp only at h
        split at h
        · rename_i a e
          have e2 : isWholeD e = some true := by cases e <;> first | rfl | cases q
          obtain ⟨b, rfl⟩ := whole_int e2
          refine ⟨a, b, rfl, ?_, (Option.some.inj h).symm⟩
          rw [isWorthD_int] at q
          exact Option.some.inj q
        · cases h
  · cases h
end Sky
namespace Sky
open PySem L2 Evl PySem.Spec PyProof.Rows
/-! ### worths over a common bottom -/
theorem lw_cross (x : Int) {n : Int} (h : n ≠ 0) : tp x n * n = x * bt x n := by
  obtain ⟨z, q, r, h1, h2, h3, h4, h5⟩ := lw_ex x h
  obtain ⟨e1, e2⟩ := lw_of h1 h2 h3 h4 h5
  rw [e1, e2, h2, h3]
  grind
theorem bt_pos (x : Int) {n : Int} (h : n ≠ 0) : 0 < bt x n := isW_pos (lw_isW x h)
theorem low_uniq {q r p s : Int} (hr : 0 < r) (hs : 0 < s) (g1 : Nat.gcd q.natAbs r.natAbs = 1) (g2 : Nat.gcd p.natAbs s.natAbs = 1) (h : q * s = p * r) : q = p ∧ r = s := by
  have hn : q.natAbs * s.natAbs = p.natAbs * r.natAbs := by rw [← Int.natAbs_mul, ← Int.natAbs_mul, h]
  have d1 : r.natAbs ∣ s.natAbs := by
    have : r.natAbs ∣ q.natAbs * s.natAbs := ⟨p.natAbs, by rw [hn, Nat.mul_comm]⟩
    exact Nat.Coprime.dvd_of_dvd_mul_left (Nat.Coprime.symm g1) this
  have d2 : s.natAbs ∣ r.natAbs := by
    have : s.natAbs ∣ p.natAbs * r.natAbs := ⟨q.natAbs, by rw [← hn, Nat.mul_comm]⟩
    exact Nat.Coprime.dvd_of_dvd_mul_left (Nat.Coprime.symm g2) this
  have e : r.natAbs = s.natAbs := Nat.dvd_antisymm d1 d2
  have e' : r = s := by omega
  subst e'
  exact ⟨Int.eq_of_mul_eq_mul_right (by omega) h, rfl⟩
theorem lw_eq {a b c d : Int} (hb : b ≠ 0) (hd : d ≠ 0) (h : a * d = c * b) : tp a b = tp c d ∧ bt a b = bt c d := by
  obtain ⟨z, q, r, h1, h2, h3, h4, h5⟩ := lw_ex a hb
  obtain ⟨y, p, s, k1, k2, k3, k4, k5⟩ := lw_ex c hd
  obtain ⟨e1, e2⟩ := lw_of h1 h2 h3 h4 h5
  obtain ⟨f1, f2⟩ := lw_of k1 k2 k3 k4 k5
  have hh : (z * y) * (q * s) = (z * y) * (p * r) := by
    have : z * q * (y * s) = y * p * (z * r) := by rw [← h2, ← h3, ← k2, ← k3]; exact h
    grind
  have := low_uniq h4 k4 h5 k5 (Int.eq_of_mul_eq_mul_left (Int.mul_ne_zero h1 k1) hh)
  rw [e1, e2, f1, f2]
  exact this
theorem lw_same {a b c d : Int} (hb : b ≠ 0) (hd : d ≠ 0) (h : a * d = c * b) : lw a b = lw c d := by
  obtain ⟨e1, e2⟩ := lw_eq hb hd h
  rw [lw_is, lw_is, e1, e2]
theorem lw_scale {k a b : Int} (hk : k ≠ 0) (hb : b ≠ 0) : lw (k * a) (k * b) = lw a b := lw_same (Int.mul_ne_zero hk hb) hb (by grind)
theorem lw_inj {x y n : Int} (h : n ≠ 0) (e : lw x n = lw y n) : x = y := by
  rw [lw_is, lw_is] at e
  injection e with e
  injection e with e1 e2
  injection e1 with e1
  injection e2 with e2 e3
  injection e2 with e2
  have a := lw_cross x h
  have b := lw_cross y h
  rw [e1, e2] at a
  have hp := bt_pos y h
  exact Int.eq_of_mul_eq_mul_right (by omega) (a.symm.trans b)
section
variable {x y n : Int} (h : 0 < n)
include h
theorem lw_add : lw (tp x n * bt y n + tp y n * bt x n) (bt x n * bt y n) = lw (x + y) n := by
  have hn : n ≠ 0 := by omega
  have a := lw_cross x hn
  have b := lw_cross y hn
  have p := bt_pos x hn
  have q := bt_pos y hn
  exact lw_same (mul_ne p q) hn (by grind)
theorem lw_sub : lw (tp x n * bt y n - tp y n * bt x n) (bt x n * bt y n) = lw (x - y) n := by
  have hn : n ≠ 0 := by omega
  have a := lw_cross x hn
  have b := lw_cross y hn
  have p := bt_pos x hn
  have q := bt_pos y hn
  exact lw_same (mul_ne p q) hn (by grind)
theorem lw_less : decide (tp x n * bt y n < tp y n * bt x n) = decide (x < y) := by
  have hn : n ≠ 0 := by omega
  have a := lw_cross x hn
  have b := lw_cross y hn
  have p := bt_pos x hn
  have q := bt_pos y hn
  have pq : 0 < bt x n * bt y n := Int.mul_pos p q
  have e1 : tp x n * bt y n * n = x * (bt x n * bt y n) := by grind
  have e2 : tp y n * bt x n * n = y * (bt x n * bt y n) := by grind
  have : tp x n * bt y n < tp y n * bt x n ↔ x < y := by
    constructor
    · intro l
      have := Int.mul_lt_mul_of_pos_right l h
      rw [e1, e2] at this
      exact Int.lt_of_mul_lt_mul_right this (by omega)
    · intro l
      have := Int.mul_lt_mul_of_pos_right l pq
      rw [← e1, ← e2] at this
      exact Int.lt_of_mul_lt_mul_right this (by omega)
  exact decide_eq_decide.mpr this
end
theorem lw_times {x n y m : Int} (hn : n ≠ 0) (hm : m ≠ 0) : lw (tp x n * tp y m) (bt x n * bt y m) = lw (x * y) (n * m) := by
  have a := lw_cross x hn
  have b := lw_cross y hm
  have p := bt_pos x hn
  have q := bt_pos y hm
  exact lw_same (mul_ne p q) (Int.mul_ne_zero hn hm) (by grind)
theorem cmp_lw {a b : Int} : Cmp (lw a b) := ⟨rfl, rfl⟩
theorem deq_lw {x y n : Int} (h : n ≠ 0) : deq (lw x n) (lw y n) = decide (x = y) := by
  by_cases e : x = y
  · subst e
    rw [deq_self cmp_lw, decide_eq_true rfl]
  · rw [decide_eq_false e]
    rw [lw_is, lw_is]
    show (PyData.eqv (.int (tp x n)) (.int (tp y n)) && (PyData.eqv (.int (bt x n)) (.int (bt y n)) && true)) = false
    show ((tp x n == tp y n) && ((bt x n == bt y n) && true)) = false
    cases h1 : (tp x n == tp y n) with
    | false => rfl
    | true =>
      cases h2 : (bt x n == bt y n) with
      | false => rfl
      | true =>
        exact absurd (lw_inj h (by rw [lw_is, lw_is, of_decide_eq_true (by simpa using h1 : decide (tp x n = tp y n) = true), of_decide_eq_true (by simpa using h2 : decide (bt x n = bt y n) = true)])) e
theorem tp_bn {x n : Int} (hn : n ≠ 0) (hx : Bn x) : Bn (tp x n) := Nat.lt_of_le_of_lt (tp_le x hn) hx
theorem bt_bn {x n : Int} (hn : n ≠ 0) (hx : Bn n) : Bn (bt x n) := Nat.lt_of_le_of_lt (bt_le x hn) hx
theorem two_lw {x y n : Int} (h : 0 < n) (hx : Bn x) (hy : Bn y) (hn : Bn n) : Two (tp x n) (bt x n) (tp y n) (bt y n) :=
  ⟨lw_isW x (by omega), lw_isW y (by omega), tp_bn (by omega) hx, bt_bn (by omega) hn, tp_bn (by omega) hy, bt_bn (by omega) hn⟩
theorem twoL_lw {x n y m : Int} (h : n ≠ 0) (k : m ≠ 0) (hx : Bn x) (hn : Bn n) (hy : Bn y) (hm : Bn m) : TwoL (tp x n) (bt x n) (tp y m) (bt y m) :=
  ⟨Int.ne_of_gt (bt_pos x h), Int.ne_of_gt (bt_pos y k), tp_bn h hx, bt_bn h hn, tp_bn k hy, bt_bn k hm⟩
/-- what the defs tell of worths over a common bottom -/
theorem minus_lw {x y n : Int} (h : 0 < n) (hx : Bn x) (hy : Bn y) (hn : Bn n) : fTwo gMinus ([lw x n, lw y n] ++ []) = some (.ok (lw (x - y) n)) := by
  rw [lw_is, lw_is, ← lw_sub h]
  exact fTwo_ok (two_lw h hx hy hn) rfl
theorem less_lw {x y n : Int} (h : 0 < n) (hx : Bn x) (hy : Bn y) (hn : Bn n) : fTwo gLess ([lw x n, lw y n] ++ []) = some (.ok (.bl (decide (x < y)))) := by
  rw [lw_is, lw_is, ← lw_less h]
  exact fTwo_ok (two_lw h hx hy hn) rfl
theorem ladd_lw {x y n : Int} (h : 0 < n) (hx : Bn x) (hy : Bn y) (hn : Bn n) : fTwoL gPlus ([lw x n, lw y n] ++ []) = some (.ok (lw (x + y) n)) := by
  rw [lw_is, lw_is, ← lw_add h]
  exact fTwoL_ok (twoL_lw (by omega) (by omega) hx hn hy hn) rfl
theorem ltake_lw {x y n : Int} (h : 0 < n) (hx : Bn x) (hy : Bn y) (hn : Bn n) : fTwoL gMinus ([lw x n, lw y n] ++ []) = some (.ok (lw (x - y) n)) := by
  rw [lw_is, lw_is, ← lw_sub h]
  exact fTwoL_ok (twoL_lw (by omega) (by omega) hx hn hy hn) rfl
theorem lless_lw {x y n : Int} (h : 0 < n) (hx : Bn x) (hy : Bn y) (hn : Bn n) : fTwoL gLess ([lw x n, lw y n] ++ []) = some (.ok (.bl (decide (x < y)))) := by
  rw [lw_is, lw_is, ← lw_less h]
  exact fTwoL_ok (twoL_lw (by omega) (by omega) hx hn hy hn) rfl
theorem lby_lw {x n y m : Int} (h : n ≠ 0) (k : m ≠ 0) (hx : Bn x) (hn : Bn n) (hy : Bn y) (hm : Bn m) : fTwoL gTimes ([lw x n, lw y m] ++ []) = some (.ok (lw (x * y) (n * m))) := by
  rw [lw_is, lw_is, ← lw_times h k]
  exact fTwoL_ok (twoL_lw h k hx hn hy hm) rfl
theorem isw_lw {x n : Int} (h : n ≠ 0) : fIsWorth ([lw x n] ++ []) = some (.ok (.bl true)) := worth_int (lw_isW x h)
/-! ### lines -/
/-- a line: least worth l, greatest h, step t, begin a, all over n -/
structure Ln (l h t a n : Int) : Prop where
  n0 : 0 < n
  l0 : 0 ≤ l
  lh : l < h
  t0 : 0 < t
  th : t ≤ h - l
  la : l ≤ a
  ah : a ≤ h
  hb : h < 1000000000000
  nb : n < 1000000000000
def lnM (l h t a n : Int) : Int := lcm4 (bt l n) (bt h n) (bt t n) (bt a n)
def lnU (x n m : Int) : Int := tp x n * (m / bt x n)
theorem lcm4_dvd (a b c d : Int) : a ∣ lcm4 a b c d ∧ b ∣ lcm4 a b c d ∧ c ∣ lcm4 a b c d ∧ d ∣ lcm4 a b c d := by
  unfold lcm4
  have q1 := Nat.dvd_lcm_left a.natAbs b.natAbs
  have q2 := Nat.dvd_lcm_right a.natAbs b.natAbs
  have q3 := Nat.dvd_lcm_left (a.natAbs.lcm b.natAbs) c.natAbs
  have q4 := Nat.dvd_lcm_right (a.natAbs.lcm b.natAbs) c.natAbs
  have q5 := Nat.dvd_lcm_left ((a.natAbs.lcm b.natAbs).lcm c.natAbs) d.natAbs
  have q6 := Nat.dvd_lcm_right ((a.natAbs.lcm b.natAbs).lcm c.natAbs) d.natAbs
  have up : ∀ {z : Int} {m : Nat}, z.natAbs ∣ m → z ∣ (m : Int) := fun {z m} h => Int.natAbs_dvd_natAbs.mp (by rw [Int.natAbs_natCast]; exact h)
  exact ⟨up (Nat.dvd_trans q1 (Nat.dvd_trans q3 q5)), up (Nat.dvd_trans q2 (Nat.dvd_trans q3 q5)), up (Nat.dvd_trans q4 q5), up q6⟩
theorem bt_dvd (x : Int) {n : Int} (h : n ≠ 0) : bt x n ∣ n := by
  obtain ⟨z, q, r, h1, h2, h3, h4, h5⟩ := lw_ex x h
  obtain ⟨e1, e2⟩ := lw_of h1 h2 h3 h4 h5
  rw [e2, h3]
  exact ⟨z, Int.mul_comm _ _⟩
theorem lnM_dvd {l h t a n : Int} (hn : n ≠ 0) : lnM l h t a n ∣ n := by
  unfold lnM lcm4
  have dn : ∀ x, (bt x n).natAbs ∣ n.natAbs := fun x => Int.natAbs_dvd_natAbs.mpr (bt_dvd x hn)
  refine Int.natAbs_dvd_natAbs.mp ?_
  rw [Int.natAbs_natCast]
  exact Nat.lcm_dvd (Nat.lcm_dvd (Nat.lcm_dvd (dn l) (dn h)) (dn t)) (dn a)
theorem lnM_pos {l h t a n : Int} (hn : 0 < n) : 0 < lnM l h t a n := by
  obtain ⟨k, e⟩ := lnM_dvd (l := l) (h := h) (t := t) (a := a) (show n ≠ 0 by omega)
  have h0 : 0 ≤ lnM l h t a n := Int.natCast_nonneg _
  have h1 : lnM l h t a n ≠ 0 := fun z => by rw [z, Int.zero_mul] at e; omega
  omega
/-- the line's own units: n is k times its scale, all else likewise -/
theorem unit_is {x n m k : Int} (hn : 0 < n) (hm : n = m * k) (hd : bt x n ∣ m) : x = lnU x n m * k := by
  obtain ⟨c, hc⟩ := hd
  have b0 := bt_pos x (show n ≠ 0 by omega)
  have cr := lw_cross x (show n ≠ 0 by omega)
  unfold lnU
  rw [hc, Int.mul_ediv_cancel_left _ (by omega)]
  have : bt x n * x = bt x n * (tp x n * c * k) := by
    rw [hc] at hm
    have e : tp x n * (bt x n * c * k) = x * bt x n := by rw [← hm]; exact cr
    grind
  exact Int.eq_of_mul_eq_mul_left (by omega) this
end Sky
namespace Sky
open PySem L2 Evl PySem.Spec PyProof.Rows
/-! what the defs of lines tell -/
def lnC (l h t a n l1 l2 h1 h2 t1 t2 a1 a2 : Int) : Prop := Ln l h t a n ∧ l1 = tp l n ∧ l2 = bt l n ∧ h1 = tp h n ∧ h2 = bt h n ∧ t1 = tp t n ∧ t2 = bt t n ∧ a1 = tp a n ∧ a2 = bt a n
open Classical in
noncomputable def fFirst : List Da → Option XO
  | [.tup [.int l1, .int l2], .tup [.int h1, .int h2], .tup [.int t1, .int t2], .tup [.int a1, .int a2], .bl _] => if ∃ l h t a n, lnC l h t a n l1 l2 h1 h2 t1 t2 a1 a2 then some (.ok .non) else none
  | _ => none
theorem fFirst_inv {ds : List Da} {o : XO} (h : fFirst ds = some o) : ∃ l h t a n u, Ln l h t a n ∧ ds = [lw l n, lw h n, lw t n, lw a n, .bl u] ∧ o = .ok .non := by
  unfold fFirst at h
  split at h
  · split at h
    · rename_i hh
      obtain ⟨l, h', t, a, n, H, rfl, rfl, rfl, rfl, rfl, rfl, rfl, rfl⟩ := hh
      exact ⟨l, h', t, a, n, _, H, rfl, (Option.some.inj h).symm⟩
    · cases h
  · cases h
theorem fFirst_ok {l h t a n : Int} {u : Bool} (H : Ln l h t a n) : fFirst ([lw l n, lw h n, lw t n, lw a n, .bl u] ++ []) = some (.ok .non) := if_pos ⟨l, h, t, a, n, H, rfl, rfl, rfl, rfl, rfl, rfl, rfl, rfl⟩
def lnFs (m L S T Z : Int) : List (Str × Da) := [("_scale", .int m), ("_low", .int L), ("_span", .int S), ("_step", .int T), ("_start", .int Z)]
def uI (x1 x2 m : Int) : Int := x1 * (m / x2)
def lnF (l1 l2 h1 h2 t1 t2 a1 a2 : Int) (u : Bool) : List (Str × Da) :=
  lnFs (lcm4 l2 h2 t2 a2) (uI l1 l2 (lcm4 l2 h2 t2 a2)) (uI h1 h2 (lcm4 l2 h2 t2 a2) - uI l1 l2 (lcm4 l2 h2 t2 a2)) (uI t1 t2 (lcm4 l2 h2 t2 a2))
    (if u = true then uI a1 a2 (lcm4 l2 h2 t2 a2) - uI l1 l2 (lcm4 l2 h2 t2 a2) else 2 * (uI h1 h2 (lcm4 l2 h2 t2 a2) - uI l1 l2 (lcm4 l2 h2 t2 a2)) - (uI a1 a2 (lcm4 l2 h2 t2 a2) - uI l1 l2 (lcm4 l2 h2 t2 a2)))
open Classical in
noncomputable def fInit : List Da → Option XI
  | [.tup [.int l1, .int l2], .tup [.int h1, .int h2], .tup [.int t1, .int t2], .tup [.int a1, .int a2], .bl u] => if ∃ l h t a n, lnC l h t a n l1 l2 h1 h2 t1 t2 a1 a2 then some (.ok (lnF l1 l2 h1 h2 t1 t2 a1 a2 u)) else none
  | _ => none
theorem fInit_inv {ds : List Da} {o : XI} (h : fInit ds = some o) : ∃ l h t a n u, Ln l h t a n ∧ ds = [lw l n, lw h n, lw t n, lw a n, .bl u] ∧ o = .ok (lnF (tp l n) (bt l n) (tp h n) (bt h n) (tp t n) (bt t n) (tp a n) (bt a n) u) := by
  unfold fInit at h
  split at h
  · split at h
    · rename_i hh
      obtain ⟨l, h', t, a, n, H, rfl, rfl, rfl, rfl, rfl, rfl, rfl, rfl⟩ := hh
      exact ⟨l, h', t, a, n, _, H, rfl, (Option.some.inj h).symm⟩
    · cases h
  · cases h
theorem fInit_ok {l h t a n : Int} {u : Bool} (H : Ln l h t a n) : fInit [lw l n, lw h n, lw t n, lw a n, .bl u] = some (.ok (lnF (tp l n) (bt l n) (tp h n) (bt h n) (tp t n) (bt t n) (tp a n) (bt a n) u)) := if_pos ⟨l, h, t, a, n, H, rfl, rfl, rfl, rfl, rfl, rfl, rfl, rfl⟩
/-- a made line's numbers, in its own units -/
structure Lm (m L S T Z : Int) : Prop where
  m0 : 0 < m
  s0 : 0 < S
  t0 : 0 < T
  mb : m < 1000000000000
  lb : L.natAbs < 1000000000000
  sb : S < 1000000000000
  tb : T < 1000000000000
  zb : Z.natAbs < 2000000000000
theorem lnF_is {l h t a n : Int} (u : Bool) (H : Ln l h t a n) : ∃ k m L S T Z, 0 < k ∧ Lm m L S T Z ∧ lnF (tp l n) (bt l n) (tp h n) (bt h n) (tp t n) (bt t n) (tp a n) (bt a n) u = lnFs m L S T Z ∧ n = m * k ∧ l = L * k ∧ h - l = S * k ∧ t = T * k ∧ (if u = true then a - l else 2 * (h - l) - (a - l)) = Z * k := by
  obtain ⟨k, hk⟩ := lnM_dvd (l := l) (h := h) (t := t) (a := a) (show n ≠ 0 by have := H.n0; omega)
  have m0 := lnM_pos (l := l) (h := h) (t := t) (a := a) H.n0
  have dv := lcm4_dvd (bt l n) (bt h n) (bt t n) (bt a n)
  have el := unit_is (x := l) H.n0 hk dv.1
  have eh := unit_is (x := h) H.n0 hk dv.2.1
  have et := unit_is (x := t) H.n0 hk dv.2.2.1
  have ea := unit_is (x := a) H.n0 hk dv.2.2.2
  have k0 : 0 < k := by
    have := H.n0
    rw [hk] at this
    exact Int.pos_of_mul_pos_right this m0 |> fun z => z
  have le : ∀ {x y : Int}, x = y * k → y.natAbs ≤ x.natAbs := fun {x y} e => by
    rw [e, Int.mul_comm]; exact natAbs_le_mul (by omega)
  obtain ⟨n0, l0, lh, t0, th, la, ah, hb, nb⟩ := H
  have es : h - l = (lnU h n (lnM l h t a n) - lnU l n (lnM l h t a n)) * k := by rw [Int.sub_mul, ← eh, ← el]
  have eal : a - l = (lnU a n (lnM l h t a n) - lnU l n (lnM l h t a n)) * k := by rw [Int.sub_mul, ← ea, ← el]
  have pos : ∀ {x y : Int}, x = y * k → 0 < x → 0 < y := fun {x y} e hx => by
    rw [e] at hx
    exact Int.pos_of_mul_pos_left hx k0 |> fun z => z
  have ez : (if u = true then a - l else 2 * (h - l) - (a - l)) = (if u = true then lnU a n (lnM l h t a n) - lnU l n (lnM l h t a n) else 2 * (lnU h n (lnM l h t a n) - lnU l n (lnM l h t a n)) - (lnU a n (lnM l h t a n) - lnU l n (lnM l h t a n))) * k := by
    cases u
    · show 2 * (h - l) - (a - l) = (2 * (lnU h n (lnM l h t a n) - lnU l n (lnM l h t a n)) - (lnU a n (lnM l h t a n) - lnU l n (lnM l h t a n))) * k
      rw [Int.sub_mul, Int.mul_assoc, ← es, ← eal]
    · exact eal
  have bz : (if u = true then a - l else 2 * (h - l) - (a - l)).natAbs < 2000000000000 := by cases u <;> simp <;> omega
  refine ⟨k, lnM l h t a n, lnU l n (lnM l h t a n), _, lnU t n (lnM l h t a n), _, k0, ⟨m0, pos es (by omega), pos et t0, ?_, ?_, ?_, ?_, ?_⟩, rfl, hk, el, es, et, ez⟩
  · have := le hk; omega
  · have := le el; omega
  · have := le es; have := pos es (by omega); omega
  · have := le et; have := pos et t0; omega
  · exact Nat.lt_of_le_of_lt (le ez) bz
def gi (f : Str) (fs : List (Str × Da)) : Int := match fs.lookup f with
  | some (.int i) => i | _ => 0
def plc (S T Z r : Int) : Int := (Z + T * r) % (2 * S)
def fold (S p : Int) : Int := if 2 * S - p < p then 2 * S - p else p
def Rw (r : Int) : Prop := r.natAbs < 2 ^ 50
open Classical in
noncomputable def fL (CL : Addr) (g : Int → Int → Int → Int → Int → Int → XO) : List Da → Option XO
  | [.ins C fs, .int r] => if C = CL ∧ (∃ m L S T Z, fs = lnFs m L S T Z ∧ Lm m L S T Z) ∧ Rw r then some (g (gi "_scale" fs) (gi "_low" fs) (gi "_span" fs) (gi "_step" fs) (gi "_start" fs) r) else none
  | _ => none
theorem fL_inv {CL : Addr} {g : Int → Int → Int → Int → Int → Int → XO} {ds : List Da} {o : XO} (h : fL CL g ds = some o) : ∃ m L S T Z r, Lm m L S T Z ∧ Rw r ∧ ds = [.ins CL (lnFs m L S T Z), .int r] ∧ o = g m L S T Z r := by
  unfold fL at h
  split at h
  · split at h
    · rename_i hh
      obtain ⟨rfl, ⟨m, L, S, T, Z, rfl, H⟩, hr⟩ := hh
      exact ⟨m, L, S, T, Z, _, H, hr, rfl, (Option.some.inj h).symm⟩
    · cases h
  · cases h
theorem fL_ok {g : Int → Int → Int → Int → Int → Int → XO} {C : Addr} {m L S T Z r : Int} (H : Lm m L S T Z) (hr : Rw r) : fL C g (.ins C (lnFs m L S T Z) :: ([.int r] ++ [])) = some (g m L S T Z r) := if_pos ⟨rfl, ⟨m, L, S, T, Z, rfl, H⟩, hr⟩
def gPlace (_ _ S T Z r : Int) : XO := .ok (.int (plc S T Z r))
def gValue (m L S T Z r : Int) : XO := .ok (lw (L + fold S (plc S T Z r)) m)
def gRises (_ _ S T Z r : Int) : XO := .ok (.bl (decide (plc S T Z r < S)))
open Classical in
noncomputable def fRet (CL : Addr) : List Da → Option XO
  | [.ins C fs] => if C = CL ∧ ∃ m L S T Z, fs = lnFs m L S T Z ∧ Lm m L S T Z then some (.ok (.tup [.int (2 * gi "_span" fs / ((Nat.gcd (gi "_step" fs).natAbs (2 * gi "_span" fs).natAbs : Nat) : Int)), .int (gi "_step" fs / ((Nat.gcd (gi "_step" fs).natAbs (2 * gi "_span" fs).natAbs : Nat) : Int))])) else none
  | _ => none
theorem fRet_inv {CL : Addr} {ds : List Da} {o : XO} (h : fRet CL ds = some o) : ∃ m L S T Z, Lm m L S T Z ∧ ds = [.ins CL (lnFs m L S T Z)] ∧ o = .ok (.tup [.int (2 * S / ((Nat.gcd T.natAbs (2 * S).natAbs : Nat) : Int)), .int (T / ((Nat.gcd T.natAbs (2 * S).natAbs : Nat) : Int))]) := by
  unfold fRet at h
  split at h
  · split at h
    · rename_i hh
      obtain ⟨rfl, m, L, S, T, Z, rfl, H⟩ := hh
      exact ⟨m, L, S, T, Z, H, rfl, (Option.some.inj h).symm⟩
    · cases h
  · cases h
theorem fRet_ok {C : Addr} {m L S T Z : Int} (H : Lm m L S T Z) : fRet C [.ins C (lnFs m L S T Z)] = some (.ok (.tup [.int (2 * S / ((Nat.gcd T.natAbs (2 * S).natAbs : Nat) : Int)), .int (T / ((Nat.gcd T.natAbs (2 * S).natAbs : Nat) : Int))])) := if_pos ⟨rfl, m, L, S, T, Z, rfl, H⟩
/-! _units of a line that is being made: only the scale is asked -/
open Classical in
noncomputable def fUnits (CL : Addr) : List Da → Option XO
  | [.ins C fs, .tup [.int a, .int b]] => if C = CL ∧ 0 < b ∧ Bn b ∧ Bn a ∧ (fs.lookup ("_scale" : Str) = some (Da.int (gi "_scale" fs))) ∧ 0 ≤ gi "_scale" fs ∧ gi "_scale" fs < 2 ^ 100 then some (.ok (.int (uI a b (gi "_scale" fs)))) else none
  | _ => none
theorem fUnits_inv {CL : Addr} {ds : List Da} {o : XO} (h : fUnits CL ds = some o) : ∃ fs a b, ds = [.ins CL fs, .tup [.int a, .int b]] ∧ 0 < b ∧ Bn b ∧ Bn a ∧ fs.lookup ("_scale" : Str) = some (Da.int (gi "_scale" fs)) ∧ 0 ≤ gi "_scale" fs ∧ gi "_scale" fs < 2 ^ 100 ∧ o = .ok (.int (uI a b (gi "_scale" fs))) := by
  unfold fUnits at h
  split at h
  · split at h
    · rename_i hh
      obtain ⟨rfl, h1, h2, h3, h4, h5, h6⟩ := hh
      exact ⟨_, _, _, rfl, h1, h2, h3, h4, h5, h6, (Option.some.inj h).symm⟩
    · cases h
  · cases h
end Sky
namespace Sky
theorem bn_mil {x : Int} (h : -1000000000000 ≤ x ∧ x ≤ 1000000000000) : Bn x := by
  unfold Bn
  have : x.natAbs ≤ 1000000000000 := by omega
  exact Nat.lt_of_le_of_lt this (by decide)
theorem lw_zero {n : Int} (h : n ≠ 0) : lw 0 n = .tup [.int 0, .int 1] := by
  have : lw 0 n = lw 0 1 := lw_same h (by decide) (by omega)
  rw [this, lw_one]
end Sky
namespace Sky
open PySem L2 Evl PySem.Spec PyProof.Rows
theorem fUnits_ok {C : Addr} {fs : List (Str × Da)} {a b m : Int} (h1 : 0 < b) (h2 : Bn b) (h3 : Bn a) (h4 : fs.lookup ("_scale" : Str) = some (Da.int m)) (h5 : 0 ≤ m) (h6 : m < 2 ^ 100) : fUnits C (.ins C fs :: ([.tup [.int a, .int b]] ++ [])) = some (.ok (.int (uI a b m))) := by
  have e : gi "_scale" fs = m := by unfold gi; rw [h4]
  exact Eq.trans (if_pos ⟨rfl, h1, h2, h3, by rw [e]; exact h4, by rw [e]; exact h5, by rw [e]; exact h6⟩) (by rw [e])
theorem units_mul {a b m : Int} (h1 : 0 < b) (h3 : Bn a) (h5 : 0 ≤ m) (h6 : m < 2 ^ 100) : CDivW m b → CMulW a (m / b) := fun _ => by
  have q0 : 0 ≤ m / b := Int.ediv_nonneg h5 (by omega)
  have q1 : m / b ≤ m := Int.ediv_le_self b h5
  have q : Bn (m / b) := by
    unfold Bn
    have e : ((2 : Int) ^ 100) = ((2 ^ 100 : Nat) : Int) := by decide
    rw [e] at h6
    omega
  exact bn_mul h3 q
theorem div_bn {m b : Int} (h1 : 0 < b) (h2 : Bn b) : CDivW m b := wide_div h1 h2 (by decide) (by decide)
/-- bounds of a line's numbers -/
theorem plc_bd {S T Z r : Int} (h : 0 < S) : 0 ≤ plc S T Z r ∧ plc S T Z r < 2 * S := ⟨Int.emod_nonneg _ (by omega), Int.emod_lt_of_pos _ (by omega)⟩
theorem cm_small {i j : Int} (h1 : i.natAbs < 2 ^ 60) (h2 : j.natAbs < 2 ^ 60) : CMulW i j := wide_mul h1 h2 (by decide) (by decide) (by decide)
theorem lt60 {x : Int} (h : -4000000000000 ≤ x ∧ x ≤ 4000000000000) : x.natAbs < 2 ^ 60 := by
  have : x.natAbs ≤ 4000000000000 := by omega
  exact Nat.lt_of_le_of_lt this (by decide)
end Sky
namespace Sky
open PySem L2 Evl PySem.Spec PyProof.Rows
theorem small_of {x : Int} (h : Bn x) : Small x := Nat.lt_of_lt_of_le h (by decide)
/-! ### defs by what holds of arguments and result -/
def spR (K : PySem.W.Frag) (n : Nat) (R : List Da → XO → Prop) : Sp := fun vs H Q E => vs.length = n ∧ ∃ B ds o, Ex B H ∧ DrA K B vs ds ∧ R ds o ∧ Ko K E B H Q o
structure CalR (P : Program) (w : World) (K : PySem.W.Frag) (mg : Str → Option Value) (base : Heap) (x : Str) (j : Nat) (ps : List Str) (R : List Da → XO → Prop) : Prop where
  ex : ∃ f fd, FnOk P w K mg base (L2.CX P w) j f fd ps (spR K ps.length R) ∧ mg x = some (.ref f) ∧ PySem.W.keepIn K (.ref f) = true ∧ Binds K fd ps []
section
variable {P : Program} {w : World} {K : PySem.W.Frag} {mg : Str → Option Value} {base : Heap} {x qual : Str} {st : Stmt} {f : Addr} {fd : FuncData} {N ps : List Str} {k : Nat}
theorem fn_r (F : Fun K x qual st f fd) (S : FnScope N ps (defScope st)) (R : List Da → XO → Prop)
    (hb : ∀ (cdv : Value) (A : Around) (outer : List Env) (s : Shared) (H : Hp) (E : XK) (ds : List Da) (o : XO), Bd (XB P w K mg base N qual st f cdv A outer s H E) (WD E) k → ds.length = ps.length → R ds o →
      ∃ ou, Leads ou o ∧ SVs (XB P w K mg base N qual st f cdv A outer s H E) (WD E) (slots N ds) (defBody st) ou) : FnOk P w K mg base (L2.CX P w) (k + 1) f fd ps (spR K ps.length R) := by
  refine F.okX S (fun vs H Q E h => h.1) fun cdv A outer s H vs Q E hr h => ?_
  obtain ⟨hl, B, ds, o, eB, hA, hf, ko⟩ := h
  obtain ⟨ou, ld, t, h1, h2⟩ := hb cdv A outer s H E ds o (bd_of S hr) (hA.length.symm.trans hl) hf
  have hN : ps.length ≤ N.length := by have := congrArg List.length S.pre; rw [List.length_take] at this; omega
  refine ⟨t, h1, h2 B H B H _ ⟨Gr.refl eB, ?_, fun i j p es1 es2 q1 _ hx => (slots_no q1 hx).elim⟩ _ ?_⟩
  · unfold L2.start slots
    rw [hA.length]
    exact paired_app (slots_sl hA) paired_rep
  · cases ld with
    | rt d => exact fun v B' H' g r => ko v B' H' g r
    | rx en C f => exact fun B' H' σ' dd S' x' => ko dd B' H' S'.gr x'
    | nx en => exact fun B' H' σ' S' => ko .non B' H' S'.gr .non
theorem calR_mk {j n : Nat} {R : List Da → XO → Prop} (G : FnOk P w K mg base (L2.CX P w) j f fd ps (spR K n R)) (hn : ps.length = n) (hm : mg x = some (.ref f)) (hk : PySem.W.keepIn K (.ref f) = true) (hb : Binds K fd ps []) : CalR P w K mg base x j ps R := by
  subst hn
  exact ⟨f, fd, G, hm, hk, hb⟩
end
section
variable {X : Cx} {W : WX} {k j n : Nat} {en : List Sl} {e a b : Expr} {es : List Expr} {pos p p2 q1 q2 : Pos} {ds : List Da} {o : XO} {x : Str} {ps : List Str} {R : List Da → XO → Prop} {ss : List Stmt} {d : Da} {ou : Out}
theorem ex_callR {t : TA} (ha : EA X.K t en ds) (hf : R ds o) (hl : ds.length = n) : EX X.K W (tCallSD (spR X.K n R) [] (WE W) t) en o := fun _ _ B H σ S Q ko =>
  ha _ _ B H σ S _ fun vs B1 H1 g r => ⟨by rw [← hl, List.append_nil, r.length], B1, _, o, g.s, by rw [List.append_nil]; exact r, hf, ko.grow g⟩
theorem ev_calR (cl : CalR X.prog X.w X.K X.mg X.base x j ps R) (Bx : Bd X W k) (hj : j ≤ k) (ha : EVA X W en (e :: es) ds) (hf : R ds o) (hl : ds.length = ps.length) (hg : Gl X x)
    (hdb : (x == ("__debug__" : Str)) = false) (he : starEach (e :: es) X.env = (false, eval e X.env) :: starEach es X.env) (hpl : (backTo pos (starEach es X.env)).any (·.1) = false) : EV X W en (.Call (.Name x p) (e :: es) [] pos) o := by
  obtain ⟨f, fd, F, hm, hk, hb⟩ := cl.ex
  obtain ⟨t, h1, h2⟩ := ha
  exact ⟨_, pe_callSD F (Bx.rm.mono hj) hg hm hk hb .nil (fun σ => passAt Bx.tk σ) h1 hdb he hpl, ex_callR h2 hf hl⟩
/-- a slice of a tuple, some of it -/
theorem ev_slT {lo hi : Option Expr} {o1 o2 : Option Int} (ha : EV X W en a (.ok (.tup ds))) (h1 : EVO X W en lo o1) (h2 : EVO X W en hi o2) (hc : ¬ (HT.sIx ds.length 0 o1 = 0 ∧ HT.sIx ds.length ds.length o2 = ds.length)) : EV X W en (.Subscript a (.Slice lo hi none p2) pos) (.ok (.tup (Sky.cutD ds o1 o2))) := by
  obtain ⟨te, a1, a2⟩ := ha
  obtain ⟨tl, b1, b2⟩ := h1
  obtain ⟨th, c1, c2⟩ := h2
  refine ⟨_, pe_slice sl_tup a1 b1 c1, fun B0 H0 B H σ S Q k => a2 _ _ B H σ S _ fun v B1 H1 g1 r1 => ?_⟩
  refine b2 _ _ B1 H1 σ (S.grow g1) _ fun B2 H2 g2 => c2 _ _ B2 H2 σ (S.grow (g1.trans g2)) _ fun B3 H3 g3 => ?_
  cases r1 with
  | @tup a vs _ h t =>
    have g := g1.trans (g2.trans g3)
    have l := t.length
    refine ⟨a, vs, rfl, ex_t g3.s (ex_t (g2.b.trans g3.b) h), by rw [l]; exact hc, fun p hp => k _ _ _ (g.trans (Gr.new g3.s hp)) (.tup (st_of upd_same) (DrA.mono (Ex.new (fresh_back g3.s hp)) ?_))⟩
    unfold cutV Sky.cutD
    rw [l]
    exact ((t.drop _).take _).mono (g2.b.trans g3.b)
/-- for x in range(lo, hi): all turns, or a turn m that returns -/
theorem st_forR2 {K : PySem.W.Frag} {n lo hi : Nat} {tx : TA} {tbd : TS} (F : Nat → List Sl) (h : EA K tx en [.int (lo : Int), .int (hi : Int)]) (hm : hi ≤ 100000) (hlo : lo ≤ hi) (h0 : F 0 = en)
    (ht : ∀ i : Nat, lo + i < hi → ST K W tbd ((F i).set n (.da (.int ((lo : Int) + (i : Int))))) (.nx (F (i + 1)))) : ST K W (tFor (iRng2 tx) (gName n) tbd) en (.nx (F (hi - lo))) := fun B0 H0 B H σ S D k =>
  h _ _ B H σ S _ fun vs B1 H1 g r => by
    cases r with
    | cons r r2 => cases r2 with
      | cons r2 r3 =>
        cases r3; cases r; cases r2
        have S1 := S.grow g
        have e : ((hi : Int) - (lo : Int)).toNat = hi - lo := by omega
        refine ⟨lo, hi, rfl, ⟨by omega, by omega, by omega, by omega⟩, for_range (lo := lo) (n := ((hi : Int) - (lo : Int)).toNat) (fun i σ' H' => ∃ B', Sd K B1 H0 B' H' σ' (F i)) ⟨B1, by rw [h0]; exact S1.rebase⟩ (fun i σ' H' hi' ⟨B', S'⟩ => ?_) (fun σ' H' ⟨B', S'⟩ => ?_)⟩
        · exact ht i (by omega) B1 H0 B' H' _ (S'.set (.int _) n) _ fun B2 H2 σ2 S2 => ⟨B2, S2⟩
        · rw [e] at S'
          exact k B' H' σ' (S'.base S1.gr)
theorem st_forR2X {K : PySem.W.Frag} {n m lo hi : Nat} {tx : TA} {tbd : TS} (F : Nat → List Sl) (h : EA K tx en [.int (lo : Int), .int (hi : Int)]) (hm : hi ≤ 100000) (h0 : F 0 = en)
    (ht : ∀ i : Nat, i < m → ST K W tbd ((F i).set n (.da (.int ((lo : Int) + (i : Int))))) (.nx (F (i + 1)))) (hl : lo + m < hi) (hx : ST K W tbd ((F m).set n (.da (.int ((lo : Int) + (m : Int))))) (.rt d)) : ST K W (tFor (iRng2 tx) (gName n) tbd) en (.rt d) := fun B0 H0 B H σ S D k =>
  h _ _ B H σ S _ fun vs B1 H1 g r => by
    cases r with
    | cons r r2 => cases r2 with
      | cons r2 r3 =>
        cases r3; cases r; cases r2
        have S1 := S.grow g
        refine ⟨lo, hi, rfl, ⟨by omega, by omega, by omega, by omega⟩, for_range (lo := lo) (n := ((hi : Int) - (lo : Int)).toNat) (fun i σ' H' => i ≤ m ∧ ∃ B', Sd K B1 H0 B' H' σ' (F i)) ⟨Nat.zero_le _, B1, by rw [h0]; exact S1.rebase⟩ (fun i σ' H' hi' ⟨him, B', S'⟩ => ?_) (fun σ' H' ⟨him, B', S'⟩ => ?_)⟩
        · rcases Nat.lt_or_ge i m with hlt | hge
          · exact ht i hlt B1 H0 B' H' _ (S'.set (.int _) n) _ fun B2 H2 σ2 S2 => ⟨hlt, B2, S2⟩
          · have e : i = m := by omega
            subst e
            exact hx B1 H0 B' H' _ (S'.set (.int _) n) _ fun v B2 H2 g2 r2 => k v B2 H2 (S1.gr.base g2) r2
        · omega
theorem sv_forR2 {n lo hi : Nat} (Bx : Bd X W k) (F : Nat → List Sl) (hN : X.N.idxOf? x = some n) (hN2 : X.N[n]? = some x) (hx : Loc X.env.scope x) (hf : X.fn x = true ∨ X.env.scope.names.lookup x = some .local) (hr : X.mg "range" = none) (hi' : EVA X W en [a, b] [.int (lo : Int), .int (hi : Int)]) (hm : hi ≤ 100000) (hlo : lo ≤ hi) (h0 : F 0 = en)
    (hg : Gl X "range") (hst : starEach [a, b] X.env = [(false, eval a X.env), (false, eval b X.env)]) (hst2 : starEach [b] X.env = [(false, eval b X.env)])
    (ht : ∀ i : Nat, lo + i < hi → SVs X W ((F i).set n (.da (.int ((lo : Int) + (i : Int))))) ss (.nx (F (i + 1)))) : SV X W en (.For (.Name x p) (.Call (.Name "range" q1) [a, b] [] q2) ss [] pos) (.nx (F (hi - lo))) := by
  obtain ⟨t, h1, h2⟩ := hi'
  exact ⟨_, ps_for Bx.own Bx.calm (pi_range2 hg hr h1 hst hst2) (pg_name Bx.nd hN2 hx hf) pss_U, st_forR2 F h2 hm hlo h0 fun i hi => (ht i hi).U⟩
theorem sv_forR2X {n m lo hi : Nat} (Bx : Bd X W k) (F : Nat → List Sl) (hN : X.N.idxOf? x = some n) (hN2 : X.N[n]? = some x) (hx : Loc X.env.scope x) (hf : X.fn x = true ∨ X.env.scope.names.lookup x = some .local) (hr : X.mg "range" = none) (hi' : EVA X W en [a, b] [.int (lo : Int), .int (hi : Int)]) (hm : hi ≤ 100000) (h0 : F 0 = en)
    (hg : Gl X "range") (hst : starEach [a, b] X.env = [(false, eval a X.env), (false, eval b X.env)]) (hst2 : starEach [b] X.env = [(false, eval b X.env)])
    (ht : ∀ i : Nat, i < m → SVs X W ((F i).set n (.da (.int ((lo : Int) + (i : Int))))) ss (.nx (F (i + 1)))) (hl : lo + m < hi) (hx2 : SVs X W ((F m).set n (.da (.int ((lo : Int) + (m : Int))))) ss (.rt d)) : SV X W en (.For (.Name x p) (.Call (.Name "range" q1) [a, b] [] q2) ss [] pos) (.rt d) := by
  obtain ⟨t, h1, h2⟩ := hi'
  exact ⟨_, ps_for Bx.own Bx.calm (pi_range2 hg hr h1 hst hst2) (pg_name Bx.nd hN2 hx hf) pss_U, st_forR2X F h2 hm h0 (fun i hi => (ht i hi).U) hl hx2.U⟩
end
/-! ### a drawn line -/
def qf (ns : List Int) (i : Nat) : Int := ns.getD i 0
structure Dl (ns : List Int) : Prop where
  len : 8 ≤ ns.length
  lo : ∀ i, 0 ≤ qf ns i
  hi : ∀ i, qf ns i < 1009
theorem digs_dl (c : Int) {m : Nat} (h : 8 ≤ m) : Dl (digs c m) := by
  have key : ∀ i, 0 ≤ qf (digs c m) i ∧ qf (digs c m) i < 1009 := fun i => by
    unfold qf
    rw [List.getD_eq_getElem?_getD]
    rcases Nat.lt_or_ge i m with q | q
    · rw [digs_get c q]; exact ⟨digD_lo c i, digD_hi c i⟩
    · rw [List.getElem?_eq_none (by rw [digs_len]; exact q)]; exact ⟨by decide, by decide⟩
  exact ⟨by rw [digs_len]; exact h, fun i => (key i).1, fun i => (key i).2⟩
theorem dl_at {ns : List Int} (h : Dl ns) {i : Nat} (hi : i < 8) : atI (ns.map Da.int) (i : Int) = some (.int (qf ns i)) := by
  refine at_nat ?_
  have := h.len
  rw [List.getElem?_map, List.getElem?_eq_getElem (by omega)]
  unfold qf
  rw [List.getD_eq_getElem?_getD, List.getElem?_eq_getElem (by omega)]
  rfl
def uTop (q : Nat → Int) : Int := 1 + q 0 % 40
def uBot (q : Nat → Int) : Int := ([1, 60, 2, 3600, 7] : List Int).getD (q 1 % 5).toNat 0
def lWide (q : Nat → Int) : Int := 1 + q 2 % 30
def lMod (q : Nat → Int) : Int := ([1, 25] : List Int).getD (q 4 % 2).toNat 0
def lBeg (q : Nat → Int) : Int := q 3 % lMod q
def lStep (q : Nat → Int) : Int := 1 + q 5 % (2 * lWide q)
def lAt (q : Nat → Int) : Int := q 6 % (3 * lWide q + 1)
def dl (q : Nat → Int) : Int := 6 * uTop q * lBeg q
def dh (q : Nat → Int) : Int := 6 * uTop q * (lBeg q + lWide q)
def dt (q : Nat → Int) : Int := 3 * uTop q * lStep q
def da (q : Nat → Int) : Int := 2 * uTop q * (3 * lBeg q + lAt q)
def dn (q : Nat → Int) : Int := 6 * uBot q
def du (q : Nat → Int) : Bool := deq (.int (q 7 % 2)) (.int 0)
structure Db (q : Nat → Int) : Prop where
  u : 1 ≤ uTop q ∧ uTop q ≤ 40
  b : 1 ≤ uBot q ∧ uBot q ≤ 3600
  w : 1 ≤ lWide q ∧ lWide q ≤ 30
  m : 1 ≤ lMod q
  g : 0 ≤ lBeg q ∧ lBeg q ≤ 24
  s : 1 ≤ lStep q ∧ lStep q ≤ 2 * lWide q
  t : 0 ≤ lAt q ∧ lAt q ≤ 3 * lWide q
theorem db_of {ns : List Int} (h : Dl ns) : Db (qf ns) := by
  have a0 := Int.emod_nonneg (qf ns 0) (show (40 : Int) ≠ 0 by decide)
  have a1 := Int.emod_lt_of_pos (qf ns 0) (show (0 : Int) < 40 by decide)
  have b0 := Int.emod_nonneg (qf ns 1) (show (5 : Int) ≠ 0 by decide)
  have b1 := Int.emod_lt_of_pos (qf ns 1) (show (0 : Int) < 5 by decide)
  have c0 := Int.emod_nonneg (qf ns 2) (show (30 : Int) ≠ 0 by decide)
  have c1 := Int.emod_lt_of_pos (qf ns 2) (show (0 : Int) < 30 by decide)
  have d0 := Int.emod_nonneg (qf ns 4) (show (2 : Int) ≠ 0 by decide)
  have d1 := Int.emod_lt_of_pos (qf ns 4) (show (0 : Int) < 2 by decide)
  have hm : lMod (qf ns) = 1 ∨ lMod (qf ns) = 25 := by
    unfold lMod
    rcases (show qf ns 4 % 2 = 0 ∨ qf ns 4 % 2 = 1 by omega) with e | e <;> rw [e]
    · exact .inl rfl
    · exact .inr rfl
  have hw : 1 ≤ lWide (qf ns) ∧ lWide (qf ns) ≤ 30 := by unfold lWide; omega
  have g0 := Int.emod_nonneg (qf ns 3) (show lMod (qf ns) ≠ 0 by omega)
  have g1 := Int.emod_lt_of_pos (qf ns 3) (show 0 < lMod (qf ns) by omega)
  have s0 := Int.emod_nonneg (qf ns 5) (show 2 * lWide (qf ns) ≠ 0 by omega)
  have s1 := Int.emod_lt_of_pos (qf ns 5) (show 0 < 2 * lWide (qf ns) by omega)
  have t0 := Int.emod_nonneg (qf ns 6) (show 3 * lWide (qf ns) + 1 ≠ 0 by omega)
  have t1 := Int.emod_lt_of_pos (qf ns 6) (show 0 < 3 * lWide (qf ns) + 1 by omega)
  refine ⟨by unfold uTop; omega, ?_, hw, by omega, ?_, ?_, ?_⟩
  · unfold uBot
    rcases (show qf ns 1 % 5 = 0 ∨ qf ns 1 % 5 = 1 ∨ qf ns 1 % 5 = 2 ∨ qf ns 1 % 5 = 3 ∨ qf ns 1 % 5 = 4 by omega) with e | e | e | e | e <;> rw [e] <;> decide
  · show 0 ≤ qf ns 3 % lMod (qf ns) ∧ qf ns 3 % lMod (qf ns) ≤ 24
    omega
  · show 1 ≤ 1 + qf ns 5 % (2 * lWide (qf ns)) ∧ 1 + qf ns 5 % (2 * lWide (qf ns)) ≤ 2 * lWide (qf ns)
    omega
  · show 0 ≤ qf ns 6 % (3 * lWide (qf ns) + 1) ∧ qf ns 6 % (3 * lWide (qf ns) + 1) ≤ 3 * lWide (qf ns)
    omega
theorem mul_le3 {a b c d : Int} (h0 : 0 ≤ a) (h1 : a ≤ c) (k0 : 0 ≤ b) (k1 : b ≤ d) : 0 ≤ a * b ∧ a * b ≤ c * d := ⟨Int.mul_nonneg h0 k0, Int.mul_le_mul h1 k1 k0 (by omega)⟩
theorem ln_of {q : Nat → Int} (h : Db q) : Ln (dl q) (dh q) (dt q) (da q) (dn q) := by
  obtain ⟨u, b, w, m, g, s, t⟩ := h
  unfold dl dh dt da dn
  generalize uTop q = U at *
  generalize uBot q = N at *
  generalize lWide q = V at *
  generalize lBeg q = G at *
  generalize lStep q = S at *
  generalize lAt q = A at *
  have e1 := mul_le3 (show 0 ≤ U by omega) u.2 g.1 g.2
  have e2 := mul_le3 (show 0 ≤ U by omega) u.2 (show 0 ≤ V by omega) w.2
  have e3 := mul_le3 (show 0 ≤ U by omega) u.2 (show 0 ≤ S by omega) (show S ≤ 60 by omega)
  have e4 := mul_le3 (show 0 ≤ U by omega) u.2 t.1 (show A ≤ 90 by omega)
  have p1 : U * S ≤ U * (2 * V) := Int.mul_le_mul_of_nonneg_left s.2 (by omega)
  have p2 : U * A ≤ U * (3 * V) := Int.mul_le_mul_of_nonneg_left t.2 (by omega)
  have p3 : 0 < U * V := Int.mul_pos (by omega) (by omega)
  have p4 : 0 < U * S := Int.mul_pos (by omega) (by omega)
  have f1 : 6 * U * G = 6 * (U * G) := by grind
  have f2 : 6 * U * (G + V) = 6 * (U * G) + 6 * (U * V) := by grind
  have f3 : 3 * U * S = 3 * (U * S) := by grind
  have f4 : 2 * U * (3 * G + A) = 6 * (U * G) + 2 * (U * A) := by grind
  have f5 : U * (2 * V) = 2 * (U * V) := by grind
  have f6 : U * (3 * V) = 3 * (U * V) := by grind
  rw [f1, f2, f3, f4]
  rw [f5] at p1
  rw [f6] at p2
  exact ⟨by omega, by omega, by omega, by omega, by omega, by omega, by omega, by omega, by omega⟩
end Sky
namespace Sky
open PySem L2 Evl PySem.Spec PyProof.Rows
/-! ### is_tuple -/
def isTupD : Da → Int → Option Bool
  | .tup ds, m => some (decide ((ds.length : Int) = m))
  | .int _, _ => some false | .non, _ => some false | .bl _, _ => some false | .str _, _ => some false | .lst _, _ => some false | .emp, _ => some false | _, _ => none
def fIsTuple : List Da → Option XO
  | [d, .int m] => (isTupD d m).map fun b => .ok (.bl b)
  | _ => none
theorem tuple_some {d : Da} {m : Int} {b : Bool} (h : isTupD d m = some b) : fIsTuple ([d, .int m] ++ []) = some (.ok (.bl b)) := by
  show (isTupD d m).map _ = _
  rw [h]
  rfl
end Sky
namespace Sky
open PySem L2 Evl PySem.Spec PyProof.Rows
/-! ### expressions that change lists of the frame (the well of a law): en before, en' behind -/
def EXm (K : PySem.W.Frag) (te : TE) (en en' : List Sl) (d : Da) : Prop := ∀ B0 H0 B H σ, Sd K B0 H0 B H σ en → ∀ Q : VK, (∀ v B' H', Ex B B' → Sd K B0 H0 B' H' σ en' → Dr K B' v d → Q v H') → te σ H Q
def EAm (K : PySem.W.Frag) (ta : TA) (en en' : List Sl) (ds : List Da) : Prop := ∀ B0 H0 B H σ, Sd K B0 H0 B H σ en → ∀ Q : List V → Hp → Prop, (∀ vs B' H', Ex B B' → Sd K B0 H0 B' H' σ en' → DrA K B' vs ds → Q vs H') → ta σ H Q
/-- a new list, nobody else's -/
def ELm (K : PySem.W.Frag) (te : TE) (en en' : List Sl) (ds : List Da) : Prop := ∀ B0 H0 B H σ, Sd K B0 H0 B H σ en → ∀ Q : VK, (∀ p vs B1 H1 B' H', Ex B B1 → Sd K B0 H0 B1 H1 σ en' → Gr B1 H1 B' H' → H1 p = none → B' p = none → H' p = some (.lst vs) → DrA K B' vs ds → Q (.ref p) H') → te σ H Q
def ETm (K : PySem.W.Frag) (tt : TT) (en en' : List Sl) (b : Bool) : Prop := ∀ B0 H0 B H σ, Sd K B0 H0 B H σ en → ∀ Q : Bool → Hp → Prop, (∀ B' H', Ex B B' → Sd K B0 H0 B' H' σ en' → Q b H') → tt σ H Q
section
variable {K : PySem.W.Frag} {W : WX} {B B' H H' H0 B0 : Hp} {σ : L2.St} {en e1 e2 : List Sl} {te ta tb : TE} {d d1 d2 : Da} {o : Out} {ds es : List Da} {i : Nat} {p : Addr}
theorem exm_pure (h : EX K W te en (.ok d)) : EXm K te en en d := fun _ _ B H σ S Q k => h _ _ B H σ S Q fun v B' H' g r => k v B' H' g.b (S.grow g) r
theorem eam_pure {ta : TA} (h : EA K ta en ds) : EAm K ta en en ds := fun _ _ B H σ S Q k => h _ _ B H σ S Q fun vs B' H' g r => k vs B' H' g.b (S.grow g) r
theorem etm_pure {tt : TT} {b : Bool} (h : ET K tt en b) : ETm K tt en en b := fun _ _ B H σ S Q k => h _ _ B H σ S Q fun B' H' g => k B' H' g.b (S.grow g)
theorem exm_op {r : R2} (ha : EXm K ta en e1 d1) (hb : EXm K tb e1 e2 d2) (hr : RV K r d1 d2 d) : EXm K (tOp r ta tb) en e2 d := fun _ _ B H σ S Q k =>
  ha _ _ B H σ S _ fun x B1 H1 x1 S1 r1 => hb _ _ B1 H1 σ S1 _ fun y B2 H2 x2 S2 r2 => hr B2 H2 x y S2.eb (r1.mono x2) r2 Q fun v B3 H3 g r => k v B3 H3 ((x1.trans x2).trans g.b) (S2.grow g) r
theorem exm_un {r : V → Hp → VK → Prop} (ha : EXm K ta en e1 d1) (hr : RU K r d1 d) : EXm K (tUn r ta) en e1 d := fun _ _ B H σ S Q k =>
  ha _ _ B H σ S _ fun x B1 H1 x1 S1 r1 => hr B1 H1 x S1.eb r1 Q fun v B3 H3 g r => k v B3 H3 (x1.trans g.b) (S1.grow g) r
theorem eam_nil : EAm K tNil en en [] := fun _ _ B H σ S Q k => k [] B H (Ex.refl _) S .nil
theorem eam_cons {t : TA} (ha : EXm K te en e1 d) (ht : EAm K t e1 e2 ds) : EAm K (tCons te t) en e2 (d :: ds) := fun _ _ B H σ S Q k =>
  ha _ _ B H σ S _ fun x B1 H1 x1 S1 r1 => ht _ _ B1 H1 σ S1 _ fun vs B2 H2 x2 S2 r2 => k _ B2 H2 (x1.trans x2) S2 (.cons (r1.mono x2) r2)
theorem exm_tup {t : TA} (ht : EAm K t en e1 ds) (hl : ds.length ≤ 100000) : EXm K (tTup t) en e1 (.tup ds) := fun _ _ B H σ S Q k =>
  ht _ _ B H σ S _ fun vs B1 H1 x1 S1 r1 => ⟨by rw [r1.length]; exact sz_of hl, fun p hp => k _ _ _ (x1.trans (Ex.new (fresh_back S1.eb hp))) (S1.grow (Gr.new S1.eb hp)) (.tup (st_of upd_same) (r1.mono (Ex.new (fresh_back S1.eb hp))))⟩
theorem elm_lst {t : TA} (ht : EAm K t en e1 ds) (hl : ds.length ≤ 100000) : ELm K (tLst t) en e1 ds := fun _ _ B H σ S Q k =>
  ht _ _ B H σ S _ fun vs B1 H1 x1 S1 r1 => ⟨by rw [r1.length]; exact sz_of hl, fun p hp => k p vs B1 H1 B1 _ x1 S1 (Gr.newO S1.eb hp) hp (fresh_back S1.eb hp) upd_same r1⟩
theorem ELm.ex (h : ELm K te en e1 ds) : EXm K te en e1 (.lst ds) := fun _ _ B H σ S Q k =>
  h _ _ B H σ S _ fun p vs B1 H1 B2 H2 x1 S1 g h0 hb h1 r => by
    have gf := g.freeze S1.eb h0 h1
    exact k _ _ _ (x1.trans gf.b) (S1.grow gf) (.lst (sq_of upd_same) (r.mono (Ex.new hb)))
theorem exm_cb {r : List V → Hp → VK → Prop} {t : TA} (ht : EAm K t en e1 ds) (hr : RC K r ds d) : EXm K (tCB r t) en e1 d := fun _ _ B H σ S Q k =>
  ht _ _ B H σ S _ fun vs B1 H1 x1 S1 r1 => hr B1 H1 vs S1.eb r1 Q fun v B3 H3 g3 r3 => k v B3 H3 (x1.trans g3.b) (S1.grow g3) r3
theorem exm_callD {t : TA} {n : Nat} {fs : List Da → Option XO} {dvs : List V} {dds : List Da} (ha : EAm K t en e1 ds) (hd : ∀ B, DrA K B dvs dds) (hf : fs (ds ++ dds) = some (.ok d)) (hl : (ds ++ dds).length = n) : EXm K (tCallSD (spD K n fs) dvs (WE W) t) en e1 d := fun _ _ B H σ S Q k =>
  ha _ _ B H σ S _ fun vs B1 H1 x1 S1 r => ⟨by rw [← hl, List.length_append, List.length_append, r.length, (hd B1).length], B1, _, .ok d, S1.eb, r.append (hd B1), hf, fun v B3 H3 g3 r3 => k v B3 H3 (x1.trans g3.b) (S1.grow g3) r3⟩
theorem exm_callR {t : TA} {n : Nat} {R : List Da → XO → Prop} (ha : EAm K t en e1 ds) (hf : R ds (.ok d)) (hl : ds.length = n) : EXm K (tCallSD (spR K n R) [] (WE W) t) en e1 d := fun _ _ B H σ S Q k =>
  ha _ _ B H σ S _ fun vs B1 H1 x1 S1 r => ⟨by rw [← hl, List.append_nil, r.length], B1, _, .ok d, S1.eb, by rw [List.append_nil]; exact r, hf, fun v B3 H3 g3 r3 => k v B3 H3 (x1.trans g3.b) (S1.grow g3) r3⟩
/-! tests -/
theorem etm_val {b : Bool} (h : EXm K te en e1 (.bl b)) : ETm K (tB te) en e1 b := fun _ _ B H σ S Q k => h _ _ B H σ S _ fun v B' H' x S' r => by
  cases r
  exact ⟨b, rfl, k B' H' x S'⟩
theorem etm_not {tt : TT} {b : Bool} (h : ETm K tt en e1 b) : ETm K (tNot tt) en e1 (!b) := fun _ _ B H σ S Q k => h _ _ B H σ S _ fun B' H' x S' => k B' H' x S'
theorem etm_andT {tt tu : TT} {b : Bool} (h : ETm K tt en e1 true) (h2 : ETm K tu e1 e2 b) : ETm K (tAnd tt tu) en e2 b := fun _ _ B H σ S Q k => h _ _ B H σ S _ fun B' H' x S' => iteT (h2 _ _ B' H' σ S' _ fun B2 H2 x2 S2 => k B2 H2 (x.trans x2) S2)
theorem etm_andF {tt tu : TT} (h : ETm K tt en e1 false) : ETm K (tAnd tt tu) en e1 false := fun _ _ B H σ S Q k => h _ _ B H σ S _ fun B' H' x S' => iteF (k B' H' x S')
theorem etm_orF {tt tu : TT} {b : Bool} (h : ETm K tt en e1 false) (h2 : ETm K tu e1 e2 b) : ETm K (tOr tt tu) en e2 b := fun _ _ B H σ S Q k => h _ _ B H σ S _ fun B' H' x S' => iteF (h2 _ _ B' H' σ S' _ fun B2 H2 x2 S2 => k B2 H2 (x.trans x2) S2)
theorem etm_orT {tt tu : TT} (h : ETm K tt en e1 true) : ETm K (tOr tt tu) en e1 true := fun _ _ B H σ S Q k => h _ _ B H σ S _ fun B' H' x S' => iteT (k B' H' x S')
/-! statements -/
theorem st_asgM (h : EXm K te en e1 d) : ST K W (tAsg te (gName i)) en (.nx (e1.set i (.da d))) := fun B0 H0 B H σ S D k =>
  h _ _ B H σ S _ fun v B' H' x S' r => k B' H' _ (S'.set r i)
theorem st_asgLM (h : ELm K te en e1 ds) : ST K W (tAsg te (gName i)) en (.nx (e1.set i (.own ds))) := fun B0 H0 B H σ S D k =>
  h _ _ B H σ S _ fun p vs B1 H1 B' H' x S1 g h0 hb h1 r => k B' H' _ (S1.setOwn g h0 hb h1 r i)
theorem st_retM (h : EXm K te en e1 d) : ST K W (tRet te) en (.rw d e1) := fun B0 H0 B H σ S D k => h _ _ B H σ S _ fun v B' H' x S' r => k v B' H' σ S' r
theorem st_dropM (h : EXm K te en e1 d) : ST K W (tDrop te) en (.nx e1) := fun B0 H0 B H σ S D k => h _ _ B H σ S _ fun v B' H' x S' r => k B' H' σ S'
theorem st_ifTM {tt : TT} {t u : TS} (h : ETm K tt en e1 true) (k : ST K W t e1 o) : ST K W (tIfS tt t u) en o := fun B0 H0 B H σ S D q =>
  h _ _ B H σ S _ fun B' H' x S' => iteT (k B0 H0 B' H' σ S' D q)
theorem st_ifFM {tt : TT} {t u : TS} (h : ETm K tt en e1 false) (k : ST K W u e1 o) : ST K W (tIfS tt t u) en o := fun B0 H0 B H σ S D q =>
  h _ _ B H σ S _ fun B' H' x S' => iteF (k B0 H0 B' H' σ S' D q)
theorem st_unTM {is : List Nat} {n : Nat} (h : EXm K te en e1 (.tup ds)) (hl : ds.length = n) (hi : ds.length = is.length) : ST K W (tAsg te (gTup K n (gNames is))) en (.nx (setAll e1 is ds)) := fun B0 H0 B H σ S D k =>
  h _ _ B H σ S _ fun v B' H' x S' r => by
    cases r with
    | tup h t => exact ⟨_, _, rfl, ex_t S'.eb h, by rw [t.length, hl], gn_set S' t hi fun σ' S2 => k B' H' σ' S2⟩
/-- xs.append(e) -/
theorem st_appM {j : Nat} (h : EXm K te en e1 d) (he0 : ∃ xs, en[j]? = some (.own xs)) (he : e1[j]? = some (.own ds)) (hz : ds.length < 100000) : ST K W (tDrop (tBM K "list" rAppend (tVar j) (tCons te tNil))) en (.nx (e1.set j (.own (ds ++ [d])))) := fun B0 H0 B H σ S D k => by
  obtain ⟨xs, he0⟩ := he0
  obtain ⟨p, vs, q1, _, _, q2, t⟩ := S.ownAt he0
  refine ⟨_, q1, Or.inl ⟨rfl, vs, sq_of q2⟩, h _ _ B H σ S _ fun v B' H' x S' r => ?_⟩
  obtain ⟨p', vs', q1', _, _, q2', t'⟩ := S'.ownAt he
  rw [q1] at q1'
  cases q1'
  exact ⟨p, vs', v, rfl, rfl, q2', by rw [t'.length]; exact sz_lt hz, k B' _ σ (S'.mut he q1 (t'.append (.cons r .nil)))⟩
/-! ### a lent list -/
/-- an item of the lent list -/
theorem ex_ixW {j : Int} (ho : en[i]? = some (.wl p ds)) (hb : EX K W tb en (.ok (.int j))) (e : atI ds j = some d) : EX K W (tOp (rIxL K) (tVar i) tb) en (.ok d) := fun _ _ B H σ S Q k => by
  obtain ⟨vs, q1, _⟩ := S.wlAt ho
  refine ⟨_, q1, hb _ _ B H σ S _ fun y B2 H2 g2 r2 => ?_⟩
  cases r2
  obtain ⟨vs', q1', _, _, q2, t⟩ := (S.grow g2).wlAt ho
  obtain ⟨v, q3, r⟩ := atI_dr t e
  exact ⟨_, _, j, v, rfl, rfl, sq_of q2, q3, k v B2 H2 g2 r⟩
/-- behind a call that changed the list at p alone -/
theorem Sd.lent {en : List Sl} (S : Sd K B0 H0 B H σ en) {y y' : Sl} (hy : en[i]? = some y) (hL : y.isL = true) (hL' : y'.isL = true) (hp : σ[i]? = some (some (.ref p))) (f : H0 p = none) (g : Gr B (del H p) B' H') (nw : SlR K B' H0 H' (some (.ref p)) y') (hlst : ∃ ws, H p = some (.lst ws)) : Sd K B0 H0 B' H' σ (en.set i y') := by
  obtain ⟨ws, hws⟩ := hlst
  have hi : i < en.length := by
    rcases Nat.lt_or_ge i en.length with h | h
    · exact h
    · rw [List.getElem?_eq_none h] at hy; cases hy
  have gh : ∀ a o, a ≠ p → H a = some o → H' a = some o := fun a o z e => g.h a o (by rw [del_ne z]; exact e)
  have gn : ∀ a, a ≠ p → H a ≠ none → B a = none → B' a = none := fun a z e b => g.n a (by rw [del_ne z]; exact e) b
  refine ⟨⟨S.gr.b.trans g.b, fun a o e => gh a o (ne_of_none e f) (S.gr.h a o e), g.s, fun a ha hb => ?_, fun a ps e => S.gr.q a ps (g.q a ps e)⟩, paired_ix (by rw [List.length_set]; exact Paired.length S.sl) fun j x z hx hz => ?_, fun a c r xs ys h1 h2 hx hy' h3 h4 => ?_⟩
  · have z : a ≠ p := fun w => ha (by rw [w]; exact f)
    refine gn a z ?_ (S.gr.n a ha hb)
    cases q : H0 a with
    | none => exact absurd q ha
    | some u => rw [S.gr.h a u q]; exact fun w => nomatch w
  · by_cases hj : j = i
    · subst hj
      rw [List.getElem?_set_self hi] at hz
      cases hz
      rw [hp] at hx
      cases hx
      exact nw
    · rw [List.getElem?_set_ne (Ne.symm hj)] at hz
      have r := paired_at S.sl hx hz
      cases r with
      | no => exact .no _
      | da h => exact .da (h.mono g.b)
      | rf v => exact .rf v
      | ob b' f' h' t' =>
        have z := ne_of h' hws (fun z => nomatch z)
        exact .ob (gn _ z (by rw [h']; exact fun w => nomatch w) b') f' (gh _ _ z h') (t'.mono g.b)
      | own b' f' h' t' =>
        have z : _ ≠ p := fun w => hj (S.sep j i p _ _ hz hy rfl hL (by rw [← w]; exact hx) hp)
        exact .own (gn _ z (by rw [h']; exact fun w => nomatch w) b') f' (gh _ _ z h') (t'.mono g.b)
      | wl b' f' h' t' =>
        have z : _ ≠ p := fun w => hj (S.sep j i p _ _ hz hy rfl hL (by rw [← w]; exact hx) hp)
        exact .wl (gn _ z (by rw [h']; exact fun w => nomatch w) b') f' (gh _ _ z h') (t'.mono g.b)
      | tb h' z0 z1 t' => exact .tb (h'.mono g.b) z0 (fun a ps e => z1 a ps (g.q a ps e)) (tabS_but t' hws gh)
  · have back : ∀ (a : Nat) (xs : Sl), (en.set i y')[a]? = some xs → xs.isL = true → ∃ zs : Sl, en[a]? = some zs ∧ zs.isL = true := fun a xs h hq => by
      by_cases ha : a = i
      · subst ha; exact ⟨_, hy, hL⟩
      · rw [List.getElem?_set_ne (Ne.symm ha)] at h; exact ⟨_, h, hq⟩
    obtain ⟨z1, k1, l1⟩ := back a xs h1 hx
    obtain ⟨z2, k2, l2⟩ := back c ys h2 hy'
    exact S.sep a c r z1 z2 k1 k2 l1 l2 h3 h4
/-- a def that is lent a list: R (list before) (other arguments) (result) (list behind) -/
def spW (K : PySem.W.Frag) (n : Nat) (R : List Da → List Da → Da → List Da → Prop) : Sp := fun vs H Q E => vs.length = n ∧ ∃ p ws us B es ds d es', vs = .ref p :: us ∧ H p = some (.lst ws) ∧ B p = none ∧ Ex B H ∧ DrA K B ws es ∧ DrA K B us ds ∧ R es ds d es' ∧
  ∀ v B' H' ws', Gr B (del H p) B' H' → B' p = none → H' p = some (.lst ws') → DrA K B' ws' es' → Dr K B' v d → Q v H'
theorem exm_callW {t : TA} {n : Nat} {R : List Da → List Da → Da → List Da → Prop} {E : L2.St → XK} (he0 : ∃ xs, en[i]? = some (.own xs)) (ht : EAm K t en e1 ds) (he : e1[i]? = some (.own es)) {es' : List Da} (hf : R es ds d es') (hl : ds.length + 1 = n) : EXm K (tCallSD (spW K n R) [] E (tCons (tVar i) t)) en (e1.set i (.own es')) d := fun B0 H0 B H σ S Q k => by
  obtain ⟨xs, he0⟩ := he0
  obtain ⟨p, ws0, q1, _, _, _, _⟩ := S.ownAt he0
  refine ⟨_, q1, ht _ _ B H σ S _ fun vs B1 H1 x1 S1 r1 => ?_⟩
  obtain ⟨p', ws, q1', b, f, q2, t2⟩ := S1.ownAt he
  rw [q1] at q1'
  cases q1'
  refine ⟨by rw [← hl, List.append_nil, List.length_cons, r1.length], p, ws, vs, B1, es, ds, d, es', by rw [List.append_nil], q2, b, S1.eb, t2, r1, hf, fun v B' H' ws' g hb' hh t r => ?_⟩
  exact k v B' H' (x1.trans g.b) (S1.lent (y' := .own es') he rfl rfl q1 f g (.own hb' f hh t) ⟨ws, q2⟩) r
theorem exm_callWW {t : TA} {n : Nat} {R : List Da → List Da → Da → List Da → Prop} {E : L2.St → XK} (he0 : ∃ xs, en[i]? = some (.wl p xs)) (ht : EAm K t en e1 ds) (he : e1[i]? = some (.wl p es)) {es' : List Da} (hf : R es ds d es') (hl : ds.length + 1 = n) : EXm K (tCallSD (spW K n R) [] E (tCons (tVar i) t)) en (e1.set i (.wl p es')) d := fun B0 H0 B H σ S Q k => by
  obtain ⟨xs, he0⟩ := he0
  obtain ⟨ws0, q1, _, _, _, _⟩ := S.wlAt he0
  refine ⟨_, q1, ht _ _ B H σ S _ fun vs B1 H1 x1 S1 r1 => ?_⟩
  obtain ⟨ws, q1', b, f, q2, t2⟩ := S1.wlAt he
  refine ⟨by rw [← hl, List.append_nil, List.length_cons, r1.length], p, ws, vs, B1, es, ds, d, es', by rw [List.append_nil], q2, b, S1.eb, t2, r1, hf, fun v B' H' ws' g hb' hh t r => ?_⟩
  exact k v B' H' (x1.trans g.b) (S1.lent (y' := .wl p es') he rfl rfl q1 f g (.wl hb' f hh t) ⟨ws, q2⟩) r
end
section
variable {P : Program} {w : World} {K : PySem.W.Frag} {mg : Str → Option Value} {base : Heap} {x qual : Str} {st : Stmt} {f : Addr} {fd : FuncData} {N ps : List Str} {k : Nat}
inductive LeadW (p : Addr) (d : Da) (es : List Da) : Out → Prop
  | rw (en : List Sl) (h : en[0]? = some (.wl p es)) : LeadW p d es (.rw d en)
theorem fn_w (F : Fun K x qual st f fd) {s0 : Str} {pr : List Str} (hps : ps = s0 :: pr) (S : FnScope N ps (defScope st)) (R : List Da → List Da → Da → List Da → Prop)
    (hb : ∀ (cdv : Value) (A : Around) (outer : List Env) (s : Shared) (H : Hp) (E : XK) (p : Addr) (es ds : List Da) (d : Da) (es' : List Da), Bd (XB P w K mg base N qual st f cdv A outer s H E) (WD E) k → ds.length = pr.length → R es ds d es' →
      ∃ ou, LeadW p d es' ou ∧ SVs (XB P w K mg base N qual st f cdv A outer s H E) (WD E) (.wl p es :: (ds.map .da ++ List.replicate (N.length - (ds.length + 1)) .no)) (defBody st) ou) : FnOk P w K mg base (L2.CX P w) (k + 1) f fd ps (spW K ps.length R) := by
  refine F.okX S (fun vs H Q E h => h.1) fun cdv A outer s H vs Q E hr h => ?_
  obtain ⟨hl, p, ws, us, B, es, ds, d, es', rfl, hp, hBp, eB, hW, hA, hf, ko⟩ := h
  have hlen : ds.length = pr.length := by
    rw [hps] at hl
    have := hA.length
    simp only [List.length_cons] at hl
    omega
  obtain ⟨ou, ld, t, h1, h2⟩ := hb cdv A outer s H E p es ds d es' (bd_of S hr) hlen hf
  refine ⟨t, h1, h2 B (del H p) B H _ ⟨⟨Ex.refl _, del_ex, eB, fun _ _ hb => hb, fun _ _ h => h⟩, ?_, fun i j q x1 x2 q1 q2 hx hy _ _ => ?_⟩ _ ?_⟩
  · have e : L2.start N (.ref p :: us) = some (V.ref p) :: (us.map some ++ List.replicate (N.length - (us.length + 1)) none) := rfl
    rw [e, hA.length]
    exact .cons (.wl hBp del_same hp hW) (paired_app (slots_sl hA) paired_rep)
  · have z : ∀ (i : Nat) (x : Sl), (Sl.wl p es :: (ds.map Sl.da ++ List.replicate (N.length - (ds.length + 1)) .no))[i]? = some x → x.isL = true → i = 0 := fun i x q hx => by
      cases i with
      | zero => rfl
      | succ i =>
        have m := List.mem_of_getElem? (show (ds.map Sl.da ++ List.replicate (N.length - (ds.length + 1)) .no)[i]? = _ from q)
        rcases List.mem_append.mp m with m | m
        · obtain ⟨d, _, e⟩ := List.mem_map.mp m
          rw [← e] at hx
          cases hx
        · rw [List.eq_of_mem_replicate m] at hx
          cases hx
    rw [z i _ q1 hx, z j _ q2 hy]
  · cases ld with
    | rw en h =>
      intro v B' H' σ' S' r
      obtain ⟨ws', e1, b, f0, e2, t2⟩ := S'.wlAt h
      exact ko v B' H' ws' S'.gr b e2 t2 r
structure CalW (P : Program) (w : World) (K : PySem.W.Frag) (mg : Str → Option Value) (base : Heap) (x : Str) (j : Nat) (ps : List Str) (R : List Da → List Da → Da → List Da → Prop) : Prop where
  ex : ∃ f fd, FnOk P w K mg base (L2.CX P w) j f fd ps (spW K ps.length R) ∧ mg x = some (.ref f) ∧ PySem.W.keepIn K (.ref f) = true ∧ Binds K fd ps []
theorem calW_mk {j n : Nat} {R : List Da → List Da → Da → List Da → Prop} (G : FnOk P w K mg base (L2.CX P w) j f fd ps (spW K n R)) (hn : ps.length = n) (hm : mg x = some (.ref f)) (hk : PySem.W.keepIn K (.ref f) = true) (hb : Binds K fd ps []) : CalW P w K mg base x j ps R := by
  subst hn
  exact ⟨f, fd, G, hm, hk, hb⟩
end
/-! ### by syntax -/
structure EVm (X : Cx) (en en' : List Sl) (e : Expr) (d : Da) : Prop where
  ex : ∃ t, PE X e t ∧ EXm X.K t en en' d
structure EVAm (X : Cx) (en en' : List Sl) (es : List Expr) (ds : List Da) : Prop where
  ex : ∃ t, PA X es t ∧ EAm X.K t en en' ds
structure EVLm (X : Cx) (en en' : List Sl) (e : Expr) (ds : List Da) : Prop where
  ex : ∃ t, PE X e t ∧ ELm X.K t en en' ds
structure EVTm (X : Cx) (en en' : List Sl) (c : Expr) (b : Bool) : Prop where
  ex : ∃ t, PT X c t ∧ ETm X.K t en en' b
section
variable {X : Cx} {W : WX} {k j : Nat} {en e1 e2 : List Sl} {e a b c : Expr} {es rest : List Expr} {pos p p2 pos' np : Pos} {d d1 d2 : Da} {o : XO} {ou : Out} {ds ws : List Da} {i : Nat} {x y : Str} {u : Bool} {s1 s2 : List Stmt} {ps : List Str}
theorem EV.m (h : EV X W en e (.ok d)) : EVm X en en e d := by
  obtain ⟨t, h1, h2⟩ := h
  exact ⟨t, h1, exm_pure h2⟩
theorem EV.mB (Bx : Bd X W k) (h : EV X W en e (.ok d)) : EVm X en en e d := EV.m h
theorem evam_nil : EVAm X en en [] [] := ⟨_, pa_nil, eam_nil⟩
theorem evam_cons (h : EVm X en e1 e d) (t : EVAm X e1 e2 es ds) (hs : starEach (e :: es) X.env = (false, eval e X.env) :: starEach es X.env) : EVAm X en e2 (e :: es) (d :: ds) := by
  obtain ⟨te, h1, h2⟩ := h
  obtain ⟨tr, h3, h4⟩ := t
  exact ⟨_, pa_cons h1 h3 hs, eam_cons h2 h4⟩
theorem evm_op {op : Operator} {r : R2} (ho : OpR X (binaryOp op) r) (ha : EVm X en e1 a d1) (hb : EVm X e1 e2 b d2) (hr : RV X.K r d1 d2 d) : EVm X en e2 (.BinOp a op b pos) d := by
  obtain ⟨te, h1, h2⟩ := ha
  obtain ⟨tr, h3, h4⟩ := hb
  exact ⟨_, pe_op ho h1 h3, exm_op h2 h4 hr⟩
theorem evm_add {i j : Int} (ha : EVm X en e1 a (.int i)) (hb : EVm X e1 e2 b (.int j)) : EVm X en e2 (.BinOp a .Add b pos) (.int (i + j)) := evm_op op_add ha hb (rv_I0 fun _ _ => .int _)
theorem evm_sub {i j : Int} (ha : EVm X en e1 a (.int i)) (hb : EVm X e1 e2 b (.int j)) : EVm X en e2 (.BinOp a .Sub b pos) (.int (i - j)) := evm_op op_sub ha hb (rv_I0 fun _ _ => .int _)
theorem evm_mul {i j : Int} (ha : EVm X en e1 a (.int i)) (hb : EVm X e1 e2 b (.int j)) (hc : CMulW i j) : EVm X en e2 (.BinOp a .Mult b pos) (.int (i * j)) := evm_op op_mulW ha hb (rv_I hc fun _ _ => .int _)
theorem evm_mod {i j : Int} (ha : EVm X en e1 a (.int i)) (hb : EVm X e1 e2 b (.int j)) (hc : 0 < j) : EVm X en e2 (.BinOp a .Mod b pos) (.int (i % j)) := evm_op op_mod ha hb (rv_I hc fun _ _ => .int _)
theorem evm_cmp {op : CmpOp} {r : R2} (ho : OpR X (compareOp op) r) (ha : EVm X en e1 a d1) (hb : EVm X e1 e2 b d2) (hr : RV X.K r d1 d2 d) (hm : behindInMarks op b = false) : EVm X en e2 (.Compare a [op] [b] pos) d := by
  obtain ⟨te, h1, h2⟩ := ha
  obtain ⟨tr, h3, h4⟩ := hb
  exact ⟨_, pe_cmpR ho h1 h3 hm, exm_op h2 h4 hr⟩
theorem evm_eq (Bx : Bd X W k) (ha : EVm X en e1 a d1) (hb : EVm X e1 e2 b d2) (h1 : Cmp d1) (h2 : Cmp d2) : EVm X en e2 (.Compare a [.Eq] [b] pos) (.bl (deq d1 d2)) := evm_cmp (op_eqD Bx.rm.units) ha hb (rv_eq h1 h2) (nomark _)
theorem evm_tup {q} (h : EVAm X en e1 es ds) (hl : ds.length ≤ 100000) : EVm X en e1 (.Tuple es q pos) (.tup ds) := by
  obtain ⟨t, h1, h2⟩ := h
  exact ⟨_, pe_tup h1, exm_tup h2 hl⟩
theorem evlm_lst (h : EVAm X en e1 es ds) (hl : ds.length ≤ 100000) : EVLm X en e1 (.List es pos) ds := by
  obtain ⟨t, h1, h2⟩ := h
  exact ⟨_, pe_lst h1, elm_lst h2 hl⟩
theorem EVLm.m (h : EVLm X en e1 e ds) : EVm X en e1 e (.lst ds) := by
  obtain ⟨t, h1, h2⟩ := h
  exact ⟨t, h1, h2.ex⟩
theorem evm_ixL {i : Int} (ha : EVm X en e1 a (.lst ds)) (hb : EVm X e1 e2 b (.int i)) (hp : PlainIx b) (h : atI ds i = some d) : EVm X en e2 (.Subscript a b pos) d := by
  obtain ⟨te, h1, h2⟩ := ha
  obtain ⟨tr, h3, h4⟩ := hb
  exact ⟨_, pe_ix ix_list h1 h3 hp, exm_op h2 h4 (rv_ixL h)⟩
theorem evm_ixT {i : Int} (ha : EVm X en e1 a (.tup ds)) (hb : EVm X e1 e2 b (.int i)) (hp : PlainIx b) (h : atI ds i = some d) : EVm X en e2 (.Subscript a b pos) d := by
  obtain ⟨te, h1, h2⟩ := ha
  obtain ⟨tr, h3, h4⟩ := hb
  exact ⟨_, pe_ix ix_tup h1 h3 hp, exm_op h2 h4 (rv_ixT h)⟩
/-- w[i] of the lent list -/
theorem ev_ixW {n : Nat} {q : Addr} {i : Int} (hN : X.N.idxOf? x = some n) (hv : Vis X.env.scope x) (ho : en[n]? = some (.wl q ds)) (hN2 : X.N[n]? = some x) (hd : (x == ("__debug__" : Str)) = false) (hc : (x == ("__classdict__" : Str)) = false) (hb : EV X W en b (.ok (.int i))) (hp : PlainIx b) (h : atI ds i = some d) : EV X W en (.Subscript (.Name x p2) b pos) (.ok d) := by
  obtain ⟨tr, h3, h4⟩ := hb
  exact ⟨_, pe_ix ix_list (pe_var hN2 hv hd hc) h3 hp, ex_ixW ho h4 h⟩
/-- f(w, ..), w an own list -/
theorem evm_calW {R : List Da → List Da → Da → List Da → Prop} {n : Nat} {es' : List Da} (cl : CalW X.prog X.w X.K X.mg X.base x j ps R) (Bx : Bd X W k) (hj : j ≤ k) (hN : X.N.idxOf? y = some n) (hN2 : X.N[n]? = some y) (hv : Vis X.env.scope y) (hd : (y == ("__debug__" : Str)) = false) (hcd : (y == ("__classdict__" : Str)) = false)
    (he0 : ∃ xs, en[n]? = some (.own xs)) (ha : EVAm X en e1 es ds) (he : e1[n]? = some (.own ws)) (hf : R ws ds d es') (hl : ds.length + 1 = ps.length) (hg : Gl X x)
    (hdb : (x == ("__debug__" : Str)) = false) (hst : starEach (.Name y np :: es) X.env = (false, eval (.Name y np) X.env) :: starEach es X.env) (hpl : (backTo pos (starEach es X.env)).any (·.1) = false) : EVm X en (e1.set n (.own es')) (.Call (.Name x p) (.Name y np :: es) [] pos) d := by
  obtain ⟨f, fd, F, hm, hk, hb⟩ := cl.ex
  obtain ⟨t, h1, h2⟩ := ha
  exact ⟨_, pe_callSD F (Bx.rm.mono hj) hg hm hk hb .nil (fun σ => passAt Bx.tk σ) (pa_cons (pe_var hN2 hv hd hcd) h1 hst) hdb hst hpl, exm_callW he0 h2 he hf hl⟩
/-- .. w a lent one -/
theorem evm_calWW {R : List Da → List Da → Da → List Da → Prop} {n : Nat} {q : Addr} {es' : List Da} (cl : CalW X.prog X.w X.K X.mg X.base x j ps R) (Bx : Bd X W k) (hj : j ≤ k) (hN : X.N.idxOf? y = some n) (hN2 : X.N[n]? = some y) (hv : Vis X.env.scope y) (hd : (y == ("__debug__" : Str)) = false) (hcd : (y == ("__classdict__" : Str)) = false)
    (he0 : ∃ xs, en[n]? = some (.wl q xs)) (ha : EVAm X en e1 es ds) (he : e1[n]? = some (.wl q ws)) (hf : R ws ds d es') (hl : ds.length + 1 = ps.length) (hg : Gl X x)
    (hdb : (x == ("__debug__" : Str)) = false) (hst : starEach (.Name y np :: es) X.env = (false, eval (.Name y np) X.env) :: starEach es X.env) (hpl : (backTo pos (starEach es X.env)).any (·.1) = false) : EVm X en (e1.set n (.wl q es')) (.Call (.Name x p) (.Name y np :: es) [] pos) d := by
  obtain ⟨f, fd, F, hm, hk, hb⟩ := cl.ex
  obtain ⟨t, h1, h2⟩ := ha
  exact ⟨_, pe_callSD F (Bx.rm.mono hj) hg hm hk hb .nil (fun σ => passAt Bx.tk σ) (pa_cons (pe_var hN2 hv hd hcd) h1 hst) hdb hst hpl, exm_callWW he0 h2 he hf hl⟩
theorem evm_cb {id : String} {r : List V → Hp → VK → Prop} (hc : CallR X (.builtin id) r) (ha : EVAm X en e1 (e :: es) ds) (hr : RC X.K r ds d) (hg : Gl X x) (hm : X.mg x = none) (hv : bootBuiltins x = some (.builtin id)) (hn : x ≠ "__name__") (hd : (x == ("__debug__" : Str)) = false)
    (he : starEach (e :: es) X.env = (false, eval e X.env) :: starEach es X.env) (hpl : (backTo pos (starEach es X.env)).any (·.1) = false) : EVm X en e1 (.Call (.Name x p) (e :: es) [] pos) d := by
  obtain ⟨t, h1, h2⟩ := ha
  exact ⟨_, pe_callB hc hg hm hv h1 hn hd he hpl, exm_cb h2 hr⟩
/-! statements -/
theorem sv_setM {n : Nat} (Bx : Bd X W k) (he : EVm X en e1 e d) (hN : X.N.idxOf? x = some n) (hN2 : X.N[n]? = some x) (hx : Loc X.env.scope x) (hf : X.fn x = true ∨ X.env.scope.names.lookup x = some .local) (hs : swapsWith e (some (.Name x pos')) pos.line X.env = pure false) (hq : e1.set n (.da d) = e2) : SV X W en (.Assign [.Name x pos'] e pos) (.nx e2) := by
  subst hq
  obtain ⟨t, h1, h2⟩ := he
  exact ⟨_, ps_set Bx.nd hN2 hx h1 hs hf, st_asgM h2⟩
theorem sv_setLM {n : Nat} (Bx : Bd X W k) (he : EVLm X en e1 e ds) (hN : X.N.idxOf? x = some n) (hN2 : X.N[n]? = some x) (hx : Loc X.env.scope x) (hf : X.fn x = true ∨ X.env.scope.names.lookup x = some .local) (hs : swapsWith e (some (.Name x pos')) pos.line X.env = pure false) (hq : e1.set n (.own ds) = e2) : SV X W en (.Assign [.Name x pos'] e pos) (.nx e2) := by
  subst hq
  obtain ⟨t, h1, h2⟩ := he
  exact ⟨_, ps_set Bx.nd hN2 hx h1 hs hf, st_asgLM h2⟩
theorem sv_retM (he : EVm X en e1 e d) : SV X W en (.Return (some e) pos) (.rw d e1) := by
  obtain ⟨t, h1, h2⟩ := he
  exact ⟨_, ps_ret h1, st_retM h2⟩
theorem sv_unTM {tp : Pos} {q : _} {is : List Nat} (Bx : Bd X W k) (he : EVm X en e1 e (.tup ds)) (hg : GN X es is) (hl : ds.length = is.length) (hn : (assignEach es X.env).length = is.length) (hst : (assignEach es X.env).findIdx? (·.1) = none)
    (hs : swapsWithSole [.Tuple es q tp] e pos.line X.env = pure false) (hw : swappedStores [.Tuple es q tp] e X.env = pure none) (h1 : (assignEach [.Tuple es q tp] X.env).map (·.2) = [assign (.Tuple es q tp) X.env]) (hq : setAll e1 is ds = e2) :
    SV X W en (.Assign [.Tuple es q tp] e pos) (.nx e2) := by
  subst hq
  obtain ⟨t, a1, a2⟩ := he
  exact ⟨_, ps_asg a1 (pg_tup Bx.calm hg hn hst) hs hw h1, st_unTM a2 hl hl⟩
theorem evtm_val (h : EVm X en e1 c (.bl u)) (he : ∀ whole, isTrue c X.env whole = (do let v ← whole; standAt c.pos; holding [v] (truthy v))) : EVTm X en e1 c u := by
  obtain ⟨t, h1, h2⟩ := h
  exact ⟨_, pt_val h1 he, etm_val h2⟩
theorem evtm_cmp {op : CmpOp} {r : R2} (ho : OpR X (compareOp op) r) (ha : EVm X en e1 a d1) (hb : EVm X e1 e2 b d2) (hr : RV X.K r d1 d2 (.bl u)) (hm : behindInMarks op b = false) : EVTm X en e2 (.Compare a [op] [b] pos) u := by
  obtain ⟨te, h1, h2⟩ := ha
  obtain ⟨tr, h3, h4⟩ := hb
  exact ⟨_, pt_cmpR ho h1 h3 hm, etm_val (exm_op h2 h4 hr)⟩
theorem evtm_eq (Bx : Bd X W k) (ha : EVm X en e1 a d1) (hb : EVm X e1 e2 b d2) (h1 : Cmp d1) (h2 : Cmp d2) : EVTm X en e2 (.Compare a [.Eq] [b] pos) (deq d1 d2) := evtm_cmp (op_eqD Bx.rm.units) ha hb (rv_eq h1 h2) (nomark _)
theorem sv_ifTM (hc : EVTm X en e1 c true) (h : SVs X W e1 s1 ou) : SV X W en (.If c s1 s2 pos) ou := by
  obtain ⟨t, h1, h2⟩ := hc
  obtain ⟨t', h3, h4⟩ := h
  exact ⟨_, ps_if h1 h3 (pss_never), st_ifTM h2 h4⟩
theorem sv_ifFM (hc : EVTm X en e1 c false) (h : SVs X W e1 s2 ou) : SV X W en (.If c s1 s2 pos) ou := by
  obtain ⟨t, h1, h2⟩ := hc
  obtain ⟨t', h3, h4⟩ := h
  exact ⟨_, ps_if h1 (pss_never) h3, st_ifFM h2 h4⟩
/-- w[i] = e of the lent list -/
theorem sv_setIxW {n j : Nat} {q : Addr} {z : Int} {l : Str} {i : Expr} (Bx : Bd X W k) (hN2 : X.N[n]? = some l) (hv : Vis X.env.scope l) (hd : (l == ("__debug__" : Str)) = false) (hc : (l == ("__classdict__" : Str)) = false) (ho : en[n]? = some (.wl q ds)) (he : EV X W en e (.ok d)) (hi : EV X W en i (.ok (.int z))) (hj : ∀ m, m = ds.length → ixN m z = some j)
    (hs : swapsWithSole [.Subscript (.Name l p) i pos'] e pos.line X.env = pure false) (hw : swappedStores [.Subscript (.Name l p) i pos'] e X.env = pure none) (h1 : (assignEach [.Subscript (.Name l p) i pos'] X.env).map (·.2) = [assign (.Subscript (.Name l p) i pos') X.env]) (hA : ∀ v, assign (.Subscript (.Name l p) i pos') X.env v = (do
    let ov ← holding [v] (eval (.Name l p) X.env)
    let iv ← holding [v, ov] (eval i X.env)
    standAt pos'
    holding [v, ov, iv] (setItem ov iv v)
    release [v, ov, iv] [])) (hq : en.set n (.wl q (ds.set j d)) = e1) :
    SV X W en (.Assign [.Subscript (.Name l p) i pos'] e pos) (.nx e1) := by
  subst hq
  obtain ⟨t, a1, a2⟩ := he
  obtain ⟨ti, b1, b2⟩ := hi
  refine ⟨_, ps_asg a1 (pg_sub (pe_var hN2 hv hd hc) b1 set_list (fun v => hA v)) hs hw h1, fun B0 H0 B H σ S D q => a2 _ _ B H σ S _ fun v B1 H1 g1 r1 => ?_⟩
  have S1 := S.grow g1
  obtain ⟨vs0, e0, _, _, _, _⟩ := S1.wlAt ho
  refine ⟨_, e0, b2 _ _ B1 H1 σ S1 _ fun y B2 H2 g2 r2 => ?_⟩
  have S2 := S1.grow g2
  obtain ⟨vs, e2, _, _, h2, t2⟩ := S2.wlAt ho
  cases r2
  exact ⟨_, vs, z, j, rfl, rfl, h2, hj _ t2.length, q B2 _ σ (S2.mutW ho (t2.set j (r1.mono g2.b)))⟩
end
/-! ### results that are new lists, the asker's own -/
def spL (K : PySem.W.Frag) (n : Nat) (R : List Da → List Da → Prop) : Sp := fun vs H Q E => vs.length = n ∧ ∃ B ds es, Ex B H ∧ DrA K B vs ds ∧ R ds es ∧ ∀ p ws B' H', Gr B H B' H' → H p = none → B' p = none → H' p = some (.lst ws) → DrA K B' ws es → Q (.ref p) H'
section
variable {K : PySem.W.Frag} {W : WX} {en : List Sl} {te : TE} {ds es : List Da} {i n : Nat} {E : L2.St → XK} {t : TA}
theorem st_retO (h : en[i]? = some (.own ds)) : ST K W (tRet (tVar i)) en (.ro ds) := fun B0 H0 B H σ S D k => by
  obtain ⟨p, vs, e1, b, f, e2, t⟩ := S.ownAt h
  exact ⟨_, e1, k p vs B H S.gr f b e2 t⟩
theorem st_retL (h : EL K te en ds) : ST K W (tRet te) en (.ro ds) := fun B0 H0 B H σ S D k => h _ _ B H σ S _ fun p vs B' H' g h0 hb h1 r => k p vs B' H' (S.gr.trans g) (S.gr.back h0) hb h1 r
theorem el_callL {R : List Da → List Da → Prop} (ha : EA K t en ds) (hf : R ds es) (hl : ds.length = n) : EL K (tCallSD (spL K n R) [] E t) en es := fun _ _ B H σ S Q k =>
  ha _ _ B H σ S _ fun vs B1 H1 g r => ⟨by rw [← hl, List.append_nil, r.length], B1, _, es, g.s, by rw [List.append_nil]; exact r, hf, fun p ws B' H' g2 h0 hb h1 r2 => k p ws B' H' (g.trans g2) (g.back h0) hb h1 r2⟩
end
section
variable {P : Program} {w : World} {K : PySem.W.Frag} {mg : Str → Option Value} {base : Heap} {x qual : Str} {st : Stmt} {f : Addr} {fd : FuncData} {N ps : List Str} {k : Nat}
theorem fn_L (F : Fun K x qual st f fd) (S : FnScope N ps (defScope st)) (R : List Da → List Da → Prop)
    (hb : ∀ (cdv : Value) (A : Around) (outer : List Env) (s : Shared) (H : Hp) (E : XK) (ds es : List Da), Bd (XB P w K mg base N qual st f cdv A outer s H E) (WD E) k → ds.length = ps.length → R ds es →
      SVs (XB P w K mg base N qual st f cdv A outer s H E) (WD E) (slots N ds) (defBody st) (.ro es)) : FnOk P w K mg base (L2.CX P w) (k + 1) f fd ps (spL K ps.length R) := by
  refine F.okX S (fun vs H Q E h => h.1) fun cdv A outer s H vs Q E hr h => ?_
  obtain ⟨hl, B, ds, es, eB, hA, hf, ko⟩ := h
  obtain ⟨t, h1, h2⟩ := hb cdv A outer s H E ds es (bd_of S hr) (hA.length.symm.trans hl) hf
  refine ⟨t, h1, h2 B H B H _ ⟨Gr.refl eB, ?_, fun i j p es1 es2 q1 _ hx => (slots_no q1 hx).elim⟩ _ ?_⟩
  · unfold L2.start slots
    rw [hA.length]
    exact paired_app (slots_sl hA) paired_rep
  · exact fun p ws B' H' g h0 hb h1 r => ko p ws B' H' g h0 hb h1 r
structure CalL (P : Program) (w : World) (K : PySem.W.Frag) (mg : Str → Option Value) (base : Heap) (x : Str) (j : Nat) (ps : List Str) (R : List Da → List Da → Prop) : Prop where
  ex : ∃ f fd, FnOk P w K mg base (L2.CX P w) j f fd ps (spL K ps.length R) ∧ mg x = some (.ref f) ∧ PySem.W.keepIn K (.ref f) = true ∧ Binds K fd ps []
theorem calL_mk {j n : Nat} {R : List Da → List Da → Prop} (G : FnOk P w K mg base (L2.CX P w) j f fd ps (spL K n R)) (hn : ps.length = n) (hm : mg x = some (.ref f)) (hk : PySem.W.keepIn K (.ref f) = true) (hb : Binds K fd ps []) : CalL P w K mg base x j ps R := by
  subst hn
  exact ⟨f, fd, G, hm, hk, hb⟩
end
section
variable {X : Cx} {W : WX} {k j : Nat} {en e1 : List Sl} {e a b : Expr} {es : List Expr} {pos p : Pos} {ds ws : List Da} {x : Str} {ps : List Str}
theorem evl_calL {R : List Da → List Da → Prop} (cl : CalL X.prog X.w X.K X.mg X.base x j ps R) (Bx : Bd X W k) (hj : j ≤ k) (ha : EVA X W en (e :: es) ds) (hf : R ds ws) (hl : ds.length = ps.length) (hg : Gl X x)
    (hdb : (x == ("__debug__" : Str)) = false) (he : starEach (e :: es) X.env = (false, eval e X.env) :: starEach es X.env) (hpl : (backTo pos (starEach es X.env)).any (·.1) = false) : EVL X W en (.Call (.Name x p) (e :: es) [] pos) ws := by
  obtain ⟨f, fd, F, hm, hk, hb⟩ := cl.ex
  obtain ⟨t, h1, h2⟩ := ha
  exact ⟨_, pe_callSD F (Bx.rm.mono hj) hg hm hk hb .nil (fun σ => passAt Bx.tk σ) h1 hdb he hpl, el_callL h2 hf hl⟩
theorem sv_retO {n : Nat} (hv : Vis X.env.scope x) (ho : en[n]? = some (.own ds)) (hN2 : X.N[n]? = some x) (hd : (x == ("__debug__" : Str)) = false) (hc : (x == ("__classdict__" : Str)) = false) : SV X W en (.Return (some (.Name x p)) pos) (.ro ds) := ⟨_, ps_ret (pe_var hN2 hv hd hc), st_retO ho⟩
theorem sv_retL (h : EVL X W en e ds) : SV X W en (.Return (some e) pos) (.ro ds) := by
  obtain ⟨t, h1, h2⟩ := h
  exact ⟨_, ps_ret h1, st_retL h2⟩
/-- times a short number, whatever the other one -/
def CMulS (_ j : Int) : Prop := j.natAbs < 2 ^ 60
theorem op_mulS : OpR X (binaryOp .Mult) (rI CMulS fun i j => .int (i * j)) := opI fun i j _ _ _ _ _ hc q => mul_int q (IntMulOk.of_right (by
  have h : j.natAbs < 2 ^ 60 := hc
  have := PyProof.Rows.intBits_le (k := 60) h
  omega))
theorem ev_mulS {i j : Int} (ha : EV X W en a (.ok (.int i))) (hb : EV X W en b (.ok (.int j))) (hc : CMulS i j) : EV X W en (.BinOp a .Mult b pos) (.ok (.int (i * j))) := ev_op op_mulS ha hb (rv_I hc fun _ _ => .int _)
end
/-! ### the well of a law: what it draws -/
structure WS where
  a : Int
  b : Int
  c : Int
def wlS (s : WS) : List Da := [.int s.a, .int s.b, .int s.c]
/-- a well, good for so many draws -/
structure Wl (s : WS) (n : Nat) : Prop where
  a0 : 0 ≤ s.a
  b0 : 0 ≤ s.b
  b1 : s.b < 2147483648
  c0 : 0 ≤ s.c
  c1 : s.c + n ≤ 1000000000
def wTop (c : Int) : Int := c * (if 10 ^ (18 : Int).toNat ≤ c then 1 else 0)
theorem wTop_lo (c : Int) : 0 ≤ wTop c := by
  unfold wTop
  have e : ((10 : Int) ^ (18 : Int).toNat) = 1000000000000000000 := rfl
  rw [e]
  split <;> omega
def wBegin (M c : Int) : WS := ⟨wTop c, c % M, 0⟩
def RWell (M : Int) (ds es : List Da) : Prop := ∃ c : Int, ds = [.int c] ∧ es = wlS (wBegin M c)
theorem well_wl {c M : Int} (h0 : 0 < M) (h1 : M ≤ 2147483648) : Wl (wBegin M c) 1000000000 :=
  ⟨wTop_lo c, Int.emod_nonneg _ (by omega), by have := Int.emod_lt_of_pos c h0; show c % M < _; omega, by show (0 : Int) ≤ 0; decide, by show (0 : Int) + _ ≤ _; decide⟩
theorem Wl.le {s : WS} {m n : Nat} (h : Wl s n) (hm : m ≤ n) : Wl s m := ⟨h.a0, h.b0, h.b1, h.c0, by have := h.c1; omega⟩
/-- months and darkened: the number drawn -/
def wN1 (b c : Int) : Int := (b + 104729 * c + 7) ^ (3 : Int).toNat % 2147483647
def wN2 (b c : Int) : Int := wN1 b c * (wN1 b c / 1009 + 69621 + c) % 2147483629
def wN3 (b c : Int) : Int := wN2 b c * (wN2 b c / 2003 + 40692) % 2147483399
/-- tablets: the number drawn -/
def tN1 (b c : Int) : Int := (b + 7919 * c + 1) * 48271 % 2147483647
def tN2 (b c : Int) : Int := tN1 b c * (tN1 b c / 1009 + 69621) % 2147483647
def tN3 (b c : Int) : Int := tN2 b c * (tN2 b c / 2003 + 40692) % 2147483399
/-- the number of draws' own mixing: true for months, false for tablets -/
def mN3 (v : Bool) (b c : Int) : Int := if v then wN3 b c else tN3 b c
def wV (v : Bool) (s : WS) (wide : Int) : Int := if 0 < s.a then s.a % wide else mN3 v s.b (s.c + 1) % wide
def wE (s : WS) (wide : Int) : WS := if 0 < s.a then ⟨s.a / wide, s.b, s.c⟩ else ⟨s.a, s.b, s.c + 1⟩
def Wide (x : Int) : Prop := 0 < x ∧ x < 2 ^ 60
def RDraw (v : Bool) (es ds : List Da) (d : Da) (es' : List Da) : Prop := ∃ s x, Wl s 1 ∧ Wide x ∧ es = wlS s ∧ ds = [.int x] ∧ d = .int (wV v s x) ∧ es' = wlS (wE s x)
theorem wV_bd {v : Bool} {s : WS} {x : Int} (h : Wide x) : 0 ≤ wV v s x ∧ wV v s x < x := by
  have h0 := h.1
  unfold wV
  split <;> exact ⟨Int.emod_nonneg _ (by omega), Int.emod_lt_of_pos _ h0⟩
theorem Wl.on {s : WS} {x : Int} {n : Nat} (W : Wl s (n + 1)) (h : Wide x) : Wl (wE s x) n := by
  have h0 := h.1
  have c0 := W.c0
  have c1 := W.c1
  unfold wE
  split
  · exact ⟨Int.ediv_nonneg W.a0 (by omega), W.b0, W.b1, c0, by show s.c + _ ≤ _; omega⟩
  · exact ⟨W.a0, W.b0, W.b1, by show 0 ≤ s.c + 1; omega, by show s.c + 1 + _ ≤ _; omega⟩
theorem rdraw {v : Bool} {s : WS} {x : Int} {n : Nat} (W : Wl s (n + 1)) (h : Wide x) : RDraw v (wlS s) [.int x] (.int (wV v s x)) (wlS (wE s x)) := ⟨s, x, W.le (by omega), h, rfl, rfl, rfl, rfl⟩
/-- a draw, its number and the well behind it given names -/
theorem draw_ex {v : Bool} {s : WS} {n : Nat} (x : Int) (W : Wl s (n + 1)) (h : Wide x) : ∃ s' y, RDraw v (wlS s) [.int x] (.int y) (wlS s') ∧ Wl s' n ∧ 0 ≤ y ∧ y < x := ⟨_, _, rdraw W h, W.on h, wV_bd h⟩
/-- one of some, by a draw -/
def RSome (v : Bool) (es ds : List Da) (d : Da) (es' : List Da) : Prop := ∃ s xs, Wl s 1 ∧ 0 < xs.length ∧ xs.length ≤ 100000 ∧ es = wlS s ∧ ds = [.lst xs] ∧ xs[(wV v s (xs.length : Nat)).toNat]? = some d ∧ es' = wlS (wE s (xs.length : Nat))
theorem wide_len {n : Nat} (h0 : 0 < n) (h1 : n ≤ 100000) : Wide (n : Nat) := ⟨by omega, by omega⟩
theorem one_ex {v : Bool} {s : WS} {n : Nat} (xs : List Da) (W : Wl s (n + 1)) (h0 : 0 < xs.length) (h1 : xs.length ≤ 100000) : ∃ s' d, RSome v (wlS s) [.lst xs] d (wlS s') ∧ Wl s' n ∧ d ∈ xs := by
  have hw := wide_len h0 h1
  have b := wV_bd (v := v) (s := s) hw
  have hlt : (wV v s (xs.length : Nat)).toNat < xs.length := by omega
  exact ⟨_, xs[(wV v s (xs.length : Nat)).toNat], ⟨s, xs, W.le (by omega), h0, h1, rfl, rfl, List.getElem?_eq_getElem hlt, rfl⟩, W.on hw, List.getElem_mem hlt⟩
def RCellAt (ds : List Da) (o : XO) : Prop := ∃ (ns : List Int) (k : Nat), ns.length ≤ 100000 ∧ ds = [.lst (ns.map .int), .int (k : Nat)] ∧ o = .ok (.int (ns.getD k 0))
end Sky
namespace Sky
open PySem L2 Evl PySem.Spec PyProof.Rows
/-! ### own errors with one field -/
def spOI (K : PySem.W.Frag) (C : Addr) (f : Str) : Sp := fun vs H Q _ => ∃ (a : Addr) (v : V), vs = [.ref a, v] ∧ H a = some (exo a C none) ∧ ∀ dx, H dx = none → dx ≠ a → Q .non (upd (upd H dx (exd dx [(f, v)])) a (exo a C (some dx)))
structure ExI (P : Program) (w : World) (K : PySem.W.Frag) (mg : Str → Option Value) (base : Heap) (x : Str) (C : Addr) (fld : Str) : Prop where
  g : mg x = some (.ref C)
  o : OexC K C
  xf : XfC K C
  ha : PySem.W.findIn K (.ref C) "__class__" = some (some (.builtin "object.__class__"))
  hn : PySem.W.specialIn K (.builtin "object.__class__") "__get__" = some (some (.builtin "getset_descriptor.__get__"))
  ht : PySem.W.takesIn K (.builtin "object.__class__") = some true
  hm : PySem.W.mroIn K C (.type "object") = some true
  no : PySem.W.findIn K (.ref C) fld = some none
  ini : ∃ (fI : Addr) (fd : FuncData) (ps : List Str), PySem.W.findIn K (.ref C) "__init__" = some (some (.ref fI)) ∧ PySem.W.typeIn K (.ref fI) = some (.type "function") ∧ FnOk P w K mg base (L2.CX P w) 1 fI fd ps (spOI K C fld) ∧ Binds K fd ps []
section
variable {X : Cx} {W : WX} {k i : Nat} {en e1 : List Sl} {e c r : Expr} {es : List Expr} {x fld : Str} {C : Addr} {p p2 pos pos2 : Pos} {d : Da} {b : Bool}
theorem sv_raiseF (Bx : Bd X W k) (T : ExI X.prog X.w X.K X.mg X.base x C fld) (hk : 2 ≤ k) (ha : EV X W en e (.ok d)) (hg : Gl X x) (hdb : (x == ("__debug__" : Str)) = false) (hst : starEach [e] X.env = (false, eval e X.env) :: starEach [] X.env) (hpl : (backTo pos (starEach [] X.env)).any (·.1) = false) :
    SV X W en (.Raise (some (.Call (.Name x p) [e] [] pos)) none pos2) (.rx en C (some (fld, d))) := by
  obtain ⟨fI, fd, ps, iC, tI, F1, hb⟩ := T.ini
  obtain ⟨t, h1, h2⟩ := ha
  refine ⟨_, ps_raise Bx.calm Bx.tk (pmk_oex T.o iC tI F1 (Bx.rm.mono hk) hb .nil passL hg T.g (pa_cons h1 pa_nil hst) hdb hst hpl), fun B0 H0 B H σ S D q => ?_⟩
  refine h2 _ _ B H σ S _ fun v B1 H1 g1 r1 => ?_
  have S1 := S.grow g1
  refine ⟨by show 1 ≤ 1000; decide, fun a ha => ⟨a, v, rfl, upd_same, fun dx hd hne => ⟨rfl, dx, [(fld, v)], upd_same, ?_, ?_, ?_⟩⟩⟩
  · rw [upd_ne hne]; exact upd_same
  · rw [upd_ne hne] at hd; exact hd
  · rw [upd_ne hne] at hd
    have eH : upd (L2.del (upd (upd (upd H1 a (exo a C none)) dx (exd dx [(fld, v)])) a (exo a C (some dx))) a) dx (.xd [(fld, v)]) = upd H1 dx (.xd [(fld, v)]) := by
      funext z
      by_cases z1 : z = dx
      · subst z1; rw [upd_same, upd_same]
      · rw [upd_ne z1, upd_ne z1]
        by_cases z2 : z = a
        · subst z2; rw [L2.del_same, ha]
        · rw [L2.del_ne z2, upd_ne z2, upd_ne z1, upd_ne z2]
    rw [eH]
    exact q B1 _ σ (some dx) (S1.grow (Gr.newO S1.eb hd)) ⟨dx, v, rfl, upd_same, r1⟩
/-! what the suite may read of the error that it holds -/
def HX (K : PySem.W.Frag) (dd : Addr) (n : Str) (dF : Da) (B H : Hp) : Prop := ∃ v, H dd = some (.xd [(n, v)]) ∧ Dr K B v dF
theorem HX.grow {K : PySem.W.Frag} {dd : Addr} {n : Str} {dF : Da} {B H B' H' : Hp} (h : HX K dd n dF B H) (g : Gr B H B' H') : HX K dd n dF B' H' := by
  obtain ⟨v, h1, h2⟩ := h
  exact ⟨v, g.h _ _ h1, h2.mono g.b⟩
structure EVX (X : Cx) (W : WX) (dd : Addr) (n : Str) (dF : Da) (en : List Sl) (e : Expr) (d : Da) : Prop where
  ex : ∃ t, PE X e t ∧ ∀ B0 H0 B H σ, Sd X.K B0 H0 B H σ en → HX X.K dd n dF B H → ∀ Q : VK, (∀ v B' H', Gr B H B' H' → Dr X.K B' v d → Q v H') → t σ H Q
structure ETX (X : Cx) (dd : Addr) (n : Str) (dF : Da) (en : List Sl) (e : Expr) (b : Bool) : Prop where
  ex : ∃ t, PT X e t ∧ ∀ B0 H0 B H σ, Sd X.K B0 H0 B H σ en → HX X.K dd n dF B H → ∀ Q : Bool → Hp → Prop, (∀ B' H', Gr B H B' H' → Q b H') → t σ H Q
structure EWX (X : Cx) (dd : Addr) (n : Str) (dF : Da) (en : List Sl) (e : Expr) (b : Bool) : Prop where
  ex : ∃ t, PW X e t ∧ ∀ B0 H0 B H σ, Sd X.K B0 H0 B H σ en → HX X.K dd n dF B H → ∀ Q : Bool → Hp → Prop, (∀ B' H', Gr B H B' H' → Q b H') → t σ H Q
structure SVX (X : Cx) (W : WX) (dd : Addr) (n : Str) (dF : Da) (en : List Sl) (ss : List Stmt) (ou : Out) : Prop where
  ex : ∃ t, PSs X ss t ∧ ∀ B0 H0 B H σ, Sd X.K B0 H0 B H σ en → HX X.K dd n dF B H → ∀ D : Ends, Fi X.K W B0 H0 D ou → t D σ H
variable {dd : Addr} {n : Str} {dF : Da}
theorem evx_of (h : EV X W en e (.ok d)) : EVX X W dd n dF en e d := by
  obtain ⟨t, h1, h2⟩ := h
  exact ⟨t, h1, fun B0 H0 B H σ S _ Q k => h2 B0 H0 B H σ S Q k⟩
theorem etx_w {op} (h : EWX X dd n dF en (.BoolOp op es pos) b) : ETX X dd n dF en (.BoolOp op es pos) b := by
  obtain ⟨t, h1, h2⟩ := h
  exact ⟨_, h1.pt, h2⟩
theorem ewx_and1 (h : ETX X dd n dF en c b) : EWX X dd n dF en (.BoolOp .And [c] pos) b := by
  obtain ⟨t, h1, h2⟩ := h
  exact ⟨_, pw_and1 h1, h2⟩
theorem ewx_andT {c2 : Expr} {rest : List Expr} (h : ETX X dd n dF en c true) (k : EWX X dd n dF en (.BoolOp .And (c2 :: rest) pos) b) : EWX X dd n dF en (.BoolOp .And (c :: c2 :: rest) pos) b := by
  obtain ⟨t, h1, h2⟩ := h
  obtain ⟨t', h3, h4⟩ := k
  exact ⟨_, pw_and h1 h3, fun B0 H0 B H σ S hx Q q => h2 _ _ B H σ S hx _ fun B' H' g => iteT (h4 _ _ B' H' σ (S.grow g) (hx.grow g) _ fun B2 H2 g2 => q B2 H2 (g.trans g2))⟩
theorem evx_tup2 {e2 : Expr} {q : Nat} {d2 : Da} (h : EVX X W dd n dF en e d) (k : EVX X W dd n dF en e2 d2) (h1 : starEach [e, e2] X.env = (false, eval e X.env) :: starEach [e2] X.env) (h2 : starEach [e2] X.env = (false, eval e2 X.env) :: starEach [] X.env) : EVX X W dd n dF en (.Tuple [e, e2] q pos) (.tup [d, d2]) := by
  obtain ⟨t, a1, a2⟩ := h
  obtain ⟨t', a3, a4⟩ := k
  refine ⟨_, pe_tup (pa_cons a1 (pa_cons a3 pa_nil h2) h1), fun B0 H0 B H σ S hx Q q => a2 _ _ B H σ S hx _ fun v B1 H1 g1 r1 => a4 _ _ B1 H1 σ (S.grow g1) (hx.grow g1) _ fun v2 B2 H2 g2 r2 => ?_⟩
  exact ⟨by show 2 ≤ sizeLine; decide, fun p hp => q _ _ _ ((g1.trans g2).trans (Gr.new g2.s hp)) (.tup (st_of upd_same) (.cons (r1.mono (g2.b.trans (Ex.new (fresh_back g2.s hp)))) (.cons (r2.mono (Ex.new (fresh_back g2.s hp))) .nil)))⟩
theorem svx_ifRet {rest : List Stmt} (hc : ETX X dd n dF en c true) (hr : EVX X W dd n dF en r d) : SVX X W dd n dF en (.If c [.Return (some r) pos2] [] pos :: rest) (.rt d) := by
  obtain ⟨t, a1, a2⟩ := hc
  obtain ⟨t', a3, a4⟩ := hr
  refine ⟨_, pss_cons (ps_if a1 (pss_one (ps_ret a3)) pss_nil) pss_never, fun B0 H0 B H σ S hx D q => ?_⟩
  exact a2 _ _ B H σ S hx _ fun B' H' g => iteT (a4 _ _ B' H' σ (S.grow g) (hx.grow g) _ fun v B2 H2 g2 r2 => q v B2 H2 ((S.gr.trans g).trans g2) r2)
end
section
variable {X : Cx} {W : WX} {k i : Nat} {en e1 : List Sl} {x n fld : Str} {c : Value} {body suite : List Stmt} {b₀ : Stmt} {np pos pos' p1 p2 p3 : Pos} {C a : Addr} {d dF : Da} {oe : Obj} {pn : List (Addr × Obj)} {y : Str} {dd : Addr}
/-- the body raises C with a field; the suite returns -/
theorem sv_tryF (Bx : Bd X W k) (hs : X.stack = X.env :: X.outer) (hf : X.env.frame = some X.env.locals) (hN : X.N.idxOf? n = some i) (hi : X.N[i]? = some n) (hln : X.env.kindOf n = some .local) (hc : Names X x c)
    (hb : ∀ (W' : WX) (pn : List (Addr × Obj)) (xe : Value → Shared → Prop), Bd (X.tr pn xe) W' k → SVs (X.tr pn xe) W' en body (.rx e1 C (some (fld, dF)))) (he : PySem.W.exmOne X.K (.ref C) c = some true)
    (hsu : ∀ (a : Addr) (oe : Obj) (dd : Addr) (pn : List (Addr × Obj)), Zc (.ref C) (some dd) oe → (∃ vs, oe.data = .fields vs) → SVX (X.suite a ((a, oe) :: pn)) (fun _ _ _ _ => False) dd fld dF (e1.set i (.rf (.ref a))) (b₀ :: suite) (.rt d)) :
    SV X W en (.Try body [.ExceptHandler (some (.Name x np)) (some n) (b₀ :: suite) pos'] [] [] pos) (.rt d) :=
  ⟨_, ps_tryU hs hf Bx.nd hi hln hc, fun B0 H0 B H σ S D q pn xe tk ow => by
    obtain ⟨t, h1, h2⟩ := hb _ pn xe (bd_tr Bx tk ow)
    refine ⟨t, h1, h2 B0 H0 B H σ S D fun B' H' σ' dd S' xf => ⟨true, he, fun _ a ha oe pn2 hz hv => ?_, fun z => by cases z⟩⟩
    obtain ⟨da, v, rfl, hda, rv⟩ := xf
    obtain ⟨t', h3, h4⟩ := hsu a oe da pn2 hz hv
    exact ⟨t', h3, h4 B0 H0 B' H' _ (S'.setRf (.ref a) i) ⟨v, hda, rv⟩ _ q⟩⟩
/-- e.fld in the suite -/
theorem evx_fld (T : ExI X.prog X.w X.K X.mg X.base x C fld) (hz : Zc (.ref C) (some dd) oe) (hf : ∃ vs, oe.data = .fields vs) (hv : Vis X.env.scope y) (h : en[i]? = some (.rf (.ref a))) (hN2 : X.N[i]? = some y) (hd : (y == ("__debug__" : Str)) = false) (hcd : (y == ("__classdict__" : Str)) = false)
    (hb : attributeBase (.Name y p1) fld X.env (eval (.Name y p1) X.env) = eval (.Name y p1) X.env) : EVX (X.suite a ((a, oe) :: pn)) W dd fld dF en (.Attribute (.Name y p1) fld pos) dF := by
  refine ⟨_, pe_xf T.xf T.no hz hf (pe_var hN2 hv hd hcd) hb, fun B0 H0 B H σ S hx Q q => ?_⟩
  obtain ⟨v, h1, h2⟩ := hx
  refine ex_rf h B0 H0 B H σ S _ ⟨rfl, rfl, dd, _, v, rfl, h1, ?_, q v B H (Gr.refl S.eb) h2⟩
  simp [List.lookup]
/-- isinstance(e, c) in the suite, e with its own dict -/
def rIsD (K : PySem.W.Frag) (D a dd : Addr) : List V → Hp → VK → Prop := fun xs H Q => ∃ (c : V) (cv : Value) (b : Bool) (fs : List (Str × V)), xs = [.ref a, c] ∧ (∀ u, RelV c u → u = cv) ∧ PySem.W.kitOne K (.ref D) cv = some b ∧ H dd = some (.xd fs) ∧ Q (.bl b) H
theorem call_isD (T : ExI X.prog X.w X.K X.mg X.base x C fld) (hz : Zc (.ref C) (some dd) oe) (hf : ∃ vs, oe.data = .fields vs) : CallR (X.suite a ((a, oe) :: pn)) (.builtin "isinstance") (rIsD X.K C a dd) := by
  intro pins s σ H xs us Q I r h
  obtain ⟨c, cv, b, fs, rfl, hcv, e, hd, q⟩ := h
  cases r with
  | cons rx rr =>
    cases rr with
    | cons rt rr =>
      cases rr
      cases rx
      have ec := hcv _ rt
      subst ec
      obtain ⟨hget, _⟩ := I.pin (a, oe) (List.mem_append.mpr (.inl List.mem_cons_self))
      obtain ⟨vs, hv⟩ := hf
      have hx : ObjOk X.prog X.w H s.heap dd (.xd fs) := I.hok dd _ hd
      obtain ⟨mA, hns, _⟩ := hx
      obtain ⟨od, ho, _⟩ := lookIn_ns hns
      have J : PySem.W.InstAt s.heap a oe C (some od) := ⟨hget, hz.1, by unfold PySem.W.notCls; rw [hv] <;> rfl, by rw [hz.2]; exact ho⟩
      have hcl : (PySem.W.clsIn X.K C).isSome = true := by
        obtain ⟨cd, hc, _⟩ := PySem.W.any_some T.xf.hdC
        rw [hc]; rfl
      exact PySem.W.kia_one (PySem.W.kitx_exc hcl T.xf.ga T.xf.gg T.xf.exC T.ha T.hn T.ht T.hm) I.kIn J e (fun z => nomatch z) fun tk => ⟨.bl b, H, I.kept (t' := tk) fun _ _ z => z, rfl, q⟩
theorem etx_is {cx : Expr} {cv : V} {cu : Value} {b : Bool} (T : ExI X.prog X.w X.K X.mg X.base x C fld) (hz : Zc (.ref C) (some dd) oe) (hf : ∃ vs, oe.data = .fields vs) (hm : X.mg "isinstance" = none)
    (hv : Vis X.env.scope y) (h : en[i]? = some (.rf (.ref a))) (hN2 : X.N[i]? = some y) (hd : (y == ("__debug__" : Str)) = false) (hcd : (y == ("__classdict__" : Str)) = false)
    (hc : PE (X.suite a ((a, oe) :: pn)) cx (tC cv)) (hcu : ∀ u, RelV cv u → u = cu) (hk : PySem.W.kitOne X.K (.ref C) cu = some b) (hg : Gl (X.suite a ((a, oe) :: pn)) "isinstance")
    (h1 : starEach [.Name y p1, cx] X.env = (false, eval (.Name y p1) X.env) :: starEach [cx] X.env) (h2 : starEach [cx] X.env = (false, eval cx X.env) :: starEach [] X.env) (hpl : (backTo p3 (starEach [cx] X.env)).any (·.1) = false)
    (hq : ∀ whole, isTrue (.Call (.Name "isinstance" p2) [.Name y p1, cx] [] p3) X.env whole = (do let v ← whole; standAt (Expr.Call (.Name "isinstance" p2) [.Name y p1, cx] [] p3).pos; holding [v] (truthy v))) :
    ETX (X.suite a ((a, oe) :: pn)) dd fld dF en (.Call (.Name "isinstance" p2) [.Name y p1, cx] [] p3) b := by
  have hvar : PE (X.suite a ((a, oe) :: pn)) (.Name y p1) (tVar i) := pe_var hN2 hv hd hcd
  refine ⟨_, pt_val (pe_callB (call_isD T hz hf) hg hm (by decide +kernel) (pa_cons hvar (pa_cons hc pa_nil h2) h1) (by decide) (by decide) h1 hpl) hq, fun B0 H0 B H σ S hx Q q => ?_⟩
  obtain ⟨v, e1, e2⟩ := hx
  exact ex_rf h B0 H0 B H σ S _ ⟨cv, cu, b, _, rfl, hcu, hk, e1, b, rfl, q B H (Gr.refl S.eb)⟩
end
end Sky
namespace Sky
open PySem L2 Evl PySem.Spec PyProof.Rows
/-! ### a lambda without parameters, handed to a def that calls it within a try -/
theorem takes_len {X : Cx} {W : WX} (t : Takes X W) : Takes X (fun c d σ H => σ.length = X.N.length → W c d σ H) := fun u s2 xx => by
  obtain ⟨a, B, sI, pi, σ, H, cl, d, e, I, r1, r2, r3, r4, r5, r6, w⟩ := xx
  exact t u s2 ⟨a, B, sI, pi, σ, H, cl, d, e, I, r1, r2, r3, r4, r5, r6, w I.len⟩
/-- what it got comes to o; it makes d of it -/
def TD (K : PySem.W.Frag) (o : XO) (d : Da) : (XK → Hp → VK → Prop) → Hp → VK → Prop := fun tl H Q =>
  ∃ B, Ex B H ∧ (∀ (E : XK) (B' H' : Hp) (Q' : VK), Gr B H B' H' → Ko K E B' H' Q' o → tl E H' Q') ∧ ∀ v B' H', Gr B H B' H' → Dr K B' v d → Q v H'
/-- the context of the def that got it -/
abbrev ZT (X : Cx) (Ng : List Str) (x : Str) (sg : Scope) (g : Addr) (cdg : Value) (s : Shared) (H : Hp) : Cx := (cxOf C8.CX0 X.prog X.w X.K X.mg X.base Ng x sg g cdg X.A X.stack s H C8.E0).nox
abbrev W0 : WX := fun _ _ _ _ => False
theorem bd_zt {X : Cx} {Ng : List Str} {x : Str} {sg : Scope} {g : Addr} {cdg : Value} {s : Shared} {H : Hp} {k : Nat} (hr : Room (k + 1) X.A) (nd : Ng.Nodup) : Bd (ZT X Ng x sg g cdg s H) W0 k :=
  ⟨rfl, takes0, fun _ _ h => h.elim, hr.deeper _, nd⟩
theorem sd_start {K : PySem.W.Frag} {B H : Hp} {Ng : List Str} {f : Addr} (eB : Ex B H) : Sd K B H B H (L2.start Ng [V.ref f]) (.rf (.ref f) :: List.replicate (Ng.length - 1) .no) := by
  refine ⟨Gr.refl eB, ?_, fun i j p x y h1 _ hx _ _ _ => ?_⟩
  · exact .cons (.rf _) paired_rep
  · cases i with
    | zero => cases h1; cases hx
    | succ i =>
      rw [List.eq_of_mem_replicate (List.mem_of_getElem? (show (List.replicate (Ng.length - 1) Sl.no)[i]? = some x from h1))] at hx
      cases hx
theorem sd_nos {K : PySem.W.Frag} {B0 H0 B H : Hp} {σ : L2.St} {n : Nat} (g : Gr B0 H0 B H) (hl : σ.length = n) : Sd K B0 H0 B H σ (List.replicate n .no) := by
  refine ⟨g, paired_ix (by rw [hl, List.length_replicate]) fun i x y _ hy => ?_, fun i j p x y h1 _ hx _ _ _ => ?_⟩
  · rw [List.eq_of_mem_replicate (List.mem_of_getElem? hy)]
    exact .no _
  · rw [List.eq_of_mem_replicate (List.mem_of_getElem? h1)] at hx
    cases hx
section
variable {X : Cx} {Ng : List Str} {x a v n y q : Str} {sg : Scope} {g : Addr} {cdg c : Value} {b₀ : Stmt} {suite rest : List Stmt} {i j k : Nat} {p1 p2 p3 pv np pos' pos : Pos} {o : XO} {d : Da}
/-- try: v = a() / except y as n: .. / .. -/
theorem told_asg (hr : Room (k + 1) X.A) (nd : Ng.Nodup) (hi : Ng[i]? = some n) (hj : Ng[j]? = some v) (hln : sg.names.lookup n = some .local) (hlv : sg.names.lookup v = some .local)
    (hc : ∀ s H, Names (ZT X Ng x sg g cdg s H) y c) (hsw : ∀ s H pn xe, swapsWith (.Call (.Name a p1) [] [] p2) (some (.Name v pv)) p3.line ((ZT X Ng x sg g cdg s H).tr pn xe).env = pure false)
    (hok : ∀ d0, o = .ok d0 → ∀ s H f, Bd (ZT X Ng x sg g cdg s H) W0 k → SVs (ZT X Ng x sg g cdg s H) W0 ((.rf (.ref f) :: List.replicate (Ng.length - 1) .no).set j (.da d0)) rest (.rt d))
    (herr : ∀ C fl, o = .err C fl → fl = none ∧ PySem.W.exmOne X.K (.ref C) c = some true ∧ ∀ s H a oe pn, Zc (.ref C) none oe → (∃ vs, oe.data = .fields vs) → SVs ((ZT X Ng x sg g cdg s H).suite a ((a, oe) :: pn)) W0 ((List.replicate Ng.length .no).set i (.rf (.ref a))) (b₀ :: suite) (.rt d)) :
    LamX.GivesTo X Ng x sg g cdg (.Try [.Assign [.Name v pv] (.Call (.Name a p1) [] [] p2) p3] [.ExceptHandler (some (.Name y np)) (some n) (b₀ :: suite) pos'] [] [] pos :: rest) a q (TD X.K o d) := by
  intro f c' s H Q tl act hcd h
  obtain ⟨B, eB, hl, hq⟩ := h
  have Bz : Bd (ZT X Ng x sg g cdg s H) W0 k := bd_zt hr nd
  have S0 := sd_start (K := X.K) (Ng := Ng) (f := f) eB
  refine ⟨_, pss_cons (ps_tryU (X := ZT X Ng x sg g cdg s H) rfl rfl nd hi hln (hc s H)) (pss_U (X := ZT X Ng x sg g cdg s H) (ss := rest)), fun pn xe tk ow => ?_⟩
  cases o with
  | ok d0 =>
    have hp := act W0 pn xe (fun _ _ _ => False) p1 p2 (takes0 (X := (ZT X Ng x sg g cdg s H).tr pn xe)) (fun _ _ _ _ z => z.elim)
    refine ⟨_, pss_one (ps_set (X := (ZT X Ng x sg g cdg s H).tr pn xe) nd hj (Or.inl hlv) hp (hsw s H pn xe) (Or.inr hlv)), rfl, hcd, hl _ B H _ (Gr.refl eB) fun w B' H' gr r => ?_⟩
    exact (hok d0 rfl s H f Bz).U B H B' H' _ ((S0.grow gr).set r j) _ fun v2 B2 H2 g2 r2 => hq v2 B2 H2 g2 r2
  | err C fl =>
    obtain ⟨rfl, hx, hs⟩ := herr C fl rfl
    have hp := act _ pn xe (fun cls dd H' => ∀ σ' : L2.St, σ'.length = Ng.length → WA (ZT X Ng x sg g cdg s H) c i b₀ suite { nx := tU (ZT X Ng x sg g cdg s H) rest { nx := fun _ H' => Q .non H', rt := Q }, rt := Q } cls dd σ' H') p1 p2 (takes_len tk) (fun cls d σ' H' z hlen => z σ' hlen)
    refine ⟨_, pss_one (ps_set (X := (ZT X Ng x sg g cdg s H).tr pn xe) nd hj (Or.inl hlv) hp (hsw s H pn xe) (Or.inr hlv)), rfl, hcd, hl _ B H _ (Gr.refl eB) fun dd B' H' gr xf => ?_⟩
    intro σ' hlen
    refine ⟨true, hx, fun _ a2 ha oe pn2 hz hv => ?_, fun z => by cases z⟩
    obtain rfl : dd = none := xf
    obtain ⟨t', h3, h4⟩ := hs s H a2 oe pn2 hz hv
    exact ⟨t', h3, h4 B H B' H' _ ((sd_nos gr hlen).setRf (.ref a2) i) _ fun v2 B2 H2 g2 r2 => hq v2 B2 H2 g2 r2⟩
end
end Sky
namespace Sky
open PySem L2 Evl PySem.Spec PyProof.Rows
/-- no other table than this one -/
def OneTb (P : Addr) (q : Str) : List Sl → Prop
  | [] => True
  | .tb P' q' _ :: r => (P' = P ∧ q' = q) ∧ OneTb P q r
  | _ :: r => OneTb P q r
theorem oneTb_at {P : Addr} {q : Str} : ∀ {en : List Sl} {i : Nat} {P' : Addr} {q' : Str} {d : Da}, OneTb P q en → en[i]? = some (.tb P' q' d) → P' = P ∧ q' = q
  | y :: r, 0, P', q', d, h, e => by
    cases e
    exact h.1
  | y :: r, i + 1, P', q', d, h, e => by
    have e2 : r[i]? = some (.tb P' q' d) := e
    cases y with
    | tb _ _ _ => exact oneTb_at h.2 e2
    | no => exact oneTb_at (en := r) h e2
    | da _ => exact oneTb_at (en := r) h e2
    | own _ => exact oneTb_at (en := r) h e2
    | rf _ => exact oneTb_at (en := r) h e2
    | ob _ _ _ _ => exact oneTb_at (en := r) h e2
    | wl _ _ => exact oneTb_at (en := r) h e2
theorem Sd.tbAt {K : PySem.W.Frag} {B0 H0 B H : Hp} {σ : L2.St} {en : List Sl} {i : Nat} {P : Addr} {q : Str} {d : Da} (S : Sd K B0 H0 B H σ en) (h : en[i]? = some (.tb P q d)) : ∃ v, σ[i]? = some (some v) ∧ Dr K B v d ∧ NoTb H0 ∧ NoTb B ∧ LamX.TabS H P q := by
  obtain ⟨x, h1, h2⟩ := paired_get S.sl h
  cases h2 with
  | tb r z0 z1 t => exact ⟨_, h1, r, z0, z1, t⟩
/-- the table has grown, all else stays -/
theorem Sd.tabs {K : PySem.W.Frag} {B0 H0 B H H1 : Hp} {σ : L2.St} {en : List Sl} {i : Nat} {P : Addr} {q : Str} {d : Da} (S : Sd K B0 H0 B H σ en) (h : en[i]? = some (.tb P q d)) (h1 : OneTb P q en) (e : LamX.ExtN H H1) (t : LamX.TabS H1 P q) : Sd K B0 H0 B H1 σ en := by
  obtain ⟨_, _, _, n0, n1, _⟩ := S.tbAt h
  refine ⟨⟨S.gr.b, fun a o z => e a o (S.gr.h a o z) fun ps w => n0 a ps (by rw [z, w]), fun a o z => e a o (S.gr.s a o z) fun ps w => n1 a ps (by rw [z, w]), S.gr.n, S.gr.q⟩, paired_ix (Paired.length S.sl) fun j x y hx hy => ?_, S.sep⟩
  have r := paired_at S.sl hx hy
  cases r with
  | no => exact .no _
  | da h => exact .da h
  | rf v => exact .rf v
  | ob b' f' h' t' => exact .ob b' f' (e _ _ h' fun _ z => nomatch z) t'
  | own b' f' h' t' => exact .own b' f' (e _ _ h' fun _ z => nomatch z) t'
  | wl b' f' h' t' => exact .wl b' f' (e _ _ h' fun _ z => nomatch z) t'
  | tb h' z0 z1 t' =>
    obtain ⟨rfl, rfl⟩ := oneTb_at h1 hy
    exact .tb h' z0 z1 t
/-- reading the name of such a slot -/
theorem ev_nameT {X : Cx} {W : WX} {en : List Sl} {n : Nat} {x : Str} {pos : Pos} {P : Addr} {q : Str} {d : Da} (hN : X.N.idxOf? x = some n) (hv : Vis X.env.scope x) (h : en[n]? = some (.tb P q d)) (hN2 : X.N[n]? = some x) (hd : (x == ("__debug__" : Str)) = false) (hc : (x == ("__classdict__" : Str)) = false) : EV X W en (.Name x pos) (.ok d) :=
  ⟨_, pe_var hN2 hv hd hc, fun _ _ B H σ S Q k => by
    obtain ⟨v, h1, r, _⟩ := S.tbAt h
    exact ⟨v, h1, k v B H (Gr.refl S.eb) r⟩⟩
/-- a def that calls what it got, within a try -/
structure CalT (P : Program) (w : World) (K : PySem.W.Frag) (mg : Str → Option Value) (base : Heap) (x : Str) (j : Nat) (R : XO → Da → Prop) : Prop where
  ex : ∃ (g : Addr) (pg : Arguments) (bg : List Stmt) (sg : Scope) (dV kV doc pm cdv ct oc : Value) (an od : Option Addr) (osl : Array (Option Value)) (Ng : List Str) (a : Str),
    mg x = some (.ref g) ∧ PySem.W.keepIn K (.ref g) = true ∧ K.lookup g = some ⟨oc, od, .func (PySem.W.fnOf x x pg bg sg dV kV doc pm an cdv ct), osl⟩ ∧ PySem.W.codeIn K cdv x = true ∧ Binds K (PySem.W.fnOf x x pg bg sg dV kV doc pm an cdv ct) [a] [] ∧
    FnScope Ng [a] sg ∧ Ng[0]? = some a ∧ Vis sg a ∧ (a == ("__debug__" : Str)) = false ∧ (a == ("__classdict__" : Str)) = false ∧
    ∀ X : Cx, X.prog = P → X.w = w → X.K = K → X.mg = mg → X.base = base → Room (j + 1) X.A → ∀ q o d, R o d → LamX.GivesTo X Ng x sg g cdv bg a q (TD K o d)
theorem bd_lam {X : Cx} {A : Around} {outer : List Env} {s : Shared} {H : Hp} {E : XK} {scope : Scope} {f c' : Addr} {m : Nat} (hr : Room m (A.deeper (LamX.lamEnv X scope s.heap.objs.size f c'))) (nd : X.N.Nodup) : Bd (LamX.lamCx X A outer s H E scope f c') (WD E) m :=
  ⟨rfl, takes_of rfl rfl rfl rfl, PassesOwn.leaving, hr, nd⟩
/-- what the lambda comes to, wherever it is called -/
def tLb (X : Cx) (m : Nat) (scope : Scope) (body : Expr) (E : XK) : TE := fun σ H' Q => ∀ (A : Around) (outer : List Env) (s : Shared) (H : Hp) (f c' : Addr), Room m (A.deeper (LamX.lamEnv X scope s.heap.objs.size f c')) → ∃ t, PE (LamX.lamCx X A outer s H E scope f c') body t ∧ t σ H' Q
theorem evm_lam {X : Cx} {W : WX} {en : List Sl} {i j k m : Nat} {x : Str} {R : XO → Da → Prop} {P c : Addr} {q : Str} {dt d : Da} {o : XO} {params : Arguments} {body : Expr} {scope : Scope} {p lpos pos : Pos} (cl : CalT X.prog X.w X.K X.mg X.base x j R) (Bx : Bd X W k) (hj : j + 1 ≤ k) (hm : m + 2 ≤ k) (hg : Gl X x)
    (TB : LamX.TabB X.base X.mg c P) (hcode : X.env.code = .ref c) (hq : X.env.qual ++ "<lambda>" = q) (he : en[i]? = some (.tb P q dt)) (h1 : OneTb P q en) (L : LamX.LamS X.env.scope scope) (hdef : defaultsOf params X.env = ([], []))
    (hbind : ∀ (q : Str) (cl : List (Str × Addr)) (pm cv ctv : Value), bindArgs (PySem.W.kla_fn "<lambda>" q params body scope cl pm cv ctv) ⟨[], []⟩ = pure [])
    (hb : ∀ (A : Around) (outer : List Env) (s : Shared) (H : Hp) (E : XK) (f c' : Addr), Bd (LamX.lamCx X A outer s H E scope f c') (WD E) m → EV (LamX.lamCx X A outer s H E scope f c') (WD E) en body o) (hR : R o d) (hdb : (x == ("__debug__" : Str)) = false := by decide) :
    EVm X en en (.Call (.Name x p) [.Lambda params body scope lpos] [] pos) d := by
  obtain ⟨g, pg, bg, sg, dV, kV, doc, pm, cdv, ct, oc, an, od, osl, Ng, a, mx, kg, lk, hcd, hbi, Sg, hN0, hva, hd1, hd2, G⟩ := cl.ex
  subst hq
  refine ⟨_, LamX.pe_lamcall (T := [(P, X.env.qual ++ "<lambda>")]) (k := m) (t := tLb X m scope body) hg mx kg lk hcd hbi Sg hN0 hva (G X rfl rfl rfl rfl rfl (Bx.rm.mono hj) _ o d hR) TB hcode (List.mem_singleton.mpr rfl) (fun z hz _ => by rw [List.mem_singleton.mp hz]) (Bx.rm.mono hm) L hdef hbind
    (fun A outer s H E f c' hr => ⟨fun pins s1 σ H1 Q I h => ?_⟩) hdb hd1 hd2, fun B0 H0 B H σ S Q k => ?_⟩
  · obtain ⟨t, h1, h2⟩ := h A outer s H f c' hr
    exact h1.run pins s1 σ H1 Q I h2
  · obtain ⟨_, _, _, _, _, t0⟩ := S.tbAt he
    refine ⟨fun z hz => by rw [List.mem_singleton.mp hz]; exact t0, fun H1 e1 t1 => ?_⟩
    have S1 := S.tabs he h1 e1 (t1 _ (List.mem_singleton.mpr rfl))
    refine ⟨B, S1.eb, fun E B' H' Q' g ko A outer s Hs f c' hr => ?_, fun v B' H' g r => k v B' H' g.b (S1.grow g) r⟩
    obtain ⟨t, a1, a2⟩ := hb A outer s Hs E f c' (bd_lam hr Bx.nd)
    exact ⟨t, a1, a2 _ _ _ _ _ (S1.grow g) Q' ko⟩
theorem sq_cut {K : PySem.W.Frag} {H : Hp} {a : Addr} {vs : List V} (hS : SqL K H a vs) : ∃ B : Hp, Ex B H ∧ NoTb B ∧ SqL K B a vs := by
  rcases hS with h | h
  · have key : ∀ o : HO, H a = some o → (∀ ps, o ≠ .tbl ps) → Ex (upd (fun _ => none) a o) H ∧ NoTb (upd (fun _ => none) a o) := fun o h no => ⟨fun b u z => by
      by_cases w : b = a
      · rw [w, upd_same] at z
        rw [w, h]; exact z
      · rw [upd_ne w] at z; exact absurd z (fun z => nomatch z), noTb_upd (fun _ _ z => nomatch z) no⟩
    rcases h with h | ⟨ob, h⟩
    · obtain ⟨k1, k2⟩ := key _ h (fun _ z => nomatch z)
      exact ⟨_, k1, k2, Or.inl (Or.inl upd_same)⟩
    · obtain ⟨k1, k2⟩ := key _ h (fun _ z => nomatch z)
      exact ⟨_, k1, k2, Or.inl (Or.inr ⟨ob, upd_same⟩)⟩
  · exact ⟨fun _ => none, (fun _ _ z => by cases z), (fun _ _ z => by cases z), Or.inr h⟩
/-! ### the law itself, with its table -/
def spLT (K : PySem.W.Frag) (P : Addr) (q : Str) : Sp := fun vs H Q _ => ∃ (a : Addr) (ns : List Int), vs = [.ref a] ∧ ns.length ≤ 63 ∧ SqL K H a (ns.map V.int) ∧ LamX.TabS H P q ∧ ∀ H', Q (.bl true) H'
theorem fn_LT {P : Program} {w : World} {K : PySem.W.Frag} {mg : Str → Option Value} {base : Heap} {x p0 qual q : Str} {st : Stmt} {f PT : Addr} {N : List Str} {k : Nat} {dV kV doc pm cdv ct oc : Value} {an od : Option Addr} {osl : Array (Option Value)}
    (lk : K.lookup f = some ⟨oc, od, .func (PySem.W.fnOf x qual (defArgs st) (defBody st) (defScope st) dV kV doc pm an cdv ct), osl⟩) (hcd : PySem.W.codeIn K cdv qual = true) (S : FnScope N [p0] (defScope st))
    (hb : ∀ (A : Around) (outer : List Env) (s : Shared) (H : Hp) (E : XK) (ns : List Int), Bd (XB P w K mg base N qual st f cdv A outer s H E) (WD E) k → ns.length ≤ 63 → SVs (XB P w K mg base N qual st f cdv A outer s H E) (WD E) (.tb PT q (.lst (ns.map .int)) :: List.replicate (N.length - 1) .no) (defBody st) (.rt (.bl true))) :
    FnOk P w K mg base (L2.CX P w) (k + 1) f (PySem.W.fnOf x qual (defArgs st) (defBody st) (defScope st) dV kV doc pm an cdv ct) [p0] (spLT K PT q) := by
  refine fn_of lk hcd S (fun vs H Q E ⟨a, ns, e, _⟩ => by rw [e]; rfl) fun A outer s H vs Q E hr ⟨a, ns, e, hl, hS, hT, hQ⟩ => ?_
  subst e
  obtain ⟨t, h1, h2⟩ := hb A outer s H E ns (bd_of S hr) hl
  obtain ⟨B, eB, nB, hB⟩ := sq_cut hS
  refine ⟨t, h1, h2 B (fun _ => none) B H _ ⟨⟨Ex.refl _, (fun _ _ z => by cases z), eB, fun _ z => absurd rfl z, fun _ _ z => z⟩, ?_, fun i j p x y h1 _ hx _ _ _ => ?_⟩ _ fun v B' H' _ r => ?_⟩
  · exact .cons (.tb (.lst hB DrA.ints) (fun _ _ z => by cases z) nB hT) paired_rep
  · cases i with
    | zero => cases h1; cases hx
    | succ i =>
      rw [List.eq_of_mem_replicate (List.mem_of_getElem? (show (List.replicate (N.length - 1) Sl.no)[i]? = some x from h1))] at hx
      cases hx
  · cases r
    exact hQ H'
end Sky
namespace Sky
open PySem L2 Evl PySem.Spec PyProof.Rows
/-! ### for i, x in enumerate(xs) -/
section
variable {K : PySem.W.Frag} {W : WX} {en : List Sl} {tx : TA} {tbd : TS} {ds : List Da} {o : Out} {j1 j2 m : Nat}
theorem en_turn {B0 H0 B H : Hp} {σ : L2.St} {F : List Sl} (S : Sd K B0 H0 B H σ F) {T : Addr} {x : V} {d : Da} {i : Nat} (hT : H T = none) (r : Dr K B x d) {Q : L2.St → Hp → Prop}
    (k : ∀ σ' , Sd K B0 H0 (upd B T (.tup [.int (i : Nat), x])) (upd H T (.tup [.int (i : Nat), x])) σ' ((F.set j1 (.da (.int (i : Nat)))).set j2 (.da d)) → Q σ' (upd H T (.tup [.int (i : Nat), x]))) :
    gTup K 2 (gNames [j1, j2]) (.ref T) σ (upd H T (.tup [.int (i : Nat), x])) Q := by
  have g := Gr.new (o := .tup [.int (i : Nat), x]) S.eb hT
  have S2 := S.grow g
  exact ⟨_, _, rfl, st_of upd_same, rfl, gn_set (is := [j1, j2]) (ds := [.int (i : Nat), d]) S2 (.cons (.int _) (.cons (r.mono g.b) .nil)) rfl fun σ' S' => k σ' S'⟩
theorem st_forE (F : Nat → List Sl) (h : EA K tx en [.lst ds]) (h0 : F 0 = en) (ht : ∀ i d, ds[i]? = some d → ST K W tbd (((F i).set j1 (.da (.int (i : Nat)))).set j2 (.da d)) (.nx (F (i + 1)))) : ST K W (tFor (iEnum K tx) (gTup K 2 (gNames [j1, j2])) tbd) en (.nx (F ds.length)) := fun B0 H0 B H σ S D k =>
  h _ _ B H σ S _ fun vs B1 H1 g r => by
    cases r with
    | cons r r2 =>
      cases r2
      cases r with
      | @lst a xs _ hq t =>
        have S1 := S.grow g
        refine ⟨a, xs, rfl, ex_l g.s hq, for_it (walk_enum (a := a) (xs := xs)) (fun i σ' H' => ∃ B', Sd K B1 H0 B' H' σ' (F i)) ⟨B1, by rw [h0]; exact S1.rebase⟩ (fun i σ' H' _ ⟨B', S'⟩ => ex_l (S'.gr.b.trans S'.gr.s) hq) (fun i v σ' H' H2 hi ⟨B', S'⟩ y => ?_) (fun σ' H' ⟨B', S'⟩ => ?_)⟩
        · obtain ⟨T, x, z, rfl, hT, rfl, e1, hx⟩ := y
          cases e1
          obtain ⟨d, hd⟩ : ∃ d, ds[i]? = some d := by
            rw [t.length] at hi
            exact ⟨ds[i], List.getElem?_eq_getElem hi⟩
          obtain ⟨x', hx', rx⟩ := t.get hd
          have hx : xs[i]? = some z := hx
          rw [hx] at hx'
          cases hx'
          exact en_turn S' hT (rx.mono S'.gr.b) fun σ2 S2 => ht i d hd B1 H0 _ _ _ S2 _ fun B3 H3 σ3 S3 => ⟨B3, S3⟩
        · rw [t.length] at S'
          exact k B' H' σ' (S'.base S1.gr)
theorem st_forEX {d : Da} (F : Nat → List Sl) (h : EA K tx en [.lst ds]) (h0 : F 0 = en) (ht : ∀ i d, i < m → ds[i]? = some d → ST K W tbd (((F i).set j1 (.da (.int (i : Nat)))).set j2 (.da d)) (.nx (F (i + 1)))) (hm : ds[m]? = some d)
    (hx : ST K W tbd (((F m).set j1 (.da (.int (m : Nat)))).set j2 (.da d)) o) (ho : ∃ d', o = .rt d' ∨ ∃ e C f, o = .rx e C f) : ST K W (tFor (iEnum K tx) (gTup K 2 (gNames [j1, j2])) tbd) en o := fun B0 H0 B H σ S D k =>
  h _ _ B H σ S _ fun vs B1 H1 g r => by
    cases r with
    | cons r r2 =>
      cases r2
      cases r with
      | @lst a xs _ hq t =>
        have S1 := S.grow g
        have hml : m < ds.length := (List.getElem?_eq_some_iff.mp hm).1
        refine ⟨a, xs, rfl, ex_l g.s hq, for_it (walk_enum (a := a) (xs := xs)) (fun i σ' H' => i ≤ m ∧ ∃ B', Sd K B1 H0 B' H' σ' (F i)) ⟨Nat.zero_le _, B1, by rw [h0]; exact S1.rebase⟩ (fun i σ' H' _ ⟨_, B', S'⟩ => ex_l (S'.gr.b.trans S'.gr.s) hq) (fun i v σ' H' H2 hi ⟨him, B', S'⟩ y => ?_) (fun σ' H' ⟨him, B', S'⟩ => ?_)⟩
        · obtain ⟨T, x, z, rfl, hT, rfl, e1, hx'⟩ := y
          cases e1
          obtain ⟨d2, hd⟩ : ∃ d, ds[i]? = some d := by
            rw [t.length] at hi
            exact ⟨ds[i], List.getElem?_eq_getElem hi⟩
          obtain ⟨x', hx2, rx⟩ := t.get hd
          have hx' : xs[i]? = some z := hx'
          rw [hx'] at hx2
          cases hx2
          rcases Nat.lt_or_ge i m with hlt | hge
          · exact en_turn S' hT (rx.mono S'.gr.b) fun σ2 S2 => ht i d2 hlt hd B1 H0 _ _ _ S2 _ fun B3 H3 σ3 S3 => ⟨hlt, B3, S3⟩
          · have e : i = m := by omega
            subst e
            rw [hm] at hd
            cases hd
            refine en_turn S' hT (rx.mono S'.gr.b) fun σ2 S2 => hx B1 H0 _ _ _ S2 _ ?_
            obtain ⟨d', rfl | ⟨e, C, f, rfl⟩⟩ := ho
            · exact fun v B2 H2 g2 r2 => k v B2 H2 (S1.gr.base g2) r2
            · exact fun B2 H2 σ2 dd S2 x2 => k B2 H2 σ2 dd (S2.base S1.gr) x2
        · rw [t.length] at him
          omega
end
section
variable {X : Cx} {W : WX} {k : Nat} {en : List Sl} {e : Expr} {ds : List Da} {ou : Out} {x y : Str} {p q1 q2 p1 p2 tp pos : Pos} {q : Nat} {ss : List Stmt} {j1 j2 m : Nat}
theorem sv_forE (Bx : Bd X W k) (F : Nat → List Sl) (hm0 : X.mg "enumerate" = none) (hg : Gl X "enumerate") (hi : EV X W en e (.ok (.lst ds))) (h0 : F 0 = en) (hgn : GN X [.Name x p1, .Name y p2] [j1, j2])
    (hn : (assignEach [.Name x p1, .Name y p2] X.env).length = 2) (hst : (assignEach [.Name x p1, .Name y p2] X.env).findIdx? (·.1) = none) (hs : starEach [e] X.env = [(false, eval e X.env)])
    (ht : ∀ i d, ds[i]? = some d → SVs X W (((F i).set j1 (.da (.int (i : Nat)))).set j2 (.da d)) ss (.nx (F (i + 1)))) : SV X W en (.For (.Tuple [.Name x p1, .Name y p2] q tp) (.Call (.Name "enumerate" q1) [e] [] q2) ss [] pos) (.nx (F ds.length)) := by
  obtain ⟨t, h1, h2⟩ := hi
  exact ⟨_, ps_for Bx.own Bx.calm (pi_enum hg hm0 (pa_cons h1 pa_nil hs) hs) (pg_tup Bx.calm hgn hn hst) pss_U, st_forE F (ea_cons (W := W) h2 ea_nil) h0 fun i d hd => (ht i d hd).U⟩
theorem sv_forEX {d : Da} (Bx : Bd X W k) (F : Nat → List Sl) (hm0 : X.mg "enumerate" = none) (hg : Gl X "enumerate") (hi : EV X W en e (.ok (.lst ds))) (h0 : F 0 = en) (hgn : GN X [.Name x p1, .Name y p2] [j1, j2])
    (hn : (assignEach [.Name x p1, .Name y p2] X.env).length = 2) (hst : (assignEach [.Name x p1, .Name y p2] X.env).findIdx? (·.1) = none) (hs : starEach [e] X.env = [(false, eval e X.env)])
    (ht : ∀ i d, i < m → ds[i]? = some d → SVs X W (((F i).set j1 (.da (.int (i : Nat)))).set j2 (.da d)) ss (.nx (F (i + 1)))) (hm : ds[m]? = some d) (hx : SVs X W (((F m).set j1 (.da (.int (m : Nat)))).set j2 (.da d)) ss ou) (ho : ∃ d', ou = .rt d' ∨ ∃ e C f, ou = .rx e C f) :
    SV X W en (.For (.Tuple [.Name x p1, .Name y p2] q tp) (.Call (.Name "enumerate" q1) [e] [] q2) ss [] pos) ou := by
  obtain ⟨t, h1, h2⟩ := hi
  exact ⟨_, ps_for Bx.own Bx.calm (pi_enum hg hm0 (pa_cons h1 pa_nil hs) hs) (pg_tup Bx.calm hgn hn hst) pss_U, st_forEX F (ea_cons (W := W) h2 ea_nil) h0 (fun i d hi hd => (ht i d hi hd).U) hm hx.U ho⟩
end
end Sky
namespace Sky
open PySem L2 Evl PySem.Spec PyProof.Rows
/-! ### comprehensions over any walk of data -/
def outs (p : Nat → Bool) (gf : Nat → Da) (n : Nat) : List Da := (List.range n).filterMap fun k => if p k then some (gf k) else none
theorem outs_succ (p : Nat → Bool) (gf : Nat → Da) (n : Nat) : outs p gf (n + 1) = outs p gf n ++ (if p n then [gf n] else []) := by
  unfold outs
  rw [List.range_succ, List.filterMap_append]
  cases h : p n <;> simp [h]
theorem outs_len (p : Nat → Bool) (gf : Nat → Da) (n : Nat) : (outs p gf n).length ≤ n := by
  unfold outs
  have := List.length_filterMap_le (fun k => if p k then some (gf k) else none) (List.range n)
  rwa [List.length_range] at this
/-- walked at en, turn i leaves E i -/
def Wlk (K : PySem.W.Frag) (wi : TI) (g : TG) (vs : List Nat) (en : List Sl) (n : Nat) (E : Nat → List Sl) : Prop :=
  ∀ B0 H0 B H σ, Sd K B0 H0 B H σ en → ∀ R : It → Hp → Prop,
    (∀ J B1 H1 G Y, Gr B H B1 H1 → Walk J n G Y → (∀ B2 H2, Gr B1 H1 B2 H2 → G H2) →
      (∀ B2 H2 i x H3, Gr B1 H1 B2 H2 → Sd K B0 H0 B2 H2 (wipe σ vs) (wipeE en vs) → i < n → Y i H2 x H3 → ∀ Q : L2.St → Hp → Prop, (∀ σ2 B3, Gr B2 H2 B3 H3 → Sd K B0 H0 B3 H3 σ2 (E i) → wipe σ2 vs = wipe σ vs → Q σ2 H3) → g x (wipe σ vs) H3 Q) → R J H1) → wi σ H R
section
variable {K : PySem.W.Frag} {en : List Sl} {wi : TI} {g : TG} {tt : TT} {te tl : TE} {ta : TA} {vs : List Nat} {n : Nat} {E : Nat → List Sl} {p : Nat → Bool} {gf : Nat → Da} {ds es : List Da} {W : WX}
theorem el_lcG (hw : Wlk K wi g vs en n E) (hz : n ≤ 40000) (ht : ∀ i, i < n → ET K tt (E i) (p i)) (he : ∀ i, i < n → p i = true → EX K (fun _ _ _ _ => False) te (E i) (.ok (gf i))) : EL K (tLc wi g tt te vs) en (outs p gf n) := fun B0 H0 B H σ S Q q =>
  hw B0 H0 B H σ S _ fun J B1 H1 G Y g1 wk hG hY => fun D hD => by
    have S1 := S.grow g1
    refine lc_it wk (fun i H' => ∃ B' acc, Gr B1 H1 B' H' ∧ B' D = none ∧ H' D = some (.lst acc) ∧ DrA K B' acc (outs p gf i)) ⟨B1, [], Gr.newO g1.s hD, fresh_back g1.s hD, upd_same, .nil⟩ (fun i H' _ ⟨B', acc, g, _⟩ => hG B' H' g) (fun i x H' H3 hi ⟨B', acc, gg, hB, hH, hA⟩ y => ?_) (fun H' ⟨B', acc, gg, hB, hH, hA⟩ => q D acc B' H' (g1.trans gg) (g1.back hD) hB hH hA)
    refine hY B' H' i x H3 gg ((S1.grow gg).wipe vs) hi y _ fun σ2 B3 g3 S3 ew => ⟨ew, ?_⟩
    refine ht i hi _ _ B3 H3 σ2 S3 _ fun B4 H4 g4 => ?_
    have g34 := g3.trans g4
    have keep : ∀ {B5 H5}, Gr B' H' B5 H5 → H5 D = some (.lst acc) ∧ B5 D = none := fun {B5 H5} z => ⟨z.h _ _ hH, z.n D (by rw [hH]; exact fun z => nomatch z) hB⟩
    cases hp : p i with
    | false =>
      rw [if_neg Bool.false_ne_true]
      refine ⟨B4, acc, gg.trans g34, (keep g34).2, (keep g34).1, ?_⟩
      rw [outs_succ, hp]
      simpa using hA.mono g34.b
    | true =>
      rw [if_pos rfl]
      refine he i hi hp _ _ B4 H4 σ2 (S3.grow g4) _ fun y B5 H5 g5 r5 => ?_
      have g35 := g34.trans g5
      obtain ⟨h5, b5⟩ := keep g35
      refine ⟨acc, h5, ?_, B5, acc ++ [y], ⟨gg.b.trans g35.b, (gg.h.trans g35.h).mut hD, fun a o e => ?_, (gg.trans g35).n, (gg.trans g35).q⟩, b5, upd_same, ?_⟩
      · rw [hA.length]
        have := outs_len p gf i
        exact sz_lt (by omega)
      · rw [upd_ne (ne_of_none e b5)]
        exact g35.s a o e
      · rw [outs_succ, hp]
        exact (hA.mono g35.b).append (.cons r5 .nil)
theorem wlk_list {j : Nat} (h : EX K W tl en (.ok (.lst ds))) : Wlk K (iList K tl) (gName j) [j] en ds.length (fun i => (wipeE en [j]).set j (.da (ds.getD i .non))) := fun B0 H0 B H σ S R k =>
  h _ _ B H σ S _ fun v B1 H1 g1 r1 => by
    cases r1 with
    | @lst a xs _ hq t =>
      refine ⟨a, rfl, ⟨xs, ex_l g1.s hq⟩, k (Itl K a) B1 H1 (fun H => SqL K H a xs) (YAt xs) g1 (by rw [← t.length]; exact walk_list) (fun B2 H2 g => ex_l (g.b.trans g.s) hq) fun B2 H2 i x H3 g S2 hi y Q q => ?_⟩
      obtain ⟨rfl, hx⟩ := y
      obtain ⟨x', hx', rx⟩ := t.get (List.getElem?_eq_getElem hi)
      rw [hx] at hx'
      cases hx'
      have e : ds.getD i .non = ds[i] := by rw [List.getD_eq_getElem?_getD, List.getElem?_eq_getElem hi]; rfl
      refine q _ B2 (Gr.refl g.s) (by show Sd _ _ _ _ _ _ (List.set _ j (.da (ds.getD i .non))); rw [e]; exact S2.set (rx.mono g.b) j) (by simp only [L2.wipe, List.set_set])
theorem wlk_tup {j : Nat} (h : EX K W tl en (.ok (.tup ds))) : Wlk K (iTup K tl) (gName j) [j] en ds.length (fun i => (wipeE en [j]).set j (.da (ds.getD i .non))) := fun B0 H0 B H σ S R k =>
  h _ _ B H σ S _ fun v B1 H1 g1 r1 => by
    cases r1 with
    | @tup a xs _ hq t =>
      refine ⟨a, rfl, ⟨xs, ex_t g1.s hq⟩, k (Itt K a) B1 H1 (fun H => SqT K H a xs) (YAt xs) g1 (by rw [← t.length]; exact walk_tup) (fun B2 H2 g => ex_t (g.b.trans g.s) hq) fun B2 H2 i x H3 g S2 hi y Q q => ?_⟩
      obtain ⟨rfl, hx⟩ := y
      obtain ⟨x', hx', rx⟩ := t.get (List.getElem?_eq_getElem hi)
      rw [hx] at hx'
      cases hx'
      have e : ds.getD i .non = ds[i] := by rw [List.getD_eq_getElem?_getD, List.getElem?_eq_getElem hi]; rfl
      refine q _ B2 (Gr.refl g.s) (by show Sd _ _ _ _ _ _ (List.set _ j (.da (ds.getD i .non))); rw [e]; exact S2.set (rx.mono g.b) j) (by simp only [L2.wipe, List.set_set])
theorem wlk_range {j : Nat} (h : EA K ta en [.int (n : Int)]) (hn : n ≤ 100000) : Wlk K (iRng1 ta) (gName j) [j] en n (fun i => (wipeE en [j]).set j (.da (.int (i : Int)))) := fun B0 H0 B H σ S R k =>
  h _ _ B H σ S _ fun vs B1 H1 g1 r1 => by
    cases r1 with
    | cons r r2 =>
      cases r2
      cases r
      refine ⟨n, rfl, by omega, by omega, ?_⟩
      rw [Int.toNat_natCast]
      refine k (Itr 0 n) B1 H1 (fun _ => True) _ g1 walk_range (fun _ _ _ => trivial) fun B2 H2 i x H3 g S2 hi y Q q => ?_
      obtain ⟨rfl, rfl⟩ := y
      have e0 : (0 : Int) + (i : Int) = (i : Int) := Int.zero_add _
      show gName j (.int ((0 : Int) + (i : Int))) _ _ _
      rw [e0]
      exact q _ B2 (Gr.refl g.s) (S2.set (.int _) j) (by simp only [L2.wipe, List.set_set])
theorem wlk_zip {j1 j2 : Nat} (hj : j1 ≠ j2) (h : EA K ta en [.lst ds, .lst es]) (hl : ds.length = es.length) : Wlk K (iZip K ta) (gTup K 2 (gNames [j1, j2])) [j1, j2] en ds.length (fun i => ((wipeE en [j1, j2]).set j1 (.da (ds.getD i .non))).set j2 (.da (es.getD i .non))) := fun B0 H0 B H σ S R k =>
  h _ _ B H σ S _ fun vs B1 H1 g1 r1 => by
    cases r1 with
    | cons r r2 =>
      cases r2 with
      | cons r2 r3 =>
        cases r3
        cases r with
        | @lst a xs _ hq t =>
          cases r2 with
          | @lst b ys _ hq2 t2 =>
            have l1 := t.length
            have l2 := t2.length
            refine ⟨a, b, xs, ys, rfl, ex_l g1.s hq, ex_l g1.s hq2, k (Itz K a b) B1 H1 (fun H => SqL K H a xs ∧ SqL K H b ys) _ g1 (walk_zip (n := ds.length) (by omega)) (fun B2 H2 g => ⟨ex_l (g.b.trans g.s) hq, ex_l (g.b.trans g.s) hq2⟩) fun B2 H2 i x H3 g S2 hi y Q q => ?_⟩
            obtain ⟨T, x1, x2, rfl, hT, rfl, hx, hy⟩ := y
            have hx : xs[i]? = some x1 := hx
            have hy : ys[i]? = some x2 := hy
            have hi2 : i < es.length := by omega
            obtain ⟨x', hx', rx⟩ := t.get (List.getElem?_eq_getElem hi)
            rw [hx] at hx'
            cases hx'
            obtain ⟨y', hy', ry⟩ := t2.get (List.getElem?_eq_getElem hi2)
            rw [hy] at hy'
            cases hy'
            have e : ds.getD i .non = ds[i] := by rw [List.getD_eq_getElem?_getD, List.getElem?_eq_getElem hi]; rfl
            have e2 : es.getD i .non = es[i] := by rw [List.getD_eq_getElem?_getD, List.getElem?_eq_getElem hi2]; rfl
            have gn := Gr.new (o := .tup [x1, x2]) g.s hT
            refine ⟨_, _, rfl, st_of upd_same, rfl, ?_⟩
            have S3 := S2.grow gn
            refine ⟨_, _, rfl, ?_⟩
            refine ⟨_, _, rfl, rfl, q _ _ gn (by show Sd _ _ _ _ _ _ ((List.set _ j1 (.da (ds.getD i .non))).set j2 (.da (es.getD i .non))); rw [e, e2]; exact (S3.set (rx.mono (g.b.trans gn.b)) j1).set (ry.mono (g.b.trans gn.b)) j2) ?_⟩
            have fin : ∀ (τ : L2.St), (((((τ.set j2 none).set j1 none).set j1 (some x1)).set j2 (some x2)).set j2 none).set j1 none = (τ.set j2 none).set j1 none := fun τ => by
              rw [List.set_set, List.set_set]
              apply List.ext_getElem?
              intro q
              simp only [List.getElem?_set, List.length_set]
              by_cases h1 : j1 = q
              · simp [h1]
              · by_cases h2 : j2 = q
                · simp [h1, h2]
                · simp [h1, h2]
            exact fin σ
end
/-- a comprehension by its reading -/
structure LcB (X : Cx) (en : List Sl) (tg iter elt : Expr) (ifs : List Expr) (scope : Scope) (own : List (Str × Nat)) (out : List Da) : Prop where
  ex : ∃ wi g tt te, PI X tg iter wi ∧ BlkOk X.N X.env.scope scope own ∧ (∀ (s : Shared) (H : Hp) (C : Addr) (cl : List (Str × Addr)) (fp : List Addr), PG (X.blk s H scope (compEnvC scope cl C X.env) fp) tg g) ∧ (∀ (s : Shared) (H : Hp) (C : Addr) (cl : List (Str × Addr)) (fp : List Addr), PTs (X.blk s H scope (compEnvC scope cl C X.env) fp) ifs tt) ∧
    (∀ (s : Shared) (H : Hp) (C : Addr) (cl : List (Str × Addr)) (fp : List Addr), PE (X.blk s H scope (compEnvC scope cl C X.env) fp) elt te) ∧ EL X.K (tLc wi g tt te (own.map (·.2))) en out
section
variable {X : Cx} {W : WX} {k n m : Nat} {en e1 : List Sl} {it it2 elt c a tg : Expr} {ifs : List Expr} {x y : Str} {p p0 q1 q2 pos spos py p1 p2 tp : Pos} {scope : Scope} {own : List (Str × Nat)} {ds es out : List Da} {j j1 j2 : Nat} {gf : Nat → Da} {pp : Nat → Bool}
theorem evl_lcB (Bx : Bd X W k) (L : LcB X en tg it elt ifs scope own out) (hs : ∀ v, foldedSetIterable it X.env v = pure v) : EVL X W en (.ListComp elt [⟨tg, it, ifs, 0⟩] scope pos) out := by
  obtain ⟨wi, g, tt, te, h1, h2, h3, h4, h5, h6⟩ := L
  exact ⟨_, pe_lc Bx.calm Bx.nd h1 h2 h3 h4 h5 hs, h6⟩
/-- name = [..] -/
theorem sv_setLc (Bx : Bd X W k) (L : LcB X en tg it elt ifs scope own out) (hs : ∀ v, foldedSetIterable it X.env v = pure v) (hy : X.N[n]? = some y) (hyl : X.env.scope.names.lookup y = some .local) (hsw : swapsWith (.ListComp elt [⟨tg, it, ifs, 0⟩] scope pos) (some (.Name y py)) spos.line X.env = pure true) (hq : en.set n (.own out) = e1) :
    SV X W en (.Assign [.Name y py] (.ListComp elt [⟨tg, it, ifs, 0⟩] scope pos) spos) (.nx e1) := by
  subst hq
  obtain ⟨wi, g, tt, te, h1, h2, h3, h4, h5, h6⟩ := L
  exact ⟨_, ps_setLc Bx.calm Bx.nd hy hyl hsw h1 h2 h3 h4 h5 hs, st_asgL h6⟩
theorem lcb_mk {wi : TI} {g : TG} {E : Nat → List Sl} (hi : PI X tg it wi) (ok : BlkOk X.N X.env.scope scope own) (hg : ∀ (s : Shared) (H : Hp) (C : Addr) (cl : List (Str × Addr)) (fp : List Addr), PG (X.blk s H scope (compEnvC scope cl C X.env) fp) tg g) (hw : Wlk X.K wi g (own.map (·.2)) en n E) (hz : n ≤ 40000)
    (he : ∀ (s : Shared) (H : Hp) (C : Addr) (cl : List (Str × Addr)) (fp : List Addr) i, i < n → EV (X.blk s H scope (compEnvC scope cl C X.env) fp) (fun _ _ _ _ => False) (E i) elt (.ok (gf i))) : LcB X en tg it elt [] scope own (outs (fun _ => true) gf n) :=
  ⟨wi, g, tYes, fun σ H Q => ∀ (s : Shared) (H_ : Hp) (C : Addr) (cl : List (Str × Addr)) (fp : List Addr), ∃ t, PE (X.blk s H_ scope (compEnvC scope cl C X.env) fp) elt t ∧ t σ H Q, hi, ok, hg, fun _ _ _ _ _ => pts_nil,
    fun s H C cl fp => ⟨fun pins s' σ H' Q I hh => by obtain ⟨t', h3, h4⟩ := hh s H C cl fp; exact h3.run pins s' σ H' Q I h4⟩,
    el_lcG hw hz (fun i hi B0 H0 B H σ S Q k => k B H (Gr.refl S.eb)) (fun i hi _ B0 H0 B H σ S Q ko s H_ C cl fp => by obtain ⟨t', h3, h4⟩ := he s H_ C cl fp i hi; exact ⟨t', h3, h4 B0 H0 B H σ S Q ko⟩)⟩
theorem lcb_if {wi : TI} {g : TG} {E : Nat → List Sl} (hi : PI X tg it wi) (ok : BlkOk X.N X.env.scope scope own) (hg : ∀ (s : Shared) (H : Hp) (C : Addr) (cl : List (Str × Addr)) (fp : List Addr), PG (X.blk s H scope (compEnvC scope cl C X.env) fp) tg g) (hw : Wlk X.K wi g (own.map (·.2)) en n E) (hz : n ≤ 40000)
    (hc : ∀ (s : Shared) (H : Hp) (C : Addr) (cl : List (Str × Addr)) (fp : List Addr) i, i < n → EVT (X.blk s H scope (compEnvC scope cl C X.env) fp) (fun _ _ _ _ => False) (E i) c (pp i))
    (he : ∀ (s : Shared) (H : Hp) (C : Addr) (cl : List (Str × Addr)) (fp : List Addr) i, i < n → pp i = true → EV (X.blk s H scope (compEnvC scope cl C X.env) fp) (fun _ _ _ _ => False) (E i) elt (.ok (gf i))) : LcB X en tg it elt [c] scope own (outs pp gf n) :=
  ⟨wi, g, fun σ H Q => ∀ (s : Shared) (H_ : Hp) (C : Addr) (cl : List (Str × Addr)) (fp : List Addr), ∃ t, PT (X.blk s H_ scope (compEnvC scope cl C X.env) fp) c t ∧ t σ H Q, fun σ H Q => ∀ (s : Shared) (H_ : Hp) (C : Addr) (cl : List (Str × Addr)) (fp : List Addr), ∃ t, PE (X.blk s H_ scope (compEnvC scope cl C X.env) fp) elt t ∧ t σ H Q, hi, ok, hg,
    fun s H C cl fp => pts_one ⟨fun pins s' σ H' Q I hh => by obtain ⟨t', h3, h4⟩ := hh s H C cl fp; exact h3.run pins s' σ H' Q I h4⟩,
    fun s H C cl fp => ⟨fun pins s' σ H' Q I hh => by obtain ⟨t', h3, h4⟩ := hh s H C cl fp; exact h3.run pins s' σ H' Q I h4⟩,
    el_lcG hw hz (fun i hi B0 H0 B H σ S Q ko s H_ C cl fp => by obtain ⟨t', h3, h4⟩ := hc s H_ C cl fp i hi; exact ⟨t', h3, h4 B0 H0 B H σ S Q ko⟩) (fun i hi hp B0 H0 B H σ S Q ko s H_ C cl fp => by obtain ⟨t', h3, h4⟩ := he s H_ C cl fp i hi hp; exact ⟨t', h3, h4 B0 H0 B H σ S Q ko⟩)⟩
end
theorem outs_all {gf : Nat → Da} {n : Nat} {ds : List Da} (h : ds.length = n) (e : ∀ i, i < n → ds[i]? = some (gf i)) : outs (fun _ => true) gf n = ds := by
  unfold outs
  refine List.ext_getElem? fun i => ?_
  have : (List.range n).filterMap (fun k => if (fun _ => true) k = true then some (gf k) else none) = (List.range n).map gf := by
    rw [← List.filterMap_eq_map]
    rfl
  rw [this, List.getElem?_map]
  rcases Nat.lt_or_ge i n with q | q
  · rw [List.getElem?_range q, e i q]
    rfl
  · rw [List.getElem?_eq_none (by rw [List.length_range]; exact q), List.getElem?_eq_none (by omega)]
    rfl
end Sky
namespace Sky
open PySem L2 Evl PySem.Spec PyProof.Rows
section
variable {X : Cx} {W : WX} {k n m : Nat} {en e1 : List Sl} {it elt c a a2 : Expr} {x y x2 : Str} {p p0 q1 q2 pos spos py p1 p2 tp : Pos} {q : Nat} {scope : Scope} {ds es out : List Da} {j j2 : Nat} {gf : Nat → Da} {pp : Nat → Bool}
abbrev BlkPG (X : Cx) (scope : Scope) (tg : Expr) (g : TG) : Prop := ∀ (s : Shared) (H : Hp) (C : Addr) (cl : List (Str × Addr)) (fp : List Addr), PG (X.blk s H scope (compEnvC scope cl C X.env) fp) tg g
abbrev BlkEV (X : Cx) (scope : Scope) (n : Nat) (pp : Nat → Bool) (E : Nat → List Sl) (elt : Expr) (gf : Nat → Da) : Prop := ∀ (s : Shared) (H : Hp) (C : Addr) (cl : List (Str × Addr)) (fp : List Addr) i, i < n → pp i = true → EV (X.blk s H scope (compEnvC scope cl C X.env) fp) (fun _ _ _ _ => False) (E i) elt (.ok (gf i))
abbrev BlkEVT (X : Cx) (scope : Scope) (n : Nat) (E : Nat → List Sl) (c : Expr) (pp : Nat → Bool) : Prop := ∀ (s : Shared) (H : Hp) (C : Addr) (cl : List (Str × Addr)) (fp : List Addr) i, i < n → EVT (X.blk s H scope (compEnvC scope cl C X.env) fp) (fun _ _ _ _ => False) (E i) c (pp i)
/-- [elt for x in range(a)] -/
theorem lcb_range (ha : EVA X W en [a] [.int (n : Int)]) (hn : n ≤ 40000) (hm : X.mg "range" = none) (hg : Gl X "range") (hst : starEach [a] X.env = [(false, eval a X.env)]) (ok : BlkOk X.N X.env.scope scope [(x, j)]) (hp : BlkPG X scope (.Name x p0) (gName j))
    (he : BlkEV X scope n (fun _ => true) (fun i => (wipeE en [j]).set j (.da (.int (i : Int)))) elt gf) : LcB X en (.Name x p0) (.Call (.Name "range" q1) [a] [] q2) elt [] scope [(x, j)] (outs (fun _ => true) gf n) := by
  obtain ⟨t, h1, h2⟩ := ha
  exact lcb_mk (pi_range1 hg hm h1 hst) ok hp (wlk_range h2 (by omega)) hn fun s H C cl fp i hi => he s H C cl fp i hi rfl
/-- [elt for x in xs] -/
theorem lcb_list (hi : EV X W en it (.ok (.lst ds))) (hn : ds.length ≤ 40000) (ok : BlkOk X.N X.env.scope scope [(x, j)]) (hp : BlkPG X scope (.Name x p0) (gName j))
    (he : BlkEV X scope ds.length (fun _ => true) (fun i => (wipeE en [j]).set j (.da (ds.getD i .non))) elt gf) : LcB X en (.Name x p0) it elt [] scope [(x, j)] (outs (fun _ => true) gf ds.length) := by
  obtain ⟨t, h1, h2⟩ := hi
  exact lcb_mk (pi_list h1) ok hp (wlk_list h2) hn fun s H C cl fp i hi => he s H C cl fp i hi rfl
theorem lcb_listIf (hi : EV X W en it (.ok (.lst ds))) (hn : ds.length ≤ 40000) (ok : BlkOk X.N X.env.scope scope [(x, j)]) (hp : BlkPG X scope (.Name x p0) (gName j))
    (hc : BlkEVT X scope ds.length (fun i => (wipeE en [j]).set j (.da (ds.getD i .non))) c pp) (he : BlkEV X scope ds.length pp (fun i => (wipeE en [j]).set j (.da (ds.getD i .non))) elt gf) : LcB X en (.Name x p0) it elt [c] scope [(x, j)] (outs pp gf ds.length) := by
  obtain ⟨t, h1, h2⟩ := hi
  exact lcb_if (pi_list h1) ok hp (wlk_list h2) hn hc he
theorem lcb_tupIf (hi : EV X W en it (.ok (.tup ds))) (hn : ds.length ≤ 40000) (ok : BlkOk X.N X.env.scope scope [(x, j)]) (hp : BlkPG X scope (.Name x p0) (gName j))
    (hc : BlkEVT X scope ds.length (fun i => (wipeE en [j]).set j (.da (ds.getD i .non))) c pp) (he : BlkEV X scope ds.length pp (fun i => (wipeE en [j]).set j (.da (ds.getD i .non))) elt gf) : LcB X en (.Name x p0) it elt [c] scope [(x, j)] (outs pp gf ds.length) := by
  obtain ⟨t, h1, h2⟩ := hi
  exact lcb_if (pi_tup h1) ok hp (wlk_tup h2) hn hc he
/-- [elt for x, x2 in zip(a, a2)] -/
theorem lcb_zip (hj : j ≠ j2) (ha : EVA X W en [a, a2] [.lst ds, .lst es]) (hl : ds.length = es.length) (hn : ds.length ≤ 40000) (hm : X.mg "zip" = none) (hg : Gl X "zip") (hst : starEach [a, a2] X.env = (false, eval a X.env) :: starEach [a2] X.env) (hpl : (backTo q2 (starEach [a2] X.env)).any (·.1) = false) (ok : BlkOk X.N X.env.scope scope [(x, j), (x2, j2)])
    (hp : BlkPG X scope (.Tuple [.Name x p1, .Name x2 p2] q tp) (gTup X.K 2 (gNames [j, j2])))
    (he : BlkEV X scope ds.length (fun _ => true) (fun i => ((wipeE en [j, j2]).set j (.da (ds.getD i .non))).set j2 (.da (es.getD i .non))) elt gf) : LcB X en (.Tuple [.Name x p1, .Name x2 p2] q tp) (.Call (.Name "zip" q1) [a, a2] [] q2) elt [] scope [(x, j), (x2, j2)] (outs (fun _ => true) gf ds.length) := by
  obtain ⟨t, h1, h2⟩ := ha
  exact lcb_mk (pi_zip hg hm h1 hst hpl) ok hp (wlk_zip hj h2 hl) hn fun s H C cl fp i hi => he s H C cl fp i hi rfl
end
end Sky
namespace Sky
open PySem L2 Evl PySem.Spec PyProof.Rows PySem.W
/-! ### two figures -/
def two (i : Int) : Str := ⟨#[48 + (i / 10).toNat, 48 + (i % 10).toNat]⟩
def sp02 : Str := "02d"
abbrev M02 (i : Int) : Prop := ∀ t u : Tok, Meets (Builtin.«int.__format__» ⟨[.int i t, .str sp02 u], []⟩) (fun _ R s => ∀ t' k, R (.ok (.ret (.str (two i) t'))) { s with toks := k })
set_option maxHeartbeats 0 in
theorem m02_0 : M02 0 := fun _ => by kxf_run_i
set_option maxHeartbeats 0 in
theorem m02_1 : M02 1 := fun _ => by kxf_run_i
set_option maxHeartbeats 0 in
theorem m02_2 : M02 2 := fun _ => by kxf_run_i
set_option maxHeartbeats 0 in
theorem m02_3 : M02 3 := fun _ => by kxf_run_i
set_option maxHeartbeats 0 in
theorem m02_4 : M02 4 := fun _ => by kxf_run_i
set_option maxHeartbeats 0 in
theorem m02_5 : M02 5 := fun _ => by kxf_run_i
set_option maxHeartbeats 0 in
theorem m02_6 : M02 6 := fun _ => by kxf_run_i
set_option maxHeartbeats 0 in
theorem m02_7 : M02 7 := fun _ => by kxf_run_i
set_option maxHeartbeats 0 in
theorem m02_8 : M02 8 := fun _ => by kxf_run_i
set_option maxHeartbeats 0 in
theorem m02_9 : M02 9 := fun _ => by kxf_run_i
set_option maxHeartbeats 0 in
theorem m02_10 : M02 10 := fun _ => by kxf_run_i
set_option maxHeartbeats 0 in
theorem m02_11 : M02 11 := fun _ => by kxf_run_i
set_option maxHeartbeats 0 in
theorem m02_12 : M02 12 := fun _ => by kxf_run_i
set_option maxHeartbeats 0 in
theorem m02_13 : M02 13 := fun _ => by kxf_run_i
set_option maxHeartbeats 0 in
theorem m02_14 : M02 14 := fun _ => by kxf_run_i
set_option maxHeartbeats 0 in
theorem m02_15 : M02 15 := fun _ => by kxf_run_i
set_option maxHeartbeats 0 in
theorem m02_16 : M02 16 := fun _ => by kxf_run_i
set_option maxHeartbeats 0 in
theorem m02_17 : M02 17 := fun _ => by kxf_run_i
set_option maxHeartbeats 0 in
theorem m02_18 : M02 18 := fun _ => by kxf_run_i
set_option maxHeartbeats 0 in
theorem m02_19 : M02 19 := fun _ => by kxf_run_i
set_option maxHeartbeats 0 in
theorem m02_20 : M02 20 := fun _ => by kxf_run_i
set_option maxHeartbeats 0 in
theorem m02_21 : M02 21 := fun _ => by kxf_run_i
set_option maxHeartbeats 0 in
theorem m02_22 : M02 22 := fun _ => by kxf_run_i
set_option maxHeartbeats 0 in
theorem m02_23 : M02 23 := fun _ => by kxf_run_i
set_option maxHeartbeats 0 in
theorem m02_24 : M02 24 := fun _ => by kxf_run_i
set_option maxHeartbeats 0 in
theorem m02_25 : M02 25 := fun _ => by kxf_run_i
set_option maxHeartbeats 0 in
theorem m02_26 : M02 26 := fun _ => by kxf_run_i
set_option maxHeartbeats 0 in
theorem m02_27 : M02 27 := fun _ => by kxf_run_i
set_option maxHeartbeats 0 in
theorem m02_28 : M02 28 := fun _ => by kxf_run_i
set_option maxHeartbeats 0 in
theorem m02_29 : M02 29 := fun _ => by kxf_run_i
set_option maxHeartbeats 0 in
theorem m02_30 : M02 30 := fun _ => by kxf_run_i
set_option maxHeartbeats 0 in
theorem m02_31 : M02 31 := fun _ => by kxf_run_i
set_option maxHeartbeats 0 in
theorem m02_32 : M02 32 := fun _ => by kxf_run_i
set_option maxHeartbeats 0 in
theorem m02_33 : M02 33 := fun _ => by kxf_run_i
set_option maxHeartbeats 0 in
theorem m02_34 : M02 34 := fun _ => by kxf_run_i
set_option maxHeartbeats 0 in
theorem m02_35 : M02 35 := fun _ => by kxf_run_i
set_option maxHeartbeats 0 in
theorem m02_36 : M02 36 := fun _ => by kxf_run_i
set_option maxHeartbeats 0 in
theorem m02_37 : M02 37 := fun _ => by kxf_run_i
set_option maxHeartbeats 0 in
theorem m02_38 : M02 38 := fun _ => by kxf_run_i
set_option maxHeartbeats 0 in
theorem m02_39 : M02 39 := fun _ => by kxf_run_i
set_option maxHeartbeats 0 in
theorem m02_40 : M02 40 := fun _ => by kxf_run_i
set_option maxHeartbeats 0 in
theorem m02_41 : M02 41 := fun _ => by kxf_run_i
set_option maxHeartbeats 0 in
theorem m02_42 : M02 42 := fun _ => by kxf_run_i
set_option maxHeartbeats 0 in
theorem m02_43 : M02 43 := fun _ => by kxf_run_i
set_option maxHeartbeats 0 in
theorem m02_44 : M02 44 := fun _ => by kxf_run_i
set_option maxHeartbeats 0 in
theorem m02_45 : M02 45 := fun _ => by kxf_run_i
set_option maxHeartbeats 0 in
theorem m02_46 : M02 46 := fun _ => by kxf_run_i
set_option maxHeartbeats 0 in
theorem m02_47 : M02 47 := fun _ => by kxf_run_i
set_option maxHeartbeats 0 in
theorem m02_48 : M02 48 := fun _ => by kxf_run_i
set_option maxHeartbeats 0 in
theorem m02_49 : M02 49 := fun _ => by kxf_run_i
set_option maxHeartbeats 0 in
theorem m02_50 : M02 50 := fun _ => by kxf_run_i
set_option maxHeartbeats 0 in
theorem m02_51 : M02 51 := fun _ => by kxf_run_i
set_option maxHeartbeats 0 in
theorem m02_52 : M02 52 := fun _ => by kxf_run_i
set_option maxHeartbeats 0 in
theorem m02_53 : M02 53 := fun _ => by kxf_run_i
set_option maxHeartbeats 0 in
theorem m02_54 : M02 54 := fun _ => by kxf_run_i
set_option maxHeartbeats 0 in
theorem m02_55 : M02 55 := fun _ => by kxf_run_i
set_option maxHeartbeats 0 in
theorem m02_56 : M02 56 := fun _ => by kxf_run_i
set_option maxHeartbeats 0 in
theorem m02_57 : M02 57 := fun _ => by kxf_run_i
set_option maxHeartbeats 0 in
theorem m02_58 : M02 58 := fun _ => by kxf_run_i
set_option maxHeartbeats 0 in
theorem m02_59 : M02 59 := fun _ => by kxf_run_i
theorem m02 : ∀ n : Nat, n < 60 → M02 (n : Int)
  | 0, _ => m02_0
  | 1, _ => m02_1
  | 2, _ => m02_2
  | 3, _ => m02_3
  | 4, _ => m02_4
  | 5, _ => m02_5
  | 6, _ => m02_6
  | 7, _ => m02_7
  | 8, _ => m02_8
  | 9, _ => m02_9
  | 10, _ => m02_10
  | 11, _ => m02_11
  | 12, _ => m02_12
  | 13, _ => m02_13
  | 14, _ => m02_14
  | 15, _ => m02_15
  | 16, _ => m02_16
  | 17, _ => m02_17
  | 18, _ => m02_18
  | 19, _ => m02_19
  | 20, _ => m02_20
  | 21, _ => m02_21
  | 22, _ => m02_22
  | 23, _ => m02_23
  | 24, _ => m02_24
  | 25, _ => m02_25
  | 26, _ => m02_26
  | 27, _ => m02_27
  | 28, _ => m02_28
  | 29, _ => m02_29
  | 30, _ => m02_30
  | 31, _ => m02_31
  | 32, _ => m02_32
  | 33, _ => m02_33
  | 34, _ => m02_34
  | 35, _ => m02_35
  | 36, _ => m02_36
  | 37, _ => m02_37
  | 38, _ => m02_38
  | 39, _ => m02_39
  | 40, _ => m02_40
  | 41, _ => m02_41
  | 42, _ => m02_42
  | 43, _ => m02_43
  | 44, _ => m02_44
  | 45, _ => m02_45
  | 46, _ => m02_46
  | 47, _ => m02_47
  | 48, _ => m02_48
  | 49, _ => m02_49
  | 50, _ => m02_50
  | 51, _ => m02_51
  | 52, _ => m02_52
  | 53, _ => m02_53
  | 54, _ => m02_54
  | 55, _ => m02_55
  | 56, _ => m02_56
  | 57, _ => m02_57
  | 58, _ => m02_58
  | 59, _ => m02_59
  | n + 60, h => absurd h (by omega)
theorem m02i {i : Int} (h0 : 0 ≤ i) (h1 : i < 60) : M02 i := by
  have := m02 i.toNat (by omega)
  rwa [Int.toNat_of_nonneg h0] at this
end Sky
namespace Sky
open PySem L2 Evl PySem.Spec PyProof.Rows PySem.W
/-- the rule of the field .. with its two figures -/
def tF02 (te : TE) : TE := fun σ H Q => te σ H fun x H1 => ∃ i : Int, x = .int i ∧ 0 ≤ i ∧ i < 60 ∧ Q (.str (two i)) H1
section
variable {X : Cx} {W : WX} {k n : Nat} {en e1 : List Sl} {e a b c o : Expr} {es : List Expr} {q : Nat} {p1 p2 p3 p4 pos apos p : Pos} {i j m : Int} {z y : Str} {ds es' : List Da} {d : Da} {x : Str} {u v : Bool}
theorem pe_f02 {te : TE} (he : PE X e te) : PE X (.JoinedStr [.FormattedValue e (-1) (some (.JoinedStr [.Constant (.str "02d") q p1] p2)) p3] p4) (tF02 te) := by
  refine ⟨fun pins s σ H Q I h => ?_⟩
  refine wpAny_JoinedStr_one (wpAny_FormattedValue_spec (thn (he.run pins s σ H _ I h) fun v s1 hv => ?_))
  obtain ⟨x, H1, I1, r1, i, rfl, h0, h1, q⟩ := hv
  obtain ⟨t, rfl⟩ := r1
  refine thn ((pe_joined1 (pe_str (X := X) (x := "02d"))).run pins s1 σ H1 (fun y H2 => y = .str sp02 ∧ H2 = H1) I1 ⟨rfl, rfl⟩) fun w s2 hw => ?_
  obtain ⟨y, H2, I2, r2, rfl, rfl⟩ := hw
  obtain ⟨t2, rfl⟩ := r2
  refine ⟨sp02, t2, rfl, KXf.field_int (spec' := sp02) rfl (by decide +kernel) (by decide +kernel) (m02i h0 h1 t) fun t' k => ?_⟩
  exact ⟨.str (two i), H2, I2.tok _, ⟨_, rfl⟩, q⟩
theorem ev_f02 (he : EV X W en e (.ok (.int i))) (h0 : 0 ≤ i) (h1 : i < 60) : EV X W en (.JoinedStr [.FormattedValue e (-1) (some (.JoinedStr [.Constant (.str "02d") q p1] p2)) p3] p4) (.ok (.str (two i))) := by
  obtain ⟨t, a1, a2⟩ := he
  refine ⟨_, pe_f02 a1, fun _ _ B H σ S Q k => a2 _ _ B H σ S _ fun x B1 H1 g r => ?_⟩
  cases r
  exact ⟨i, rfl, h0, h1, k _ B1 H1 g (.str _)⟩
theorem DrA.strs {K : PySem.W.Frag} {B : Hp} : ∀ {ys : List Str} {vs : List V}, DrA K B vs (ys.map Da.str) → vs = ys.map V.str
  | [], _, .nil => rfl
  | y :: r, _, .cons h t => by
    cases h
    rw [DrA.strs t]
    rfl
theorem DrA.ofStrs {K : PySem.W.Frag} {B : Hp} : ∀ {ys : List Str}, DrA K B (ys.map V.str) (ys.map Da.str)
  | [] => .nil
  | y :: r => .cons (.str y) (DrA.ofStrs (ys := r))
/-- sep.join(texts) -/
theorem ev_join {ys : List Str} (ho : EV X W en o (.ok (.str z))) (he : EV X W en e (.ok (.lst (ys.map .str)))) (hz : (ys.map (·.length)).sum + ys.length * z.length ≤ 16777216) (hs : starEach [e] X.env = [(false, eval e X.env)]) (hb : attributeBase o "join" X.env (eval o X.env) = eval o X.env) (hl : (apos.endLine == pos.line) = true) :
    EV X W en (.Call (.Attribute o "join" apos) [e] [] pos) (.ok (.str (Txt.join z ys))) := by
  obtain ⟨t, a1, a2⟩ := ho
  obtain ⟨t', b1, b2⟩ := he
  refine ⟨_, pe_join a1 b1 hs hb hl, fun _ _ B H σ S Q k => a2 _ _ B H σ S _ fun x B1 H1 g r => ?_⟩
  cases r
  refine ⟨⟨z, rfl⟩, b2 _ _ B1 H1 σ (S.grow g) _ fun v B2 H2 g2 r2 => ?_⟩
  cases r2 with
  | lst h t =>
    have := DrA.strs t
    subst this
    exact ⟨z, _, ys, rfl, rfl, .inl (ex_l g2.s h), hz, k _ B2 H2 (g.trans g2) (.str _)⟩
theorem rv_addS (hz : y.length + z.length ≤ 16777216) {K : PySem.W.Frag} : RV K (fun x y H Q => ∃ i j, x = .str i ∧ y = .str j ∧ i.length + j.length ≤ sizeLine ∧ Q (.str (i ++ j)) H) (.str y) (.str z) (.str (y ++ z)) := fun B H x y e h1 h2 Q k => by
  cases h1; cases h2
  exact ⟨_, _, rfl, rfl, hz, k _ B H (Gr.refl e) (.str _)⟩
theorem ev_addS (ha : EV X W en a (.ok (.str y))) (hb : EV X W en b (.ok (.str z))) (hz : y.length + z.length ≤ 16777216) : EV X W en (.BinOp a .Add b pos) (.ok (.str (y ++ z))) := by
  obtain ⟨te, h1, h2⟩ := ha
  obtain ⟨tr, h3, h4⟩ := hb
  exact ⟨_, pe_op op_add_str h1 h3, ex_op h2 h4 (rv_addS hz)⟩
/-- a <= b <= c -/
theorem ev_le2 (ha : EV X W en a (.ok (.int i))) (hb : EV X W en b (.ok (.int j))) (hc : EV X W en c (.ok (.int m))) (hm : lastMarks [.LtE, .LtE] [b, c] = false) : EV X W en (.Compare a [.LtE, .LtE] [b, c] pos) (.ok (.bl (decide (i ≤ j) && decide (j ≤ m)))) := by
  obtain ⟨ta, a1, a2⟩ := ha
  obtain ⟨tb, b1, b2⟩ := hb
  obtain ⟨tc, c1, c2⟩ := hc
  refine ⟨_, pe_chain op_le op_le a1 b1 c1 hm, fun _ _ B H σ S Q k => a2 _ _ B H σ S _ fun x B1 H1 g1 r1 => b2 _ _ B1 H1 σ (S.grow g1) _ fun y B2 H2 g2 r2 => ?_⟩
  cases r1; cases r2
  refine ⟨i, j, rfl, rfl, _, rfl, ?_⟩
  cases q : decide (i ≤ j) with
  | false =>
    rw [if_neg Bool.false_ne_true]
    rw [q] at k
    exact k _ B2 H2 (g1.trans g2) (.bl _)
  | true =>
    rw [if_pos rfl]
    rw [q] at k
    refine c2 _ _ B2 H2 σ (S.grow (g1.trans g2)) _ fun z B3 H3 g3 r3 => ?_
    cases r3
    exact ⟨j, m, rfl, rfl, k _ B3 H3 ((g1.trans g2).trans g3) (.bl _)⟩
theorem rc_divmod {K : PySem.W.Frag} (h : CDivP i j) : RC K (fun xs H Q => ∃ i j, xs = [.int i, .int j] ∧ CDivP i j ∧ ∀ p, H p = none → Q (.ref p) (upd H p (.tup [.int (i / j), .int (i % j)]))) [.int i, .int j] (.tup [.int (i / j), .int (i % j)]) := fun B H vs e hA Q k => by
  cases hA with
  | cons h1 t =>
    cases t with
    | cons h2 t =>
      cases t; cases h1; cases h2
      exact ⟨i, j, rfl, h, fun p hp => k _ _ _ (Gr.new e hp) (.tup (st_of upd_same) (.cons (.int _) (.cons (.int _) .nil)))⟩
/-- lists laid end to end -/
def rCatL (K : PySem.W.Frag) : R2 := fun x y H Q => ∃ l b xs zs, x = .ref l ∧ y = .ref b ∧ SqL K H l xs ∧ SqL K H b zs ∧ xs.length + zs.length ≤ sizeLine ∧ ∀ p, H p = none → Q (.ref p) (upd H p (.lst (xs ++ zs)))
theorem op_catL : OpR X (binaryOp .Add) (rCatL X.K) := by
  intro pins s σ H x y v u Q I rx ry h
  obtain ⟨l, b, xs, zs, rfl, rfl, hH, hB, hz, q⟩ := h
  cases rx
  cases ry
  obtain ⟨its, r, ⟨⟨cls, dd, data, sl⟩, n, ho, hc, hdn, hd⟩, _⟩ := I.list hH
  obtain ⟨its2, r2, ⟨⟨cls2, dd2, data2, sl2⟩, n2, ho2, hc2, hdn2, hd2⟩, _⟩ := I.list hB
  simp only at hc hd hc2 hd2
  subst hc hd hc2 hd2
  have ea : its.toArray ++ its2.toArray = (its ++ its2).toArray := by simp
  have z1 := r.length
  have z2 := r2.length
  refine concat_meets ⟨_, ho, rfl⟩ ⟨_, ho2, rfl⟩ noFill_list_add seq_list_add PySem.F.slot_list_add PySem.F.entry_list_add (PySem.F.args_list_add_2 _ _) (list_addW l b its.toArray its2.toArray n n2 dd dd2 sl sl2 ?_) ⟨ho, ho2, ?_⟩
  · rw [List.size_toArray, List.size_toArray]; omega
  · rw [ea]
    exact ⟨.ref _, _, I.lnew (t' := s.toks) (r.append r2) (by rw [List.length_append]; omega), rfl, q _ I.fresh⟩
theorem evl_cat (ha : EV X W en a (.ok (.lst ds))) (hb : EV X W en b (.ok (.lst es'))) (hz : ds.length + es'.length ≤ 100000) : EVL X W en (.BinOp a .Add b pos) (ds ++ es') := by
  obtain ⟨te, h1, h2⟩ := ha
  obtain ⟨tr, h3, h4⟩ := hb
  refine ⟨_, pe_op op_catL h1 h3, fun _ _ B H σ S Q k => h2 _ _ B H σ S _ fun x B1 H1 g1 r1 => h4 _ _ B1 H1 σ (S.grow g1) _ fun y B2 H2 g2 r2 => ?_⟩
  cases r1 with
  | lst hq t =>
    cases r2 with
    | lst hq2 t2 =>
      have g := g1.trans g2
      exact ⟨_, _, _, _, rfl, rfl, ex_l (g2.b.trans g2.s) hq, ex_l g2.s hq2, by rw [t.length, t2.length]; exact sz_of hz, fun p hp => k p _ B2 _ (g.trans (Gr.newO g2.s hp)) (g.back hp) (fresh_back g2.s hp) upd_same ((t.mono g2.b).append t2)⟩
/-- an own list is turned about -/
theorem st_rev {i : Nat} (he : en[i]? = some (.own ds)) {K : PySem.W.Frag} {W : WX} : ST K W (tDrop (tBM K "list" rReverse (tVar i) tNil)) en (.nx (en.set i (.own ds.reverse))) := fun B0 H0 B H σ S D k => by
  obtain ⟨p, vs, e1, _, _, e2, t⟩ := S.ownAt he
  refine ⟨_, e1, Or.inl ⟨rfl, vs, sq_of e2⟩, ⟨p, vs, rfl, rfl, e2, k B _ σ (S.mut he e1 t.rev)⟩⟩
theorem sv_rev {n : Nat} {l : Str} {pos' : Pos} (hN : X.N.idxOf? l = some n) (hv : Vis X.env.scope l) (ho : en[n]? = some (.own ds)) (hN2 : X.N[n]? = some l) (hd : (l == ("__debug__" : Str)) = false) (hc : (l == ("__classdict__" : Str)) = false)
    (q : PE X (.Call (.Attribute (.Name l p) "reverse" apos) [] [] pos) (tBM X.K "list" rReverse (tVar n) tNil))
    (hs : swapsWith (.Call (.Attribute (.Name l p) "reverse" apos) [] [] pos) none pos'.line X.env = pure false) (hq : en.set n (.own ds.reverse) = e1) : SV X W en (.Expr (.Call (.Attribute (.Name l p) "reverse" apos) [] [] pos) pos') (.nx e1) := by
  subst hq
  exact ⟨_, ps_expr q hs, st_rev ho⟩
/-- a sign of a text, its place known -/
theorem rv_ixS {K : PySem.W.Frag} {c : Nat} (hz : z.length ≤ 16777216) (h : atI z.cps.toList i = some c) : RV K rIxS (.str z) (.int i) (.str ⟨#[c]⟩) := fun B H x y e h1 h2 Q k => by
  cases h1; cases h2
  exact ⟨z, i, c, rfl, rfl, hz, h, k _ B H (Gr.refl e) (.str _)⟩
theorem ev_ixS {c : Nat} (ha : EV X W en a (.ok (.str z))) (hb : EV X W en b (.ok (.int i))) (hp : PlainIx b) (hz : z.length ≤ 16777216) (h : atI z.cps.toList i = some c) : EV X W en (.Subscript a b pos) (.ok (.str ⟨#[c]⟩)) := by
  obtain ⟨te, h1, h2⟩ := ha
  obtain ⟨tr, h3, h4⟩ := hb
  exact ⟨_, pe_ix ix_str h1 h3 hp, ex_op h2 h4 (rv_ixS hz h)⟩
/-- a sign in a text -/
theorem ev_inS {c : Nat} (ha : EV X W en a (.ok (.str ⟨#[c]⟩))) (hb : EV X W en b (.ok (.str z))) (hm : behindInMarks .In b = false) : EV X W en (.Compare a [.In] [b] pos) (.ok (.bl (decide (c ∈ z.cps.toList)))) := ev_cmp op_in_sign ha hb (fun B H x y e h1 h2 Q k => by
  cases h1; cases h2
  exact ⟨c, z, rfl, rfl, k _ B H (Gr.refl e) (.bl _)⟩) hm
/-- split and partition by a sign -/
theorem evl_split (ho : EV X W en o (.ok (.str y))) (he : EV X W en e (.ok (.str z))) (hz : (z.length == 0) = false) (hy : y.length + 2 ≤ 16777216) (hs : starEach [e] X.env = [(false, eval e X.env)]) (hb : attributeBase o "split" X.env (eval o X.env) = eval o X.env) (hl : (apos.endLine == pos.line) = true) :
    EVL X W en (.Call (.Attribute o "split" apos) [e] [] pos) ((Txt.split y z).map .str) := by
  obtain ⟨t, a1, a2⟩ := ho
  obtain ⟨t', b1, b2⟩ := he
  refine ⟨_, pe_split a1 b1 hs hb hl, fun _ _ B H σ S Q k => a2 _ _ B H σ S _ fun x B1 H1 g r => ?_⟩
  cases r
  refine ⟨⟨y, rfl⟩, b2 _ _ B1 H1 σ (S.grow g) _ fun v B2 H2 g2 r2 => ?_⟩
  cases r2
  have g3 := g.trans g2
  exact ⟨y, z, rfl, rfl, hz, hy, fun p hp => k p _ B2 _ (g3.trans (Gr.newO g2.s hp)) (g3.back hp) (fresh_back g2.s hp) upd_same DrA.ofStrs⟩
theorem ev_part (ho : EV X W en o (.ok (.str y))) (he : EV X W en e (.ok (.str z))) (hz : (z.length == 0) = false) (hy : y.length ≤ 16777216) (hs : starEach [e] X.env = [(false, eval e X.env)]) (hb : attributeBase o "partition" X.env (eval o X.env) = eval o X.env) (hl : (apos.endLine == pos.line) = true) :
    EV X W en (.Call (.Attribute o "partition" apos) [e] [] pos) (.ok (.tup [.str (Txt.partition y z).1, .str (Txt.partition y z).2.1, .str (Txt.partition y z).2.2])) := by
  obtain ⟨t, a1, a2⟩ := ho
  obtain ⟨t', b1, b2⟩ := he
  refine ⟨_, pe_partition a1 b1 hs hb hl, fun _ _ B H σ S Q k => a2 _ _ B H σ S _ fun x B1 H1 g r => ?_⟩
  cases r
  refine ⟨⟨y, rfl⟩, b2 _ _ B1 H1 σ (S.grow g) _ fun v B2 H2 g2 r2 => ?_⟩
  cases r2
  have g3 := g.trans g2
  exact ⟨y, z, rfl, rfl, hz, hy, fun p hp => k _ _ _ (g3.trans (Gr.new g2.s hp)) (.tup (st_of upd_same) (.cons (.str _) (.cons (.str _) (.cons (.str _) .nil))))⟩
theorem rc_intS {K : PySem.W.Frag} (h : PySem.intText? z = some i) (hz : z.length ≤ 640) : RC K (fun xs H Q => ∃ a n, xs = [.str a] ∧ PySem.intText? a = some n ∧ a.length ≤ 640 ∧ Q (.int n) H) [.str z] (.int i) := fun B H vs e hA Q k => by
  cases hA with
  | cons h1 t =>
    cases t; cases h1
    exact ⟨z, i, rfl, h, hz, k _ B H (Gr.refl e) (.int _)⟩
end
end Sky
namespace Sky
open PySem L2 Evl PySem.Spec PyProof.Rows
/-! ### for x, y, z in zip(a, b, c): three lists -/
def ItzT (K : PySem.W.Frag) (a b c : Addr) : It :=
  ⟨fun i H => ∃ (xs ys zs : List V) (x y z : V), SqL K H a xs ∧ SqL K H b ys ∧ SqL K H c zs ∧ xs[i]? = some x ∧ ys[i]? = some y ∧ zs[i]? = some z,
    fun i H v H' => ∃ T x y z, v = .ref T ∧ H T = none ∧ H' = upd H T (.tup [x, y, z]) ∧ (∀ xs, SqL K H a xs → xs[i]? = some x) ∧ (∀ ys, SqL K H b ys → ys[i]? = some y) ∧ ∀ zs, SqL K H c zs → zs[i]? = some z,
    fun i H => ∃ xs ys zs : List V, SqL K H a xs ∧ SqL K H b ys ∧ SqL K H c zs ∧ xs.length = i ∧ ys.length = i ∧ zs.length = i⟩
theorem turn_zipT {P : Program} {w : World} {K : PySem.W.Frag} {elts : List Expr} {kk : Nat} {tpos : Pos} {a b c z TI TO i1 i2 i3 : Addr} (D : ZipSep3 z TI TO i1 i2 i3 [i1, a] [i2, b] [i3, c]) (ha : a ≠ i1) (hb : b ≠ i2) (hc' : c ≠ i3) :
    Turn P w K (.Tuple elts kk tpos) (ItzT K a b c) [z, TI, TO, i1, i2, i3] z (fun i h => IsZip h z TI TO .none ∧ IsTupOf3 h TI (.ref i1) (.ref i2) (.ref i3) ∧ (∃ x y z, IsTupOf3 h TO x y z) ∧ h.IsListIter i1 a i ∧ h.IsListIter i2 b i ∧ h.IsListIter i3 c i) where
  mem := by simp
  obj := fun i h st c hc => by
    obtain ⟨hz, hTI, ⟨x, y, u, hTO⟩, ⟨o1, e1, _, d1⟩, ⟨o2, e2, _, d2⟩, ⟨o3, e3, _, d3⟩⟩ := st
    have e' : c = z ∨ c = TI ∨ c = TO ∨ c = i1 ∨ c = i2 ∨ c = i3 := by simpa using hc
    rcases e' with q | q | q | q | q | q
    · rw [q]; exact ⟨_, hz, fun v q => nomatch q⟩
    · rw [q]; exact ⟨_, hTI, fun v q => nomatch q⟩
    · rw [q]; exact ⟨_, hTO, fun v q => nomatch q⟩
    · rw [q]; exact ⟨o1, e1, fun v q => by rw [d1] at q; cases q⟩
    · rw [q]; exact ⟨o2, e2, fun v q => by rw [d2] at q; cases q⟩
    · rw [q]; exact ⟨o3, e3, fun v q => by rw [d3] at q; cases q⟩
  keep := fun i h h' st k => by
    obtain ⟨hz, hTI, ⟨x, y, u, hTO⟩, h1, h2, h3⟩ := st
    exact ⟨k z (by simp) _ hz, k TI (by simp) _ hTI, ⟨x, y, u, k TO (by simp) _ hTO⟩, h1.at fun o q => k i1 (by simp) o q, h2.at fun o q => k i2 (by simp) o q, h3.at fun o q => k i3 (by simp) o q⟩
  item := by
    intro X hP hw hK hc i pins s σ H E I hf st hg
    subst hP hw hK
    obtain ⟨hz, hTI, ⟨x0, y0, z0, hTO⟩, h1, h2, h3⟩ := st
    obtain ⟨xs, ys, zs, x, y, zz, hqx, hqy, hqz, hx, hy, hzz⟩ := hg
    obtain ⟨its, rv, p, _⟩ := I.list hqx
    obtain ⟨its2, rv2, p2, _⟩ := I.list hqy
    obtain ⟨its3, rv3, p3, _⟩ := I.list hqz
    obtain ⟨u, hu, ru⟩ := rv.get hx
    obtain ⟨u2, hu2, ru2⟩ := rv2.get hy
    obtain ⟨u3, hu3, ru3⟩ := rv3.get hzz
    have hzl : z < s.heap.objs.size := Heap.lt_size hz
    have hh : X.A.in1.handled = none := I.ok.hd hc
    have lt1 : i < its.toArray.size := by simpa using (List.getElem?_eq_some_iff.mp hu).1
    have lt2 : i < its2.toArray.size := by simpa using (List.getElem?_eq_some_iff.mp hu2).1
    have lt3 : i < its3.toArray.size := by simpa using (List.getElem?_eq_some_iff.mp hu3).1
    refine wpAny_pyNext_zipD3_item D (Draws.list hh i1 a ha its.toArray) (Draws.list hh i2 b hb its2.toArray) (Draws.list hh i3 c hc' its3.toArray) hz hTI hTO ⟨h1, p.isList⟩ ⟨h2, p2.isList⟩ ⟨h3, p3.isList⟩ lt1 lt2 lt3 fun x1 x2 x3 h' tk q1 q2 q3 z' TO' s1' s2' s3' hT hsz hk => ?_
    have e1 : x1 = u := by
      have q1' : its.toArray[i]? = some x1 := q1
      rw [List.getElem?_toArray, hu] at q1'
      exact (Option.some.inj q1').symm
    have e2 : x2 = u2 := by
      have q1' : its2.toArray[i]? = some x2 := q2
      rw [List.getElem?_toArray, hu2] at q1'
      exact (Option.some.inj q1').symm
    have e3 : x3 = u3 := by
      have q1' : its3.toArray[i]? = some x3 := q3
      rw [List.getElem?_toArray, hu3] at q1'
      exact (Option.some.inj q1').symm
    subst e1 e2 e3
    refine ⟨_, rfl, wpAny_letOwnedTupleGo_zip (s := { s with heap := h', toks := tk }) z' fun h'' z'' sb => ?_⟩
    have hT2 : h''.get? s.heap.objs.size = some { cls := .type "tuple", data := .seq #[x1, x2, x3] } := (sb.2 _ (Nat.ne_of_gt hzl)).trans hT
    have new : ObjOk X.prog X.w (upd H s.heap.objs.size (.tup [x, y, zz])) h'' s.heap.objs.size (.tup [x, y, zz]) :=
      ⟨by show 3 ≤ sizeLine; decide, [x1, x2, x3], .cons ru (.cons ru2 (.cons ru3 .nil)), ⟨_, hT2, rfl, _, rfl⟩⟩
    have I1 : Inv X pins σ (upd H s.heap.objs.size (.tup [x, y, zz])) { s with heap := h'', toks := tk } :=
      I.turnedNew (t' := tk) (ch := [z, TI, TO, i1, i2, i3]) (fun c o hb q => (sb.2 c (fun q' => hb (by simp [q']))).trans (hk c o (fun q' => hb (by simp [q'])) (fun q' => hb (by simp [q'])) (fun q' => hb (by simp [q'])) (fun q' => hb (by simp [q'])) (fun q' => hb (by simp [q'])) q)) hf (Nat.le_refl _) new
    refine ⟨.ref s.heap.objs.size, _, I1, rfl, ⟨_, x, y, zz, rfl, I.hok.fresh (Nat.le_refl _), rfl, fun l hl => by rw [I.list_inj hl hqx]; exact hx, fun l hl => by rw [I.list_inj hl hqy]; exact hy, fun l hl => by rw [I.list_inj hl hqz]; exact hzz⟩, ⟨z'', ?_, ⟨x1, x2, x3, ?_⟩, ?_, ?_, ?_⟩, fun c hcm => ?_⟩
    · exact (sb.2 _ D.TIz).trans (hk _ _ D.TIz D.TITO D.TIi1 D.TIi2 D.TIi3 hTI)
    · exact (sb.2 _ D.TOz).trans TO'
    · exact s1'.1.at fun o q => (sb.2 _ D.zi1.symm).trans q
    · exact s2'.1.at fun o q => (sb.2 _ D.zi2.symm).trans q
    · exact s3'.1.at fun o q => (sb.2 _ D.zi3.symm).trans q
    · have hlt : c < s.heap.objs.size := by
        have e' : c = z ∨ c = TI ∨ c = TO ∨ c = i1 ∨ c = i2 ∨ c = i3 := by simpa using hcm
        rcases e' with q | q | q | q | q | q
        · rw [q]; exact hzl
        · rw [q]; exact Heap.lt_size hTI
        · rw [q]; exact Heap.lt_size hTO
        · rw [q]; obtain ⟨_, e1, _⟩ := h1; exact Heap.lt_size e1
        · rw [q]; obtain ⟨_, e2, _⟩ := h2; exact Heap.lt_size e2
        · rw [q]; obtain ⟨_, e2, _⟩ := h3; exact Heap.lt_size e2
      rw [upd_ne (Nat.ne_of_lt hlt)]
      exact (hf c hcm).1
  done := by
    intro X hP hw hK hc i pins s σ H E I hf st hg
    subst hP hw hK
    obtain ⟨hz, hTI, ⟨x0, y0, z0, hTO⟩, h1, h2, h3⟩ := st
    obtain ⟨xs, ys, zs, hqx, hqy, hqz, l1, l2, l3⟩ := hg
    obtain ⟨its, rv, p, _⟩ := I.list hqx
    obtain ⟨its2, rv2, p2, _⟩ := I.list hqy
    obtain ⟨its3, rv3, p3, _⟩ := I.list hqz
    have hh : X.A.in1.handled = none := I.ok.hd hc
    have m1 : its.toArray.size = i := by have := rv.length; simp; omega
    have m2 : its2.toArray.size = i := by have := rv2.length; simp; omega
    have m3 : its3.toArray.size = i := by have := rv3.length; simp; omega
    exact wpAny_pyNext_zipD3_end D (Draws.list hh i1 a ha its.toArray) (Draws.list hh i2 b hb its2.toArray) (Draws.list hh i3 c hc' its3.toArray) hz hTI hTO ⟨h1, p.isList⟩ ⟨h2, p2.isList⟩ ⟨h3, p3.isList⟩ (by omega) (by omega) (by omega) (.inl m1.symm) fun h' tk hk => ⟨rfl, I.turnedL (t' := tk) (ch := [z, TI, TO, i1, i2, i3]) (fun c o hb q =>
      hk c o (fun q' => hb (by simp [q'])) (fun q' => hb (by simp [q'])) (fun q' => hb (by simp [q'])) (fun q' => hb (by simp [q'])) (fun q' => hb (by simp [q'])) q) hf⟩
  self := fun A i s Q E st h => wpAny_pyIter_zip st.1 h
def iZipT (K : PySem.W.Frag) (ta : TA) : TI := fun σ H R => ta σ H fun vs H1 => ∃ a b c xs ys zs, vs = [.ref a, .ref b, .ref c] ∧ SqL K H1 a xs ∧ SqL K H1 b ys ∧ SqL K H1 c zs ∧ R (ItzT K a b c) H1
theorem pi_zipT {X : Cx} {e e2 e3 : Expr} {ta : TA} {p pos tpos : Pos} {elts : List Expr} {kk : Nat} (hg : Gl X "zip") (hm : X.mg "zip" = none) (ha : PA X [e, e2, e3] ta)
    (hs : starEach [e, e2, e3] X.env = (false, eval e X.env) :: starEach [e2, e3] X.env := by rfl) (hpl : (backTo pos (starEach [e2, e3] X.env)).any (·.1) = false := by rfl) :
    PI X (.Tuple elts kk tpos) (.Call (.Name "zip" p) [e, e2, e3] [] pos) (iZipT X.K ta) := by
  refine ⟨fun pins s σ H R I h => ?_⟩
  refine Call_ (ld_blt I hg hm PyProof.Rows.boot_zip (PyProof.Rows.callWith_type1 (thn (ha.run pos pins s σ H _ I h) fun us s1 ⟨vs, H1, I1, r1, q1⟩ => ?_) hs hpl))
  obtain ⟨a, b, c, xs, ys, zs, ex, hqx, hqy, hqz, q⟩ := q1
  subst ex
  cases r1 with
  | cons r rr =>
    cases rr with
    | cons r' rr =>
      cases rr with
      | cons r'' rr =>
        cases rr
        cases r
        cases r'
        cases r''
        obtain ⟨its, rv, p1, _⟩ := I1.list hqx
        obtain ⟨its2, rv2, p2, _⟩ := I1.list hqy
        obtain ⟨its3, rv3, p3, _⟩ := I1.list hqz
        have la : a < s1.heap.objs.size := p1.lt
        have lb : b < s1.heap.objs.size := p2.lt
        have lc : c < s1.heap.objs.size := p3.lt
        have m1 : ∀ x ∈ [a], x < s1.heap.objs.size := fun x hx => by rw [List.mem_singleton.mp hx]; exact la
        have m2 : ∀ x ∈ [b], x < s1.heap.objs.size := fun x hx => by rw [List.mem_singleton.mp hx]; exact lb
        have m3 : ∀ x ∈ [c], x < s1.heap.objs.size := fun x hx => by rw [List.mem_singleton.mp hx]; exact lc
        have D := zip_sep3 (N := s1.heap.objs.size) (fp1 := [a]) (fp2 := [b]) (fp3 := [c]) m1 m2 m3
        refine zip_begins3 (begins_list a its.toArray) (begins_list b its2.toArray) (begins_list c its3.toArray) p1.isList p2.isList p3.isList fun h' hz hTI hTO g1 g2 g3 hsz hk => wpAny_pyIter_zip hz ?_
        have I2 : Inv X pins σ H1 { s1 with heap := h' } := I1.kept (t' := s1.toks) hk
        refine ⟨s1.heap.objs.size + 5, [s1.heap.objs.size + 5, s1.heap.objs.size + 3, s1.heap.objs.size + 4, s1.heap.objs.size, s1.heap.objs.size + 1, s1.heap.objs.size + 2], _, _, H1, rfl, I2, turn_zipT D (Nat.ne_of_lt la) (Nat.ne_of_lt (Nat.lt_succ_of_lt lb)) (Nat.ne_of_lt (Nat.lt_succ_of_lt (Nat.lt_succ_of_lt lc))), ⟨hz, hTI, ⟨_, _, _, hTO⟩, ⟨_, g1, rfl, rfl⟩, ⟨_, g2, rfl, rfl⟩, ⟨_, g3, rfl, rfl⟩⟩, fun c hcm => ?_, q⟩
        have e' : c = s1.heap.objs.size + 5 ∨ c = s1.heap.objs.size + 3 ∨ c = s1.heap.objs.size + 4 ∨ c = s1.heap.objs.size ∨ c = s1.heap.objs.size + 1 ∨ c = s1.heap.objs.size + 2 := by simpa using hcm
        have hle : s1.heap.objs.size ≤ c := by
          rcases e' with z | z | z | z | z | z
          · rw [z]; exact Nat.le_add_right _ _
          · rw [z]; exact Nat.le_add_right _ _
          · rw [z]; exact Nat.le_add_right _ _
          · rw [z]; exact Nat.le_refl _
          · rw [z]; exact Nat.le_add_right _ _
          · rw [z]; exact Nat.le_add_right _ _
        exact I1.fpOk hle (I1.hok.fresh hle)
def YTri (xs ys zs : Nat → Option V) : Nat → Hp → V → Hp → Prop := fun i H v H' => ∃ T x y z, v = .ref T ∧ H T = none ∧ H' = upd H T (.tup [x, y, z]) ∧ xs i = some x ∧ ys i = some y ∧ zs i = some z
theorem walk_zipT {K : PySem.W.Frag} {a b c : Addr} {xs ys zs : List V} {n : Nat} (h1 : xs.length = n) (h2 : ys.length = n) (h3 : zs.length = n) : Walk (ItzT K a b c) n (fun H => SqL K H a xs ∧ SqL K H b ys ∧ SqL K H c zs) (YTri (fun i => xs[i]?) (fun i => ys[i]?) (fun i => zs[i]?)) := by
  refine ⟨fun i _ hi q => ?_, fun _ q => ⟨xs, ys, zs, q.1, q.2.1, q.2.2, h1, h2, h3⟩, fun i H v H' _ q y => ?_⟩
  · exact ⟨xs, ys, zs, xs[i]'(by omega), ys[i]'(by omega), zs[i]'(by omega), q.1, q.2.1, q.2.2, List.getElem?_eq_getElem _, List.getElem?_eq_getElem _, List.getElem?_eq_getElem _⟩
  · obtain ⟨T, x, u, z, e1, e2, e3, e4, e5, e6⟩ := y
    exact ⟨T, x, u, z, e1, e2, e3, e4 xs q.1, e5 ys q.2.1, e6 zs q.2.2⟩
section
variable {K : PySem.W.Frag} {W : WX} {en : List Sl} {tx : TA} {tbd : TS} {ds es fs : List Da} {o : Out} {j1 j2 j3 m : Nat}
theorem st_forZ3 (F : Nat → List Sl) (h : EA K tx en [.lst ds, .lst es, .lst fs]) (hl : ds.length = es.length) (hl2 : ds.length = fs.length) (h0 : F 0 = en)
    (ht : ∀ i d e f, ds[i]? = some d → es[i]? = some e → fs[i]? = some f → ST K W tbd ((((F i).set j1 (.da d)).set j2 (.da e)).set j3 (.da f)) (.nx (F (i + 1)))) : ST K W (tFor (iZipT K tx) (gTup K 3 (gNames [j1, j2, j3])) tbd) en (.nx (F ds.length)) := fun B0 H0 B H σ S D k =>
  h _ _ B H σ S _ fun vs B1 H1 g r => by
    cases r with
    | cons r r2 =>
      cases r2 with
      | cons r2 r3 =>
        cases r3 with
        | cons r3 r4 =>
          cases r4
          cases r with
          | @lst a xs _ hq t =>
            cases r2 with
            | @lst b ys _ hq2 t2 =>
              cases r3 with
              | @lst c zs _ hq3 t3 =>
                have S1 := S.grow g
                have l1 := t.length
                have l2 := t2.length
                have l3 := t3.length
                refine ⟨a, b, c, xs, ys, zs, rfl, ex_l g.s hq, ex_l g.s hq2, ex_l g.s hq3, for_it (walk_zipT (a := a) (b := b) (c := c) (xs := xs) (ys := ys) (zs := zs) (n := ds.length) l1 (by omega) (by omega)) (fun i σ' H' => ∃ B', Sd K B1 H0 B' H' σ' (F i)) ⟨B1, by rw [h0]; exact S1.rebase⟩ (fun i σ' H' _ ⟨B', S'⟩ => ⟨ex_l (S'.gr.b.trans S'.gr.s) hq, ex_l (S'.gr.b.trans S'.gr.s) hq2, ex_l (S'.gr.b.trans S'.gr.s) hq3⟩) (fun i v σ' H' H2 hi ⟨B', S'⟩ y => ?_) (fun σ' H' ⟨B', S'⟩ => ?_)⟩
                · obtain ⟨T, x, y, z, rfl, hT, rfl, hx, hy, hz⟩ := y
                  have hx : xs[i]? = some x := hx
                  have hy : ys[i]? = some y := hy
                  have hz : zs[i]? = some z := hz
                  have hi2 : i < es.length := by omega
                  have hi3 : i < fs.length := by omega
                  obtain ⟨x', hx', rx⟩ := t.get (List.getElem?_eq_getElem hi)
                  rw [hx] at hx'
                  cases hx'
                  obtain ⟨y', hy', ry⟩ := t2.get (List.getElem?_eq_getElem hi2)
                  rw [hy] at hy'
                  cases hy'
                  obtain ⟨z', hz', rz⟩ := t3.get (List.getElem?_eq_getElem hi3)
                  rw [hz] at hz'
                  cases hz'
                  have gn := Gr.new (o := .tup [x, y, z]) S'.eb hT
                  have S2 := S'.grow gn
                  have gg := S'.gr.b.trans gn.b
                  exact ⟨_, _, rfl, st_of upd_same, rfl, gn_set (is := [j1, j2, j3]) (ds := [ds[i], es[i], fs[i]]) S2 (.cons (rx.mono gg) (.cons (ry.mono gg) (.cons (rz.mono gg) .nil))) rfl fun σ2 S3 =>
                    ht i _ _ _ (List.getElem?_eq_getElem hi) (List.getElem?_eq_getElem hi2) (List.getElem?_eq_getElem hi3) B1 H0 _ _ _ S3 _ fun B3 H3 σ3 S3 => ⟨B3, S3⟩⟩
                · exact k B' H' σ' (S'.base S1.gr)
end
section
variable {X : Cx} {W : WX} {k : Nat} {en : List Sl} {a b c : Expr} {ds es fs : List Da} {ou : Out} {x y z : Str} {p q1 q2 p1 p2 p3 tp pos : Pos} {q : Nat} {ss : List Stmt} {j1 j2 j3 m : Nat}
theorem sv_forZ3 (Bx : Bd X W k) (F : Nat → List Sl) (hm0 : X.mg "zip" = none) (hg : Gl X "zip") (hi : EVA X W en [a, b, c] [.lst ds, .lst es, .lst fs]) (hl : ds.length = es.length) (hl2 : ds.length = fs.length) (h0 : F 0 = en) (hgn : GN X [.Name x p1, .Name y p2, .Name z p3] [j1, j2, j3])
    (hn : (assignEach [.Name x p1, .Name y p2, .Name z p3] X.env).length = 3) (hst : (assignEach [.Name x p1, .Name y p2, .Name z p3] X.env).findIdx? (·.1) = none) (hs : starEach [a, b, c] X.env = (false, eval a X.env) :: starEach [b, c] X.env) (hpl : (backTo q2 (starEach [b, c] X.env)).any (·.1) = false)
    (ht : ∀ i d e f, ds[i]? = some d → es[i]? = some e → fs[i]? = some f → SVs X W ((((F i).set j1 (.da d)).set j2 (.da e)).set j3 (.da f)) ss (.nx (F (i + 1)))) : SV X W en (.For (.Tuple [.Name x p1, .Name y p2, .Name z p3] q tp) (.Call (.Name "zip" q1) [a, b, c] [] q2) ss [] pos) (.nx (F ds.length)) := by
  obtain ⟨t, h1, h2⟩ := hi
  exact ⟨_, ps_for Bx.own Bx.calm (pi_zipT hg hm0 h1 hs hpl) (pg_tup Bx.calm hgn hn hst) pss_U, st_forZ3 F h2 hl hl2 h0 fun i d e f hd he hf => (ht i d e f hd he hf).U⟩
end
/-! ### lcm of two -/
def lcm2 (a b : Int) : Int := ((a.natAbs.lcm b.natAbs : Nat) : Int)
def rLcm2 : List V → Hp → VK → Prop := fun vs H Q => ∃ a b : Int, vs = [.int a, .int b] ∧ (a.natAbs < 2 ^ 100 ∧ b.natAbs < 2 ^ 100) ∧ Q (.int (lcm2 a b)) H
open PySem.W PySem.Calls in
theorem cr_lcm2 {X : Cx} : CallR X (.builtin "math.lcm") rLcm2 := by
  intro pins s σ H vs us Q I r h
  obtain ⟨a, b, rfl, ⟨h1, h2⟩, q⟩ := h
  cases r with
  | cons r1 r => cases r with
    | cons r2 r =>
      cases r
      obtain ⟨t1, rfl⟩ := r1
      obtain ⟨t2, rfl⟩ := r2
      have lift : ∀ {n : Nat}, n < 2 ^ 100 → n < 2 ^ 200 := fun h1 => Nat.lt_of_lt_of_le h1 (Nat.pow_le_pow_right (by decide) (by decide))
      have l1 : a.natAbs.lcm b.natAbs < 2 ^ 200 := Nat.lt_of_le_of_lt (mc_lcm_le _ _) (Nat.lt_of_lt_of_le (Nat.mul_lt_mul'' h1 h2) (by decide))
      have hs : ((((Nat.lcm 1 a.natAbs).lcm b.natAbs : Nat) : Int)).natAbs.log2 < bitsLine := by
        rw [Nat.lcm_one_left, Int.natAbs_natCast]
        have := mg_log (k := 199) l1
        have e : bitsLine = 134217728 := by decide
        omega
      refine call_function_meets MGF.kind_lcm MGF.plain_lcm MGF.entry_lcm (MGF.args_lcm _ _) (mg_run_lcm a t1 b t2 (PySem.W.log_small (Nat.max_lt.mpr ⟨by decide, lift h1⟩)) (PySem.W.log_small (Nat.max_lt.mpr ⟨lift h1, lift h2⟩)) hs).meets ⟨.int (lcm2 a b), H, I.tok _, ⟨s.toks, ?_⟩, q⟩
      unfold lcm2
      rw [Nat.lcm_one_left]
theorem rc_lcm2 {K : PySem.W.Frag} {a b : Int} (h : a.natAbs < 2 ^ 100 ∧ b.natAbs < 2 ^ 100) : RC K rLcm2 [.int a, .int b] (.int (lcm2 a b)) := fun B H vs e hA Q k => by
  cases hA with
  | cons h1 t => cases t with
    | cons h2 t =>
      cases t; cases h1; cases h2
      exact ⟨a, b, rfl, h, k _ B H (Gr.refl e) (.int _)⟩
end Sky
namespace Sky
open PySem L2 Evl PySem.Spec PyProof.Rows
/-! ### sum, count, in, of whole numbers; a loop over pairs -/
theorem dra_intsI {K : PySem.W.Frag} {B : Hp} : ∀ {vs : List V} {ns : List Int}, DrA K B vs (ns.map .int) → vs = ns.map V.int
  | [], [], _ => rfl
  | v :: vs, n :: ns, .cons h t => by
    cases h
    rw [dra_intsI t]; rfl
theorem rc_sum {K : PySem.W.Frag} {ns : List Int} : RC K (rSum K) [.lst (ns.map .int)] (.int ns.sum) := fun B H vs e hA Q k => by
  cases hA with
  | cons h1 t =>
    cases t
    cases h1 with
    | @lst a vs _ h t =>
      obtain rfl := dra_intsI t
      exact ⟨a, ns, rfl, ex_l e h, k _ B H (Gr.refl e) (.int _)⟩
theorem in_ints (c : Int) (ns : List Int) : inV (.int c) (ns.map V.int) = decide (c ∈ ns) := by
  unfold inV
  induction ns with
  | nil => rfl
  | cons n ns ih =>
    rw [List.map_cons, List.any_cons, ih]
    show ((n == c) || decide (c ∈ ns)) = _
    by_cases h : n = c
    · subst h; simp
    · have : (n == c) = false := beq_eq_false_iff_ne.mpr h
      rw [this, Bool.false_or]
      exact decide_eq_decide.mpr ⟨fun z => List.mem_cons_of_mem _ z, fun z => (List.mem_cons.mp z).resolve_left fun e => h e.symm⟩
section
variable {X : Cx} {W : WX} {k n m : Nat} {en : List Sl} {a b e : Expr} {x y : Str} {p p1 p2 tp pos apos : Pos} {q : Nat} {ns : List Int} {c : Int} {ds : List Da} {j1 j2 : Nat} {ss : List Stmt} {fa fb : Nat → Da}
theorem ev_sum (Bx : Bd X W k) (ha : EVA X W en [a] [.lst (ns.map .int)]) (hg : Gl X "sum") (hm : X.mg "sum" = none) (he : starEach [a] X.env = (false, eval a X.env) :: starEach [] X.env) (hpl : (backTo pos (starEach [] X.env)).any (·.1) = false) : EV X W en (.Call (.Name "sum" p) [a] [] pos) (.ok (.int ns.sum)) :=
  ev_cb (cr_sum Bx.calm) ha rc_sum hg hm (by decide +kernel) (by decide) (by decide) he hpl
theorem ev_inI (ha : EV X W en a (.ok (.int c))) (hb : EV X W en b (.ok (.lst (ns.map .int)))) (hm : behindInMarks .In b = false) : EV X W en (.Compare a [.In] [b] pos) (.ok (.bl (decide (c ∈ ns)))) := ev_cmp op_in_seq ha hb (fun B H x y e r1 r2 Q k => by
  cases r1
  cases r2 with
  | @lst a vs _ h t =>
    obtain rfl := dra_intsI t
    refine ⟨a, ns.map V.int, rfl, Or.inl (ex_l e h), rfl, by rw [List.all_map]; exact List.all_eq_true.mpr fun _ _ => rfl, ?_⟩
    rw [if_neg Bool.false_ne_true, in_ints]
    exact k _ B H (Gr.refl e) (.bl _)) hm
theorem ev_count (ha : EV X W en a (.ok (.lst (ns.map .int)))) (hb : EV X W en e (.ok (.int c))) (hbase : attributeBase a "count" X.env (eval a X.env) = eval a X.env)
    (hfew : ((backTo pos (starEach [e] X.env)).all (fun x => !x.1) && (backToKw pos (keywordEach [] X.env)).all (fun x => x.1.isSome) && decide ([e].length + ([] : List Keyword).length + (if ([] : List Keyword).isEmpty then 0 else 1) < 30)) = true)
    (hline : (apos.endLine == pos.line) = true) (hs : starEach [e] X.env = (false, eval e X.env) :: starEach [] X.env) (hpl : (backTo pos (starEach [] X.env)).any (·.1) = false) : EV X W en (.Call (.Attribute a "count" apos) [e] [] pos) (.ok (.int (ns.count c : Nat))) := by
  obtain ⟨te, h1, h2⟩ := ha
  obtain ⟨tr, h3, h4⟩ := hb
  refine ⟨_, pe_bm PySem.F.plainAttrs_list PySem.F.slot_list_count PySem.F.type_list_count mt_lcount h1 (pa_cons h3 pa_nil hs) hbase hfew hline hs hpl, fun B0 H0 B H σ S Q k => h2 _ _ B H σ S _ fun v B1 H1 g1 r1 => ?_⟩
  cases r1 with
  | @lst a vs _ h t =>
    obtain rfl := dra_intsI t
    refine ⟨Or.inl ⟨rfl, _, ex_l g1.s h⟩, h4 _ _ B1 H1 σ (S.grow g1) _ fun w B2 H2 g2 r2 => ?_⟩
    cases r2
    exact ⟨a, ns, c, rfl, rfl, ex_l (g2.b.trans g2.s) h, k _ B2 H2 (g1.trans g2) (.int _)⟩
/-- for x, y in pairs -/
theorem sv_forLP {it : Expr} (Bx : Bd X W k) (F : Nat → List Sl) (hi : EV X W en it (.ok (.lst ds))) (hd : ∀ i, i < ds.length → ds[i]? = some (.tup [fa i, fb i])) (h0 : F 0 = en) (hq : ∀ v, foldedSetIterable it X.env v = pure v) (hgn : GN X [.Name x p1, .Name y p2] [j1, j2])
    (hn : (assignEach [.Name x p1, .Name y p2] X.env).length = 2) (hst : (assignEach [.Name x p1, .Name y p2] X.env).findIdx? (·.1) = none)
    (ht : ∀ i, i < ds.length → SVs X W (((F i).set j1 (.da (fa i))).set j2 (.da (fb i))) ss (.nx (F (i + 1)))) : SV X W en (.For (.Tuple [.Name x p1, .Name y p2] q tp) it ss [] pos) (.nx (F ds.length)) := by
  obtain ⟨t, h1, h2⟩ := hi
  refine ⟨_, ps_for Bx.own Bx.calm (pi_list h1) (pg_tup Bx.calm hgn hn hst) pss_U hq, fun B0 H0 B H σ S D k => h2 _ _ B H σ S _ fun v B1 H1 g r => ?_⟩
  cases r with
  | @lst a vs _ hq t =>
    have S1 := S.grow g
    refine ⟨a, rfl, ⟨vs, ex_l g.s hq⟩, for_list (fun i σ' H' => ∃ B', Sd X.K B1 H0 B' H' σ' (F i)) ⟨B1, by rw [h0]; exact S1.rebase⟩ (fun i σ' H' _ ⟨B', S'⟩ => ex_l (S'.gr.b.trans S'.gr.s) hq) (fun i x σ' H' hx ⟨B', S'⟩ => ?_) (fun σ' H' ⟨B', S'⟩ => ?_)⟩
    · have hi : i < ds.length := by
        have := (List.getElem?_eq_some_iff.mp hx).1
        rwa [t.length] at this
      obtain ⟨x', hx', rx⟩ := t.get (hd i hi)
      rw [hx] at hx'
      cases hx'
      cases rx with
      | @tup pt ws _ hq2 t2 =>
        cases t2 with
        | cons ra t2 =>
          cases t2 with
          | cons rb t2 =>
            cases t2
            have gg := S'.gr.b
            exact ⟨pt, _, rfl, ex_t (gg.trans S'.gr.s) hq2, rfl, gn_set (is := [j1, j2]) (ds := [fa i, fb i]) S' (.cons (ra.mono gg) (.cons (rb.mono gg) .nil)) rfl fun σ2 S3 => (ht i hi).U B1 H0 _ _ _ S3 _ fun B3 H3 σ3 S3 => ⟨B3, S3⟩⟩
    · rw [t.length] at S'
      exact k B' H' σ' (S'.base S1.gr)
end
section
variable {X : Cx} {W : WX} {k n m l : Nat} {en e1 : List Sl} {a b c : Expr} {x y z : Str} {px py pz pt pt2 pos : Pos} {kt k2 : Nat} {d1 d2 d3 : Da}
/-- a, b, c = x, y, z -/
theorem sv_par3 (Bx : Bd X W k) (ha : EVA X W en [a, b, c] [d1, d2, d3]) (hn : X.N.idxOf? x = some n) (hm : X.N.idxOf? y = some m) (hl : X.N.idxOf? z = some l) (hi : X.N[n]? = some x) (hj : X.N[m]? = some y) (hk : X.N[l]? = some z) (hij : n ≠ m) (hil : n ≠ l) (hjl : m ≠ l)
    (hx : X.env.scope.names.lookup x = some .local) (hy : X.env.scope.names.lookup y = some .local) (hz : X.env.scope.names.lookup z = some .local) (hw : swappedStores [.Tuple [.Name x px, .Name y py, .Name z pz] kt pt] (.Tuple [a, b, c] k2 pt2) X.env = pure (some [x, y, z]))
    (hs : swapsWithSole [.Tuple [.Name x px, .Name y py, .Name z pz] kt pt] (.Tuple [a, b, c] k2 pt2) pos.line X.env = pure false) (hq : ((en.set n (.da d1)).set m (.da d2)).set l (.da d3) = e1) :
    SV X W en (.Assign [.Tuple [.Name x px, .Name y py, .Name z pz] kt pt] (.Tuple [a, b, c] k2 pt2) pos) (.nx e1) := by
  subst hq
  obtain ⟨t, h1, h2⟩ := ha
  refine ⟨_, ps_par3 Bx.calm Bx.nd hi hj hk hij hil hjl hx hy hz h1 hw hs, fun B0 H0 B H σ S D q => h2 _ _ B H σ S _ fun vs B' H' g r => ?_⟩
  cases r with
  | cons r1 r2 =>
    cases r2 with
    | cons r2 r3 =>
      cases r3 with
      | cons r3 r4 =>
        cases r4
        exact ⟨_, _, _, rfl, q B' H' _ ((((S.grow g).set r1 n).set r2 m).set r3 l)⟩
end
end Sky
namespace Sky
open PySem L2 Evl PySem.Spec PyProof.Rows
/-! ### isinstance(e, (C1, C2, ..)) in the suite; xs.index(c); what asks within a try -/
section
variable {X : Cx} {W W' : WX} {k n m i j : Nat} {en : List Sl} {a b e ts : Expr} {x y : Str} {p p1 p2 p3 tp pos apos : Pos} {q : Nat} {ns : List Int} {c : Int} {ds : List Da}
theorem ev_idxI (ha : EV X W en a (.ok (.lst (ns.map .int)))) (hb : EV X W en e (.ok (.int c))) (hj : ns[j]? = some c) (hno : ∀ m : Nat, ns[m]? = some c → m = j) (hbase : attributeBase a "index" X.env (eval a X.env) = eval a X.env)
    (hfew : ((backTo pos (starEach [e] X.env)).all (fun x => !x.1) && (backToKw pos (keywordEach [] X.env)).all (fun x => x.1.isSome) && decide ([e].length + ([] : List Keyword).length + (if ([] : List Keyword).isEmpty then 0 else 1) < 30)) = true)
    (hline : (apos.endLine == pos.line) = true) (hs : starEach [e] X.env = (false, eval e X.env) :: starEach [] X.env) (hpl : (backTo pos (starEach [] X.env)).any (·.1) = false) : EV X W en (.Call (.Attribute a "index" apos) [e] [] pos) (.ok (.int (j : Nat))) := by
  obtain ⟨te, h1, h2⟩ := ha
  obtain ⟨tr, h3, h4⟩ := hb
  refine ⟨_, pe_bm PySem.F.plainAttrs_list PySem.F.slot_list_index PySem.F.type_list_index mt_index h1 (pa_cons h3 pa_nil hs) hbase hfew hline hs hpl, fun B0 H0 B H σ S Q k => h2 _ _ B H σ S _ fun v B1 H1 g1 r1 => ?_⟩
  cases r1 with
  | @lst a vs _ h t =>
    obtain rfl := dra_intsI t
    refine ⟨Or.inl ⟨rfl, _, ex_l g1.s h⟩, h4 _ _ B1 H1 σ (S.grow g1) _ fun w B2 H2 g2 r2 => ?_⟩
    cases r2
    refine ⟨a, ns.map V.int, .int c, j, .int c, rfl, rfl, ex_l (g2.b.trans g2.s) h, rfl, by rw [List.all_map]; exact List.all_eq_true.mpr fun _ _ => rfl, by rw [List.getElem?_map, hj]; rfl, beq_self_eq_true c, fun m z hm hz => ?_, k _ B2 H2 (g1.trans g2) (.int _)⟩
    rw [List.getElem?_map] at hz
    cases hq : ns[m]? with
    | none => rw [hq] at hz; cases hz
    | some d =>
      rw [hq] at hz
      cases hz
      show (d == c) = false
      refine beq_eq_false_iff_ne.mpr fun w => ?_
      rw [w] at hq
      have := hno m hq
      omega
def rIsT (K : PySem.W.Frag) (D a : Addr) : List V → Hp → VK → Prop := fun xs H Q => ∃ (tp : Addr) (Cs : List Addr) (b : Bool), xs = [.ref a, .ref tp] ∧ SqT K H tp (Cs.map V.ref) ∧ PySem.W.kitAny K (.ref D) (Cs.map Value.ref) = some b ∧ Q (.bl b) H
theorem vals_refs : ∀ {Cs : List Addr} {us : List Value}, Vals (Cs.map V.ref) us → us = Cs.map Value.ref
  | [], _, .nil => rfl
  | C :: Cs, _, .cons h t => by rw [vals_refs t]; cases h; rfl
theorem call_isT {a D : Addr} {oe : Obj} {pn : List (Addr × Obj)} (C : ExcC X.K D) (hz : Zc (.ref D) none oe) (hf : ∃ vs, oe.data = .fields vs) : CallR (X.suite a ((a, oe) :: pn)) (.builtin "isinstance") (rIsT X.K D a) := by
  intro pins s σ H xs us Q I r h
  obtain ⟨tp, Cs, b, rfl, hT, hk, hq⟩ := h
  cases r with
  | cons r1 rr =>
    cases rr with
    | cons r2 rr =>
      cases rr
      cases r1
      cases r2
      obtain ⟨its, rv, ⟨⟨oc, od, oda, osl⟩, ho, hc, n, hd⟩, hlen⟩ := I.tuple hT
      obtain rfl := vals_refs rv
      simp only at hc hd
      subst hc hd
      obtain ⟨hget, _⟩ := I.pin (a, oe) (List.mem_append.mpr (.inl List.mem_cons_self))
      have J : PySem.W.InstAt s.heap a oe D none := by
        obtain ⟨vs, hv⟩ := hf
        obtain ⟨o1, o2, o3, o4⟩ := oe
        obtain ⟨z1, z2⟩ := hz
        simp only at z1 z2 hv
        subst z1 z2 hv
        exact ⟨hget, rfl, rfl, trivial⟩
      exact PySem.W.kia_tup (PySem.W.handS_kitx_exc C.hg C.hk C.hs C.hd C.ha C.hn C.ht C.hm) I.kIn J ho hk (fun z => nomatch z) fun t => ⟨.bl b, H, I.kept (t' := t) (fun _ _ z => z), rfl, hq⟩
theorem dra_cls {K : PySem.W.Frag} {B : Hp} : ∀ {vs : List V} {Cs : List Addr}, DrA K B vs (Cs.map .cls) → vs = Cs.map V.ref
  | [], [], _ => rfl
  | v :: vs, C :: Cs, .cons h t => by
    cases h
    rw [dra_cls t]; rfl
theorem ev_isET {a D : Addr} {oe : Obj} {pn : List (Addr × Obj)} {Cs : List Addr} {b : Bool} (Ec : ExcC X.K D) (hz : Zc (.ref D) none oe) (hf : ∃ vs, oe.data = .fields vs) (hm : X.mg "isinstance" = none)
    (hv : Vis X.env.scope y) (h : en[i]? = some (.rf (.ref a))) (hN2 : X.N[i]? = some y) (hd : (y == ("__debug__" : Str)) = false) (hcd : (y == ("__classdict__" : Str)) = false)
    (hc : EV (X.suite a ((a, oe) :: pn)) W0 en ts (.ok (.tup (Cs.map .cls)))) (hk : PySem.W.kitAny X.K (.ref D) (Cs.map Value.ref) = some b) (hg : Gl (X.suite a ((a, oe) :: pn)) "isinstance")
    (h1 : starEach [.Name y p1, ts] X.env = (false, eval (.Name y p1) X.env) :: starEach [ts] X.env) (h2 : starEach [ts] X.env = (false, eval ts X.env) :: starEach [] X.env) (hpl : (backTo p3 (starEach [ts] X.env)).any (·.1) = false) :
    EV (X.suite a ((a, oe) :: pn)) W' en (.Call (.Name "isinstance" p2) [.Name y p1, ts] [] p3) (.ok (.bl b)) := by
  have hvar : PE (X.suite a ((a, oe) :: pn)) (.Name y p1) (tVar i) := pe_var hN2 hv hd hcd
  obtain ⟨tt, t1, t2⟩ := hc
  refine ⟨_, pe_callB (call_isT Ec hz hf) hg hm (by decide +kernel) (pa_cons hvar (pa_cons t1 pa_nil h2) h1) (by decide) (by decide) h1 hpl, fun B0 H0 B H σ S Q ko => ?_⟩
  refine ⟨_, S.atRf h, t2 B0 H0 B H σ S _ fun v B1 H1 g1 r1 => ?_⟩
  cases r1 with
  | @tup tp vs _ hs ht =>
    obtain rfl := dra_cls ht
    exact ⟨tp, Cs, b, rfl, ex_t g1.s hs, hk, ko _ B1 H1 g1 (.bl b)⟩
/-- a name set in a suite -/
theorem sv_setS {n : Nat} {d : Da} {e1 : List Sl} {pos' : Pos} (nd : X.N.Nodup) (he : EV X W en e (.ok d)) (hN2 : X.N[n]? = some x) (hx : Loc X.env.scope x) (hf : X.fn x = true ∨ X.env.scope.names.lookup x = some .local) (hs : swapsWith e (some (.Name x pos')) pos.line X.env = pure false) (hq : en.set n (.da d) = e1) :
    SV X W en (.Assign [.Name x pos'] e pos) (.nx e1) := by
  subst hq
  obtain ⟨t, h1, h2⟩ := he
  exact ⟨_, ps_set nd hN2 hx h1 hs hf, st_asg h2⟩
end
/-- told: what was asked, or «dark» where no row is -/
def RAsk (CN : Addr) (o : XO) (d : Da) : Prop := o = .ok d ∨ (o = .err CN none ∧ d = .str "dark")
section
variable {P : Program} {w : World} {K : PySem.W.Frag} {mg : Str → Option Value} {base : Heap}
theorem calT_mk {x a : Str} {st : Stmt} {g : Addr} {Ng : List Str} {R : XO → Da → Prop} {j : Nat} {kV doc pm cdv ct oc : Value} {an od : Option Addr} {osl : Array (Option Value)} (mx : mg x = some (.ref g)) (kg : PySem.W.keepIn K (.ref g) = true)
    (lk : K.lookup g = some ⟨oc, od, .func (PySem.W.fnOf x x (defArgs st) (defBody st) (defScope st) .none kV doc pm an cdv ct), osl⟩) (hcd : PySem.W.codeIn K cdv x = true) (hb : Binds K (PySem.W.fnOf x x (defArgs st) (defBody st) (defScope st) .none kV doc pm an cdv ct) [a] [])
    (S : FnScope Ng [a] (defScope st)) (h0 : Ng[0]? = some a) (hv : Vis (defScope st) a) (hd : (a == ("__debug__" : Str)) = false) (hc : (a == ("__classdict__" : Str)) = false)
    (G : ∀ X : Cx, X.prog = P → X.w = w → X.K = K → X.mg = mg → X.base = base → Room (j + 1) X.A → ∀ q o d, R o d → LamX.GivesTo X Ng x (defScope st) g cdv (defBody st) a q (TD K o d)) : CalT P w K mg base x j R :=
  ⟨g, _, _, _, _, _, _, _, _, _, _, _, _, _, Ng, a, mx, kg, lk, hcd, hb, S, h0, hv, hd, hc, G⟩
end
end Sky
namespace Sky
open PySem L2 Evl PySem.Spec PyProof.Rows TL
/-! ### groups by sixties, in numbers and as texts -/
def gsR (u : Int) (m : Nat) : List Int := (List.range m).map fun i => u / 60 ^ i % 60
def gsT (u : Int) (m : Nat) : List Str := (gsR u m).reverse.map two
theorem gsR_succ (u : Int) (m : Nat) : gsR u (m + 1) = gsR u m ++ [u / 60 ^ m % 60] := by
  unfold gsR
  rw [List.range_succ, List.map_append]
  rfl
theorem gsR_len (u : Int) (m : Nat) : (gsR u m).length = m := by simp [gsR]
theorem gsT_len (u : Int) (m : Nat) : (gsT u m).length = m := by simp [gsT, gsR_len]
theorem two_len (i : Int) : (two i).length = 2 := rfl
theorem gsT_two (u : Int) (m : Nat) : ∀ y ∈ gsT u m, ∃ i, 0 ≤ i ∧ i < 60 ∧ y = two i := fun y hy => by
  unfold gsT at hy
  obtain ⟨i, hi, rfl⟩ := List.mem_map.mp hy
  have hi := List.mem_reverse.mp hi
  unfold gsR at hi
  obtain ⟨k, _, rfl⟩ := List.mem_map.mp hi
  exact ⟨_, Int.emod_nonneg _ (by decide), Int.emod_lt_of_pos _ (by decide), rfl⟩
theorem div60 {u : Int} (i : Nat) : u / 60 ^ i / 60 = u / 60 ^ (i + 1) := by
  rw [Int.ediv_ediv_of_nonneg (by exact Int.pow_nonneg (by decide)), Int.pow_succ]
def cmS : Str := ","
def scS : Str := ";"
def joinG (ys : List Str) (w : Nat) : Str := if w < ys.length then (Txt.join cmS (ys.take w) ++ scS) ++ Txt.join cmS (ys.drop w) else Txt.join cmS (ys.take w)
theorem join_len : ∀ {ys : List Str}, (∀ y ∈ ys, y.length = 2) → ys ≠ [] → (Txt.join cmS ys).length + 1 = 3 * ys.length
  | [], _, h => absurd rfl h
  | [y], h, _ => by
    rw [join_eq]
    show y.length + 1 = _
    rw [h y (by simp)]
    rfl
  | y :: z :: r, h, _ => by
    have ih := join_len (ys := z :: r) (fun w hw => h w (List.mem_cons_of_mem _ hw)) (by simp)
    rw [join_eq] at ih ⊢
    show (y ++ cmS ++ Str.join cmS (z :: r)).length + 1 = _
    rw [Str.length_append, Str.length_append, h y (by simp)]
    have : cmS.length = 1 := rfl
    simp only [List.length_cons] at ih ⊢
    omega
theorem joinG_len {ys : List Str} {w : Nat} (h : ∀ y ∈ ys, y.length = 2) (h1 : 1 ≤ w) (h2 : w ≤ ys.length) : (joinG ys w).length + 1 = 3 * ys.length := by
  have ht : ∀ y ∈ ys.take w, y.length = 2 := fun y hy => h y (List.mem_of_mem_take hy)
  have hd : ∀ y ∈ ys.drop w, y.length = 2 := fun y hy => h y (List.mem_of_mem_drop hy)
  have lt : (ys.take w).length = w := by rw [List.length_take]; omega
  have ld : (ys.drop w).length = ys.length - w := List.length_drop
  have a := join_len ht (fun z => by rw [z] at lt; simp at lt; omega)
  unfold joinG
  by_cases q : w < ys.length
  · rw [if_pos q, Str.length_append, Str.length_append]
    have b := join_len hd (fun z => by rw [z] at ld; simp at ld; omega)
    have : scS.length = 1 := rfl
    omega
  · rw [if_neg q]
    omega
theorem sum_two : ∀ {ys : List Str}, (∀ y ∈ ys, y.length = 2) → (ys.map (·.length)).sum = 2 * ys.length
  | [], _ => rfl
  | y :: r, h => by
    have ih := sum_two (ys := r) (fun w hw => h w (List.mem_cons_of_mem _ hw))
    rw [List.map_cons, List.sum_cons, ih, h y (by simp), List.length_cons]
    omega
/-- the first sign is a figure -/
theorem join_head {i : Int} {r : List Str} : ∃ t, tl (Txt.join cmS (two i :: r)) = (48 + (i / 10).toNat) :: t := by
  rw [join_eq]
  cases r with
  | nil => exact ⟨_, rfl⟩
  | cons z r =>
    show ∃ t, tl (two i ++ cmS ++ Str.join cmS (z :: r)) = _
    rw [tl_append, tl_append]
    exact ⟨_, rfl⟩
theorem joinG_head {ys : List Str} {w : Nat} (h : ∀ y ∈ ys, ∃ i, 0 ≤ i ∧ i < 60 ∧ y = two i) (h1 : 1 ≤ w) (h2 : w ≤ ys.length) : ∃ c t, tl (joinG ys w) = c :: t ∧ c < 58 := by
  obtain ⟨y, r, e⟩ : ∃ y r, ys.take w = y :: r := by
    cases q : ys.take w with
    | nil =>
      have : (ys.take w).length = w := by rw [List.length_take]; omega
      rw [q] at this
      simp at this
      omega
    | cons y r => exact ⟨y, r, rfl⟩
  obtain ⟨i, i0, i1, rfl⟩ := h y (List.mem_of_mem_take (by rw [e]; simp))
  obtain ⟨t, ht⟩ := join_head (i := i) (r := r)
  unfold joinG
  rw [e]
  by_cases q : w < ys.length
  · rw [if_pos q, tl_append, tl_append, ht]
    exact ⟨_, _, rfl, by omega⟩
  · rw [if_neg q, ht]
    exact ⟨_, _, rfl, by omega⟩
theorem deq_str (a b : Str) : deq (.str a) (.str b) = decide (a = b) := by
  show PyData.eqv (.str a) (.str b) = _
  unfold PyData.eqv
  rfl
end Sky
namespace Sky
open PySem L2 Evl PySem.Spec PyProof.Rows TL
/-! ### what show and its own defs tell -/
def wfD (d : Da) (lo hi : Int) : Option Bool := match d with
  | .int i => some (decide (lo ≤ i) && decide (i ≤ hi))
  | d => match isWholeD d with | some false => some false | _ => none
def fWholeFrom : List Da → Option XO
  | [d, .int lo, .int hi] => (wfD d lo hi).map fun b => .ok (.bl b)
  | _ => none
theorem wf_some {d : Da} {lo hi : Int} {b : Bool} (h : wfD d lo hi = some b) : fWholeFrom ([d, .int lo, .int hi] ++ []) = some (.ok (.bl b)) := by
  show (wfD d lo hi).map _ = _
  rw [h]; rfl
def isFormD (a b : Da) : Option Bool := match wfD a 1 8 with
  | some true => wfD b 0 8
  | some false => (wfD b 0 8).map fun _ => false
  | none => none
def fIsForm : List Da → Option XO
  | [.tup [a, b]] => (isFormD a b).map fun b => .ok (.bl b)
  | _ => none
theorem form_some {a b : Da} {u : Bool} (h : isFormD a b = some u) : fIsForm ([.tup [a, b]] ++ []) = some (.ok (.bl u)) := by
  show (isFormD a b).map _ = _
  rw [h]; rfl
theorem form_int {w p : Int} (h1 : 1 ≤ w) (h2 : w ≤ 8) (h3 : 0 ≤ p) (h4 : p ≤ 8) : isFormD (.int w) (.int p) = some true := by
  have e1 : wfD (.int w) 1 8 = some true := by
    show some (decide (1 ≤ w) && decide (w ≤ 8)) = _
    rw [decide_eq_true h1, decide_eq_true h2]; rfl
  have e2 : wfD (.int p) 0 8 = some true := by
    show some (decide (0 ≤ p) && decide (p ≤ 8)) = _
    rw [decide_eq_true h3, decide_eq_true h4]; rfl
  unfold isFormD
  rw [e1]
  exact e2
def fSix : List Da → Option XO
  | [.int n] => if 0 ≤ n ∧ n ≤ 16 then some (.ok (.int (60 ^ n.toNat))) else none
  | _ => none
theorem fSix_inv {ds : List Da} {o : XO} (h : fSix ds = some o) : ∃ n : Nat, n ≤ 16 ∧ ds = [.int (n : Int)] ∧ o = .ok (.int (60 ^ n)) := by
  unfold fSix at h
  split at h
  · split at h
    · rename_i n hh
      exact ⟨n.toNat, by omega, by rw [Int.toNat_of_nonneg hh.1], (Option.some.inj h).symm⟩
    · cases h
  · cases h
theorem fSix_ok {n : Nat} (h : n ≤ 16) : fSix ([.int (n : Int)] ++ []) = some (.ok (.int (60 ^ n))) := by
  show (if 0 ≤ (n : Int) ∧ (n : Int) ≤ 16 then some (XO.ok (.int (60 ^ ((n : Int)).toNat))) else none) = _
  rw [if_pos ⟨by omega, by omega⟩, Int.toNat_natCast]
def fGroups : List Da → Option XO
  | [.int u, .int n] => if 0 ≤ u ∧ u < 2 ^ 100 ∧ 0 ≤ n ∧ n ≤ 16 then some (.ok (.lst ((gsT u n.toNat).map .str))) else none
  | _ => none
theorem fGroups_inv {ds : List Da} {o : XO} (h : fGroups ds = some o) : ∃ (u : Int) (n : Nat), 0 ≤ u ∧ u < 2 ^ 100 ∧ n ≤ 16 ∧ ds = [.int u, .int (n : Int)] ∧ o = .ok (.lst ((gsT u n).map .str)) := by
  unfold fGroups at h
  split at h
  · split at h
    · rename_i u n hh
      exact ⟨u, n.toNat, hh.1, hh.2.1, by omega, by rw [Int.toNat_of_nonneg hh.2.2.1], (Option.some.inj h).symm⟩
    · cases h
  · cases h
theorem fGroups_ok {u : Int} {n : Nat} (h0 : 0 ≤ u) (h1 : u < 2 ^ 100) (h : n ≤ 16) : fGroups ([.int u, .int (n : Int)] ++ []) = some (.ok (.lst ((gsT u n).map .str))) := by
  show (if 0 ≤ u ∧ u < 2 ^ 100 ∧ 0 ≤ (n : Int) ∧ (n : Int) ≤ 16 then some (XO.ok (.lst ((gsT u ((n : Int)).toNat).map .str))) else none) = _
  rw [if_pos ⟨h0, h1, by omega, by omega⟩, Int.toNat_natCast]
open Classical in
noncomputable def fJoinG : List Da → Option XO
  | [.lst ds, .int w] => if h : ∃ ys : List Str, ds = ys.map .str ∧ ys.length ≤ 16 ∧ (∀ y ∈ ys, y.length = 2) ∧ 0 ≤ w then some (.ok (.str (joinG h.choose w.toNat))) else none
  | _ => none
theorem str_inj : ∀ {a b : List Str}, a.map Da.str = b.map Da.str → a = b
  | [], [], _ => rfl
  | [], _ :: _, h => by cases h
  | _ :: _, [], h => by cases h
  | x :: r, y :: s, h => by
    rw [List.map_cons, List.map_cons] at h
    injection h with h1 h2
    injection h1 with h1
    rw [h1, str_inj h2]
theorem fJoinG_inv {ds : List Da} {o : XO} (h : fJoinG ds = some o) : ∃ (ys : List Str) (w : Nat), ys.length ≤ 16 ∧ (∀ y ∈ ys, y.length = 2) ∧ ds = [.lst (ys.map .str), .int (w : Int)] ∧ o = .ok (.str (joinG ys w)) := by
  unfold fJoinG at h
  split at h
  · split at h
    · rename_i ds w hh
      obtain ⟨e, l, q, z⟩ := hh.choose_spec
      refine ⟨hh.choose, w.toNat, l, q, ?_, (Option.some.inj h).symm⟩
      rw [← e, Int.toNat_of_nonneg z]
    · cases h
  · cases h
open Classical in
theorem fJoinG_ok {ys : List Str} {w : Nat} (h1 : ys.length ≤ 16) (h2 : ∀ y ∈ ys, y.length = 2) : fJoinG ([.lst (ys.map .str), .int (w : Int)] ++ []) = some (.ok (.str (joinG ys w))) := by
  have hh : ∃ zs : List Str, ys.map Da.str = zs.map Da.str ∧ zs.length ≤ 16 ∧ (∀ y ∈ zs, y.length = 2) ∧ 0 ≤ (w : Int) := ⟨ys, rfl, h1, h2, by omega⟩
  show (if h : ∃ zs : List Str, ys.map Da.str = zs.map Da.str ∧ zs.length ≤ 16 ∧ (∀ y ∈ zs, y.length = 2) ∧ 0 ≤ (w : Int) then some (XO.ok (.str (joinG h.choose ((w : Int)).toNat))) else none) = _
  rw [dif_pos hh, Int.toNat_natCast, ← str_inj hh.choose_spec.1]
/-- units of a worth in the last part's -/
def showOk (a b : Int) (w p : Nat) : Prop := 0 ≤ a * 60 ^ p / b ∧ a * 60 ^ p / b < 60 ^ (w + p) ∧ a * 60 ^ p % b = 0
instance (a b : Int) (w p : Nat) : Decidable (showOk a b w p) := inferInstanceAs (Decidable (_ ∧ _))
def shown (a b : Int) (w p : Nat) : Str := joinG (gsT (a * 60 ^ p / b) (w + p)) w
/-- show: what is no worth, no form; a worth that fits or not -/
def fShowI (CF : Addr) : Da → Da → Da → Option XO
  | .tup [.int a, .int b], .int w, .int p => if Bn a ∧ Bn b then some (if showOk a b w.toNat p.toNat then .ok (.str (shown a b w.toNat p.toNat)) else .err CF none) else none
  | _, _, _ => none
def fShow3 (CW CF : Addr) (d x y : Da) : Option XO := match isWorthD d, isFormD x y with
  | some false, some _ => some (.err CW none)
  | some true, some false => some (.err CW none)
  | some true, some true => fShowI CF d x y
  | _, _ => none
def fShow (CW CF : Addr) : List Da → Option XO
  | [d, x, y] => fShow3 CW CF d x y
  | _ => none
theorem cut_headD {ds : List Da} (n : Nat) : cutD ds none (some (n : Int)) = ds.take n := by
  have e : cutD ds none (some (n : Int)) = (ds.drop 0).take (min n ds.length - 0) := by
    unfold cutD
    congr 1
  rw [e, List.drop_zero, Nat.sub_zero]
  by_cases hh : n ≤ ds.length
  · rw [Nat.min_eq_left hh]
  · rw [Nat.min_eq_right (by omega), List.take_of_length_le (Nat.le_refl _), List.take_of_length_le (by omega)]
theorem cut_tailD {ds : List Da} (n : Nat) : cutD ds (some (n : Int)) none = ds.drop n := by
  have e : cutD ds (some (n : Int)) none = (ds.drop (min n ds.length)).take (ds.length - min n ds.length) := by
    unfold cutD
    congr 1
  rw [e, List.take_of_length_le (by rw [List.length_drop]; omega)]
  by_cases hh : n ≤ ds.length
  · rw [Nat.min_eq_left hh]
  · rw [Nat.min_eq_right (by omega), List.drop_eq_nil_of_le (Nat.le_refl _), List.drop_eq_nil_of_le (by omega)]
theorem p60 (n : Nat) (h : n ≤ 16) : (60 : Int) ^ n ≤ 60 ^ 16 ∧ 0 < (60 : Int) ^ n := by
  refine ⟨?_, Int.pow_pos (by decide)⟩
  have : (60 : Nat) ^ n ≤ 60 ^ 16 := Nat.pow_le_pow_right (by decide) h
  exact_mod_cast this
theorem cm60 {i : Int} {n : Nat} (h : n ≤ 16) (hi : Bn i) : CMulW i (60 ^ n) := by
  have := p60 n h
  exact bn_mul hi (show ((60 : Int) ^ n).natAbs < 2 ^ 124 from Nat.lt_of_le_of_lt (show ((60 : Int) ^ n).natAbs ≤ (60 ^ 16 : Int).natAbs by omega) (by decide))
theorem bn60 {n : Nat} (h : n ≤ 16) : Bn (60 ^ n) := by
  have := p60 n h
  exact Nat.lt_of_le_of_lt (show ((60 : Int) ^ n).natAbs ≤ (60 ^ 16 : Int).natAbs by omega) (by decide)
theorem divp_bn {i j : Int} (hj : 0 < j) (hi : i.natAbs < 2 ^ 250) : CDivP i j := divp_ok hj (by
  have := PyProof.Rows.intBits_le hi
  omega)
end Sky
namespace Sky
open PySem L2 Evl PySem.Spec PyProof.Rows TL
theorem fShowI_inv {CF : Addr} {d x y : Da} {o : XO} (h : fShowI CF d x y = some o) : ∃ a b w p, d = .tup [.int a, .int b] ∧ x = .int w ∧ y = .int p ∧ Bn a ∧ Bn b ∧ o = (if showOk a b w.toNat p.toNat then .ok (.str (shown a b w.toNat p.toNat)) else .err CF none) := by
  unfold fShowI at h
  split at h
  · split at h
    · rename_i hb
      exact ⟨_, _, _, _, rfl, rfl, rfl, hb.1, hb.2, (Option.some.inj h).symm⟩
    · cases h
  · cases h
theorem form_inv {w p : Int} (h : isFormD (.int w) (.int p) = some true) : 1 ≤ w ∧ w ≤ 8 ∧ 0 ≤ p ∧ p ≤ 8 := by
  have e1 : wfD (.int w) 1 8 = some (decide (1 ≤ w) && decide (w ≤ 8)) := rfl
  have e2 : wfD (.int p) 0 8 = some (decide (0 ≤ p) && decide (p ≤ 8)) := rfl
  unfold isFormD at h
  rw [e1, e2] at h
  cases q4 : (decide (1 ≤ w) && decide (w ≤ 8)) with
  | false => rw [q4] at h; cases h
  | true =>
    rw [q4] at h
    have q5 := Option.some.inj h
    have a1 := Bool.and_eq_true_iff.mp q4
    have a2 := Bool.and_eq_true_iff.mp q5
    exact ⟨of_decide_eq_true a1.1, of_decide_eq_true a1.2, of_decide_eq_true a2.1, of_decide_eq_true a2.2⟩
theorem fShow_inv {CW CF : Addr} {ds : List Da} {o : XO} (h : fShow CW CF ds = some o) : ∃ d x y, ds = [d, x, y] ∧
    ((isWorthD d = some false ∧ o = .err CW none) ∨ (isWorthD d = some true ∧ isFormD x y = some false ∧ o = .err CW none) ∨
     ∃ (a b : Int) (w p : Nat), d = .tup [.int a, .int b] ∧ x = .int (w : Int) ∧ y = .int (p : Int) ∧ isW a b = true ∧ 1 ≤ w ∧ w ≤ 8 ∧ p ≤ 8 ∧ Bn a ∧ Bn b ∧ o = (if showOk a b w p then .ok (.str (shown a b w p)) else .err CF none)) := by
  unfold fShow at h
  split at h
  · rename_i d x y
    refine ⟨d, x, y, rfl, ?_⟩
    unfold fShow3 at h
    split at h
    · rename_i q _
      exact .inl ⟨q, (Option.some.inj h).symm⟩
    · rename_i q q2
      exact .inr (.inl ⟨q, q2, (Option.some.inj h).symm⟩)
    · rename_i q q2
      obtain ⟨a, b, w, p, rfl, rfl, rfl, h1, h2, rfl⟩ := fShowI_inv h
      have fw := form_inv q2
      have hw : ((w.toNat : Nat) : Int) = w := Int.toNat_of_nonneg (by omega)
      have hp : ((p.toNat : Nat) : Int) = p := Int.toNat_of_nonneg (by omega)
      exact .inr (.inr ⟨a, b, w.toNat, p.toNat, rfl, by rw [hw], by rw [hp], Option.some.inj q, by omega, by omega, by omega, h1, h2, rfl⟩)
    · cases h
  · cases h
theorem fShow_ok {CW CF : Addr} {a b : Int} {w p : Nat} (h : isW a b = true) (h1 : 1 ≤ w) (h2 : w ≤ 8) (h3 : p ≤ 8) (ha : Bn a) (hb : Bn b) : fShow CW CF [.tup [.int a, .int b], .int (w : Int), .int (p : Int)] = some (if showOk a b w p then .ok (.str (shown a b w p)) else .err CF none) := by
  have q1 : isWorthD (.tup [.int a, .int b]) = some true := by rw [isWorthD_int, h]
  have q2 : isFormD (.int (w : Int)) (.int (p : Int)) = some true := form_int (by omega) (by omega) (by omega) (by omega)
  show fShow3 CW CF _ _ _ = _
  unfold fShow3
  rw [q1, q2]
  show (if Bn a ∧ Bn b then some (if showOk a b ((w : Int)).toNat ((p : Int)).toNat then XO.ok (.str (shown a b ((w : Int)).toNat ((p : Int)).toNat)) else .err CF none) else none) = _
  rw [if_pos ⟨ha, hb⟩, Int.toNat_natCast, Int.toNat_natCast]
end Sky
namespace Sky
open PySem L2 Evl PySem.Spec PyProof.Rows TL
/-! ### what fits, in numbers -/
theorem bt_one {u l : Int} (h : 0 < l) : bt u l = 1 ↔ u % l = 0 := by
  obtain ⟨z, q, r, h1, h2, h3, h4, h5⟩ := lw_ex u (show l ≠ 0 by omega)
  rw [(lw_of h1 h2 h3 h4 h5).2]
  constructor
  · intro e
    have : l ∣ u := ⟨q, by rw [h2, h3, e, Int.mul_one]⟩
    exact Int.emod_eq_zero_of_dvd this
  · intro e
    obtain ⟨c, hc⟩ := Int.dvd_of_emod_eq_zero e
    rw [h2, h3, Int.mul_assoc] at hc
    have hq := Int.eq_of_mul_eq_mul_left h1 hc
    have : r.natAbs ∣ Nat.gcd q.natAbs r.natAbs := Nat.dvd_gcd (by rw [hq, Int.natAbs_mul]; exact Nat.dvd_mul_right _ _) (Nat.dvd_refl _)
    rw [h5] at this
    have := Nat.le_of_dvd (by decide) this
    omega
def goodB (A B : Int) (w p : Nat) : Bool := decide (0 ≤ A) && (decide (A * 1 < 60 ^ w * B) && deq (.int (bt (A * 60 ^ p) (B * 1))) (.int 1))
theorem good_is {A B : Int} {w p : Nat} (hB : 0 < B) : goodB A B w p = decide (showOk A B w p) := by
  have S0 : (0 : Int) < 60 ^ p := Int.pow_pos (by decide)
  have b1 := bt_one (u := A * 60 ^ p) (l := B * 1) (by omega)
  rw [Int.mul_one] at b1
  have e : goodB A B w p = true ↔ showOk A B w p := by
    unfold goodB showOk
    rw [deq_int, Int.mul_one, Int.mul_one]
    simp only [Bool.and_eq_true, decide_eq_true_eq, beq_iff_eq]
    rw [b1]
    generalize hS : (60 : Int) ^ p = S at *
    have ew : (60 : Int) ^ (w + p) = 60 ^ w * S := by rw [Int.pow_add, hS]
    rw [ew]
    generalize (60 : Int) ^ w = Z
    constructor
    · rintro ⟨h1, h2, h3⟩
      have d := Int.emod_add_mul_ediv (A * S) B
      rw [h3, Int.zero_add] at d
      have k1 : 0 ≤ A * S / B := Int.ediv_nonneg (Int.mul_nonneg h1 (by omega)) (by omega)
      refine ⟨k1, ?_, h3⟩
      have : B * (A * S / B) < B * (Z * S) := by
        rw [d]
        have := Int.mul_lt_mul_of_pos_right h2 S0
        have e2 : Z * B * S = B * (Z * S) := by grind
        omega
      exact Int.lt_of_mul_lt_mul_left this (by omega)
    · rintro ⟨h1, h2, h3⟩
      have d := Int.emod_add_mul_ediv (A * S) B
      rw [h3, Int.zero_add] at d
      refine ⟨?_, ?_, h3⟩
      · by_cases n : 0 ≤ A
        · exact n
        · have : A * S < 0 := Int.mul_neg_of_neg_of_pos (by omega) S0
          have : 0 ≤ B * (A * S / B) := Int.mul_nonneg (by omega) h1
          omega
      · have h4 := Int.mul_lt_mul_of_pos_left h2 hB
        rw [d] at h4
        have e2 : B * (Z * S) = (Z * B) * S := by grind
        rw [e2] at h4
        exact Int.lt_of_mul_lt_mul_right h4 (by omega)
  cases q : goodB A B w p with
  | true => exact (decide_eq_true (e.mp q)).symm
  | false =>
    refine (decide_eq_false fun z => ?_).symm
    rw [e.mpr z] at q
    cases q
def noneS : Str := "none"
def otherS : Str := "other"
theorem shown_facts {A B : Int} {w p : Nat} (h1 : 1 ≤ w) (h3 : w + p ≤ 16) : (Sky.shown A B w p).length + 1 = 3 * (w + p) ∧ Sky.shown A B w p ≠ noneS ∧ Sky.shown A B w p ≠ otherS := by
  have gl := gsT_len (A * 60 ^ p / B) (w + p)
  have g2 := gsT_two (A * 60 ^ p / B) (w + p)
  have l := joinG_len (ys := gsT (A * 60 ^ p / B) (w + p)) (w := w) (fun y hy => by obtain ⟨i, _, _, rfl⟩ := g2 y hy; rfl) h1 (by omega)
  rw [gl] at l
  refine ⟨l, fun e => ?_, fun e => ?_⟩
  · have : (Sky.shown A B w p).length = 4 := by rw [e]; rfl
    have : (joinG (gsT (A * 60 ^ p / B) (w + p)) w).length = 4 := this
    omega
  · obtain ⟨c, t, e1, e2⟩ := joinG_head (w := w) g2 h1 (by omega)
    have e3 : tl (Sky.shown A B w p) = c :: t := e1
    rw [e] at e3
    have e4 : tl otherS = 111 :: (tl otherS).tail := by decide
    rw [e4] at e3
    injection e3 with e5
    omega
open Classical in
/-- told: the text, or that there is none -/
noncomputable def fTold : List Da → Option XO
  | [.tup [.int a, .int b], .int w, .int p] => if isW a b = true ∧ 1 ≤ w ∧ w ≤ 8 ∧ 0 ≤ p ∧ p ≤ 8 ∧ Bn a ∧ Bn b then some (.ok (.str (if showOk a b w.toNat p.toNat then Sky.shown a b w.toNat p.toNat else noneS))) else none
  | _ => none
theorem fTold_inv {ds : List Da} {o : XO} (h : fTold ds = some o) : ∃ (a b : Int) (w p : Nat), ds = [.tup [.int a, .int b], .int (w : Int), .int (p : Int)] ∧ isW a b = true ∧ 1 ≤ w ∧ w ≤ 8 ∧ p ≤ 8 ∧ Bn a ∧ Bn b ∧ o = .ok (.str (if showOk a b w p then Sky.shown a b w p else noneS)) := by
  unfold fTold at h
  split at h
  · split at h
    · rename_i a b w p hh
      obtain ⟨h1, h2, h3, h4, h5, h6, h7⟩ := hh
      have hw : ((w.toNat : Nat) : Int) = w := Int.toNat_of_nonneg (by omega)
      have hp : ((p.toNat : Nat) : Int) = p := Int.toNat_of_nonneg (by omega)
      exact ⟨a, b, w.toNat, p.toNat, by rw [hw, hp], h1, by omega, by omega, by omega, h6, h7, (Option.some.inj h).symm⟩
    · cases h
  · cases h
open Classical in
theorem fTold_ok {a b : Int} {w p : Nat} (h : isW a b = true) (h1 : 1 ≤ w) (h2 : w ≤ 8) (h3 : p ≤ 8) (ha : Bn a) (hb : Bn b) : fTold ([.tup [.int a, .int b], .int (w : Int), .int (p : Int)] ++ []) = some (.ok (.str (if showOk a b w p then Sky.shown a b w p else noneS))) := by
  show (if isW a b = true ∧ 1 ≤ (w : Int) ∧ (w : Int) ≤ 8 ∧ 0 ≤ (p : Int) ∧ (p : Int) ≤ 8 ∧ Bn a ∧ Bn b then some (XO.ok (.str (if showOk a b ((w : Int)).toNat ((p : Int)).toNat then Sky.shown a b ((w : Int)).toNat ((p : Int)).toNat else noneS))) else none) = _
  rw [if_pos ⟨h, by omega, by omega, by omega, by omega, ha, hb⟩, Int.toNat_natCast, Int.toNat_natCast]
/-! the drawn pairs -/
def prD (x : Int × Int) : Da := .tup [.int x.1, .int x.2]
theorem at_prs {ns : List (Int × Int)} {i : Int} (h0 : 0 ≤ i) (h1 : i < ns.length) : atI (ns.map prD) i = some (prD (ns.getD i.toNat (0, 1))) := by
  unfold atI ixN
  rw [if_pos h0, List.length_map, if_pos h1]
  show (ns.map prD)[i.toNat]? = _
  rw [List.getElem?_map, List.getD_eq_getElem?_getD, List.getElem?_eq_getElem (by omega)]
  rfl
end Sky
namespace Sky
open PySem L2 Evl PySem.Spec PyProof.Rows TL
/-! texts of plain signs may be compared -/
def okS (x : Str) : Prop := ∀ c ∈ tl x, c < 1000
instance (x : Str) : Decidable (okS x) := inferInstanceAs (Decidable (∀ c ∈ tl x, c < 1000))
theorem okS_app {x y : Str} (h : okS x) (k : okS y) : okS (x ++ y) := fun c hc => by
  rw [tl_append] at hc
  rcases List.mem_append.mp hc with z | z
  · exact h c z
  · exact k c z
theorem okS_two {i : Int} (h0 : 0 ≤ i) (h1 : i < 60) : okS (two i) := fun c hc => by
  have e : tl (two i) = [48 + (i / 10).toNat, 48 + (i % 10).toNat] := rfl
  rw [e] at hc
  rcases List.mem_cons.mp hc with z | z
  · omega
  · rcases List.mem_singleton.mp z with z
    omega
theorem okS_join {s : Str} (hs : okS s) : ∀ {ys : List Str}, (∀ y ∈ ys, okS y) → okS (Txt.join s ys)
  | [], _ => by rw [join_eq]; intro c hc; cases hc
  | [y], h => by rw [join_eq]; exact h y (by simp)
  | y :: z :: r, h => by
    have ih := okS_join hs (ys := z :: r) (fun w hw => h w (List.mem_cons_of_mem _ hw))
    rw [join_eq] at ih ⊢
    exact okS_app (okS_app (h y (by simp)) hs) ih
theorem okS_shown {A B : Int} {w p : Nat} : okS (Sky.shown A B w p) := by
  have g := gsT_two (A * 60 ^ p / B) (w + p)
  have g2 : ∀ y ∈ gsT (A * 60 ^ p / B) (w + p), okS y := fun y hy => by obtain ⟨i, h0, h1, rfl⟩ := g y hy; exact okS_two h0 h1
  show okS (joinG _ _)
  unfold joinG
  split
  · exact okS_app (okS_app (okS_join (by decide) fun y hy => g2 y (List.mem_of_mem_take hy)) (by decide)) (okS_join (by decide) fun y hy => g2 y (List.mem_of_mem_drop hy))
  · exact okS_join (by decide) fun y hy => g2 y (List.mem_of_mem_take hy)
theorem cmp_str {x : Str} (h : okS x) : Cmp (.str x) := by
  refine ⟨rfl, ?_⟩
  show ((x.cps.all fun c => decide (c < 1114112)) && decide (0 ≤ 64)) = true
  have : (x.cps.all fun c => decide (c < 1114112)) = true := by
    rw [← Array.all_toList]
    exact List.all_eq_true.mpr fun c hc => decide_eq_true (Nat.lt_trans (h c hc) (by decide))
  rw [this]
  rfl
end Sky
namespace Sky
open PySem L2 Evl PySem.Spec PyProof.Rows
/-! ### one row on, in numbers -/
def oneOn (l h t x : Int) (r : Bool) : Int × Bool :=
  if (if x = l then true else if x = h then false else r) = true then (if x + t < h then (x + t, true) else (2 * h - (x + t), false)) else (if l < x - t then (x - t, false) else (2 * l - (x - t), true))
/-- how far round: x and r at p -/
structure At (l h p x : Int) (r : Bool) : Prop where
  p0 : 0 ≤ p
  p1 : p < 2 * (h - l)
  x : x = l + (if 2 * (h - l) - p < p then 2 * (h - l) - p else p)
  r : p ≠ 0 → p ≠ h - l → r = decide (p < h - l)
def on (S t p : Int) : Int := (p + t) % (2 * S)
theorem on_cases {S t p : Int} (h0 : 0 ≤ p) (h1 : p < 2 * S) (t0 : 0 < t) (t1 : t ≤ S) : (p + t < 2 * S ∧ on S t p = p + t) ∨ (2 * S ≤ p + t ∧ on S t p = p + t - 2 * S) := by
  unfold on
  rcases Int.lt_or_le (p + t) (2 * S) with q | q
  · exact .inl ⟨q, Int.emod_eq_of_lt (by omega) q⟩
  · refine .inr ⟨q, ?_⟩
    have : p + t = (p + t - 2 * S) + 2 * S := by omega
    rw [this, Int.add_emod_right, Int.emod_eq_of_lt (by omega) (by omega)]
    omega
theorem at_on {l h t p x : Int} {r : Bool} (H : At l h p x r) (t0 : 0 < t) (t1 : t ≤ h - l) : At l h (on (h - l) t p) (oneOn l h t x r).1 (oneOn l h t x r).2 := by
  obtain ⟨p0, p1, hx, hr⟩ := H
  have o := on_cases p0 p1 t0 t1
  unfold oneOn
  rcases Int.lt_or_le p (h - l) with q | q
  · have ex : x = l + p := by rw [hx, if_neg (by omega)]
    have er : (if x = l then true else if x = h then false else r) = true := by
      by_cases c : x = l
      · rw [if_pos c]
      · rw [if_neg c, if_neg (by omega), hr (by omega) (by omega), decide_eq_true q]
    rw [if_pos er]
    rcases o with ⟨o1, o2⟩ | ⟨o1, o2⟩
    · rw [o2]
      by_cases c : x + t < h
      · rw [if_pos c]
        exact ⟨by omega, by omega, by rw [if_neg (by omega)]; show x + t = _; omega, fun _ _ => (decide_eq_true (by omega)).symm⟩
      · rw [if_neg c]
        refine ⟨by omega, by omega, ?_, fun _ _ => (decide_eq_false (by omega)).symm⟩
        show 2 * h - (x + t) = _
        split <;> omega
    · omega
  · have ex : x = l + (2 * (h - l) - p) := by rw [hx]; split <;> omega
    have er : ¬ (if x = l then true else if x = h then false else r) = true := by
      rw [if_neg (by omega)]
      by_cases c : x = h
      · rw [if_pos c]; decide
      · rw [if_neg c, hr (by omega) (by omega), decide_eq_false (by omega)]; decide
    rw [if_neg er]
    rcases o with ⟨o1, o2⟩ | ⟨o1, o2⟩
    · rw [o2, if_pos (by omega)]
      refine ⟨by omega, by omega, ?_, fun _ _ => (decide_eq_false (by omega)).symm⟩
      show x - t = _
      rw [if_pos (by omega)]
      omega
    · rw [o2, if_neg (by omega)]
      refine ⟨by omega, by omega, ?_, fun _ _ => (decide_eq_true (by omega)).symm⟩
      show 2 * l - (x - t) = _
      rw [if_neg (by omega)]
      omega
/-- the way as the law reads it -/
theorem at_goes {l h p x : Int} {r : Bool} (H : At l h p x r) (lh : l < h) : (!decide (x = h) && (r || decide (x = l))) = decide (p < h - l) := by
  obtain ⟨p0, p1, hx, hr⟩ := H
  rcases Int.lt_or_le p (h - l) with q | q
  · have ex : x = l + p := by rw [hx, if_neg (by omega)]
    rw [decide_eq_true q, decide_eq_false (show ¬ x = h by omega)]
    by_cases c : p = 0
    · rw [decide_eq_true (show x = l by omega), Bool.or_true]; rfl
    · rw [hr c (by omega), decide_eq_true q]; rfl
  · have ex : x = l + (2 * (h - l) - p) := by rw [hx]; split <;> omega
    rw [decide_eq_false (show ¬ p < h - l by omega)]
    by_cases c : p = h - l
    · rw [decide_eq_true (show x = h by omega)]; rfl
    · rw [hr (by omega) c, decide_eq_false (show ¬ p < h - l by omega), decide_eq_false (show ¬ x = l by omega), Bool.or_false, Bool.and_false]
theorem at_inj {l h p q x y : Int} {r s : Bool} (H : At l h p x r) (G : At l h q y s) (e : x = y) (f : decide (p < h - l) = decide (q < h - l)) : p = q := by
  have a := H.x
  have b := G.x
  have a0 := H.p0
  have a1 := H.p1
  have b0 := G.p0
  have b1 := G.p1
  rcases Int.lt_or_le p (h - l) with c | c
  · rw [decide_eq_true c] at f
    have d := of_decide_eq_true f.symm
    rw [if_neg (by omega)] at a b
    omega
  · rw [decide_eq_false (by omega)] at f
    have d := of_decide_eq_false f.symm
    have a' : x = l + (2 * (h - l) - p) := by rw [a]; split <;> omega
    have b' : y = l + (2 * (h - l) - q) := by rw [b]; split <;> omega
    omega
theorem at_x {l h p x : Int} {r : Bool} (H : At l h p x r) : l ≤ x ∧ x ≤ h := by
  have a := H.x
  have a0 := H.p0
  have a1 := H.p1
  rw [a]
  split <;> omega
/-- where a line begins -/
def beg (l h a : Int) (u : Bool) : Int := (if u = true then a - l else 2 * (h - l) - (a - l)) % (2 * (h - l))
theorem at_beg {l h a : Int} {u : Bool} (lh : l < h) (la : l ≤ a) (ah : a ≤ h) : At l h (beg l h a u) a u := by
  unfold beg
  cases u with
  | true =>
    show At l h ((a - l) % (2 * (h - l))) a true
    rw [Int.emod_eq_of_lt (by omega) (by omega)]
    refine ⟨by omega, by omega, by rw [if_neg (by omega)]; omega, fun _ _ => (decide_eq_true (by omega)).symm⟩
  | false =>
    show At l h ((2 * (h - l) - (a - l)) % (2 * (h - l))) a false
    by_cases c : a = l
    · have : 2 * (h - l) - (a - l) = 2 * (h - l) := by omega
      rw [this, Int.emod_self]
      exact ⟨by omega, by omega, by rw [if_neg (by omega)]; omega, fun z => absurd rfl z⟩
    · rw [Int.emod_eq_of_lt (by omega) (by omega)]
      refine ⟨by omega, by omega, ?_, fun _ _ => (decide_eq_false (by omega)).symm⟩
      split <;> omega
/-- so many rows on -/
def onN (S t p : Int) (i : Nat) : Int := (p + t * i) % (2 * S)
theorem onN_zero {S t p : Int} (h0 : 0 ≤ p) (h1 : p < 2 * S) : onN S t p 0 = p := by
  unfold onN
  show (p + t * 0) % (2 * S) = p
  rw [Int.mul_zero, Int.add_zero, Int.emod_eq_of_lt h0 h1]
theorem onN_succ {S t p : Int} (i : Nat) : onN S t p (i + 1) = on S t (onN S t p i) := by
  unfold onN on
  rw [Int.emod_add_emod]
  congr 1
  have : ((i + 1 : Nat) : Int) = (i : Int) + 1 := by omega
  rw [this, Int.mul_add]
  omega
def itr (l h t : Int) (s : Int × Bool) : Nat → Int × Bool
  | 0 => s
  | i + 1 => oneOn l h t (itr l h t s i).1 (itr l h t s i).2
theorem at_itr {l h t a : Int} {u : Bool} (lh : l < h) (la : l ≤ a) (ah : a ≤ h) (t0 : 0 < t) (t1 : t ≤ h - l) : ∀ i, At l h (onN (h - l) t (beg l h a u) i) (itr l h t (a, u) i).1 (itr l h t (a, u) i).2
  | 0 => by
    have H := at_beg (u := u) lh la ah
    rw [onN_zero H.p0 H.p1]
    exact H
  | i + 1 => by
    rw [onN_succ]
    exact at_on (at_itr lh la ah t0 t1 i) t0 t1
/-- how many rows behind which it is so again -/
def perR (S t : Int) : Int := 2 * S / ((Nat.gcd t.natAbs (2 * S).natAbs : Nat) : Int)
def perQ (S t : Int) : Int := t / ((Nat.gcd t.natAbs (2 * S).natAbs : Nat) : Int)
theorem per_gen {M t : Int} (s0 : 0 < M) (t0 : 0 < t) : 0 < M / ((Nat.gcd t.natAbs M.natAbs : Nat) : Int) ∧ 0 < t / ((Nat.gcd t.natAbs M.natAbs : Nat) : Int) ∧ M * (t / ((Nat.gcd t.natAbs M.natAbs : Nat) : Int)) = t * (M / ((Nat.gcd t.natAbs M.natAbs : Nat) : Int)) ∧ ∀ i : Nat, (M ∣ t * i ↔ M / ((Nat.gcd t.natAbs M.natAbs : Nat) : Int) ∣ (i : Int)) := by
  have gp : 0 < Nat.gcd t.natAbs M.natAbs := Nat.gcd_pos_of_pos_left _ (by omega)
  have d1 : ((Nat.gcd t.natAbs M.natAbs : Nat) : Int) ∣ t := Int.ofNat_dvd_left.mpr (Nat.gcd_dvd_left _ _)
  have d2 : ((Nat.gcd t.natAbs M.natAbs : Nat) : Int) ∣ M := Int.ofNat_dvd_left.mpr (Nat.gcd_dvd_right _ _)
  obtain ⟨a, ha⟩ := d1
  obtain ⟨b, hb⟩ := d2
  have gcd1 : Nat.gcd a.natAbs b.natAbs = 1 := by
    have e1 : t.natAbs = Nat.gcd t.natAbs M.natAbs * a.natAbs := by
      have := congrArg Int.natAbs ha
      rwa [Int.natAbs_mul, Int.natAbs_natCast] at this
    have e2 : M.natAbs = Nat.gcd t.natAbs M.natAbs * b.natAbs := by
      have := congrArg Int.natAbs hb
      rwa [Int.natAbs_mul, Int.natAbs_natCast] at this
    have e3 : Nat.gcd (Nat.gcd t.natAbs M.natAbs * a.natAbs) (Nat.gcd t.natAbs M.natAbs * b.natAbs) = Nat.gcd t.natAbs M.natAbs * Nat.gcd a.natAbs b.natAbs := Nat.gcd_mul_left _ _ _
    rw [← e1, ← e2] at e3
    exact Nat.eq_of_mul_eq_mul_left gp (by rw [Nat.mul_one]; exact e3.symm)
  generalize hg : ((Nat.gcd t.natAbs M.natAbs : Nat) : Int) = g at *
  have g0 : 0 < g := by omega
  have ea : t / g = a := by rw [ha, Int.mul_ediv_cancel_left _ (by omega)]
  have eb : M / g = b := by rw [hb, Int.mul_ediv_cancel_left _ (by omega)]
  have a0 : 0 < a := by
    rw [ha] at t0
    exact Int.pos_of_mul_pos_right t0 g0 |> fun z => z
  have b0 : 0 < b := by
    have : 0 < M := by omega
    rw [hb] at this
    exact Int.pos_of_mul_pos_right this g0 |> fun z => z
  rw [ea, eb]
  refine ⟨b0, a0, ?_, fun i => ?_⟩
  · rw [hb, ha]; grind
  · constructor
    · rintro ⟨c, hc⟩
      have hh : g * (a * i) = g * (b * c) := by rw [hb, ha] at hc; grind
      have h2 := Int.eq_of_mul_eq_mul_left (show g ≠ 0 by omega) hh
      have : b.natAbs ∣ a.natAbs * i := by
        refine ⟨c.natAbs, ?_⟩
        have := congrArg Int.natAbs h2
        rwa [Int.natAbs_mul, Int.natAbs_mul, Int.natAbs_natCast] at this
      have : b.natAbs ∣ i := Nat.Coprime.dvd_of_dvd_mul_left (Nat.Coprime.symm gcd1) this
      exact Int.natAbs_dvd_natAbs.mp (by rw [Int.natAbs_natCast]; exact this)
    · rintro ⟨c, hc⟩
      exact ⟨a * c, by rw [hb, ha, hc]; grind⟩
theorem per_facts {S t : Int} (s0 : 0 < S) (t0 : 0 < t) : 0 < perR S t ∧ 0 < perQ S t ∧ 2 * S * perQ S t = t * perR S t ∧ ∀ i : Nat, (2 * S ∣ t * i ↔ perR S t ∣ (i : Int)) := per_gen (by omega) t0
theorem onN_back {S t p : Int} (h0 : 0 ≤ p) (h1 : p < 2 * S) (i : Nat) : onN S t p i = p ↔ 2 * S ∣ t * i := by
  unfold onN
  constructor
  · intro e
    have d : (2 * S) ∣ (p + t * i) - p := Int.dvd_self_sub_of_emod_eq e
    have e3 : p + t * i - p = t * i := by omega
    rwa [e3] at d
  · rintro ⟨c, hc⟩
    rw [hc, Int.add_mul_emod_self_left, Int.emod_eq_of_lt h0 h1]
end Sky
namespace Sky
open PySem L2 Evl PySem.Spec PyProof.Rows
def RUnit (ds : List Da) (o : XO) : Prop := ∃ ns, Dl ns ∧ ds = [.lst (ns.map .int)] ∧ o = .ok (lw (uTop (qf ns)) (uBot (qf ns)))
def ruleD (l h t a n : Int) (u : Bool) : Da := .tup [lw l n, lw h n, lw t n, lw a n, .bl u]
def RDrawn (ds : List Da) (o : XO) : Prop := ∃ ns, Dl ns ∧ ds = [.lst (ns.map .int)] ∧ o = .ok (ruleD (dl (qf ns)) (dh (qf ns)) (dt (qf ns)) (da (qf ns)) (dn (qf ns)) (du (qf ns)))
def ROne (ds : List Da) (o : XO) : Prop := ∃ l h t a n x u r, Ln l h t a n ∧ l ≤ x ∧ x ≤ h ∧ ds = [ruleD l h t a n u, lw x n, .bl r] ∧ o = .ok (.tup [lw (oneOn l h t x r).1 n, .bl (oneOn l h t x r).2])
theorem lw_int (x : Int) : .tup [.int x, .int 1] = lw x 1 := (lw_one x).symm
end Sky
namespace Sky
open PySem L2 Evl PySem.Spec PyProof.Rows
theorem deq_bl (r s : Bool) : deq (.bl r) (.bl s) = decide (r = s) := by cases r <;> cases s <;> rfl
theorem deq_pair (x y : Da) (r s : Bool) : deq (.tup [x, .bl r]) (.tup [y, .bl s]) = (deq x y && (deq (.bl r) (.bl s) && true)) := rfl
theorem deq_way {x y n : Int} (h : n ≠ 0) (r s : Bool) : deq (.tup [lw x n, .bl r]) (.tup [lw y n, .bl s]) = (decide (x = y) && decide (r = s)) := by
  rw [deq_pair, deq_lw h, deq_bl, Bool.and_true]
theorem cmp_way (x n : Int) (r : Bool) : Cmp (.tup [lw x n, .bl r]) := ⟨rfl, rfl⟩
def wayUp (h l x : Int) (r : Bool) : Bool := !decide (x = h) && (r || decide (x = l))
def RWalked (ds : List Da) (o : XO) : Prop := ∃ l h t a n u, Ln l h t a n ∧ ds = [ruleD l h t a n u] ∧ o = .ok (if perR (h - l) t ≤ 400 then .int (perR (h - l) t) else .non)
theorem at_same {l h p x y : Int} {r s : Bool} (H : At l h p x r) (G : At l h p y s) : x = y := H.x.trans G.x.symm
theorem way_back {l h t a n : Int} (u : Bool) (LN : Ln l h t a n) (i : Nat) : (decide ((itr l h t (a, u) i).1 = a) && decide (wayUp h l (itr l h t (a, u) i).1 (itr l h t (a, u) i).2 = wayUp h l a u)) = decide (perR (h - l) t ∣ (i : Int)) := by
  obtain ⟨n0, l0, lh, t0, th, la, ah, hb, nb⟩ := LN
  have H0 := at_beg (u := u) lh la ah
  have Hi := at_itr (u := u) lh la ah t0 th i
  have g0 := at_goes H0 lh
  have gi := at_goes Hi lh
  have bk := (onN_back (S := h - l) (t := t) H0.p0 H0.p1 i).trans ((per_facts (S := h - l) (by omega) t0).2.2.2 i)
  unfold wayUp
  rw [g0, gi]
  by_cases q : perR (h - l) t ∣ (i : Int)
  · have e := bk.mpr q
    rw [e] at Hi ⊢
    rw [decide_eq_true q, decide_eq_true (at_same Hi H0), decide_eq_true rfl]
    rfl
  · rw [decide_eq_false q]
    by_cases q1 : (itr l h t (a, u) i).1 = a
    · by_cases q2 : decide (onN (h - l) t (beg l h a u) i < h - l) = decide (beg l h a u < h - l)
      · exact absurd (bk.mp (at_inj Hi H0 q1 q2)) q
      · rw [decide_eq_false q2, Bool.and_false]
    · rw [decide_eq_false q1, Bool.false_and]
theorem itr_in {l h t a n : Int} (u : Bool) (LN : Ln l h t a n) (i : Nat) : l ≤ (itr l h t (a, u) i).1 ∧ (itr l h t (a, u) i).1 ≤ h := at_x (at_itr (u := u) LN.lh LN.la LN.ah LN.t0 LN.th i)
theorem per_scale {S T k : Int} (k0 : 0 < k) : perR (S * k) (T * k) = perR S T ∧ perQ (S * k) (T * k) = perQ S T := by
  unfold perR perQ
  have e : 2 * (S * k) = 2 * S * k := by grind
  have g : (Nat.gcd (T * k).natAbs (2 * S * k).natAbs : Nat) = Nat.gcd T.natAbs (2 * S).natAbs * k.natAbs := by
    rw [Int.natAbs_mul, Int.natAbs_mul, Nat.gcd_mul_right]
  have hk : ((k.natAbs : Nat) : Int) = k := Int.natAbs_of_nonneg (by omega)
  rw [e, g, Int.natCast_mul, hk]
  exact ⟨Int.mul_ediv_mul_of_pos_left _ _ k0, Int.mul_ediv_mul_of_pos_left _ _ k0⟩
theorem per_le {S T : Int} (s0 : 0 < S) (t0 : 0 < T) : perR S T ≤ 2 * S ∧ perQ S T ≤ T := by
  unfold perR perQ
  exact ⟨Int.ediv_le_self _ (by omega), Int.ediv_le_self _ (by omega)⟩
theorem pl_ints : ∀ ns : List Int, plA (ns.map .int) = true
  | [] => rfl
  | _ :: r => pl_ints r
theorem lay_ints : ∀ ns : List Int, PyData.canLayAll0 (pyA (ns.map .int)) = true
  | [] => rfl
  | _ :: r => lay_ints r
theorem dep_ints : ∀ ns : List Int, PyData.depthAll (pyA (ns.map .int)) ≤ 1
  | [] => Nat.zero_le _
  | _ :: r => Nat.max_le.mpr ⟨Nat.zero_le _, dep_ints r⟩
theorem cmp_ints (ns : List Int) : Cmp (.lst (ns.map .int)) := by
  refine ⟨pl_ints ns, ?_⟩
  unfold SeqAt.shaped
  rw [Bool.and_eq_true_iff]
  refine ⟨lay_ints ns, decide_eq_true ?_⟩
  have := dep_ints ns
  show PyData.depthAll (pyA (ns.map .int)) + 1 ≤ 64
  omega
theorem cut_head (ns : List Int) (n : Nat) : Sky.cutD (ns.map Da.int) none (some (n : Int)) = .map .int (ns.take n) := by
  have e : Sky.cutD (ns.map Da.int) none (some (n : Int)) = ((ns.map Da.int).drop 0).take (min n (ns.map Da.int).length - 0) := by
    unfold Sky.cutD
    congr 1
  rw [e, List.drop_zero, Nat.sub_zero, List.map_take]
  by_cases hh : n ≤ (ns.map Da.int).length
  · rw [Nat.min_eq_left hh]
  · rw [Nat.min_eq_right (by omega), List.take_of_length_le (Nat.le_refl _), List.take_of_length_le (by omega)]
open Classical in
noncomputable def fLaw : List Da → Option XO
  | [.lst ds] => if ∃ ns : List Int, ds = ns.map .int ∧ ns.length ≤ 63 then some (.ok (.bl true)) else none
  | _ => none
theorem fLaw_inv {ds : List Da} {o : XO} (h : fLaw ds = some o) : ∃ ns : List Int, ds = [.lst (ns.map .int)] ∧ o = .ok (.bl true) := by
  unfold fLaw at h
  split at h
  · split at h
    · rename_i hh
      obtain ⟨ns, e, _⟩ := hh
      exact ⟨ns, by rw [e], (Option.some.inj h).symm⟩
    · cases h
  · cases h
theorem fLaw_ok {ns : List Int} (h : ns.length ≤ 63) : fLaw [.lst (ns.map .int)] = some (.ok (.bl true)) := if_pos ⟨ns, rfl, h⟩
end Sky
namespace Sky
open PySem L2 Evl PySem.Spec PyProof.Rows
section
variable {X : Cx} {W : WX} {en e1 e2 : List Sl} {a b c e : Expr} {rest : List Expr} {p pos : Pos} {u v : Bool} {ds : List Da}
/-- {} -/
theorem ev_emp : EV X W en (.Dict [] [] pos) (.ok .emp) := ⟨_, pe_dnewK, fun B0 H0 B H σ S Q k => fun p hp => k _ _ _ (Gr.new S.eb hp) (.emp upd_same)⟩
/-- list(t) -/
theorem evl_listT (ha : EVA X W en [a] [.tup ds]) (hg : Gl X "list") (hm : X.mg "list" = none) (he : starEach [a] X.env = (false, eval a X.env) :: starEach [] X.env) (hpl : (backTo pos (starEach [] X.env)).any (·.1) = false) : EVL X W en (.Call (.Name "list" p) [a] [] pos) ds := by
  obtain ⟨t, h1, h2⟩ := ha
  refine ⟨_, pe_callTy call_list_of hg hm (by decide +kernel) h1 (by decide) (by decide) he hpl, fun B0 H0 B H σ S Q k => h2 _ _ B H σ S _ fun vs B1 H1 g1 r1 => ?_⟩
  cases r1 with
  | cons r rr =>
    cases rr
    cases r with
    | @tup p vs _ hs ht =>
      exact ⟨p, vs, rfl, Or.inr (ex_t g1.s hs), fun l hl => k l vs B1 _ (g1.trans (Gr.newO g1.s hl)) (g1.back hl) (fresh_back g1.s hl) upd_same ht⟩
theorem rv_notB {K : PySem.W.Frag} : RV K (fun x y H Q => ∃ a b, x = .bl a ∧ y = .bl b ∧ Q (.bl (!decide (a = b))) H) (.bl u) (.bl v) (.bl (!decide (u = v))) := fun B H x y e r1 r2 Q k => by
  cases r1
  cases r2
  exact ⟨u, v, rfl, rfl, k _ B H (Gr.refl e) (.bl _)⟩
theorem evt_isnotB (ha : EV X W en a (.ok (.bl u))) (hb : EV X W en b (.ok (.bl v))) : EVT X W en (.Compare a [.IsNot] [b] pos) (!decide (u = v)) := evt_cmp op_isnot_bl ha hb rv_notB (nomark _)
theorem evtm_pure (h : EVT X W en c u) : EVTm X en en c u := by
  obtain ⟨t, h1, h2⟩ := h
  exact ⟨t, h1, etm_pure h2⟩
theorem evtm_not (h : EVTm X en e1 c u) : EVTm X en e1 (.UnaryOp .Not c pos) (!u) := by
  obtain ⟨t, h1, h2⟩ := h
  exact ⟨_, pt_not h1, etm_not h2⟩
structure EVWm (X : Cx) (en en' : List Sl) (c : Expr) (b : Bool) : Prop where
  ex : ∃ t, PW X c t ∧ ETm X.K t en en' b
theorem evtm_w {op} {es : List Expr} (h : EVWm X en e1 (.BoolOp op es pos) u) : EVTm X en e1 (.BoolOp op es pos) u := by
  obtain ⟨t, h1, h2⟩ := h
  exact ⟨_, h1.pt, h2⟩
theorem evwm_or1 (h : EVTm X en e1 c u) : EVWm X en e1 (.BoolOp .Or [c] pos) u := by
  obtain ⟨t, h1, h2⟩ := h
  exact ⟨_, pw_or1 h1, h2⟩
theorem evwm_orF (ha : EVTm X en e1 a false) (hb : EVWm X e1 e2 (.BoolOp .Or (b :: rest) pos) u) : EVWm X en e2 (.BoolOp .Or (a :: b :: rest) pos) u := by
  obtain ⟨t, h1, h2⟩ := ha
  obtain ⟨t', h3, h4⟩ := hb
  exact ⟨_, pw_or h1 h3, etm_orF h2 h4⟩
theorem EVTm.is2 (h : EVTm X en e1 a u) (q : u = v) : EVTm X en e1 a v := q ▸ h
end
section
variable {X : Cx} {Ng : List Str} {x a n y q : Str} {sg : Scope} {g : Addr} {cdg c : Value} {b₀ : Stmt} {suite rest : List Stmt} {i k : Nat} {p1 p2 p3 np pos' pos : Pos} {o : XO} {d : Da}
/-- try: a() / except y as n: .. / .. -/
theorem told_exp (hr : Room (k + 1) X.A) (nd : Ng.Nodup) (hi : Ng[i]? = some n) (hln : sg.names.lookup n = some .local)
    (hc : ∀ s H, Names (ZT X Ng x sg g cdg s H) y c) (hsw : ∀ s H pn xe, swapsWith (.Call (.Name a p1) [] [] p2) none p3.line ((ZT X Ng x sg g cdg s H).tr pn xe).env = pure false)
    (hok : ∀ d0, o = .ok d0 → ∀ s H f, Bd (ZT X Ng x sg g cdg s H) W0 k → SVs (ZT X Ng x sg g cdg s H) W0 (.rf (.ref f) :: List.replicate (Ng.length - 1) .no) rest (.rt d))
    (herr : ∀ C fl, o = .err C fl → fl = none ∧ PySem.W.exmOne X.K (.ref C) c = some true ∧ ∀ s H a oe pn, Zc (.ref C) none oe → (∃ vs, oe.data = .fields vs) → SVs ((ZT X Ng x sg g cdg s H).suite a ((a, oe) :: pn)) W0 ((List.replicate Ng.length .no).set i (.rf (.ref a))) (b₀ :: suite) (.rt d)) :
    LamX.GivesTo X Ng x sg g cdg (.Try [.Expr (.Call (.Name a p1) [] [] p2) p3] [.ExceptHandler (some (.Name y np)) (some n) (b₀ :: suite) pos'] [] [] pos :: rest) a q (TD X.K o d) := by
  intro f c' s H Q tl act hcd h
  obtain ⟨B, eB, hl, hq⟩ := h
  have Bz : Bd (ZT X Ng x sg g cdg s H) W0 k := bd_zt hr nd
  have S0 := sd_start (K := X.K) (Ng := Ng) (f := f) eB
  refine ⟨_, pss_cons (ps_tryU (X := ZT X Ng x sg g cdg s H) rfl rfl nd hi hln (hc s H)) (pss_U (X := ZT X Ng x sg g cdg s H) (ss := rest)), fun pn xe tk ow => ?_⟩
  cases o with
  | ok d0 =>
    have hp := act W0 pn xe (fun _ _ _ => False) p1 p2 (takes0 (X := (ZT X Ng x sg g cdg s H).tr pn xe)) (fun _ _ _ _ z => z.elim)
    refine ⟨_, pss_one (ps_expr hp (hsw s H pn xe)), rfl, hcd, hl _ B H _ (Gr.refl eB) fun w B' H' gr r => ?_⟩
    exact (hok d0 rfl s H f Bz).U B H B' H' _ (S0.grow gr) _ fun v2 B2 H2 g2 r2 => hq v2 B2 H2 g2 r2
  | err C fl =>
    obtain ⟨rfl, hx, hs⟩ := herr C fl rfl
    have hp := act _ pn xe (fun cls dd H' => ∀ σ' : L2.St, σ'.length = Ng.length → WA (ZT X Ng x sg g cdg s H) c i b₀ suite { nx := tU (ZT X Ng x sg g cdg s H) rest { nx := fun _ H' => Q .non H', rt := Q }, rt := Q } cls dd σ' H') p1 p2 (takes_len tk) (fun cls d σ' H' z hlen => z σ' hlen)
    refine ⟨_, pss_one (ps_expr hp (hsw s H pn xe)), rfl, hcd, hl _ B H _ (Gr.refl eB) fun dd B' H' gr xf => ?_⟩
    intro σ' hlen
    refine ⟨true, hx, fun _ a2 ha oe pn2 hz hv => ?_, fun z => by cases z⟩
    obtain rfl : dd = none := xf
    obtain ⟨t', h3, h4⟩ := hs s H a2 oe pn2 hz hv
    exact ⟨t', h3, h4 B H B' H' _ ((sd_nos gr hlen).setRf (.ref a2) i) _ fun v2 B2 H2 g2 r2 => hq v2 B2 H2 g2 r2⟩
end
/-- refused: the one error -/
def RRef (CW : Addr) (o : XO) (d : Da) : Prop := o = .err CW none ∧ d = .bl true
/-- what is in lowest terms stays, nothing else does -/
theorem lw_stays {a b : Int} (h : b ≠ 0) : deq (lw a b) (.tup [.int a, .int b]) = isW a b := by
  have e : ∀ x y : Int, deq (.tup [.int x, .int y]) (.tup [.int a, .int b]) = (deq (.int x) (.int a) && (deq (.int y) (.int b) && true)) := fun _ _ => rfl
  cases q : isW a b with
  | true => rw [lw_self q, e, deq_int, deq_int, beq_self_eq_true, beq_self_eq_true]; rfl
  | false =>
    rw [lw_is, e, deq_int, deq_int]
    by_cases h1 : tp a b = a
    · by_cases h2 : bt a b = b
      · have := lw_isW a h
        rw [h1, h2, q] at this
        cases this
      · rw [beq_eq_false_iff_ne.mpr h2, Bool.false_and, Bool.and_false]
    · rw [beq_eq_false_iff_ne.mpr h1, Bool.false_and]
end Sky
namespace T01
open PySem L2 Evl PySem.Spec PyProof.Rows Sky
def top (i : Nat) : Stmt := PySem.Challenge.pw_tabletsky_k02_what_is_no_worth.main.body.getD i (.Pass ⟨0, 0, 0, 0⟩)
local macro_rules | `(tactic| walk_at "vis") => `(tactic| first
  | exact Or.inl rfl
  | exact Or.inr (Or.inl rfl)
  | exact Or.inr (Or.inr rfl)
  | exact Or.inr rfl)
local macro_rules | `(tactic| walk_at "ev") => `(tactic| first
  | exact ev_int
  | exact ev_bl
  | exact ev_non
  | exact ev_str
  | (apply ev_name; (· rfl); (· walk_at "vis"); (· rfl); (· rfl); (· decide); (· decide))
  | walk_at "evT"
  | walk_at "evC"
  | (apply ev_add; (· walk_at "ev"); (· walk_at "ev"))
  | (apply ev_sub; (· walk_at "ev"); (· walk_at "ev"))
  | (apply ev_mul; (· walk_at "ev"); (· walk_at "ev"); (· walk_at "side"))
  | (apply ev_mod; (· walk_at "ev"); (· walk_at "ev"); (· walk_at "side"))
  | (apply ev_fdivZ; (· walk_at "ev"); (· walk_at "ev"); (· walk_at "sideZ"))
  | (apply ev_fdiv; (· walk_at "ev"); (· walk_at "ev"); (· walk_at "side"))
  | (apply ev_pow; (· walk_at "ev"); (· walk_at "ev"); (· walk_at "side"))
  | (apply ev_neg; (· walk_at "ev"))
  | (apply ev_lt; (· walk_at "ev"); (· walk_at "ev"))
  | (apply ev_le; (· walk_at "ev"); (· walk_at "ev"))
  | (apply ev_gt; (· walk_at "ev"); (· walk_at "ev"))
  | (apply ev_ge; (· walk_at "ev"); (· walk_at "ev"))
  | (apply ev_eq; (· assumption); (· walk_at "ev"); (· walk_at "ev"); (· walk_at "cmp"); (· walk_at "cmp"))
  | (apply ev_ne; (· assumption); (· walk_at "ev"); (· walk_at "ev"); (· walk_at "cmp"); (· walk_at "cmp"))
  | (apply ev_isN; (· walk_at "ev"); (· exact ev_non))
  | (apply ev_notN; (· walk_at "ev"); (· exact ev_non))
  | (apply ev_not; (· walk_at "ev"))
  | (apply ev_one; (· walk_at "ev"))
  | (apply ev_and; (· walk_at "ev"); (· intro _; walk_at "ev"))
  | (apply ev_or; (· walk_at "ev"); (· intro _; walk_at "ev"))
  | (apply ev_tup; (· walk_at "eva"); (· exact Nat.le_of_ble_eq_true rfl))
  | (apply ev_lst; (· walk_at "eva"); (· exact Nat.le_of_ble_eq_true rfl))
  | (apply ev_ixT; (· walk_at "ev"); (· walk_at "ev"); (· exact fun _ _ => rfl); (· walk_at "side"))
  | (apply ev_ixL; (· walk_at "ev"); (· walk_at "ev"); (· exact fun _ _ => rfl); (· walk_at "side"))
  | (apply ev_sl; (· walk_at "ev"); (· walk_at "evo"); (· walk_at "evo"))
  | (apply ev_slT; (· walk_at "ev"); (· walk_at "evo"); (· walk_at "evo"); (· first | decide | exact fun h => nomatch (show (3 : Nat) = 5 from h.2)))
  | (apply ev_ixO; (· rfl); (· walk_at "vis"); (· rfl); (· rfl); (· decide); (· decide); (· walk_at "ev"); (· exact fun _ _ => rfl); (· walk_at "side")))
local macro_rules | `(tactic| walk_at "eva") => `(tactic| first
  | exact eva_nil
  | (apply eva_cons; (· walk_at "ev"); (· walk_at "eva"); (· rfl)))
local macro_rules | `(tactic| walk_at "cmp") => `(tactic| first
  | with_reducible assumption
  | exact cmp_lw
  | exact ⟨rfl, rfl⟩)
local macro_rules | `(tactic| walk_at "side") => `(tactic| first
  | with_reducible assumption
  | rfl
  | decide
  | omega
  | exact ⟨by decide, by decide⟩
  | exact ⟨by decide, by decide, by decide⟩)
local macro_rules | `(tactic| walk_at "sideZ") => `(tactic| first
  | assumption
  | exact gz_div (by assumption) (by assumption) _)
local macro_rules | `(tactic| walk_at "evT") => `(tactic| first
  | (apply ev_ty (n := "int"); (· rfl); (· assumption); (· decide +kernel); (· decide); (· decide))
  | (apply ev_ty (n := "bool"); (· rfl); (· assumption); (· decide +kernel); (· decide); (· decide))
  | (apply ev_ty (n := "tuple"); (· rfl); (· assumption); (· decide +kernel); (· decide); (· decide)))
local macro_rules | `(tactic| walk_at "evC") => `(tactic| first
  | (apply ev_isi; (· assumption); (· walk_at "ev"); (· walk_at "ev"); (· rfl); (· decide +kernel); (· rfl); (· rfl); (· rfl); (· rfl))
  | (apply ev_cb (x := "len") call_len; (· walk_at "eva"); (· (apply rc_len; walk_at "side")); (· rfl); (· assumption); (· decide +kernel); (· decide); (· decide); (· rfl); (· rfl))
  | (apply ev_cb (x := "abs") call_abs; (· walk_at "eva"); (· exact rc_abs); (· rfl); (· assumption); (· decide +kernel); (· decide); (· decide); (· rfl); (· rfl))
  | (apply ev_ct (x := "int") call_int1; (· walk_at "eva"); (· first | exact rc_intB | exact rc_intI); (· rfl); (· assumption); (· decide +kernel); (· decide); (· decide); (· rfl); (· rfl))
  | (apply ev_fldO; (· assumption); (· assumption); (· rfl); (· walk_at "vis"); (· rfl); (· rfl); (· decide); (· decide); (· walk_at "side"); (· rfl))
  | (apply ev_fld; (· assumption); (· assumption); (· walk_at "ev"); (· walk_at "side"); (· rfl))
  | (apply ev_methO; (· assumption); (· assumption); (· decide); (· assumption); (· rfl); (· walk_at "vis"); (· rfl); (· rfl); (· decide); (· decide); (· walk_at "eva"); (· walk_at "fs"); (· rfl); (· rfl); (· rfl); (· rfl); (· rfl))
  | (apply ev_meth; (· assumption); (· assumption); (· decide); (· assumption); (· walk_at "ev"); (· walk_at "eva"); (· walk_at "fs"); (· first | with_reducible assumption | rfl); (· rfl); (· rfl); (· rfl); (· rfl))
  | (apply ev_meth0; (· assumption); (· assumption); (· decide); (· assumption); (· walk_at "ev"); (· walk_at "fs"); (· first | with_reducible assumption | rfl); (· rfl); (· rfl))
  | (apply ev_cf (x := "lcm") cr_lcm4; (· walk_at "eva"); (· apply rc_lcm4; assumption); (· rfl); (· assumption); (· decide); (· rfl); (· rfl))
  | (apply ev_cb (x := "min") (call_min2 (Bd.calm (by assumption))); (· walk_at "eva"); (· exact rc_min2); (· rfl); (· assumption); (· decide +kernel); (· decide); (· decide); (· rfl); (· rfl))
  | (apply ev_cf (x := "gcd") cr_gcd; (· walk_at "eva"); (· exact rc_gcd); (· rfl); (· assumption); (· decide); (· rfl); (· rfl))
  | (apply ev_calK (gD := fun ds es => ds ++ es); (· assumption); (· assumption); (· decide); (· walk_at "eva"); (· walk_at "evk"); (· walk_at "fs"); (· rfl); (· rfl); (· rfl); (· rfl); (· rfl); (· decide); (· rfl); (· rfl))
  | (apply ev_calK0 (gD := fun _ es => es.reverse); (· assumption); (· assumption); (· decide); (· walk_at "evk"); (· walk_at "fs"); (· rfl); (· rfl); (· rfl); (· rfl); (· decide); (· rfl))
  | (apply ev_cal (dds := [_]); (· assumption); (· assumption); (· decide); (· walk_at "eva"); (· walk_at "fs"); (· rfl); (· rfl); (· decide); (· rfl); (· rfl))
  | (apply ev_calR; (· assumption); (· assumption); (· decide); (· walk_at "eva"); (· walk_at "fs"); (· rfl); (· rfl); (· decide); (· rfl); (· rfl))
  | (apply ev_cal (dds := []); (· assumption); (· assumption); (· decide); (· walk_at "eva"); (· walk_at "fs"); (· rfl); (· rfl); (· decide); (· rfl); (· rfl)))
local macro_rules | `(tactic| walk_at "evk") => `(tactic| first
  | exact evk_nil
  | (apply evk_cons; (· walk_at "ev"); (· walk_at "evk")))
local macro_rules | `(tactic| walk_at "fs") => `(tactic| first
  | with_reducible assumption
  | rfl)
local macro_rules | `(tactic| walk_at "nrm") => `(tactic| first
  | (simp only [slots, setAll, List.map_cons, List.map_nil, List.length_cons, List.length_nil, List.replicate, List.cons_append, List.nil_append, List.set_cons_succ, List.set_cons_zero, List.set_nil, Nat.reduceAdd, Nat.reduceSub]; done)
  | (simp only [slots, setAll, List.map_cons, List.map_nil, List.length_cons, List.length_nil, List.replicate, List.cons_append, List.nil_append, List.set_cons_succ, List.set_cons_zero, List.set_nil, Nat.reduceAdd, Nat.reduceSub]; rfl)
  | rfl)
local macro_rules | `(tactic| walk_at "evt") => `(tactic| first
  | (apply evt_not; (· walk_at "evt"))
  | (apply evt_w; (· walk_at "evw"))
  | (apply evt_lt; (· walk_at "ev"); (· walk_at "ev"))
  | (apply evt_le; (· walk_at "ev"); (· walk_at "ev"))
  | (apply evt_gt; (· walk_at "ev"); (· walk_at "ev"))
  | (apply evt_ge; (· walk_at "ev"); (· walk_at "ev"))
  | (apply evt_eq; (· assumption); (· walk_at "ev"); (· walk_at "ev"); (· walk_at "cmp"); (· walk_at "cmp"))
  | (apply evt_ne; (· assumption); (· walk_at "ev"); (· walk_at "ev"); (· walk_at "cmp"); (· walk_at "cmp"))
  | (apply evt_isN; (· walk_at "ev"); (· exact ev_non))
  | (apply evt_notN; (· walk_at "ev"); (· exact ev_non))
  | (apply evt_val; (· walk_at "ev"); (· intro _; rfl)))
local macro_rules | `(tactic| walk_at "evw") => `(tactic| first
  | (apply evw_and1; (· walk_at "evt"))
  | (apply evw_or1; (· walk_at "evt"))
  | (apply evw_and; (· walk_at "evt"); (· intro _; walk_at "evw"))
  | (apply evw_or; (· walk_at "evt"); (· intro _; walk_at "evw")))
local macro_rules | `(tactic| walk_at "set") => `(tactic| first
  | (apply sv_set; (· assumption); (· walk_at "ev"); (· rfl); (· rfl); (· walk_at "vis"); (· exact Or.inl rfl); (· rfl); (· walk_at "nrm")))
local macro_rules | `(tactic| walk_at "gn") => `(tactic| first
  | exact gn_nil
  | (apply gn_cons; (· exact Bd.nd (by assumption)); (· rfl); (· rfl); (· walk_at "vis"); (· exact Or.inl rfl); (· walk_at "gn"); (· rfl)))
local macro_rules | `(tactic| walk_at "unT") => `(tactic| first
  | (apply sv_unT; (· assumption); (· walk_at "ev"); (· walk_at "gn"); (· rfl); (· rfl); (· rfl); (· rfl); (· rfl); (· rfl); (· walk_at "nrm")))
local macro_rules | `(tactic| walk_at "unL") => `(tactic| first
  | (apply sv_unL; (· assumption); (· walk_at "ev"); (· walk_at "gn"); (· rfl); (· rfl); (· rfl); (· rfl); (· rfl); (· rfl); (· walk_at "nrm")))
local macro_rules | `(tactic| walk_at "par") => `(tactic| first
  | (apply sv_par; (· assumption); (· walk_at "eva"); (· rfl); (· rfl); (· rfl); (· rfl); (· decide); (· rfl); (· rfl); (· rfl); (· rfl); (· walk_at "nrm")))
local macro_rules | `(tactic| walk_at "app") => `(tactic| first
  | (apply sv_app; (· rfl); (· walk_at "vis"); (· rfl); (· rfl); (· decide); (· decide); (· walk_at "ev"); (· walk_at "side"); (· exact fun h => pe_bm PySem.F.plainAttrs_list PySem.F.slot_list_append PySem.F.type_list_append mt_append (pv _) (pa_cons h pa_nil)); (· rfl); (· walk_at "nrm")))
local macro_rules | `(tactic| walk_at "fld") => `(tactic| first
  | (apply sv_fldO; (· assumption); (· assumption); (· rfl); (· walk_at "vis"); (· rfl); (· rfl); (· decide); (· decide); (· rfl); (· exact Nat.le_of_ble_eq_true rfl); (· walk_at "ev"); (· rfl); (· walk_at "nrm")))
local macro_rules | `(tactic| walk_at "setL") => `(tactic| first
  | (apply sv_setL; (· assumption); (· walk_at "evl"); (· rfl); (· rfl); (· walk_at "vis"); (· exact Or.inl rfl); (· rfl); (· walk_at "nrm")))
local macro_rules | `(tactic| walk_at "evl") => `(tactic| first
  | (apply evl_lst; (· walk_at "eva"); (· exact Nat.le_of_ble_eq_true rfl))
  | (apply evl_sl; (· walk_at "ev"); (· walk_at "evo"); (· walk_at "evo")))
local macro_rules | `(tactic| walk_at "evo") => `(tactic| first
  | exact evo_none
  | (apply evo_some; (· walk_at "ev")))
section
variable {P : Program} {w : World} {K : PySem.W.Frag} {mg : Str → Option Value} {base : Heap} {f : Addr} {fd : FuncData} {CW CL : Addr}
theorem sc_is_whole : FnScope ["thing"] ["thing"] (defScope (top 9)) := ⟨rfl, rfl, rfl, by decide +kernel, rfl, by decide +kernel, by decide +kernel⟩
theorem ok_is_whole (m1 : mg "isinstance" = none) (m2 : mg "int" = none) (m3 : mg "bool" = none) (F : Fun K "is_whole" "is_whole" (top 9) f fd) : FnOk P w K mg base (L2.CX P w) 1 f fd ["thing"] (spD K 1 fIsWhole) := by
  refine fn_d F sc_is_whole _ fun cdv A outer s H E ds o Bx hl hf => ?_
  match ds, hl with
  | [d], _ =>
  cases d with
  | ty n => cases hf
  | cls n => cases hf
  | ins n _ => cases hf
  | int i =>
    cases hf
    exact ⟨_, .rt _, svs_one (sv_ret (ev_andT (EV.is (by walk_at "ev") (by decide +kernel)) (EV.is (by walk_at "ev") (by decide +kernel))))⟩
  | bl i =>
    cases hf
    exact ⟨_, .rt _, svs_one (sv_ret (ev_andT (EV.is (by walk_at "ev") (by decide +kernel)) (EV.is (by walk_at "ev") (by decide +kernel))))⟩
  | _ =>
    cases hf
    exact ⟨_, .rt _, svs_one (sv_ret (ev_andF (EV.is (by walk_at "ev") (by decide +kernel))))⟩
theorem sc_worth : FnScope ["top", "bottom", "shared"] ["top", "bottom"] (defScope (top 12)) := ⟨rfl, rfl, rfl, by decide +kernel, rfl, by decide +kernel, by decide +kernel⟩
theorem ok_worth (m1 : mg "gcd" = some (.builtin "math.gcd")) (c1 : Cal P w K mg base "is_whole" 1 ["thing"] [] fIsWhole) (xW : ExF K mg "NoWorth" CW) (F : FunDS K "worth" "worth" (top 12) [.int 1] [] f fd) : FnOk P w K mg base (L2.CX P w) 2 f fd ["top", "bottom"] (spD K 2 (fWorth CW)) := by
  refine fn_dD F sc_worth _ fun cdv A outer s H E ds o Bx hl hf => ?_
  match ds, hl with
  | [d1, d2], _ =>
  cases q1 : isWholeD d1 with
  | none => simp only [fWorth, q1] at hf; cases hf
  | some b1 =>
  cases q2 : isWholeD d2 with
  | none => simp only [fWorth, q1, q2] at hf; cases b1 <;> cases hf
  | some b2 =>
  have w1 := whole_some q1
  have w2 := whole_some q2
  cases b1 with
  | false =>
    simp only [fWorth, q1, q2] at hf
    cases hf
    exact ⟨_, .rx (slots _ _) _ _, svs_stop (sv_ifT (evt_w (evw_orT (EVT.is (by walk_at "evt") (by rfl)))) (svs_one (sv_raise Bx xW (by rfl) (by decide)))) (fun _ z => by cases z)⟩
  | true =>
  cases b2 with
  | false =>
    simp only [fWorth, q1, q2] at hf
    cases hf
    exact ⟨_, .rx (slots _ _) _ _, svs_stop (sv_ifT (evt_w (evw_orF (EVT.is (by walk_at "evt") (by rfl)) (evw_orT (EVT.is (by walk_at "evt") (by rfl))))) (svs_one (sv_raise Bx xW (by rfl) (by decide)))) (fun _ z => by cases z)⟩
  | true =>
  obtain ⟨a, rfl⟩ := whole_int q1
  obtain ⟨b, rfl⟩ := whole_int q2
  simp only [fWorth, q1, q2] at hf
  by_cases hb : b = 0
  · rw [if_pos hb] at hf
    cases hf
    exact ⟨_, .rx (slots _ _) _ _, svs_stop (sv_ifT (evt_w (evw_orF (EVT.is (by walk_at "evt") (by rfl)) (evw_orF (EVT.is (by walk_at "evt") (by rfl)) (evw_or1 (EVT.is (by walk_at "evt") (by rw [hb]; rfl)))))) (svs_one (sv_raise Bx xW (by rfl) (by decide)))) (fun _ z => by cases z)⟩
  · rw [if_neg hb] at hf
    by_cases hs : Small b
    · rw [if_pos hs] at hf
      cases hf
      refine ⟨_, .rt _, svs_cons (sv_ifF (evt_w (evw_orF (EVT.is (by walk_at "evt") (by rfl)) (evw_orF (EVT.is (by walk_at "evt") (by rfl)) (evw_or1 (EVT.is (by walk_at "evt") ?_))))) svs_nil) (svs_cons (e1 := [.da (.int a), .da (.int b), .da (.int ((Nat.gcd a.natAbs b.natAbs : Nat) : Int))]) (by walk_at "set") (svs_cons (e1 := [.da (.int a), .da (.int b), .da (.int (gz a b))]) ?_ (svs_one (sv_ret ?_))))⟩
      · show (b == 0) = false
        simpa using hb
      · by_cases hn : b < 0
        · have e : gz a b = -((Nat.gcd a.natAbs b.natAbs : Nat) : Int) := if_pos hn
          rw [e]
          exact sv_ifT (EVT.is (by walk_at "evt") (by simpa using hn)) (svs_one (by walk_at "set"))
        · have e : gz a b = ((Nat.gcd a.natAbs b.natAbs : Nat) : Int) := if_neg hn
          rw [e]
          exact sv_ifF (EVT.is (by walk_at "evt") (by simpa using hn)) svs_nil
      · unfold lw
        walk_at "ev"
    · rw [if_neg hs] at hf
      cases hf
theorem sc_is_tuple : FnScope ["thing", "many"] ["thing", "many"] (defScope (top 6)) := ⟨rfl, rfl, rfl, by decide +kernel, rfl, by decide +kernel, by decide +kernel⟩
theorem ok_is_tuple (m1 : mg "isinstance" = none) (m2 : mg "tuple" = none) (m3 : mg "len" = none) (F : Fun K "is_tuple" "is_tuple" (top 6) f fd) : FnOk P w K mg base (L2.CX P w) 1 f fd ["thing", "many"] (spD K 2 fIsTuple) := by
  refine fn_d F sc_is_tuple _ fun cdv A outer s H E ds o Bx hl hf => ?_
  match ds, hl with
  | [d, e], _ =>
  cases e with
  | int m =>
    cases d with
    | ty n => cases hf
    | cls n => cases hf
    | ins n _ => cases hf
    | tup ds =>
      cases hf
      exact ⟨_, .rt _, svs_one (sv_ret (ev_andT (EV.is (by walk_at "ev") (by decide +kernel)) (ev_one (EV.is (by walk_at "ev") (by rfl)))))⟩
    | _ =>
      cases hf
      exact ⟨_, .rt _, svs_one (sv_ret (ev_andF (EV.is (by walk_at "ev") (by decide +kernel))))⟩
  | _ => cases d <;> cases hf
theorem sc_is_worth : FnScope ["thing", "top", "bottom"] ["thing"] (defScope (top 13)) := ⟨rfl, rfl, rfl, by decide +kernel, rfl, by decide +kernel, by decide +kernel⟩
theorem ok_is_worth (m4 : mg "gcd" = some (.builtin "math.gcd")) (c1 : Cal P w K mg base "is_whole" 1 ["thing"] [] fIsWhole) (c2 : Cal P w K mg base "is_tuple" 1 ["thing", "many"] [] fIsTuple) (F : Fun K "is_worth" "is_worth" (top 13) f fd) : FnOk P w K mg base (L2.CX P w) 2 f fd ["thing"] (spD K 1 fIsWorth) := by
  refine fn_d F sc_is_worth _ fun cdv A outer s H E ds o Bx hl hf => ?_
  match ds, hl with
  | [d], _ =>
  have no : isTupD d 2 = some false → isWorthD d = some false → ∃ ou, Leads ou o ∧ SVs (XB P w K mg base ["thing", "top", "bottom"] "is_worth" (top 13) f cdv A outer s H E) (WD E) (slots ["thing", "top", "bottom"] [d]) (defBody (top 13)) ou := fun q q2 => by
    have t1 := tuple_some q
    have hf2 : (isWorthD d).map (fun b => XO.ok (.bl b)) = some o := hf
    rw [q2] at hf2
    cases hf2
    exact ⟨_, .rt _, svs_stop (sv_ifT (EVT.is (u := !false) (by walk_at "evt") rfl) (svs_one (sv_ret ev_bl))) (fun _ z => by cases z)⟩
  cases d with
  | ty n => cases hf
  | cls n => cases hf
  | ins n _ => cases hf
  | tup ds =>
    match ds, hf with
    | [], hf => exact no rfl rfl
    | [_], hf => exact no rfl rfl
    | _ :: _ :: _ :: r, hf =>
      exact no (congrArg some (decide_eq_false (by simp only [List.length_cons]; omega))) rfl
    | [a, b], hf =>
      have t1 : fIsTuple ([.tup [a, b], .int 2] ++ []) = some (.ok (.bl true)) := rfl
      have hf2 : (isWorthD (.tup [a, b])).map (fun b => XO.ok (.bl b)) = some o := hf
      cases q : isWorthD (.tup [a, b]) with
      | none => rw [q] at hf2; cases hf2
      | some r =>
      rw [q] at hf2
      cases hf2
      refine ⟨_, .rt _, svs_cons (e1 := [.da (.tup [a, b]), .no, .no]) (sv_ifF (EVT.is (u := !true) (by walk_at "evt") rfl) svs_nil) (svs_cons (e1 := [.da (.tup [a, b]), .da a, .da b]) ?_ (svs_one (sv_ret ?_)))⟩
      · walk_at "unT"
      · cases q1 : isWholeD a with
        | none => simp only [isWorthD, q1] at q; cases q
        | some u =>
        cases q2 : isWholeD b with
        | none => simp only [isWorthD, q1, q2] at q; cases u <;> cases q
        | some v =>
        have w1 := whole_some q1
        have w2 := whole_some q2
        cases u with
        | false =>
          simp only [isWorthD, q1, q2] at q
          cases q
          exact ev_andF (by walk_at "ev")
        | true =>
        refine ev_andT (by walk_at "ev") ?_
        cases v with
        | false =>
          simp only [isWorthD, q1, q2] at q
          cases q
          exact ev_andF (by walk_at "ev")
        | true =>
        refine ev_andT (by walk_at "ev") ?_
        obtain ⟨i, rfl⟩ := whole_int q1
        obtain ⟨j, rfl⟩ := whole_int q2
        rw [isWorthD_int] at q
        cases q
        unfold isW
        by_cases h0 : 0 < j
        · rw [decide_eq_true h0, Bool.true_and]
          refine ev_andT (EV.is (by walk_at "ev") (decide_eq_true h0)) (ev_one (EV.is (by walk_at "ev") ?_))
          rw [deq_int]
          by_cases h1 : Nat.gcd i.natAbs j.natAbs = 1
          · rw [decide_eq_true h1, h1]
            rfl
          · rw [decide_eq_false h1, beq_eq_false_iff_ne]
            omega
        · rw [decide_eq_false h0, Bool.false_and]
          exact ev_andF (EV.is (by walk_at "ev") (decide_eq_false h0))
  | _ => exact no rfl rfl
theorem sc_whole_from : FnScope ["thing", "least", "most"] ["thing", "least", "most"] (defScope (top 10)) := ⟨rfl, rfl, rfl, by decide +kernel, rfl, by decide +kernel, by decide +kernel⟩
theorem ok_whole_from (c1 : Cal P w K mg base "is_whole" 1 ["thing"] [] fIsWhole) (F : Fun K "is_whole_from" "is_whole_from" (top 10) f fd) : FnOk P w K mg base (L2.CX P w) 2 f fd ["thing", "least", "most"] (spD K 3 fWholeFrom) := by
  refine fn_d F sc_whole_from _ fun cdv A outer s H E ds o Bx hl hf => ?_
  match ds, hl with
  | [d, e1, e2], _ =>
  cases e1 with
  | int lo =>
    cases e2 with
    | int hi =>
      have no : isWholeD d = some false → wfD d lo hi = some false → ∃ ou, Leads ou o ∧ SVs (XB P w K mg base ["thing", "least", "most"] "is_whole_from" (top 10) f cdv A outer s H E) (WD E) (slots ["thing", "least", "most"] [d, .int lo, .int hi]) (defBody (top 10)) ou := fun q q2 => by
        have w1 := whole_some q
        have hf2 : (wfD d lo hi).map (fun b => XO.ok (.bl b)) = some o := hf
        rw [q2] at hf2
        cases hf2
        exact ⟨_, .rt _, svs_one (sv_ret (ev_andF (by walk_at "ev")))⟩
      cases d with
      | ty n => cases hf
      | cls n => cases hf
      | ins n _ => cases hf
      | int i =>
        cases hf
        have w1 : fIsWhole ([.int i] ++ []) = some (.ok (.bl true)) := rfl
        exact ⟨_, .rt _, svs_one (sv_ret (ev_andT (by walk_at "ev") (ev_one (ev_le2 (by walk_at "ev") (by walk_at "ev") (by walk_at "ev") (by with_unfolding_all rfl)))))⟩
      | _ => exact no rfl rfl
    | _ => cases d <;> cases hf
  | _ => cases d <;> cases e2 <;> cases hf
theorem sc_form : FnScope ["thing", "wholes", "parts"] ["thing"] (defScope (top 11)) := ⟨rfl, rfl, rfl, by decide +kernel, rfl, by decide +kernel, by decide +kernel⟩
theorem ok_form {tM : Tok} (gM : mg "MOST_GROUPS" = some (.int 8 tM)) (c2 : Cal P w K mg base "is_tuple" 1 ["thing", "many"] [] fIsTuple) (c3 : Cal P w K mg base "is_whole_from" 2 ["thing", "least", "most"] [] fWholeFrom) (F : Fun K "is_form" "is_form" (top 11) f fd) : FnOk P w K mg base (L2.CX P w) 3 f fd ["thing"] (spD K 1 fIsForm) := by
  refine fn_d F sc_form _ fun cdv A outer s H E ds o Bx hl hf => ?_
  match ds, hl with
  | [.tup [a, b]], _ =>
    have hf2 : (isFormD a b).map (fun b => XO.ok (.bl b)) = some o := hf
    have t1 : fIsTuple ([.tup [a, b], .int 2] ++ []) = some (.ok (.bl true)) := rfl
    have gl : ∀ {en : List Sl} {p : Pos}, EV (XB P w K mg base ["thing", "wholes", "parts"] "is_form" (top 11) f cdv A outer s H E) (WD E) en (.Name "MOST_GROUPS" p) (.ok (.int 8)) := fun {en p} => ev_glob (v := .int 8) (by rfl) gM ⟨_, rfl⟩ (by decide) (fun _ => .int _)
    cases q1 : wfD a 1 8 with
    | none => simp only [isFormD, q1] at hf2; cases hf2
    | some u =>
    cases q2 : wfD b 0 8 with
    | none => simp only [isFormD, q1, q2] at hf2; cases u <;> cases hf2
    | some v =>
    have w1 := wf_some q1
    have w2 := wf_some q2
    refine ⟨.rt (.bl (u && v)), ?_, svs_cons (e1 := [.da (.tup [a, b]), .no, .no]) (sv_ifF (EVT.is (u := !true) (by walk_at "evt") rfl) svs_nil) (svs_cons (e1 := [.da (.tup [a, b]), .da a, .da b]) (by walk_at "unT") (svs_one (sv_ret (ev_and (ev_cal (dds := []) c3 Bx (by decide) (eva_cons (by walk_at "ev") (eva_cons ev_int (eva_cons gl eva_nil (by rfl)) (by rfl)) (by rfl)) w1 (by rfl) (by rfl) (by decide) (by rfl) (by rfl)) (fun _ => ev_one (ev_cal (dds := []) c3 Bx (by decide) (eva_cons (by walk_at "ev") (eva_cons ev_int (eva_cons gl eva_nil (by rfl)) (by rfl)) (by rfl)) w2 (by rfl) (by rfl) (by decide) (by rfl) (by rfl)))))))⟩
    cases u with
    | false => simp only [isFormD, q1, q2] at hf2; cases hf2; exact .rt _
    | true => simp only [isFormD, q1, q2] at hf2; cases hf2; exact .rt _
theorem sc_sixties : FnScope ["count", "made", "_"] ["count"] (defScope (top 14)) := ⟨rfl, rfl, rfl, by decide +kernel, rfl, by decide +kernel, by decide +kernel⟩
theorem ok_sixties (m1 : mg "range" = none) (F : Fun K "_sixties" "_sixties" (top 14) f fd) : FnOk P w K mg base (L2.CX P w) 1 f fd ["count"] (spD K 1 fSix) := by
  refine fn_d F sc_sixties _ fun cdv A outer s H E ds o Bx hl hf => ?_
  obtain ⟨n, hn, rfl, rfl⟩ := fSix_inv hf
  refine ⟨_, .rt _, svs_cons (e1 := [.da (.int n), .da (.int 1), .no]) (by walk_at "set") (svs_cons (e1 := [.da (.int n), .da (.int (60 ^ n)), .no]) ?_ (svs_one (sv_ret (by walk_at "ev"))))⟩
  apply sv_forR Bx (fun i => [.da (.int n), .da (.int (60 ^ i)), .no]) (m := n)
  · rfl
  · rfl
  · walk_at "vis"
  · exact Or.inl rfl
  · exact m1
  · walk_at "eva"
  · omega
  · rfl
  · rfl
  · rfl
  · intro i hi
    have b1 : CMulW (60 ^ i) 60 := bn_mul (bn60 (by omega)) (by decide)
    have e : (60 : Int) ^ (i + 1) = 60 ^ i * 60 := Int.pow_succ _ _
    rw [e]
    exact svs_weak (svs_one (ou := .nx [.da (.int n), .da (.int (60 ^ i * 60)), .da (.int i)]) (by walk_at "set")) (.eq (.eq (.no .nil)))
theorem sc_groups : FnScope ["units", "many", "groups", "_", "last"] ["units", "many"] (defScope (top 16)) := ⟨rfl, rfl, rfl, by decide +kernel, rfl, by decide +kernel, by decide +kernel⟩
theorem ok_groups (m1 : mg "range" = none) (m2 : mg "divmod" = none) (F : Fun K "_groups_of" "_groups_of" (top 16) f fd) : FnOk P w K mg base (L2.CX P w) 1 f fd ["units", "many"] (spD K 2 fGroups) := by
  refine fn_d F sc_groups _ fun cdv A outer s H E ds o Bx hl hf => ?_
  obtain ⟨u, n, h0, h1, hn, rfl, rfl⟩ := fGroups_inv hf
  refine ⟨_, .rt _, svs_cons (e1 := [.da (.int u), .da (.int n), .own [], .no, .no]) (by walk_at "setL") (svs_cons (e1 := [.da (.int (u / 60 ^ n)), .da (.int n), .own ((gsR u n).map fun i => .str (two i)), .no, .no]) ?_ (svs_cons (e1 := [.da (.int (u / 60 ^ n)), .da (.int n), .own ((gsR u n).map fun i => .str (two i)).reverse, .no, .no]) ?_ (svs_freeze (n := 2) rfl (svs_one (sv_ret (EV.to (by walk_at "ev") ?_))))))⟩
  · apply sv_forR Bx (fun i => [.da (.int (u / 60 ^ i)), .da (.int n), .own ((gsR u i).map fun i => .str (two i)), .no, .no]) (m := n)
    · rfl
    · rfl
    · walk_at "vis"
    · exact Or.inl rfl
    · exact m1
    · walk_at "eva"
    · omega
    · show ([.da (.int (u / 60 ^ 0)), .da (.int n), .own [], .no, .no] : List Sl) = _
      rw [Int.pow_zero, Int.ediv_one]
    · rfl
    · rfl
    · intro i hi
      have z0 : 0 ≤ u / 60 ^ i := Int.ediv_nonneg h0 (by exact Int.pow_nonneg (by decide))
      have z1 : u / 60 ^ i ≤ u := Int.ediv_le_self _ h0
      have d1 : CDivP (u / 60 ^ i) 60 := divp_bn (by decide) (Nat.lt_of_le_of_lt (show (u / 60 ^ i).natAbs ≤ u.natAbs by omega) (Nat.lt_of_lt_of_le (show u.natAbs < 2 ^ 100 by omega) (by decide)))
      have e0 := Int.emod_nonneg (u / 60 ^ i) (show (60 : Int) ≠ 0 by decide)
      have e1 := Int.emod_lt_of_pos (u / 60 ^ i) (show (0 : Int) < 60 by decide)
      have l1 : ((gsR u i).map fun i => Da.str (two i)).length < 100000 := by rw [List.length_map, gsR_len]; omega
      rw [gsR_succ, List.map_append, ← div60]
      generalize u / 60 ^ i = v at *
      generalize ((gsR u i).map fun i => Da.str (two i)) = gs at *
      refine svs_weak (e1 := [.da (.int (v / 60)), .da (.int n), .own (gs ++ [.str (two (v % 60))]), .da (.int i), .da (.int (v % 60))]) (svs_cons (e1 := [.da (.int (v / 60)), .da (.int n), .own gs, .da (.int i), .da (.int (v % 60))]) ?_ (svs_one ?_)) (.eq (.eq (.eq (.no (.no .nil)))))
      · apply sv_unT; (· assumption); (· apply ev_cb (x := "divmod") call_divmodW; (· walk_at "eva"); (· exact rc_divmod d1); (· rfl); (· assumption); (· decide +kernel); (· decide); (· decide); (· rfl); (· rfl)); (· walk_at "gn"); (· rfl); (· rfl); (· rfl); (· rfl); (· rfl); (· rfl); (· walk_at "nrm")
      · apply sv_app; (· rfl); (· walk_at "vis"); (· rfl); (· rfl); (· decide); (· decide); (· exact ev_f02 (by walk_at "ev") e0 e1); (· exact l1); (· exact fun h => pe_bm PySem.F.plainAttrs_list PySem.F.slot_list_append PySem.F.type_list_append mt_append (pv _) (pa_cons h pa_nil)); (· rfl); (· walk_at "nrm")
  · apply sv_rev; (· rfl); (· walk_at "vis"); (· rfl); (· rfl); (· decide); (· decide); (· exact pe_bm0 PySem.F.plainAttrs_list PySem.F.slot_list_reverse PySem.F.type_list_reverse mt_reverse (pv _)); (· rfl); (· rfl)
  · unfold gsT
    rw [List.map_map, ← List.map_reverse]
    rfl
theorem sc_joinG : FnScope ["groups", "wholes", "text"] ["groups", "wholes"] (defScope (top 17)) := ⟨rfl, rfl, rfl, by decide +kernel, rfl, by decide +kernel, by decide +kernel⟩
theorem ok_joinG (m1 : mg "len" = none) (F : Fun K "joined_groups" "joined_groups" (top 17) f fd) : FnOk P w K mg base (L2.CX P w) 1 f fd ["groups", "wholes"] (spD K 2 fJoinG) := by
  refine fn_d F sc_joinG _ fun cdv A outer s H E ds o Bx hl hf => ?_
  obtain ⟨ys, n, h1, h2, rfl, rfl⟩ := fJoinG_inv hf
  have s1 : ∀ {zs : List Str}, (∀ y ∈ zs, y.length = 2) → zs.length ≤ 16 → (zs.map (·.length)).sum + zs.length * cmS.length ≤ 16777216 := fun {zs} q1 q2 => by
    rw [sum_two q1]
    have : cmS.length = 1 := rfl
    rw [this]; omega
  have t1 : ∀ y ∈ ys.take n, y.length = 2 := fun y hy => h2 y (List.mem_of_mem_take hy)
  have t2 : ∀ y ∈ ys.drop n, y.length = 2 := fun y hy => h2 y (List.mem_of_mem_drop hy)
  have l1 : (ys.take n).length ≤ 16 := by rw [List.length_take]; omega
  have l2 : (ys.drop n).length ≤ 16 := by rw [List.length_drop]; omega
  have c1 : cutD (ys.map Da.str) none (some (n : Int)) = (ys.take n).map Da.str := by rw [cut_headD, List.map_take]
  have c2 : cutD (ys.map Da.str) (some (n : Int)) none = (ys.drop n).map Da.str := by rw [cut_tailD, List.map_drop]
  have ln : lenD (.lst (ys.map Da.str)) = some ys.length := by show some _ = _; rw [List.length_map]
  have jl : ∀ {zs : List Str}, (∀ y ∈ zs, y.length = 2) → zs.length ≤ 16 → (Txt.join cmS zs).length ≤ 100 := fun {zs} q1 q2 => by
    by_cases z : zs = []
    · subst z; decide
    · have := join_len q1 z
      omega
  have j1 := jl t1 l1
  have j2 := jl t2 l2
  have b1 := s1 t1 l1
  have b2 := s1 t2 l2
  refine ⟨_, .rt _, svs_cons (e1 := [.da (.lst (ys.map .str)), .da (.int n), .da (.str (Txt.join cmS (ys.take n)))]) ?_ (svs_cons (e1 := [.da (.lst (ys.map .str)), .da (.int n), .da (.str (joinG ys n))]) ?_ (svs_one (sv_ret (by walk_at "ev"))))⟩
  · apply sv_set; (· assumption); (· exact ev_join (z := cmS) ev_str (EV.to (by walk_at "ev") (congrArg Da.lst c1)) b1 rfl rfl rfl); (· rfl); (· rfl); (· walk_at "vis"); (· exact Or.inl rfl); (· rfl); (· rfl)
  · unfold joinG
    by_cases q : n < ys.length
    · rw [if_pos q]
      refine sv_ifT (EVT.is (by walk_at "evt") (decide_eq_true (by omega))) (svs_one ?_)
      apply sv_set; (· assumption); (· exact ev_addS (ev_addS (by walk_at "ev") (ev_str (x := ";")) (by have : (Str.ofString ";").length = 1 := rfl; omega)) (ev_join (z := cmS) ev_str (EV.to (by walk_at "ev") (congrArg Da.lst c2)) b2 rfl rfl rfl) (by rw [Str.length_append]; have : (Str.ofString ";").length = 1 := rfl; omega)); (· rfl); (· rfl); (· walk_at "vis"); (· exact Or.inl rfl); (· rfl); (· rfl)
    · rw [if_neg q]
      exact sv_ifF (EVT.is (by walk_at "evt") (decide_eq_false (by omega))) svs_nil
theorem sc_show : FnScope ["thing", "wholes", "parts", "units", "left"] ["thing", "wholes", "parts"] (defScope (top 15)) := ⟨rfl, rfl, rfl, by decide +kernel, rfl, by decide +kernel, by decide +kernel⟩
theorem ok_show {w0 : World} {CF : Addr} (m1 : mg "divmod" = none) (xW : ExF K mg "NoWorth" CW) (xF : ExF K mg "NoFit" CF) (cI : Cal P w0 K mg base "is_worth" 2 ["thing"] [] fIsWorth) (cF : Cal P w0 K mg base "is_form" 3 ["thing"] [] fIsForm) (cS : Cal P w0 K mg base "_sixties" 1 ["count"] [] fSix) (cG : Cal P w0 K mg base "_groups_of" 1 ["units", "many"] [] fGroups) (cJ : Cal P w0 K mg base "joined_groups" 1 ["groups", "wholes"] [] fJoinG) {dvs : List V} {kws : List (Str × V)}
    (F : FunDS K "show" "show" (top 15) dvs kws f fd) : FnOk P w0 K mg base (L2.CX P w0) 4 f fd ["thing", "wholes", "parts"] (spD K 3 (fShow CW CF)) := by
  refine fn_dD F sc_show _ fun cdv A outer s H E ds o Bx hl hf => ?_
  obtain ⟨d, x, y, rfl, hh⟩ := fShow_inv hf
  rcases hh with ⟨q1, rfl⟩ | ⟨q1, q2, rfl⟩ | ⟨a, b, w, p, rfl, rfl, rfl, iw, w1, w8, p8, ba, bb, rfl⟩
  · have u1 := worth_some q1
    exact ⟨_, .rx (slots _ _) _ _, svs_stop (sv_ifT (EVT.is (u := !false) (by walk_at "evt") rfl) (svs_one (sv_raise Bx xW (by rfl) (by decide)))) (fun _ z => by cases z)⟩
  · have u1 := worth_some q1
    have u2 := form_some q2
    exact ⟨_, .rx (slots _ _) _ _, svs_cons (sv_ifF (EVT.is (u := !true) (by walk_at "evt") rfl) svs_nil) (svs_stop (sv_ifT (EVT.is (u := !false) (by walk_at "evt") rfl) (svs_one (sv_raise Bx xW (by rfl) (by decide)))) (fun _ z => by cases z))⟩
  · have u1 := worth_some (d := .tup [.int a, .int b]) (b := true) (by rw [isWorthD_int, iw])
    have u2 := form_some (form_int (w := w) (p := p) (by omega) (by omega) (by omega) (by omega))
    have bp := isW_pos iw
    have u3 := fSix_ok (n := p) (by omega)
    have u4 := fSix_ok (n := w + p) (by omega)
    have ewp : ((w + p : Nat) : Int) = (w : Int) + (p : Int) := Int.natCast_add _ _
    rw [ewp] at u4
    have x1 : CMulW a (60 ^ p) := cm60 (by omega) ba
    have mb : (a * 60 ^ p).natAbs < 2 ^ 250 := Nat.lt_of_lt_of_le (bn_prod ba (bn60 (show p ≤ 16 by omega))) (Nat.pow_le_pow_right (by decide) (by decide))
    have dm : CDivP (a * 60 ^ p) b := divp_bn bp mb
    have pw := p60 (w + p) (by omega)
    generalize hU : a * 60 ^ p / b = U
    generalize hR : a * 60 ^ p % b = R
    have go : ∀ {ou : Out}, SVs (XB P w0 K mg base ["thing", "wholes", "parts", "units", "left"] "show" (top 15) f cdv A outer s H E) (WD E) [.da (.tup [.int a, .int b]), .da (.int w), .da (.int p), .da (.int U), .da (.int R)] ((defBody (top 15)).drop 3) ou → SVs (XB P w0 K mg base ["thing", "wholes", "parts", "units", "left"] "show" (top 15) f cdv A outer s H E) (WD E) (slots ["thing", "wholes", "parts", "units", "left"] [.tup [.int a, .int b], .int w, .int p]) (defBody (top 15)) ou := fun q => by
      refine svs_cons (e1 := [.da (.tup [.int a, .int b]), .da (.int w), .da (.int p), .no, .no]) (sv_ifF (EVT.is (u := !true) (by walk_at "evt") rfl) svs_nil) (svs_cons (e1 := [.da (.tup [.int a, .int b]), .da (.int w), .da (.int p), .no, .no]) (sv_ifF (EVT.is (u := !true) (by walk_at "evt") rfl) svs_nil) (svs_cons (e1 := [.da (.tup [.int a, .int b]), .da (.int w), .da (.int p), .da (.int U), .da (.int R)]) ?_ q))
      rw [← hU, ← hR]
      apply sv_unT; (· assumption); (· apply ev_cb (x := "divmod") call_divmodW; (· walk_at "eva"); (· exact rc_divmod dm); (· rfl); (· assumption); (· decide +kernel); (· decide); (· decide); (· rfl); (· rfl)); (· walk_at "gn"); (· rfl); (· rfl); (· rfl); (· rfl); (· rfl); (· rfl); (· walk_at "nrm")
    have tst : ∀ {b0 : Bool}, (decide (U < 0) || (decide (60 ^ (w + p) ≤ U) || !deq (.int R) (.int 0))) = b0 → EVT (XB P w0 K mg base ["thing", "wholes", "parts", "units", "left"] "show" (top 15) f cdv A outer s H E) (WD E) [.da (.tup [.int a, .int b]), .da (.int w), .da (.int p), .da (.int U), .da (.int R)] (match (defBody (top 15)).getD 3 (.Pass ⟨0, 0, 0, 0⟩) with | .If c _ _ _ => c | _ => .Constant .none 0 ⟨0, 0, 0, 0⟩) b0 := fun q => by
      rw [← q]
      exact evt_w (evw_or (by walk_at "evt") (fun _ => evw_or (by walk_at "evt") (fun _ => evw_or1 (by walk_at "evt"))))
    by_cases z : showOk a b w p
    · rw [if_pos z]
      obtain ⟨z1, z2, z3⟩ := z
      unfold Sky.shown
      rw [hU] at z1 z2 ⊢
      rw [hR] at z3
      have g1 := fGroups_ok (u := U) (n := w + p) z1 (Int.lt_of_lt_of_le z2 (Int.le_trans pw.1 (by decide))) (by omega)
      rw [ewp] at g1
      have g2 := fJoinG_ok (ys := gsT U (w + p)) (w := w) (by rw [gsT_len]; omega) (fun y hy => by obtain ⟨i, _, _, rfl⟩ := gsT_two _ _ y hy; rfl)
      exact ⟨_, .rt _, go (svs_cons (sv_ifF (tst (by rw [z3, decide_eq_false (show ¬ U < 0 by omega), decide_eq_false (show ¬ 60 ^ (w + p) ≤ U by omega)]; rfl)) svs_nil) (svs_one (sv_ret (by walk_at "ev"))))⟩
    · rw [if_neg z]
      refine ⟨_, .rx [.da (.tup [.int a, .int b]), .da (.int w), .da (.int p), .da (.int U), .da (.int R)] _ _, go (svs_stop (sv_ifT (tst ?_) (svs_one (sv_raise Bx xF (by rfl) (by decide)))) (fun _ z => by cases z))⟩
      unfold showOk at z
      rw [hU, hR] at z
      by_cases c1 : U < 0
      · rw [decide_eq_true c1]; rfl
      · by_cases c2 : 60 ^ (w + p) ≤ U
        · rw [decide_eq_true c2, Bool.true_or, Bool.or_true]
        · have c3 : R ≠ 0 := fun e => z ⟨by omega, by omega, e⟩
          have : deq (.int R) (.int 0) = false := by rw [deq_int]; simpa using c3
          rw [this]
          simp
theorem sc_digits : FnScope ["_law_cell_here", "_law_many", "_law_row", "_law_rest", "_law_number", "_law_k"] ["_law_cell_here", "_law_many"] (defScope (top 20)) := ⟨rfl, rfl, rfl, by decide +kernel, rfl, by decide +kernel, by decide +kernel⟩
theorem ok_digits (m1 : mg "range" = none) (F : Fun K "_law_digits" "_law_digits" (top 20) f fd) : FnOk P w K mg base (L2.CX P w) 1 f fd ["_law_cell_here", "_law_many"] (spD K 2 fDigits) := by
  refine fn_d F sc_digits _ fun cdv A outer s H E ds o Bx hl hf => ?_
  obtain ⟨c, n, rfl, hn, rfl⟩ := fDigits_inv hf
  refine ⟨_, .rt _, svs_cons (e1 := [.da (.int c), .da (.int n), .own [], .no, .no, .no]) (by walk_at "setL") (svs_cons (e1 := [.da (.int c), .da (.int n), .own [], .da (.int 0), .no, .no]) (by walk_at "set") (svs_cons (e1 := [.da (.int c), .da (.int n), .own [], .da (.int (restD c 0)), .no, .no]) ?_ (svs_cons (e1 := [.da (.int c), .da (.int n), .own [], .da (.int (restD c 0)), .da (.int (numD c 0)), .no]) (by walk_at "set") (svs_cons (e1 := [.da (.int c), .da (.int n), .own ((digs c n).map .int), .da (.int (restD c n)), .da (.int (numD c n)), .no]) ?_ (svs_freeze (n := 2) rfl (svs_one (sv_ret (by walk_at "ev"))))))))⟩
  · by_cases h : 10 ^ 18 ≤ c
    · have e : restD c 0 = c := if_pos h
      rw [e]
      exact sv_ifT (EVT.is (by walk_at "evt") (by simpa using h)) (svs_one (by walk_at "set"))
    · have e : restD c 0 = 0 := if_neg h
      rw [e]
      exact sv_ifF (EVT.is (by walk_at "evt") (by simpa using h)) svs_nil
  · apply sv_forR Bx (fun i => [.da (.int c), .da (.int n), .own ((digs c i).map .int), .da (.int (restD c i)), .da (.int (numD c i)), .no]) (m := n)
    · rfl
    · rfl
    · walk_at "vis"
    · exact Or.inl rfl
    · exact m1
    · walk_at "eva"
    · omega
    · rfl
    · rfl
    · rfl
    · intro i hi
      have nb := numD_bd c i
      have l1 : ((digs c i).map Da.int).length < 100000 := by rw [List.length_map, digs_len]; omega
      have x1 : CMulW (numD c i) 48271 := cm64 (by omega) (by decide)
      have x2 : CMulW 30103 (i : Int) := cm64 (by decide) (by omega)
      have y0 : 0 ≤ (numD c i * 48271 + 30103 * (i : Int) + 11) % 2147483647 := Int.emod_nonneg _ (by decide)
      have y1 : (numD c i * 48271 + 30103 * (i : Int) + 11) % 2147483647 < 2147483647 := Int.emod_lt_of_pos _ (by decide)
      have x3 : CMulW ((numD c i * 48271 + 30103 * (i : Int) + 11) % 2147483647) (((numD c i * 48271 + 30103 * (i : Int) + 11) % 2147483647) / 1009 + 69621) := cm64 (by omega) (by omega)
      refine svs_weak (svs_cons (by walk_at "set") (svs_cons (e1 := [.da (.int c), .da (.int n), .own ((digs c i).map .int), .da (.int (restD c i)), .da (.int (numD c (i + 1))), .da (.int i)]) (by walk_at "set") (svs_one (ou := .nx [.da (.int c), .da (.int n), .own ((digs c (i + 1)).map .int), .da (.int (restD c (i + 1))), .da (.int (numD c (i + 1))), .da (.int i)]) ?_))) (.eq (.eq (.eq (.eq (.eq (.no .nil))))))
      rw [digs_succ, List.map_append]
      by_cases h : 0 < restD c i
      · have e1 : restD c (i + 1) = restD c i / 1009 := if_pos h
        have e2 : digD c i = restD c i % 1009 := if_pos h
        rw [e1, e2]
        refine sv_ifT (EVT.is (by walk_at "evt") (decide_eq_true h)) (svs_cons (e1 := [.da (.int c), .da (.int n), .own ((digs c i).map .int ++ [.int (restD c i % 1009)]), .da (.int (restD c i)), .da (.int (numD c (i + 1))), .da (.int i)]) (by walk_at "app") (svs_one (by walk_at "set")))
      · have e1 : restD c (i + 1) = restD c i := if_neg h
        have e2 : digD c i = numD c (i + 1) / 7 % 1009 := if_neg h
        rw [e1, e2]
        exact sv_ifF (EVT.is (by walk_at "evt") (decide_eq_false h)) (svs_one (by walk_at "app"))
theorem sc_low : FnScope ["_law_upper", "_law_lower", "_law_one", "_law_other"] ["_law_upper", "_law_lower"] (defScope (top 21)) := ⟨rfl, rfl, rfl, by decide +kernel, rfl, by decide +kernel, by decide +kernel⟩
theorem ok_low (m1 : mg "abs" = none) (F : Fun K "_law_low" "_law_low" (top 21) f fd) : FnOk P w K mg base (L2.CX P w) 1 f fd ["_law_upper", "_law_lower"] (spD K 2 fLow) := by
  refine fn_d F sc_low _ fun cdv A outer s H E ds o Bx hl hf => ?_
  obtain ⟨a, b, rfl, hb, hs, rfl⟩ := fLow_inv hf
  refine ⟨_, .rt _, svs_cons (e1 := [.da (.int a), .da (.int b), .da (.int (a.natAbs : Int)), .da (.int (b.natAbs : Int))]) (by walk_at "par") ?_⟩
  apply svs_whileP Bx (fun p : Nat × Nat => [.da (.int a), .da (.int b), .da (.int (p.1 : Int)), .da (.int (p.2 : Int))]) (fun p => decide (0 < p.2)) (fun p => p.2) (fun p => Nat.gcd p.1 p.2 = Nat.gcd a.natAbs b.natAbs) (a.natAbs, b.natAbs) rfl rfl
  · rintro ⟨x, y⟩ hp hy
    have hy' : 0 < y := of_decide_eq_true hy
    have hy2 : (0 : Int) < (y : Int) := by omega
    refine ⟨EVT.is (by walk_at "evt") (decide_eq_true hy2), (y, x % y), ?_, Nat.mod_lt _ hy', svs_one (by walk_at "par")⟩
    show Nat.gcd y (x % y) = _
    rw [← hp]
    show Nat.gcd y (x % y) = Nat.gcd x y
    rw [Nat.gcd_comm x y, Nat.gcd_rec y x, Nat.gcd_comm]
  · rintro ⟨x, y⟩ hp hy
    have hy' : ¬ 0 < y := of_decide_eq_false hy
    exact EVT.is (by walk_at "evt") (decide_eq_false (by omega))
  · rintro ⟨x, y⟩ hp hy
    have hy' : ¬ 0 < y := of_decide_eq_false hy
    have y0 : y = 0 := by omega
    subst y0
    have hx : x = Nat.gcd a.natAbs b.natAbs := by
      have q : Nat.gcd x 0 = Nat.gcd a.natAbs b.natAbs := hp
      rwa [Nat.gcd_zero_right] at q
    subst hx
    refine svs_cons (e1 := [.da (.int a), .da (.int b), .da (.int (gz a b)), .da (.int ((0 : Nat) : Int))]) ?_ (svs_one (sv_ret ?_))
    · by_cases hn : b < 0
      · have e : gz a b = 0 - ((Nat.gcd a.natAbs b.natAbs : Nat) : Int) := by unfold gz; rw [if_pos hn]; omega
        rw [e]
        exact sv_ifT (EVT.is (by walk_at "evt") (decide_eq_true hn)) (svs_one (by walk_at "set"))
      · have e : gz a b = ((Nat.gcd a.natAbs b.natAbs : Nat) : Int) := if_neg hn
        rw [e]
        exact sv_ifF (EVT.is (by walk_at "evt") (decide_eq_false hn)) svs_nil
    · unfold lw
      walk_at "ev"

local macro_rules | `(tactic| walk_at "ev") => `(tactic| exact ev_emp)

theorem sc_refused : FnScope ["_law_ask", "e"] ["_law_ask"] (defScope (top 26)) := ⟨rfl, rfl, rfl, by decide +kernel, rfl, by decide +kernel, by decide +kernel⟩
theorem ok_refused {CS g : Addr} {kV doc pm cdv ct oc : Value} {an od : Option Addr} {osl : Array (Option Value)} (mI : mg "isinstance" = none) (gS : mg "SkyError" = some (.ref CS)) (gW : mg "NoWorth" = some (.ref CW)) (eN : ExcC K CW) (xS : PySem.W.exmOne K (.ref CW) (.ref CS) = some true) (k1 : PySem.W.kitOne K (.ref CW) (.ref CW) = some true) (mx : mg "_law_refused" = some (.ref g)) (kg : PySem.W.keepIn K (.ref g) = true)
    (lk : K.lookup g = some ⟨oc, od, .func (PySem.W.fnOf "_law_refused" "_law_refused" (defArgs (top 26)) (defBody (top 26)) (defScope (top 26)) .none kV doc pm an cdv ct), osl⟩) (hcd : PySem.W.codeIn K cdv "_law_refused" = true) (hb : Binds K (PySem.W.fnOf "_law_refused" "_law_refused" (defArgs (top 26)) (defBody (top 26)) (defScope (top 26)) .none kV doc pm an cdv ct) ["_law_ask"] []) :
    CalT P w K mg base "_law_refused" 1 (RRef CW) := by
  refine calT_mk mx kg lk hcd hb sc_refused rfl (Or.inl rfl) (by decide) (by decide) fun X e1 e2 e3 e4 e5 hr q o d hR => ?_
  subst e1 e2 e3 e4 e5
  obtain ⟨rfl, rfl⟩ := hR
  refine told_exp (k := 1) (i := 1) hr (by decide +kernel) rfl rfl (fun s H => ⟨by rfl, by decide, Or.inl gS⟩) (fun s H pn xe => by rfl) (fun d0 hd => by cases hd) (fun C fl hC => ?_)
  cases hC
  exact ⟨rfl, xS, fun s H a oe pn hz hv => svs_one (sv_ret (ev_isE (i := 1) eN hz hv mI (by rfl) (by walk_at "vis") (by rfl) (by rfl) (by decide) (by decide) (pe_glob (v := .ref CW) (by rfl) gW rfl (by decide)) (fun u r => r) k1 (by rfl) (by rfl) (by rfl) (by rfl)))⟩

theorem sc_law : FnScope ["_law_script", "_law_cells", "_law_odd", "_law_thing", "_law_pair", "_law_groups", "_law_cell_here", "_law_row", "_law_due"] ["_law_script"] (defScope (top 27)) := ⟨rfl, rfl, rfl, by decide +kernel, rfl, by decide +kernel, by decide +kernel⟩
theorem ok_law {CF PT cc : Addr} {kV dc pm ct oc : Value} {an od : Option Addr} {osl : Array (Option Value)} (TB : LamX.TabB base mg cc PT) (mI : mg "isinstance" = none) (mLs : mg "list" = none) (mB : mg "bool" = none) (cI : Cal P w K mg base "is_worth" 2 ["thing"] [] fIsWorth) (cW : Cal P w K mg base "worth" 2 ["top", "bottom"] [] (fWorth CW)) (kS1 : CalK P w K mg base "show" 4 1 ["wholes"] (fun ds es => ds ++ (es ++ [Da.int 0])) (fShow CW CF)) (kS2 : CalK P w K mg base "show" 4 1 ["wholes", "parts"] (fun ds es => ds ++ es) (fShow CW CF))
    (lG : Cal P w K mg base "_law_digits" 1 ["_law_cell_here", "_law_many"] [] fDigits) (lL : Cal P w K mg base "_law_low" 1 ["_law_upper", "_law_lower"] [] fLow) (lR : CalT P w K mg base "_law_refused" 1 (RRef CW))
    (lk : K.lookup f = some ⟨oc, od, .func (PySem.W.fnOf "law" "law" (defArgs (top 27)) (defBody (top 27)) (defScope (top 27)) .none kV dc pm an (.ref cc) ct), osl⟩) (hcd : PySem.W.codeIn K (.ref cc) "law" = true) : FnOk P w K mg base (L2.CX P w) 11 f (PySem.W.fnOf "law" "law" (defArgs (top 27)) (defBody (top 27)) (defScope (top 27)) .none kV dc pm an (.ref cc) ct) ["_law_script"] (spLT K PT ("law.<locals>." ++ "<lambda>")) := by
  refine fn_LT lk hcd sc_law fun A outer s H E ns Bx hns => ?_
  have c1 := cmp_ints (ns.take 10)
  have c2 := cmp_ints []
  have cut := cut_head ns 10
  obtain ⟨cs, hcs⟩ : ∃ cs : List Int, cs = if ns.take 10 = [] then [4, 19, 300] else ns.take 10 := ⟨_, rfl⟩
  refine svs_cons (e1 := [.tb PT ("law.<locals>." ++ "<lambda>") (.lst (ns.map .int)), .da (.lst ((ns.take 10).map .int)), .no, .no, .no, .no, .no, .no, .no]) (by apply sv_set; (· assumption); (· exact EV.to (ev_sl (ev_nameT (n := 0) (by rfl) (by walk_at "vis") rfl (by rfl) (by decide) (by decide)) (by walk_at "evo") (by walk_at "evo")) (congrArg Da.lst cut)); (· rfl); (· rfl); (· walk_at "vis"); (· exact Or.inl rfl); (· rfl); (· rfl)) (svs_cons (e1 := [.tb PT ("law.<locals>." ++ "<lambda>") (.lst (ns.map .int)), .da (.lst (cs.map .int)), .no, .no, .no, .no, .no, .no, .no]) ?CELLS (svs_cons (e1 := [.tb PT ("law.<locals>." ++ "<lambda>") (.lst (ns.map .int)), .da (.lst (cs.map .int)), .own [Da.non, .int 3, .str "1/2", .str "", .lst [], .lst [.int 1, .int 2], .tup [], .tup [.int 1], .tup [.int 1, .int 2, .int 3], .tup [.bl true, .int 1], .tup [.int 1, .bl true], .tup [.str "1", .int 2], .tup [.int 1, .non], .emp], .no, .no, .no, .no, .no, .no]) ?OLIST (svs_cons (e1 := [.tb PT ("law.<locals>." ++ "<lambda>") (.lst (ns.map .int)), .da (.lst (cs.map .int)), .own [Da.non, .int 3, .str "1/2", .str "", .lst [], .lst [.int 1, .int 2], .tup [], .tup [.int 1], .tup [.int 1, .int 2, .int 3], .tup [.bl true, .int 1], .tup [.int 1, .bl true], .tup [.str "1", .int 2], .tup [.int 1, .non], .emp, .tup [.tup [.int 1, .int 2], .int 1]], .no, .no, .no, .no, .no, .no]) ?APP (svs_freeze (n := 2) rfl (svs_cons (e1 := [.tb PT ("law.<locals>." ++ "<lambda>") (.lst (ns.map .int)), .da (.lst (cs.map .int)), .da (.lst [Da.non, .int 3, .str "1/2", .str "", .lst [], .lst [.int 1, .int 2], .tup [], .tup [.int 1], .tup [.int 1, .int 2, .int 3], .tup [.bl true, .int 1], .tup [.int 1, .bl true], .tup [.str "1", .int 2], .tup [.int 1, .non], .emp, .tup [.tup [.int 1, .int 2], .int 1]]), .no, .no, .no, .no, .no, .no]) ?L1 (svs_cons (e1 := [.tb PT ("law.<locals>." ++ "<lambda>") (.lst (ns.map .int)), .da (.lst (cs.map .int)), .da (.lst [Da.non, .int 3, .str "1/2", .str "", .lst [], .lst [.int 1, .int 2], .tup [], .tup [.int 1], .tup [.int 1, .int 2, .int 3], .tup [.bl true, .int 1], .tup [.int 1, .bl true], .tup [.str "1", .int 2], .tup [.int 1, .non], .emp, .tup [.tup [.int 1, .int 2], .int 1]]), .no, .no, .no, .no, .no, .no]) ?L2 (svs_cons (e1 := [.tb PT ("law.<locals>." ++ "<lambda>") (.lst (ns.map .int)), .da (.lst (cs.map .int)), .da (.lst [Da.non, .int 3, .str "1/2", .str "", .lst [], .lst [.int 1, .int 2], .tup [], .tup [.int 1], .tup [.int 1, .int 2, .int 3], .tup [.bl true, .int 1], .tup [.int 1, .bl true], .tup [.str "1", .int 2], .tup [.int 1, .non], .emp, .tup [.tup [.int 1, .int 2], .int 1]]), .no, .no, .no, .no, .no, .no]) ?L3 (svs_cons (e1 := [.tb PT ("law.<locals>." ++ "<lambda>") (.lst (ns.map .int)), .da (.lst (cs.map .int)), .da (.lst [Da.non, .int 3, .str "1/2", .str "", .lst [], .lst [.int 1, .int 2], .tup [], .tup [.int 1], .tup [.int 1, .int 2, .int 3], .tup [.bl true, .int 1], .tup [.int 1, .bl true], .tup [.str "1", .int 2], .tup [.int 1, .non], .emp, .tup [.tup [.int 1, .int 2], .int 1]]), .no, .no, .no, .no, .no, .no]) ?L4 (svs_one (sv_ret ev_bl))))))))))
  case CELLS => 
    by_cases hn : ns.take 10 = []
    · rw [if_pos hn] at hcs
      refine sv_ifT (EVT.is (by walk_at "evt") ?_) (svs_one ?_)
      · rw [hn]; rfl
      · rw [hcs]; walk_at "set"
    · rw [if_neg hn] at hcs
      refine sv_ifF (EVT.is (by walk_at "evt") ?_) ?_
      · show PyData.eqvAll (pyA ((ns.take 10).map .int)) (pyA (([] : List Int).map .int)) = false
        rw [eqv_ints]
        exact decide_eq_false hn
      · rw [hcs]; exact svs_nil
  case OLIST => apply sv_setL; (· assumption); (· exact evl_lst (by walk_at "eva") (Nat.le_of_ble_eq_true rfl)); (· rfl); (· rfl); (· walk_at "vis"); (· exact Or.inl rfl); (· rfl); (· rfl)
  case APP => apply sv_app; (· rfl); (· walk_at "vis"); (· rfl); (· rfl); (· decide); (· decide); (· walk_at "ev"); (· exact Nat.le_of_ble_eq_true rfl); (· exact fun h => pe_bm PySem.F.plainAttrs_list PySem.F.slot_list_append PySem.F.type_list_append mt_append (pv _) (pa_cons h pa_nil)); (· rfl); (· rfl)
  case L1 => 
    apply sv_forL Bx (fun _ => [.tb PT ("law.<locals>." ++ "<lambda>") (.lst (ns.map .int)), .da (.lst (cs.map .int)), .da (.lst [Da.non, .int 3, .str "1/2", .str "", .lst [], .lst [.int 1, .int 2], .tup [], .tup [.int 1], .tup [.int 1, .int 2, .int 3], .tup [.bl true, .int 1], .tup [.int 1, .bl true], .tup [.str "1", .int 2], .tup [.int 1, .non], .emp, .tup [.tup [.int 1, .int 2], .int 1]]), .no, .no, .no, .no, .no, .no]) (ds := [Da.non, .int 3, .str "1/2", .str "", .lst [], .lst [.int 1, .int 2], .tup [], .tup [.int 1], .tup [.int 1, .int 2, .int 3], .tup [.bl true, .int 1], .tup [.int 1, .bl true], .tup [.str "1", .int 2], .tup [.int 1, .non], .emp, .tup [.tup [.int 1, .int 2], .int 1]] ++ [Da.tup [.int 1, .int 0], .tup [.int 0, .int 2], .tup [.int 2, .int 4], .tup [.int 3, .int (-1)], .tup [.int 0, .int (-1)], .tup [.int (-2), .int 2]])
    · rfl
    · rfl
    · walk_at "vis"
    · exact Or.inl rfl
    · exact (evl_cat (ds := [Da.non, .int 3, .str "1/2", .str "", .lst [], .lst [.int 1, .int 2], .tup [], .tup [.int 1], .tup [.int 1, .int 2, .int 3], .tup [.bl true, .int 1], .tup [.int 1, .bl true], .tup [.str "1", .int 2], .tup [.int 1, .non], .emp, .tup [.tup [.int 1, .int 2], .int 1]]) (by walk_at "ev") (EV.to (ev_lst (by walk_at "eva") (Nat.le_of_ble_eq_true rfl)) rfl) (Nat.le_of_ble_eq_true rfl)).ev
    · rfl
    · intro _; rfl
    · intro i0 d0 hd0
      have hm := List.mem_of_getElem? hd0
      have hw : isWorthD d0 = some false := by
        have al : ∀ d ∈ ([Da.non, .int 3, .str "1/2", .str "", .lst [], .lst [.int 1, .int 2], .tup [], .tup [.int 1], .tup [.int 1, .int 2, .int 3], .tup [.bl true, .int 1], .tup [.int 1, .bl true], .tup [.str "1", .int 2], .tup [.int 1, .non], .emp, .tup [.tup [.int 1, .int 2], .int 1]] ++ [Da.tup [.int 1, .int 0], .tup [.int 0, .int 2], .tup [.int 2, .int 4], .tup [.int 3, .int (-1)], .tup [.int 0, .int (-1)], .tup [.int (-2), .int 2]] : List Da), isWorthD d = some false := by decide +kernel
        exact al d0 hm
      have w1 := worth_some hw
      have s1 : fShow CW CF ([d0] ++ ([Da.int 2] ++ [Da.int 0])) = some (.err CW none) := by
        show fShow3 CW CF d0 (.int 2) (.int 0) = _
        unfold fShow3
        rw [hw]
        rfl
      exact svs_weak (e1 := [.tb PT ("law.<locals>." ++ "<lambda>") (.lst (ns.map .int)), .da (.lst (cs.map .int)), .da (.lst [Da.non, .int 3, .str "1/2", .str "", .lst [], .lst [.int 1, .int 2], .tup [], .tup [.int 1], .tup [.int 1, .int 2, .int 3], .tup [.bl true, .int 1], .tup [.int 1, .bl true], .tup [.str "1", .int 2], .tup [.int 1, .non], .emp, .tup [.tup [.int 1, .int 2], .int 1]]), .da d0, .no, .no, .no, .no, .no]) (svs_one (sv_ifFM (evtm_w (evwm_orF (evtm_pure (W := WD E) (EVT.is (evt_isnotB (ev_cal cI Bx (by decide) (by walk_at "eva") w1 rfl (by rfl) (by decide) rfl rfl) ev_bl) rfl)) (evwm_or1 (EVTm.is2 (evtm_not (evtm_val (evm_lam (i := 0) (m := 8) (q := "law.<locals>." ++ "<lambda>") (o := .err CW none) lR Bx (by decide) (by decide) (by rfl) TB rfl rfl rfl ⟨⟨rfl, rfl⟩, trivial⟩ (LamX.lamS_by (show LamX.lamSB (defScope (top 27)) _ = true by decide +kernel)) (by rfl) (fun _ _ _ _ _ => by rfl) (fun A2 o2 s2 H2 E2 f2 c2 Bl => ev_calK (gD := fun ds es => ds ++ (es ++ [Da.int 0])) kS1 Bl (by decide) (by walk_at "eva") (by walk_at "evk") s1 rfl rfl (by rfl) (by rfl) (by rfl) (by decide) rfl (by rfl)) ⟨rfl, rfl⟩) (fun _ => rfl))) rfl)))) svs_nil)) (.eq (.eq (.eq (.no (.no (.no (.no (.no (.no .nil)))))))))
  case L2 => 
    apply sv_forL Bx (fun _ => [.tb PT ("law.<locals>." ++ "<lambda>") (.lst (ns.map .int)), .da (.lst (cs.map .int)), .da (.lst [Da.non, .int 3, .str "1/2", .str "", .lst [], .lst [.int 1, .int 2], .tup [], .tup [.int 1], .tup [.int 1, .int 2, .int 3], .tup [.bl true, .int 1], .tup [.int 1, .bl true], .tup [.str "1", .int 2], .tup [.int 1, .non], .emp, .tup [.tup [.int 1, .int 2], .int 1]]), .no, .no, .no, .no, .no, .no]) (ds := [Da.tup [.non, .int 1], .tup [.int 1, .int 0], .tup [.str "1", .int 1], .tup [.int 1, .non], .tup [.bl true, .int 2], .tup [.int 1, .bl false], .tup [.tup [.int 1, .int 2], .int 1]])
    · rfl
    · rfl
    · walk_at "vis"
    · exact Or.inl rfl
    · exact ev_lst (by walk_at "eva") (Nat.le_of_ble_eq_true rfl)
    · rfl
    · intro _; rfl
    · intro i0 d0 hd0
      have hm := List.mem_of_getElem? hd0
      obtain ⟨x, y, rfl, w1⟩ : ∃ x y, d0 = .tup [x, y] ∧ fWorth CW ([x, y] ++ []) = some (.err CW none) := by
        simp only [List.mem_cons, List.not_mem_nil, or_false] at hm
        rcases hm with rfl | rfl | rfl | rfl | rfl | rfl | rfl <;> exact ⟨_, _, rfl, by rfl⟩
      exact svs_weak (e1 := [.tb PT ("law.<locals>." ++ "<lambda>") (.lst (ns.map .int)), .da (.lst (cs.map .int)), .da (.lst [Da.non, .int 3, .str "1/2", .str "", .lst [], .lst [.int 1, .int 2], .tup [], .tup [.int 1], .tup [.int 1, .int 2, .int 3], .tup [.bl true, .int 1], .tup [.int 1, .bl true], .tup [.str "1", .int 2], .tup [.int 1, .non], .emp, .tup [.tup [.int 1, .int 2], .int 1]]), .no, .da (.tup [x, y]), .no, .no, .no, .no]) (svs_one (sv_ifFM (EVTm.is2 (evtm_not (evtm_val (evm_lam (i := 0) (m := 8) (q := "law.<locals>." ++ "<lambda>") (o := .err CW none) lR Bx (by decide) (by decide) (by rfl) TB rfl rfl rfl ⟨⟨rfl, rfl⟩, trivial⟩ (LamX.lamS_by (show LamX.lamSB (defScope (top 27)) _ = true by decide +kernel)) (by rfl) (fun _ _ _ _ _ => by rfl) (fun A2 o2 s2 H2 E2 f2 c2 Bl => ev_cal cW Bl (by decide) (eva_cons (ev_ixT (ds := [x, y]) (by walk_at "ev") ev_int (fun _ _ => rfl) rfl) (eva_cons (ev_ixT (ds := [x, y]) (by walk_at "ev") ev_int (fun _ _ => rfl) rfl) eva_nil rfl) rfl) w1 rfl (by rfl) (by decide) rfl rfl) ⟨rfl, rfl⟩) (fun _ => rfl))) rfl) svs_nil)) (.eq (.eq (.eq (.no (.no (.no (.no (.no (.no .nil)))))))))
  case L3 => 
    apply sv_forL Bx (fun _ => [.tb PT ("law.<locals>." ++ "<lambda>") (.lst (ns.map .int)), .da (.lst (cs.map .int)), .da (.lst [Da.non, .int 3, .str "1/2", .str "", .lst [], .lst [.int 1, .int 2], .tup [], .tup [.int 1], .tup [.int 1, .int 2, .int 3], .tup [.bl true, .int 1], .tup [.int 1, .bl true], .tup [.str "1", .int 2], .tup [.int 1, .non], .emp, .tup [.tup [.int 1, .int 2], .int 1]]), .no, .no, .no, .no, .no, .no]) (ds := [Da.tup [.int 0, .int 0], .tup [.int 9, .int 0], .tup [.int 1, .int 9], .tup [.int 1, .int (-1)], .tup [.non, .int 0], .tup [.bl true, .int 0], .tup [.str "2", .int 1], .tup [.int 1, .non]])
    · rfl
    · rfl
    · walk_at "vis"
    · exact Or.inl rfl
    · exact ev_lst (by walk_at "eva") (Nat.le_of_ble_eq_true rfl)
    · rfl
    · intro _; rfl
    · intro i0 d0 hd0
      have hm := List.mem_of_getElem? hd0
      obtain ⟨x, y, rfl, w1⟩ : ∃ x y, d0 = .tup [x, y] ∧ fShow CW CF ([.tup [.int 0, .int 1]] ++ [x, y]) = some (.err CW none) := by
        simp only [List.mem_cons, List.not_mem_nil, or_false] at hm
        rcases hm with rfl | rfl | rfl | rfl | rfl | rfl | rfl | rfl <;> exact ⟨_, _, rfl, by rfl⟩
      exact svs_weak (e1 := [.tb PT ("law.<locals>." ++ "<lambda>") (.lst (ns.map .int)), .da (.lst (cs.map .int)), .da (.lst [Da.non, .int 3, .str "1/2", .str "", .lst [], .lst [.int 1, .int 2], .tup [], .tup [.int 1], .tup [.int 1, .int 2, .int 3], .tup [.bl true, .int 1], .tup [.int 1, .bl true], .tup [.str "1", .int 2], .tup [.int 1, .non], .emp, .tup [.tup [.int 1, .int 2], .int 1]]), .no, .no, .da (.tup [x, y]), .no, .no, .no]) (svs_one (sv_ifFM (EVTm.is2 (evtm_not (evtm_val (evm_lam (i := 0) (m := 8) (q := "law.<locals>." ++ "<lambda>") (o := .err CW none) lR Bx (by decide) (by decide) (by rfl) TB rfl rfl rfl ⟨⟨rfl, rfl⟩, trivial⟩ (LamX.lamS_by (show LamX.lamSB (defScope (top 27)) _ = true by decide +kernel)) (by rfl) (fun _ _ _ _ _ => by rfl) (fun A2 o2 s2 H2 E2 f2 c2 Bl => ev_calK (gD := fun ds es => ds ++ es) kS2 Bl (by decide) (by walk_at "eva") (evk_cons (ev_ixT (ds := [x, y]) (by walk_at "ev") ev_int (fun _ _ => rfl) rfl) (evk_cons (ev_ixT (ds := [x, y]) (by walk_at "ev") ev_int (fun _ _ => rfl) rfl) evk_nil)) w1 rfl rfl (by rfl) (by rfl) (by rfl) (by decide) rfl (by rfl)) ⟨rfl, rfl⟩) (fun _ => rfl))) rfl) svs_nil)) (.eq (.eq (.eq (.no (.no (.no (.no (.no (.no .nil)))))))))
  case L4 => 
    apply sv_forL Bx (fun _ => [.tb PT ("law.<locals>." ++ "<lambda>") (.lst (ns.map .int)), .da (.lst (cs.map .int)), .da (.lst [Da.non, .int 3, .str "1/2", .str "", .lst [], .lst [.int 1, .int 2], .tup [], .tup [.int 1], .tup [.int 1, .int 2, .int 3], .tup [.bl true, .int 1], .tup [.int 1, .bl true], .tup [.str "1", .int 2], .tup [.int 1, .non], .emp, .tup [.tup [.int 1, .int 2], .int 1]]), .no, .no, .no, .no, .no, .no]) (ds := cs.map .int)
    · rfl
    · rfl
    · walk_at "vis"
    · exact Or.inl rfl
    · walk_at "ev"
    · rfl
    · intro _; rfl
    · intro i0 d0 hd0
      obtain ⟨c, rfl⟩ : ∃ c : Int, d0 = .int c := by
        rw [List.getElem?_map] at hd0
        cases hq : cs[i0]? with
        | none => rw [hq] at hd0; cases hd0
        | some c => rw [hq] at hd0; exact ⟨c, (Option.some.inj hd0).symm⟩
      have fd1 : fDigits ([.int c, .int 6] ++ []) = some (.ok (.lst ((digs c 6).map .int))) := fDigits_ok (n := 6) (by decide)
      have aq : ∀ k : Nat, k < 6 → atI ((digs c 6).map Da.int) (k : Int) = some (.int (digD c k)) := fun k hk => at_nat (k := k) (by rw [List.getElem?_map, digs_get c hk]; rfl)
      have a0 : atI ((digs c 6).map Da.int) 0 = some (.int (digD c 0)) := aq 0 (by decide)
      have a1 : atI ((digs c 6).map Da.int) 1 = some (.int (digD c 1)) := aq 1 (by decide)
      have a2 : atI ((digs c 6).map Da.int) 2 = some (.int (digD c 2)) := aq 2 (by decide)
      have a3 : atI ((digs c 6).map Da.int) 3 = some (.int (digD c 3)) := aq 3 (by decide)
      have a4 : atI ((digs c 6).map Da.int) 4 = some (.int (digD c 4)) := aq 4 (by decide)
      clear aq
      have q0 := fun k => digD_lo c k
      have q1 := fun k => digD_hi c k
      generalize (digs c 6).map Da.int = dd at fd1 a0 a1 a2 a3 a4
      generalize digD c = q at *
      have g0 := q0 0
      have g1 := q1 0
      have g2 := q0 2
      have g3 := q1 2
      have g4 := q0 3
      have g5 := q1 3
      have g6 := q0 1
      have g7 := q0 4
      have pick : ∀ (x y m : Int), ∃ z : Int, atI [Da.int x, .int y] (m % 2) = some (.int z) ∧ (z = x ∨ z = y) := fun x y m => by
        have h : m % 2 = 0 ∨ m % 2 = 1 := by omega
        rcases h with h | h
        · rw [h]; exact ⟨x, rfl, Or.inl rfl⟩
        · rw [h]; exact ⟨y, rfl, Or.inr rfl⟩
      obtain ⟨a, ha, ha2⟩ := pick (q 0 % 30) (q 0 - 500) (q 1)
      obtain ⟨b, hb, hb2⟩ := pick (q 2 % 12 - 2) (q 3 - 300) (q 4)
      have bB : b.natAbs < 2000 := by omega
      have u1 := worth_some (isWorthD_int a b)
      have u2 : fIsWorth ([.lst [.int a, .int b]] ++ []) = some (.ok (.bl false)) := rfl
      refine svs_weak (e1 := [.tb PT ("law.<locals>." ++ "<lambda>") (.lst (ns.map .int)), .da (.lst (cs.map .int)), .da (.lst [Da.non, .int 3, .str "1/2", .str "", .lst [], .lst [.int 1, .int 2], .tup [], .tup [.int 1], .tup [.int 1, .int 2, .int 3], .tup [.bl true, .int 1], .tup [.int 1, .bl true], .tup [.str "1", .int 2], .tup [.int 1, .non], .emp, .tup [.tup [.int 1, .int 2], .int 1]]), .no, .da (.tup [.int a, .int b]), .no, .da (.int (c)), .da (.lst dd), .da (.bl (isW a b))]) (svs_cons (e1 := [.tb PT ("law.<locals>." ++ "<lambda>") (.lst (ns.map .int)), .da (.lst (cs.map .int)), .da (.lst [Da.non, .int 3, .str "1/2", .str "", .lst [], .lst [.int 1, .int 2], .tup [], .tup [.int 1], .tup [.int 1, .int 2, .int 3], .tup [.bl true, .int 1], .tup [.int 1, .bl true], .tup [.str "1", .int 2], .tup [.int 1, .non], .emp, .tup [.tup [.int 1, .int 2], .int 1]]), .no, .no, .no, .da (.int (c)), .da (.lst dd), .no]) (by walk_at "set") (svs_cons (e1 := [.tb PT ("law.<locals>." ++ "<lambda>") (.lst (ns.map .int)), .da (.lst (cs.map .int)), .da (.lst [Da.non, .int 3, .str "1/2", .str "", .lst [], .lst [.int 1, .int 2], .tup [], .tup [.int 1], .tup [.int 1, .int 2, .int 3], .tup [.bl true, .int 1], .tup [.int 1, .bl true], .tup [.str "1", .int 2], .tup [.int 1, .non], .emp, .tup [.tup [.int 1, .int 2], .int 1]]), .no, .da (.tup [.int a, .int b]), .no, .da (.int (c)), .da (.lst dd), .no]) ?PAIR (svs_cons (e1 := [.tb PT ("law.<locals>." ++ "<lambda>") (.lst (ns.map .int)), .da (.lst (cs.map .int)), .da (.lst [Da.non, .int 3, .str "1/2", .str "", .lst [], .lst [.int 1, .int 2], .tup [], .tup [.int 1], .tup [.int 1, .int 2, .int 3], .tup [.bl true, .int 1], .tup [.int 1, .bl true], .tup [.str "1", .int 2], .tup [.int 1, .non], .emp, .tup [.tup [.int 1, .int 2], .int 1]]), .no, .da (.tup [.int a, .int b]), .no, .da (.int (c)), .da (.lst dd), .da (.bl (isW a b))]) ?DUE (svs_one ?TEST)))) (.eq (.eq (.eq (.no (.no (.no (.no (.no (.no .nil)))))))))
      case PAIR =>
        apply sv_set
        · assumption
        · exact ev_tup (eva_cons (ev_ixL (ev_lst (eva_cons (ev_mod (ev_ixL (by walk_at "ev") ev_int (fun _ _ => rfl) a0) ev_int (by decide)) (eva_cons (ev_sub (ev_ixL (by walk_at "ev") ev_int (fun _ _ => rfl) a0) ev_int) eva_nil rfl) rfl) (Nat.le_of_ble_eq_true rfl)) (ev_mod (ev_ixL (by walk_at "ev") ev_int (fun _ _ => rfl) a1) ev_int (by decide)) (fun _ _ => rfl) ha) (eva_cons (ev_ixL (ev_lst (eva_cons (ev_sub (ev_mod (ev_ixL (by walk_at "ev") ev_int (fun _ _ => rfl) a2) ev_int (by decide)) ev_int) (eva_cons (ev_sub (ev_ixL (by walk_at "ev") ev_int (fun _ _ => rfl) a3) ev_int) eva_nil rfl) rfl) (Nat.le_of_ble_eq_true rfl)) (ev_mod (ev_ixL (by walk_at "ev") ev_int (fun _ _ => rfl) a4) ev_int (by decide)) (fun _ _ => rfl) hb) eva_nil rfl) rfl) (Nat.le_of_ble_eq_true rfl)
        · rfl
        · rfl
        · walk_at "vis"
        · exact Or.inl rfl
        · rfl
        · rfl
      case DUE =>
        apply sv_set
        · assumption
        · by_cases h0 : 0 < b
          · have l1 : fLow ([.int a, .int b] ++ []) = some (.ok (lw a b)) := fLow_ok (by omega) (Nat.lt_of_lt_of_le bB (by decide))
            exact ev_andT (EV.is (ev_gt (ev_ixT (ds := [.int a, .int b]) (by walk_at "ev") ev_int (fun _ _ => rfl) rfl) ev_int) (decide_eq_true h0)) (ev_one (EV.is (ev_eq Bx (ev_cal lL Bx (by decide) (eva_cons (ev_ixT (ds := [.int a, .int b]) (by walk_at "ev") ev_int (fun _ _ => rfl) rfl) (eva_cons (ev_ixT (ds := [.int a, .int b]) (by walk_at "ev") ev_int (fun _ _ => rfl) rfl) eva_nil rfl) rfl) l1 rfl (by rfl) (by decide) rfl rfl) (by walk_at "ev") cmp_lw ⟨rfl, rfl⟩) (lw_stays (by omega))))
          · have e0 : isW a b = false := by unfold isW; rw [decide_eq_false h0, Bool.false_and]
            rw [e0]
            exact ev_andF (EV.is (ev_gt (ev_ixT (ds := [.int a, .int b]) (by walk_at "ev") ev_int (fun _ _ => rfl) rfl) ev_int) (decide_eq_false h0))
        · rfl
        · rfl
        · walk_at "vis"
        · exact Or.inl rfl
        · rfl
        · rfl
      case TEST =>
        have eqs : deq (.lst [.bl (isW a b), .bl false]) (.lst [.bl (isW a b), .bl false]) = true := by cases isW a b <;> rfl
        exact sv_ifF (evt_w (evw_orF (EVT.is (evt_ne Bx (ev_lst (ds := [.bl (isW a b), .bl false]) (eva_cons (ev_cal cI Bx (by decide) (by walk_at "eva") u1 rfl (by rfl) (by decide) rfl rfl) (eva_cons (ev_cal cI Bx (by decide) (eva_cons (evl_listT (by walk_at "eva") (by rfl) mLs rfl rfl).ev eva_nil rfl) u2 rfl (by rfl) (by decide) rfl rfl) eva_nil rfl) rfl) (Nat.le_of_ble_eq_true rfl)) (ev_lst (ds := [.bl (isW a b), .bl false]) (eva_cons (by walk_at "ev") (eva_cons ev_bl eva_nil rfl) rfl) (Nat.le_of_ble_eq_true rfl)) ⟨rfl, rfl⟩ ⟨rfl, rfl⟩) (by rw [eqs]; rfl)) (evw_or1 (EVT.is (evt_not (evt_val (ev_cb (x := "isinstance") call_isi (eva_cons (ev_cal cI Bx (by decide) (by walk_at "eva") u1 rfl (by rfl) (by decide) rfl rfl) (eva_cons (by walk_at "ev") eva_nil rfl) rfl) (rc_isi (T := "bool") (c := "bool") (b := true) rfl (by decide +kernel)) (by rfl) mI (by decide +kernel) (by decide) (by decide) rfl rfl) (fun _ => rfl))) rfl)))) svs_nil
end
end T01
namespace T01
open PySem L2 Evl PySem.Spec PyProof.Rows Sky
theorem vals_rev : ∀ {xs : List V} {us : List Value}, Vals xs us → Vals xs.reverse us.reverse
  | _, _, .nil => .nil
  | _, _, .cons h t => by
    rw [List.reverse_cons, List.reverse_cons]
    exact (vals_rev t).append (.cons h .nil)
theorem worth_binds2 {K : PySem.W.Frag} {f : Addr} {fd : FuncData} (F : FunDS K "worth" "worth" (top 12) [.int 1] [] f fd) : Binds K fd ["top", "bottom"] [] := by
  obtain ⟨its, kb⟩ := Sky.FunD.kb1 (ps := ["top", "bottom"]) F 2 [] (fun us _ _ => us) (by simp) (fun r1 _ _ => r1) (fun T kV doc pm an cdv ct us its ws h1 h2 h3 => match us, its, ws, h1, h2, h3 with | [_, _], [_], [], _, _, _ => ⟨_, rfl, rfl⟩)
  intro s us hk hl
  rw [List.append_nil] at hl ⊢
  exact kb.to s us [] hk hl rfl
theorem all_mk {P : Program} {w : World} {K : PySem.W.Frag} {h : Heap} {mg : Str → Option Value} {fa : Addr} (X : K.In h) (G : h.Ns mainGlobals mg) (hfa : mg "law" = some (.ref fa)) {ts : List Addr} (hT : ∀ P ∈ ts, h.get? P = some (PySem.W.tabObj #[]))
    {CW : Addr}
    {f0 : Addr} {od0 an0 : Option Addr} {sl0 : Array (Option Value)} {oc0 kV0 dc0 pm0 cd0 ct0 : Value}
    {T1 : Addr} {cT1 : Value} {dT1 : Option Addr} {tk1 : Tok} {nT1 : Nat} {sT1 : Array (Option Value)}
    {f1 : Addr} {od1 an1 : Option Addr} {sl1 : Array (Option Value)} {oc1 kV1 dc1 pm1 cd1 ct1 : Value}
    {f2 : Addr} {od2 an2 : Option Addr} {sl2 : Array (Option Value)} {oc2 kV2 dc2 pm2 cd2 ct2 : Value}
    {f3 : Addr} {od3 an3 : Option Addr} {sl3 : Array (Option Value)} {oc3 kV3 dc3 pm3 cd3 ct3 : Value}
    {f4 : Addr} {od4 an4 : Option Addr} {sl4 : Array (Option Value)} {oc4 kV4 dc4 pm4 cd4 ct4 : Value}
    {f5 : Addr} {od5 an5 : Option Addr} {sl5 : Array (Option Value)} {oc5 kV5 dc5 pm5 cd5 ct5 : Value}
    {f6 : Addr} {od6 an6 : Option Addr} {sl6 : Array (Option Value)} {oc6 kV6 dc6 pm6 cd6 ct6 : Value}
    {DS : Addr}
    {f7 : Addr} {od7 an7 : Option Addr} {sl7 : Array (Option Value)} {oc7 dc7 pm7 cd7 ct7 : Value}
    {tkw tkp : Tok}
    {f8 : Addr} {od8 an8 : Option Addr} {sl8 : Array (Option Value)} {oc8 kV8 dc8 pm8 cd8 ct8 : Value}
    {f9 : Addr} {od9 an9 : Option Addr} {sl9 : Array (Option Value)} {oc9 kV9 dc9 pm9 cd9 ct9 : Value}
    {f10 : Addr} {od10 an10 : Option Addr} {sl10 : Array (Option Value)} {oc10 kV10 dc10 pm10 cd10 ct10 : Value}
    {f11 : Addr} {od11 an11 : Option Addr} {sl11 : Array (Option Value)} {oc11 kV11 dc11 pm11 cd11 ct11 : Value}
    {f12 : Addr} {od12 an12 : Option Addr} {sl12 : Array (Option Value)} {oc12 kV12 dc12 pm12 cd12 ct12 : Value}
    {f13 : Addr} {od13 an13 : Option Addr} {sl13 : Array (Option Value)} {oc13 kV13 dc13 pm13 ct13 : Value}
    {CF CS : Addr} {tM : Tok}
    {cc PT : Addr} {odc : Option Addr} {vcc : Array Value} {slc : Array (Option Value)}
    (a0 : PySem.W.nsIn K mainGlobals "is_whole" = some (some (.ref f0)))
    (l0 : K.lookup f0 = some ⟨oc0, od0, .func (PySem.W.fnOf "is_whole" "is_whole" (defArgs (top 9)) (defBody (top 9)) (defScope (top 9)) .none kV0 dc0 pm0 an0 cd0 ct0), sl0⟩)
    (c0 : PySem.W.codeIn K cd0 "is_whole" = true)
    (k0 : PySem.W.keepIn K (.ref f0) = true)
    (a1 : PySem.W.nsIn K mainGlobals "worth" = some (some (.ref f1)))
    (l1 : K.lookup f1 = some ⟨oc1, od1, .func (PySem.W.fnOf "worth" "worth" (defArgs (top 12)) (defBody (top 12)) (defScope (top 12)) (.ref T1) kV1 dc1 pm1 an1 cd1 ct1), sl1⟩)
    (c1 : PySem.W.codeIn K cd1 "worth" = true)
    (k1 : PySem.W.keepIn K (.ref f1) = true)
    (t1 : K.lookup T1 = some ⟨cT1, dT1, .seq ([Value.int 1 tk1].toArray) nT1, sT1⟩)
    (a2 : PySem.W.nsIn K mainGlobals "is_tuple" = some (some (.ref f2)))
    (l2 : K.lookup f2 = some ⟨oc2, od2, .func (PySem.W.fnOf "is_tuple" "is_tuple" (defArgs (top 6)) (defBody (top 6)) (defScope (top 6)) .none kV2 dc2 pm2 an2 cd2 ct2), sl2⟩)
    (c2 : PySem.W.codeIn K cd2 "is_tuple" = true)
    (k2 : PySem.W.keepIn K (.ref f2) = true)
    (a3 : PySem.W.nsIn K mainGlobals "is_worth" = some (some (.ref f3)))
    (l3 : K.lookup f3 = some ⟨oc3, od3, .func (PySem.W.fnOf "is_worth" "is_worth" (defArgs (top 13)) (defBody (top 13)) (defScope (top 13)) .none kV3 dc3 pm3 an3 cd3 ct3), sl3⟩)
    (c3 : PySem.W.codeIn K cd3 "is_worth" = true)
    (k3 : PySem.W.keepIn K (.ref f3) = true)
    (a4 : PySem.W.nsIn K mainGlobals "is_whole_from" = some (some (.ref f4)))
    (l4 : K.lookup f4 = some ⟨oc4, od4, .func (PySem.W.fnOf "is_whole_from" "is_whole_from" (defArgs (top 10)) (defBody (top 10)) (defScope (top 10)) .none kV4 dc4 pm4 an4 cd4 ct4), sl4⟩)
    (c4 : PySem.W.codeIn K cd4 "is_whole_from" = true)
    (k4 : PySem.W.keepIn K (.ref f4) = true)
    (a5 : PySem.W.nsIn K mainGlobals "is_form" = some (some (.ref f5)))
    (l5 : K.lookup f5 = some ⟨oc5, od5, .func (PySem.W.fnOf "is_form" "is_form" (defArgs (top 11)) (defBody (top 11)) (defScope (top 11)) .none kV5 dc5 pm5 an5 cd5 ct5), sl5⟩)
    (c5 : PySem.W.codeIn K cd5 "is_form" = true)
    (k5 : PySem.W.keepIn K (.ref f5) = true)
    (a6 : PySem.W.nsIn K mainGlobals "_sixties" = some (some (.ref f6)))
    (l6 : K.lookup f6 = some ⟨oc6, od6, .func (PySem.W.fnOf "_sixties" "_sixties" (defArgs (top 14)) (defBody (top 14)) (defScope (top 14)) .none kV6 dc6 pm6 an6 cd6 ct6), sl6⟩)
    (c6 : PySem.W.codeIn K cd6 "_sixties" = true)
    (k6 : PySem.W.keepIn K (.ref f6) = true)
    (a7 : PySem.W.nsIn K mainGlobals "show" = some (some (.ref f7)))
    (l7 : K.lookup f7 = some ⟨oc7, od7, .func (PySem.W.fnOf "show" "show" (defArgs (top 15)) (defBody (top 15)) (defScope (top 15)) .none (.ref DS) dc7 pm7 an7 cd7 ct7), sl7⟩)
    (c7 : PySem.W.codeIn K cd7 "show" = true)
    (k7 : PySem.W.keepIn K (.ref f7) = true)
    (uw : PySem.W.nsIn K DS "wholes" = some (some (.int 1 tkw)))
    (up2 : PySem.W.nsIn K DS "parts" = some (some (.int 0 tkp)))
    (a8 : PySem.W.nsIn K mainGlobals "_groups_of" = some (some (.ref f8)))
    (l8 : K.lookup f8 = some ⟨oc8, od8, .func (PySem.W.fnOf "_groups_of" "_groups_of" (defArgs (top 16)) (defBody (top 16)) (defScope (top 16)) .none kV8 dc8 pm8 an8 cd8 ct8), sl8⟩)
    (c8 : PySem.W.codeIn K cd8 "_groups_of" = true)
    (k8 : PySem.W.keepIn K (.ref f8) = true)
    (a9 : PySem.W.nsIn K mainGlobals "joined_groups" = some (some (.ref f9)))
    (l9 : K.lookup f9 = some ⟨oc9, od9, .func (PySem.W.fnOf "joined_groups" "joined_groups" (defArgs (top 17)) (defBody (top 17)) (defScope (top 17)) .none kV9 dc9 pm9 an9 cd9 ct9), sl9⟩)
    (c9 : PySem.W.codeIn K cd9 "joined_groups" = true)
    (k9 : PySem.W.keepIn K (.ref f9) = true)
    (a10 : PySem.W.nsIn K mainGlobals "_law_digits" = some (some (.ref f10)))
    (l10 : K.lookup f10 = some ⟨oc10, od10, .func (PySem.W.fnOf "_law_digits" "_law_digits" (defArgs (top 20)) (defBody (top 20)) (defScope (top 20)) .none kV10 dc10 pm10 an10 cd10 ct10), sl10⟩)
    (c10 : PySem.W.codeIn K cd10 "_law_digits" = true)
    (k10 : PySem.W.keepIn K (.ref f10) = true)
    (a11 : PySem.W.nsIn K mainGlobals "_law_low" = some (some (.ref f11)))
    (l11 : K.lookup f11 = some ⟨oc11, od11, .func (PySem.W.fnOf "_law_low" "_law_low" (defArgs (top 21)) (defBody (top 21)) (defScope (top 21)) .none kV11 dc11 pm11 an11 cd11 ct11), sl11⟩)
    (c11 : PySem.W.codeIn K cd11 "_law_low" = true)
    (k11 : PySem.W.keepIn K (.ref f11) = true)
    (a12 : PySem.W.nsIn K mainGlobals "_law_refused" = some (some (.ref f12)))
    (l12 : K.lookup f12 = some ⟨oc12, od12, .func (PySem.W.fnOf "_law_refused" "_law_refused" (defArgs (top 26)) (defBody (top 26)) (defScope (top 26)) .none kV12 dc12 pm12 an12 cd12 ct12), sl12⟩)
    (c12 : PySem.W.codeIn K cd12 "_law_refused" = true)
    (k12 : PySem.W.keepIn K (.ref f12) = true)
    (a13 : PySem.W.nsIn K mainGlobals "law" = some (some (.ref f13)))
    (l13 : K.lookup f13 = some ⟨oc13, od13, .func (PySem.W.fnOf "law" "law" (defArgs (top 27)) (defBody (top 27)) (defScope (top 27)) .none kV13 dc13 pm13 an13 (.ref cc) ct13), sl13⟩)
    (c13 : PySem.W.codeIn K (.ref cc) "law" = true)
    (k13 : PySem.W.keepIn K (.ref f13) = true)
    (z_isinstance : PySem.W.nsIn K mainGlobals "isinstance" = some none)
    (z_int : PySem.W.nsIn K mainGlobals "int" = some none)
    (z_bool : PySem.W.nsIn K mainGlobals "bool" = some none)
    (z_tuple : PySem.W.nsIn K mainGlobals "tuple" = some none)
    (z_len : PySem.W.nsIn K mainGlobals "len" = some none)
    (z_range : PySem.W.nsIn K mainGlobals "range" = some none)
    (z_abs : PySem.W.nsIn K mainGlobals "abs" = some none)
    (z_divmod : PySem.W.nsIn K mainGlobals "divmod" = some none)
    (z_list : PySem.W.nsIn K mainGlobals "list" = some none)
    (zg_gcd : PySem.W.nsIn K mainGlobals "gcd" = some (some (.builtin "math.gcd")))
    (eg : PySem.W.nsIn K mainGlobals "NoWorth" = some (some (.ref CW)))
    (ex : PySem.W.excIn K CW veB "ValueError.__new__" = true)
    (ek : PySem.W.keepIn K (.ref CW) = true)
    (eb : PySem.W.subIn K (.ref CW) (.type "BaseException") = some true)
    (et : PySem.W.typeIn K (.ref CW) = some (.type "type"))
    (nfg : PySem.W.nsIn K mainGlobals "NoFit" = some (some (.ref CF)))
    (nfx : PySem.W.excIn K CF veB "ValueError.__new__" = true)
    (nfk : PySem.W.keepIn K (.ref CF) = true)
    (nfb : PySem.W.subIn K (.ref CF) (.type "BaseException") = some true)
    (nft : PySem.W.typeIn K (.ref CF) = some (.type "type"))
    (gm : PySem.W.nsIn K mainGlobals "MOST_GROUPS" = some (some (.int 8 tM)))
    (ek1 : PySem.W.findIn K (.ref CW) "__getattribute__" = some (some (.builtin "BaseException.__getattribute__")))
    (ek2 : PySem.W.findIn K (.ref CW) "__getattr__" = some none)
    (ek4 : PySem.W.hasDictIn K CW = true)
    (ek5 : PySem.W.findIn K (.ref CW) "__class__" = some (some (.builtin "object.__class__")))
    (ek6 : PySem.W.specialIn K (.builtin "object.__class__") "__get__" = some (some (.builtin "getset_descriptor.__get__")))
    (ek7 : PySem.W.takesIn K (.builtin "object.__class__") = some true)
    (ek8 : PySem.W.mroIn K CW (.type "object") = some true)
    (qS : PySem.W.nsIn K mainGlobals "SkyError" = some (some (.ref CS)))
    (s1 : PySem.W.subIn K (.ref CS) (.type "BaseException") = some true)
    (s2 : PySem.W.hasDictIn K CS = true)
    (s3 : PySem.W.typeIn K (.ref CS) = some (.type "type"))
    (s4 : PySem.W.subIn K (.ref CW) (.ref CS) = some true)
    (s5 : PySem.W.subIn K (.ref CW) (.ref CW) = some true)
    (lcc : K.lookup cc = some ⟨.type "code", odc, .fields vcc, slc⟩)
    (vcc11 : (vcc[11]? : Option Value) = some (.ref PT))
    (nPT : K.lookup PT = none)
    (hCd : PySem.W.codeHdIn K cc PT = true)
    (hPT : PT ∈ ts) :
    ∃ (cc PT : Addr) (fd : FuncData), h.get? PT = some { cls := .none, data := .fields #[] } ∧ K.lookup PT = none ∧ PySem.W.CodeHd h cc PT ∧ (∀ (s : Shared) (v : Value), BindsTo s fd ⟨[v], []⟩ [("_law_script", v)]) ∧ ∀ base : Heap, K.In base → base.Ns mainGlobals mg → LamX.TabB base mg cc PT → FnOk P w K mg base (L2.CX P w) 11 fa fd ["_law_script"] (spLT K PT ("law.<locals>." ++ "<lambda>")) := by
  have e := hfa.symm.trans (PySem.W.mg_of X G a13)
  cases e
  have g_isinstance : mg "isinstance" = none := PySem.W.mg_none_of X G z_isinstance
  have g_int : mg "int" = none := PySem.W.mg_none_of X G z_int
  have g_bool : mg "bool" = none := PySem.W.mg_none_of X G z_bool
  have g_tuple : mg "tuple" = none := PySem.W.mg_none_of X G z_tuple
  have g_len : mg "len" = none := PySem.W.mg_none_of X G z_len
  have g_range : mg "range" = none := PySem.W.mg_none_of X G z_range
  have g_abs : mg "abs" = none := PySem.W.mg_none_of X G z_abs
  have g_divmod : mg "divmod" = none := PySem.W.mg_none_of X G z_divmod
  have g_list : mg "list" = none := PySem.W.mg_none_of X G z_list
  have g_gcd : mg "gcd" = some (.builtin "math.gcd") := PySem.W.mg_of X G zg_gcd
  have xW : ExF K mg "NoWorth" CW := ⟨PySem.W.mg_of X G eg, ex, ek, eb, et⟩
  have F0 := fun_mk (st := top 9) l0 c0 k0
  have b0 := F0.binds (ps := ["thing"]) fun _ _ _ _ _ _ us hl => match us, hl with | [_], _ => rfl
  have F1 : FunDS K "worth" "worth" (top 12) [.int 1] [] f1 _ := ⟨⟨_, _, _, _, _, _, _, _, _, _, rfl, l1, c1, Or.inr ⟨by simp, _, _, _, _, rfl, t1, rfl, .cons ⟨_, rfl⟩ .nil⟩, Or.inl rfl⟩, k1⟩
  have F2 := fun_mk (st := top 6) l2 c2 k2
  have b2 := F2.binds (ps := ["thing", "many"]) fun _ _ _ _ _ _ us hl => match us, hl with | [_, _], _ => rfl
  have F3 := fun_mk (st := top 13) l3 c3 k3
  have b3 := F3.binds (ps := ["thing"]) fun _ _ _ _ _ _ us hl => match us, hl with | [_], _ => rfl
  have F4 := fun_mk (st := top 10) l4 c4 k4
  have b4 := F4.binds (ps := ["thing", "least", "most"]) fun _ _ _ _ _ _ us hl => match us, hl with | [_, _, _], _ => rfl
  have F5 := fun_mk (st := top 11) l5 c5 k5
  have b5 := F5.binds (ps := ["thing"]) fun _ _ _ _ _ _ us hl => match us, hl with | [_], _ => rfl
  have F6 := fun_mk (st := top 14) l6 c6 k6
  have b6 := F6.binds (ps := ["count"]) fun _ _ _ _ _ _ us hl => match us, hl with | [_], _ => rfl
  have F7 : FunDS K "show" "show" (top 15) [] [("wholes", .int 1), ("parts", .int 0)] f7 _ := ⟨⟨_, _, _, _, _, _, _, _, _, _, rfl, l7, c7, Or.inl ⟨rfl, rfl⟩, Or.inr ⟨DS, rfl, fun q hq => by rcases List.mem_cons.mp hq with rfl | hq; exact ⟨_, uw, ⟨_, rfl⟩⟩; rcases List.mem_singleton.mp hq with rfl; exact ⟨_, up2, ⟨_, rfl⟩⟩⟩⟩, k7⟩
  have F8 := fun_mk (st := top 16) l8 c8 k8
  have b8 := F8.binds (ps := ["units", "many"]) fun _ _ _ _ _ _ us hl => match us, hl with | [_, _], _ => rfl
  have F9 := fun_mk (st := top 17) l9 c9 k9
  have b9 := F9.binds (ps := ["groups", "wholes"]) fun _ _ _ _ _ _ us hl => match us, hl with | [_, _], _ => rfl
  have F10 := fun_mk (st := top 20) l10 c10 k10
  have b10 := F10.binds (ps := ["_law_cell_here", "_law_many"]) fun _ _ _ _ _ _ us hl => match us, hl with | [_, _], _ => rfl
  have F11 := fun_mk (st := top 21) l11 c11 k11
  have b11 := F11.binds (ps := ["_law_upper", "_law_lower"]) fun _ _ _ _ _ _ us hl => match us, hl with | [_, _], _ => rfl
  have F12 := fun_mk (st := top 26) l12 c12 k12
  have b12 := F12.binds (ps := ["_law_ask"]) fun _ _ _ _ _ _ us hl => match us, hl with | [_], _ => rfl
  have F13 := fun_mk (st := top 27) l13 c13 k13
  refine ⟨cc, PT, PySem.W.fnOf "law" "law" (defArgs (top 27)) (defBody (top 27)) (defScope (top 27)) .none kV13 dc13 pm13 an13 (.ref cc) ct13, hT PT hPT, nPT, PySem.W.codeHd_of_K X hCd, fun s v => .of_eq rfl, fun base hb1 hb2 TB => ?_⟩
  have xF : ExF K mg "NoFit" CF := ⟨PySem.W.mg_of X G nfg, nfx, nfk, nfb, nft⟩
  have gS : mg "SkyError" = some (.ref CS) := PySem.W.mg_of X G qS
  have xS : PySem.W.exmOne K (.ref CW) (.ref CS) = some true := PySem.W.exm_ref s1 s2 s3 s4
  have eN : ExcC K CW := ⟨ek1, ek2, eb, ek4, ek5, ek6, ek7, ek8⟩
  have cWh : Cal P w K mg base "is_whole" _ _ _ _ := cal_mk (ok_is_whole g_isinstance g_int g_bool F0) rfl (PySem.W.mg_of X G a0) k0 b0
  have GW := ok_worth (P := P) (w := w) (base := base) g_gcd cWh xW F1
  have cW : Cal P w K mg base "worth" 2 ["top", "bottom"] [] (fWorth CW) := ⟨f1, _, _, _, GW, PySem.W.mg_of X G a1, k1, worth_binds2 F1, .nil, fun _ => .nil⟩
  have cTu : Cal P w K mg base "is_tuple" _ _ _ _ := cal_mk (ok_is_tuple g_isinstance g_tuple g_len F2) rfl (PySem.W.mg_of X G a2) k2 b2
  have cI : Cal P w K mg base "is_worth" _ _ _ _ := cal_mk (ok_is_worth g_gcd cWh cTu F3) rfl (PySem.W.mg_of X G a3) k3 b3
  have cWf : Cal P w K mg base "is_whole_from" _ _ _ _ := cal_mk (ok_whole_from cWh F4) rfl (PySem.W.mg_of X G a4) k4 b4
  have cFo : Cal P w K mg base "is_form" _ _ _ _ := cal_mk (ok_form (PySem.W.mg_of X G gm) cTu cWf F5) rfl (PySem.W.mg_of X G a5) k5 b5
  have cSx : Cal P w K mg base "_sixties" _ _ _ _ := cal_mk (ok_sixties g_range F6) rfl (PySem.W.mg_of X G a6) k6 b6
  have cGr : Cal P w K mg base "_groups_of" _ _ _ _ := cal_mk (ok_groups g_range g_divmod F8) rfl (PySem.W.mg_of X G a8) k8 b8
  have cJo : Cal P w K mg base "joined_groups" _ _ _ _ := cal_mk (ok_joinG g_len F9) rfl (PySem.W.mg_of X G a9) k9 b9
  have GS := ok_show (P := P) (w0 := w) (base := base) g_divmod xW xF cI cFo cSx cGr cJo F7
  obtain ⟨mv_A, kb_A⟩ := FunD.kbinds0 (ps := ["thing", "wholes", "parts"]) F7 1 ["wholes", "parts"] [] (fun us mv ws => us ++ ws) (by simp) (fun q hq => nomatch hq) (fun r1 r3 r2 => r1.append r2) (fun D doc pm an cdv ct us mv ws h1 h2 h3 => match us, mv, ws, h1, h2, h3 with | [_], [], [_, _], _, _, _ => rfl)
  have kA : CalK P w K mg base "show" 4 1 ["wholes", "parts"] (fun ds es => ds ++ es) (fShow CW CF) := ⟨f7, _, ["thing", "wholes", "parts"], _, _, GS, PySem.W.mg_of X G a7, k7, kb_A, fun B vs zs ds es r1 r2 l1 l2 => ⟨by rw [List.length_append, l1, l2]; rfl, r1.append r2⟩⟩
  obtain ⟨mv_C, kb_C⟩ := FunD.kbinds0 (ps := ["thing", "wholes", "parts"]) F7 1 ["wholes"] [("parts", .int 0)] (fun us mv ws => us ++ (ws ++ mv)) (by simp) (fun q hq => by rcases List.mem_singleton.mp hq with rfl; simp) (fun r1 r3 r2 => r1.append (r2.append r3)) (fun D doc pm an cdv ct us mv ws h1 h2 h3 => match us, mv, ws, h1, h2, h3 with | [_], [_], [_], _, _, _ => ⟨_, _, _, _, _, _, rfl, rfl, rfl⟩)
  have kC : CalK P w K mg base "show" 4 1 ["wholes"] (fun ds es => ds ++ (es ++ [.int 0])) (fShow CW CF) := ⟨f7, _, ["thing", "wholes", "parts"], _, _, GS, PySem.W.mg_of X G a7, k7, kb_C, fun B vs zs ds es r1 r2 l1 l2 => ⟨by rw [List.length_append, List.length_append, l1, l2]; rfl, r1.append (r2.append (.cons (.int 0) .nil))⟩⟩
  have lD : Cal P w K mg base "_law_digits" _ _ _ _ := cal_mk (ok_digits g_range F10) rfl (PySem.W.mg_of X G a10) k10 b10
  have lL : Cal P w K mg base "_law_low" _ _ _ _ := cal_mk (ok_low g_abs F11) rfl (PySem.W.mg_of X G a11) k11 b11
  have lR := ok_refused (P := P) (w := w) (base := base) g_isinstance gS (PySem.W.mg_of X G eg) eN xS (kit_refT ek4 et s5) (PySem.W.mg_of X G a12) k12 l12 c12 b12
  exact ok_law TB g_isinstance g_list g_bool cI cW kC kA lD lL lR l13 c13
theorem walk {l : PySem.W.OpenLaw} {q : Program} {loose : List Str} {XP : (Str → Option Value) → Heap → Prop} {YP : World → Heap → Prop} {d : DefRec} {K : Params → PySem.W.Frag} (hn : l.most = some 63) (hdf : d.params.defaults = [])
    (hY : ∀ (w : World) (h : Heap), YP w h → (K w.params).In h)
    (F : ∀ (w : World) (mg : Str → Option Value) (fa : Addr) (h : Heap), YP w h → (K w.params).In h → h.Ns mainGlobals mg → mg d.name = some (.ref fa) →
      ∃ (cc PT : Addr) (fd : FuncData), h.get? PT = some { cls := .none, data := .fields #[] } ∧ (K w.params).lookup PT = none ∧ PySem.W.CodeHd h cc PT ∧ (∀ (s : Shared) (u : Value), BindsTo s fd ⟨[u], []⟩ [("_law_script", u)]) ∧ ∀ base : Heap, (K w.params).In base → base.Ns mainGlobals mg → LamX.TabB base mg cc PT → FnOk l.prog w (K w.params) mg base (L2.CX l.prog w) 11 fa fd ["_law_script"] (spLT (K w.params) PT ("law.<locals>." ++ "<lambda>"))) :
    PySem.W.WalkO q loose XP YP l.row.toRowW d [] (fun f vs => PySem.call f vs) :=
  LamX.walk_ofTs (n := 63) (k := 11) (x := "_law_script") (CX := fun w => L2.CX l.prog w) hn (by decide) hdf ⟨rfl, by decide, by decide⟩ hY (fun w mg fa h Y KX G hm => by
    obtain ⟨cc, PT, fd, h1, h2, h3, h4, h5⟩ := F w mg fa h Y KX G hm
    have on : ∀ {p : Addr × Addr}, p ∈ [(cc, PT)] → p = (cc, PT) := fun {p} hp => List.mem_singleton.mp hp
    exact ⟨fd, [(cc, PT)], spLT (K w.params) PT ("law.<locals>." ++ "<lambda>"), fun p hp => by rw [on hp]; exact h1, fun p hp => by rw [on hp]; exact h2, fun p hp => by rw [on hp]; exact h3, h4, fun H a ns hl _ hT hS => ⟨a, ns, rfl, hl, hS, LamX.TabS.nil (hT _ (List.mem_singleton.mpr rfl)), fun H' => rfl⟩, fun base b1 b2 b3 => h5 base b1 b2 (b3 _ (List.mem_singleton.mpr rfl))⟩)
    fun w H s e s' h => by
      obtain ⟨_, _, _, _, _, _, _, _, _, _, _, _, z⟩ := h
      exact z.elim
end T01
open PySem PySem.W PyProof.Rows
set_option maxRecDepth 100000 in
set_option maxHeartbeats 0 in
theorem PySem.Challenge.cw_tabletsky_k02_what_is_no_worth_holds : PySem.Challenge.rw_tabletsky_k02_what_is_no_worth.Holds := by
  w_on; o_law; k_head; (case hw => w_witness2)
  k_fill
  refine T01.walk (l := PySem.Challenge.rw_tabletsky_k02_what_is_no_worth) rfl rfl (fun w h Y => PySem.W.km_in_of Y) ?F
  case F =>
    intro w mg fa h Y KX G hmg
    refine' T01.all_mk KX G hmg (PySem.W.km_tabs_of Y) ?a0 ?l0 ?c0 ?k0 ?a1 ?l1 ?c1 ?k1 ?t1 ?a2 ?l2 ?c2 ?k2 ?a3 ?l3 ?c3 ?k3 ?a4 ?l4 ?c4 ?k4 ?a5 ?l5 ?c5 ?k5 ?a6 ?l6 ?c6 ?k6 ?a7 ?l7 ?c7 ?k7 ?uw ?up2 ?a8 ?l8 ?c8 ?k8 ?a9 ?l9 ?c9 ?k9 ?a10 ?l10 ?c10 ?k10 ?a11 ?l11 ?c11 ?k11 ?a12 ?l12 ?c12 ?k12 ?a13 ?l13 ?c13 ?k13 ?z_isinstance ?z_int ?z_bool ?z_tuple ?z_len ?z_range ?z_abs ?z_divmod ?z_list ?zg_gcd ?eg ?ex ?ek ?eb ?et ?nfg ?nfx ?nfk ?nfb ?nft ?gm ?ek1 ?ek2 ?ek4 ?ek5 ?ek6 ?ek7 ?ek8 ?qS ?s1 ?s2 ?s3 ?s4 ?s5 ?lcc ?vcc11 ?nPT ?hCd ?hPT
    (case a0 => k_is)
    (case l0 => k_is)
    (case c0 => k_is)
    (case k0 => k_is)
    (case a1 => k_is)
    (case l1 => k_is)
    (case c1 => k_is)
    (case k1 => k_is)
    (case t1 => k_is)
    (case a2 => k_is)
    (case l2 => k_is)
    (case c2 => k_is)
    (case k2 => k_is)
    (case a3 => k_is)
    (case l3 => k_is)
    (case c3 => k_is)
    (case k3 => k_is)
    (case a4 => k_is)
    (case l4 => k_is)
    (case c4 => k_is)
    (case k4 => k_is)
    (case a5 => k_is)
    (case l5 => k_is)
    (case c5 => k_is)
    (case k5 => k_is)
    (case a6 => k_is)
    (case l6 => k_is)
    (case c6 => k_is)
    (case k6 => k_is)
    (case a7 => k_is)
    (case l7 => k_is)
    (case c7 => k_is)
    (case k7 => k_is)
    (case uw => k_is)
    (case up2 => k_is)
    (case a8 => k_is)
    (case l8 => k_is)
    (case c8 => k_is)
    (case k8 => k_is)
    (case a9 => k_is)
    (case l9 => k_is)
    (case c9 => k_is)
    (case k9 => k_is)
    (case a10 => k_is)
    (case l10 => k_is)
    (case c10 => k_is)
    (case k10 => k_is)
    (case a11 => k_is)
    (case l11 => k_is)
    (case c11 => k_is)
    (case k11 => k_is)
    (case a12 => k_is)
    (case l12 => k_is)
    (case c12 => k_is)
    (case k12 => k_is)
    (case a13 => k_is)
    (case l13 => k_is)
    (case c13 => k_is)
    (case k13 => k_is)
    (case z_isinstance => k_is)
    (case z_int => k_is)
    (case z_bool => k_is)
    (case z_tuple => k_is)
    (case z_len => k_is)
    (case z_range => k_is)
    (case z_abs => k_is)
    (case z_divmod => k_is)
    (case z_list => k_is)
    (case zg_gcd => k_is)
    (case eg => k_is)
    (case ex => k_exc)
    (case ek => k_is)
    (case eb => k_is)
    (case et => k_is)
    (case nfg => k_is)
    (case nfx => k_exc)
    (case nfk => k_is)
    (case nfb => k_is)
    (case nft => k_is)
    (case gm => k_is)
    (case ek1 => k_is)
    (case ek2 => k_is)
    (case ek4 => k_is)
    (case ek5 => k_is)
    (case ek6 => k_is)
    (case ek7 => k_is)
    (case ek8 => k_is)
    (case qS => k_is)
    (case s1 => k_is)
    (case s2 => k_is)
    (case s3 => k_is)
    (case s4 => k_is)
    (case s5 => k_is)
    (case lcc => k_is)
    (case vcc11 => first | rfl | k_is)
    (case nPT => first | kernel_rfl | rfl)
    (case hCd => first | kernel_rfl | rfl)
    (case hPT => first | k_mem | (simp; done))
#print axioms PySem.Challenge.cw_tabletsky_k02_what_is_no_worth_holds
